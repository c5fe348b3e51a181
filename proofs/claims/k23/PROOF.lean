import PyProof.Rows.All
import Wide.All
import OpenK.AllK
import Wide.FinOn
import Lean
import PyProof.EqAt
import PyProof.EqKinds
import PyProof.TupleCall
import KE.KRevSl
import KE.KDictSum
import KE.BitLaws
import KE.KIntText
import KE.IntTextLaws
import PySem.Challenge.RW_prunepath_k23_costs_of_a_grown_tree
set_option Elab.async false
set_option linter.all false
set_option maxRecDepth 100000
/-! THE HAND LAYER, for ints, bools, texts, own classes, LISTS and tuples (index, slices, in, append, pop ..), calls, loops. Paste it whole ahead of your own text; what your proof does not reach may be deleted. -/
namespace L2
open PySem PySem.Spec PyProof.Rows

/-- a key: an int or a str -/
abbrev Key := Sum Int Str
def keyIs : Key → Value → Bool
  | .inl k, v => Value.isInt k v
  | .inr x, v => Value.isStrOf x v
def keyH (w : World) : Key → Int
  | .inl k => hashInt k
  | .inr x => hashStr w x
theorem keyIs_shape : ∀ {k : Key} {v : Value}, keyIs k v = true → (∃ i t, k = Sum.inl i ∧ v = Value.int i t) ∨ (∃ x t, k = Sum.inr x ∧ v = Value.str x t)
  | .inl i, v, h => by
    obtain ⟨t, e⟩ := Value.isInt_shape (k := i) (v := v) h
    exact .inl ⟨i, t, rfl, e⟩
  | .inr x, v, h => by
    obtain ⟨t, e⟩ := Value.isStrOf_shape (x := x) (v := v) h
    exact .inr ⟨x, t, rfl, e⟩
theorem keyIs_int (i : Int) (t : Tok) : keyIs (.inl i) (.int i t) = true := by simp [keyIs, Value.isInt]
theorem keyIs_str (x : Str) (t : Tok) : keyIs (.inr x) (.str x t) = true := by simp [keyIs, Value.isStrOf]
theorem key_ll (a b : Int) : decide ((Sum.inl a : Key) = Sum.inl b) = (a == b) := by
  by_cases e : a = b
  · subst e; simp
  · have h : ¬ (Sum.inl a : Key) = Sum.inl b := fun q => e (Sum.inl.inj q)
    rw [decide_eq_false h]
    exact (beq_eq_false_iff_ne.mpr e).symm
theorem key_rr (a b : Str) : decide ((Sum.inr a : Key) = Sum.inr b) = decide (a = b) := by
  by_cases e : a = b
  · subst e; simp
  · have h : ¬ (Sum.inr a : Key) = Sum.inr b := fun q => e (Sum.inr.inj q)
    rw [decide_eq_false h, decide_eq_false e]
theorem key_lr (a : Int) (b : Str) : decide ((Sum.inl a : Key) = Sum.inr b) = false := decide_eq_false (fun q => nomatch q)
theorem key_rl (a : Str) (b : Int) : decide ((Sum.inr a : Key) = Sum.inl b) = false := decide_eq_false (fun q => nomatch q)

def mixKind (prog : Program) (w : World) : PySem.KeyKind prog w Key where
  is := keyIs
  hash := keyH w
  inj := fun v a b ha hb => by
    rcases keyIs_shape ha with ⟨i, t, rfl, rfl⟩ | ⟨x, t, rfl, rfl⟩
    · rcases keyIs_shape hb with ⟨j, u, rfl, e⟩ | ⟨y, u, rfl, e⟩
      · injection e with e1 _; rw [e1]
      · exact nomatch e
    · rcases keyIs_shape hb with ⟨j, u, rfl, e⟩ | ⟨y, u, rfl, e⟩
      · exact nomatch e
      · injection e with e1 _; rw [e1]
  byValue := fun k v h => by
    rcases keyIs_shape h with ⟨i, t, rfl, rfl⟩ | ⟨x, t, rfl, rfl⟩ <;> rfl
  pyHash := fun hv h => by
    rcases keyIs_shape hv with ⟨i, t, rfl, rfl⟩ | ⟨x, t, rfl, rfl⟩
    · exact wpAny_pyHash_int h
    · exact wpAny_pyHash_str h
  eqBool := fun hu hv h => by
    rcases keyIs_shape hu with ⟨i, t, rfl, rfl⟩ | ⟨x, t, rfl, rfl⟩
    · rcases keyIs_shape hv with ⟨j, u, rfl, rfl⟩ | ⟨y, u, rfl, rfl⟩
      · rw [key_ll] at h; exact wpAny_eqBool_int h
      · rw [key_lr] at h; exact SeqAt.EqAt.int_str i t y u _ _ _ _ h
    · rcases keyIs_shape hv with ⟨j, u, rfl, rfl⟩ | ⟨y, u, rfl, rfl⟩
      · rw [key_rl] at h; exact SeqAt.EqAt.str_int x t j u _ _ _ _ h
      · rw [key_rr] at h; exact wpAny_eqBool_str h
  «strs» := fun k x t v h => by
    rcases keyIs_shape h with ⟨i, u, rfl, e⟩ | ⟨y, u, rfl, e⟩
    · exact nomatch e
    · injection e with e1 _
      subst e1
      cases v <;> rfl

theorem mixKind_int (prog : Program) (w : World) (i : Int) (t : Tok) : (mixKind prog w).is (.inl i) (.int i t) = true := keyIs_int i t
theorem mixKind_str (prog : Program) (w : World) (x : Str) (t : Tok) : (mixKind prog w).is (.inr x) (.str x t) = true := keyIs_str x t
end L2

namespace L2
open PySem PySem.Spec PyProof.Rows

/-- a value, without the heap -/
inductive V where
  | non | bl (b : Bool) | int (i : Int) | str (x : Str) | byt (b : Array UInt8) | flt (b : UInt64) | ref (a : Addr) | ty (n : String)
  deriving DecidableEq

def RelV : V → Value → Prop
  | .non, u => u = Value.none
  | .bl b, u => u = Value.bool b
  | .int i, u => ∃ t, u = Value.int i t
  | .str x, u => ∃ t, u = Value.str x t
  | .byt b, u => ∃ t, u = Value.bytes b t
  | .flt b, u => ∃ t, u = Value.float b t
  | .ref a, u => u = Value.ref a
  | .ty n, u => u = Value.type n

abbrev Vals : List V → List Value → Prop := Paired RelV
theorem Vals.length {xs : List V} {us : List Value} (r : Vals xs us) : xs.length = us.length := Paired.length r
theorem Vals.get : ∀ {xs : List V} {us : List Value} {i : Nat} {x : V}, Vals xs us → xs[i]? = some x → ∃ u, us[i]? = some u ∧ RelV x u
  | _, _, _, _, .nil, e => by simp at e
  | _, _, 0, _, .cons r _, e => by simp at e; subst e; exact ⟨_, rfl, r⟩
  | _, _, i + 1, x, .cons _ t, e => by
    obtain ⟨u, h1, h2⟩ := Vals.get (i := i) (x := x) t (by simpa using e)
    exact ⟨u, by simpa using h1, h2⟩
theorem Vals.set {x : V} {u : Value} (r : RelV x u) : ∀ {xs : List V} {us : List Value} (i : Nat), Vals xs us → Vals (xs.set i x) (us.set i u)
  | _, _, _, .nil => .nil
  | _, _, 0, .cons _ t => .cons r t
  | _, _, i + 1, .cons q t => .cons q (Vals.set r i t)
theorem Vals.append : ∀ {xs ys : List V} {us ws : List Value}, Vals xs us → Vals ys ws → Vals (xs ++ ys) (us ++ ws)
  | _, _, _, _, .nil, s => s
  | _, _, _, _, .cons r t, s => .cons r (Vals.append t s)
theorem Vals.take : ∀ {xs : List V} {us : List Value} (n : Nat), Vals xs us → Vals (xs.take n) (us.take n)
  | _, _, 0, _ => .nil
  | _, _, _ + 1, .nil => .nil
  | _, _, n + 1, .cons r t => .cons r (Vals.take n t)
theorem Vals.drop : ∀ {xs : List V} {us : List Value} (n : Nat), Vals xs us → Vals (xs.drop n) (us.drop n)
  | _, _, 0, r => r
  | _, _, _ + 1, .nil => .nil
  | _, _, n + 1, .cons _ t => Vals.drop n t
def RelO : Option V → Option Value → Prop
  | some v, some u => RelV v u
  | none, none => True
  | _, _ => False
def KV {κ : Type} : List (κ × V) → List (κ × Value) → Prop := Paired fun (p : κ × V) (q : κ × Value) => p.1 = q.1 ∧ RelV p.2 q.2

/-- a key of a dict (00_mix): an int or a text -/
def kV : Key → V
  | .inl i => .int i
  | .inr x => .str x

/-- what stands at a tracked address -/
inductive HO where
  /-- a list -/
  | lst (xs : List V)
  /-- a tuple (never changes) -/
  | tup (xs : List V)
  /-- a dict whose keys are ints and texts; one whose keys are tuples of ints and texts (the empty one is both) -/
  | dK (kvs : List (Key × V)) | dT (kvs : List (List Key × V))
  /-- a set of ints: its members, its size -/
  | set (S : Int → Bool) (n : Nat)
  /-- an instance of the class at C, its dict at dx, its attributes -/
  | ins (C dx : Addr) (fs : List (Str × V))
  /-- the dict of the instance at x -/
  | own (x : Addr)
  /-- the dict of an exception -/
  | xd (fs : List (Str × V))
  /-- a bound method, f of x -/
  | met (f x : Addr)
  /-- a range object lo, lo + 1, .. below hi -/
  | rng (lo hi : Int)
  /-- a thing that is known to the object (the script; a dict while a loop walks it): read, never written while it is so -/
  | frz (o : Obj) (u : HO)
  /-- a code object's table -/
  | tbl (ps : Array Value)
  /-- any other thing, by what is true of its one object (a def of one's own: SetO a S n := HO.ext fun h => ..) -/
  | ext (φ : Heap → Prop)

abbrev Hp := Addr → Option HO
def upd (H : Hp) (a : Addr) (o : HO) : Hp := fun b => if b = a then some o else H b
theorem upd_same {H : Hp} {a : Addr} {o : HO} : upd H a o a = some o := by unfold upd; rw [if_pos rfl]
theorem upd_ne {H : Hp} {a b : Addr} {o : HO} (h : b ≠ a) : upd H a o b = H b := by unfold upd; rw [if_neg h]
/-- two objects of different content stand apart -/
theorem ne_of {H : Hp} {a b : Addr} {o u : HO} (h : H a = some o) (h' : H b = some u) (d : o ≠ u) : a ≠ b := by
  intro e; subst e; rw [h] at h'; exact d (Option.some.inj h')
theorem ne_of_none {H : Hp} {a b : Addr} {o : HO} (h : H a = some o) (h' : H b = none) : a ≠ b := by
  intro e; subst e; rw [h] at h'; cases h'

section
variable (P : Program) (w : World)
def ObjOk (H : Hp) (h : Heap) (a : Addr) : HO → Prop
  | .lst xs => xs.length ≤ sizeLine ∧ ∃ (its : List Value) (n : Nat), Vals xs its ∧ h.get? a = some { cls := .type "list", data := .seq its.toArray n }
  | .tup xs => xs.length ≤ sizeLine ∧ ∃ its : List Value, Vals xs its ∧ IsTup h a its.toArray
  | .dK kvs => kvs.length ≤ sizeLine ∧ (a == sysModules) = false ∧ ∃ vs, KV kvs vs ∧ h.DictOf (mixKind P w) a vs
  | .dT kvs => kvs.length ≤ sizeLine ∧ (a == sysModules) = false ∧ ∃ xs : List (List Key × Addr × Value),
      Paired (fun (p : List Key × V) (q : List Key × Addr × Value) => p.1 = q.1 ∧ H q.2.1 = some (.tup (p.1.map kV)) ∧ RelV p.2 q.2.2) kvs xs ∧
      ∃ o es ep, h.get? a = some o ∧ o.ExactDict ∧ o.data = .dict es ep ∧ es.toList = xs.map (entryOfKey (tupleKind (mixKind P w))) ∧ (xs.map (·.1)).Nodup
  | .set S n => h.SetOf (intKind P w) a S n
  | .ins C dx fs => H dx = some (.own a) ∧ fs.length ≤ 1000 ∧ dx ≠ a ∧ h.get? a = some (PySem.W.instObj C dx) ∧
      ∃ mA, h.Ns1 dx mA ∧ (∀ f, RelO (fs.lookup f) (mA f)) ∧ PySem.Within mA (fs.map (·.1))
  | .own _ => ∃ o, h.get? a = some o
  | .xd fs => ∃ mA, h.Ns1 a mA ∧ ∀ f, RelO (fs.lookup f) (mA f)
  | .rng lo hi => ∃ t u v, h.get? a = some { cls := .type "range", data := .fields #[.int lo t, .int hi u, .int 1 v] }
  | .frz o u => h.get? a = some o ∧ ObjOk H h a u
  | .tbl ps => h.get? a = some { cls := .none, data := .fields ps }
  | .met f x => h.get? a = some (PySem.W.methodObj (.ref f) (.ref x))
  | .ext φ => φ h ∧ (∃ o, h.get? a = some o) ∧ ∀ h1 h2 : Heap, φ h1 → (∀ o, h1.get? a = some o → h2.get? a = some o) → φ h2
/-- the abstract heap is held -/
def HOk (H : Hp) (h : Heap) : Prop := ∀ a o, H a = some o → ObjOk P w H h a o
end

section
variable {P : Program} {w : World} {H H' : Hp} {h h' : Heap} {a : Addr} {o : HO}
theorem ObjOk.lt (x : ObjOk P w H h a o) : a < h.objs.size := by
  cases o with
  | lst xs => obtain ⟨_, _, _, _, e⟩ := x; exact Heap.lt_size e
  | tup xs => obtain ⟨_, _, _, p⟩ := x; exact p.lt
  | dK kvs => obtain ⟨_, _, _, _, o, _, _, e, _⟩ := x; exact Heap.lt_size e
  | dT kvs => obtain ⟨_, _, _, _, o, _, _, e, _⟩ := x; exact Heap.lt_size e
  | set S n => obtain ⟨o, _, _, _, e, _⟩ := x; exact Heap.lt_size e
  | ins C dx fs => obtain ⟨_, _, _, e, _⟩ := x; exact Heap.lt_size e
  | own y => obtain ⟨_, e⟩ := x; exact Heap.lt_size e
  | xd fs => obtain ⟨_, ⟨_, _, _, e, _⟩, _⟩ := x; exact Heap.lt_size e
  | rng lo hi => obtain ⟨_, _, _, e⟩ := x; exact Heap.lt_size e
  | frz ob u => obtain ⟨e, _⟩ := x; exact Heap.lt_size e
  | tbl ps => exact Heap.lt_size (show h.get? a = some _ from x)
  | met f y => exact Heap.lt_size (show h.get? a = some _ from x)
  | ext φ => obtain ⟨_, ⟨_, e⟩, _⟩ := x; exact Heap.lt_size e
theorem Paired.mapP {α β : Type} {F G : α → β → Prop} : ∀ {l₁ : List α} {l₂ : List β}, Paired F l₁ l₂ → (∀ a b, F a b → G a b) → Paired G l₁ l₂
  | _, _, .nil, _ => .nil
  | _, _, .cons r t, f => .cons (f _ _ r) (Paired.mapP t f)
/-- what an object's description leans on: its own object, its own dict, the tuples -/
theorem ObjOk.stay (x : ObjOk P w H h a o) (k : ∀ b u, (b = a ∨ H b = some (.own a)) → h.get? b = some u → h'.get? b = some u)
    (ho : ∀ b, H b = some (.own a) → H' b = some (.own a)) (ht : ∀ b xs, H b = some (.tup xs) → H' b = some (.tup xs)) : ObjOk P w H' h' a o := by
  induction o with
  | lst xs => obtain ⟨z, its, n, r, e⟩ := x; exact ⟨z, its, n, r, k _ _ (.inl rfl) e⟩
  | tup xs => obtain ⟨z, its, r, ob, e, c⟩ := x; exact ⟨z, its, r, ob, k _ _ (.inl rfl) e, c⟩
  | dK kvs => obtain ⟨z, y, vs, r, ob, es, ep, e, c⟩ := x; exact ⟨z, y, vs, r, ob, es, ep, k _ _ (.inl rfl) e, c⟩
  | dT kvs =>
    obtain ⟨z, y, xs, r, ob, es, ep, e, c⟩ := x
    exact ⟨z, y, xs, Paired.mapP r fun p q z => ⟨z.1, ht _ _ z.2.1, z.2.2⟩, ob, es, ep, k _ _ (.inl rfl) e, c⟩
  | set S n => obtain ⟨ob, es, ep, t, e, c⟩ := x; exact ⟨ob, es, ep, t, k _ _ (.inl rfl) e, c⟩
  | ins C dx fs =>
    obtain ⟨d, z, ne, e, mA, ⟨od, es, ep, e2, c⟩, r⟩ := x
    exact ⟨ho _ d, z, ne, k _ _ (.inl rfl) e, mA, ⟨od, es, ep, k _ _ (.inr d) e2, c⟩, r⟩
  | own y => obtain ⟨ob, e⟩ := x; exact ⟨ob, k _ _ (.inl rfl) e⟩
  | xd fs => obtain ⟨mA, ⟨od, es, ep, e, c⟩, r⟩ := x; exact ⟨mA, ⟨od, es, ep, k _ _ (.inl rfl) e, c⟩, r⟩
  | rng lo hi => obtain ⟨t, u, v, e⟩ := x; exact ⟨t, u, v, k _ _ (.inl rfl) e⟩
  | frz ob u ih => obtain ⟨e, q⟩ := x; exact ⟨k _ _ (.inl rfl) e, ih q⟩
  | tbl ps =>
    have e : h.get? a = some { cls := .none, data := .fields ps } := x
    show h'.get? a = some { cls := .none, data := .fields ps }
    exact k a _ (.inl rfl) e
  | met f y =>
    have e : h.get? a = some (PySem.W.methodObj (.ref f) (.ref y)) := x
    show h'.get? a = some (PySem.W.methodObj (.ref f) (.ref y))
    exact k a _ (.inl rfl) e
  | ext φ => obtain ⟨p, ⟨o, e⟩, st⟩ := x; exact ⟨st _ _ p fun o q => k _ _ (.inl rfl) q, ⟨o, k _ _ (.inl rfl) e⟩, st⟩
theorem HOk.lt (x : HOk P w H h) (e : H a = some o) : a < h.objs.size := (x a o e).lt
theorem HOk.fresh (x : HOk P w H h) (e : h.objs.size ≤ a) : H a = none := by
  cases q : H a with
  | none => rfl
  | some u => exact absurd (Nat.lt_of_lt_of_le (x.lt q) e) (Nat.lt_irrefl _)
/-- every object of the heap is kept -/
theorem HOk.kept (x : HOk P w H h) (k : ∀ b u, h.get? b = some u → h'.get? b = some u) : HOk P w H h' := fun a o e =>
  (x a o e).stay (fun b u _ q => k b u q) (fun _ q => q) fun _ _ q => q
/-- a new object is laid and tracked -/
theorem HOk.laid (x : HOk P w H h) (k : ∀ b u, h.get? b = some u → h'.get? b = some u) (hp : h.objs.size ≤ a) (new : ObjOk P w (upd H a o) h' a o) : HOk P w (upd H a o) h' := fun b u e => by
  have hn := x.fresh hp
  by_cases hb : b = a
  · subst hb; rw [upd_same] at e; cases e; exact new
  · rw [upd_ne hb] at e
    exact (x b u e).stay (fun c v _ q => k c v q) (fun c q => by rw [upd_ne (ne_of_none q hn)]; exact q) fun c xs q => by rw [upd_ne (ne_of_none q hn)]; exact q
end

/-- what may be read as u: it is u, or a known u -/
def Rd (H : Hp) (a : Addr) (u : HO) : Prop := H a = some u ∨ ∃ o, H a = some (.frz o u)
theorem Rd.ok {P : Program} {w : World} {H : Hp} {h : Heap} {a : Addr} {u : HO} (r : Rd H a u) (x : HOk P w H h) : ObjOk P w H h a u := by
  rcases r with r | ⟨o, r⟩
  · exact x a u r
  · obtain ⟨_, q⟩ := x a _ r
    exact q
/-- what may be written -/
def Mut : Option HO → Prop
  | some (.lst _) => True
  | some (.dK _) => True
  | some (.dT _) => True
  | some (.set _ _) => True
  | some (.ins _ _ _) => True
  | some (.ext _) => True
  | _ => False
section
variable {P : Program} {w : World} {H : Hp} {h h' : Heap} {x e : Addr} {o' : HO}
/-- the object at e is changed: x itself, or the dict of the instance x -/
theorem HOk.write (ok : HOk P w H h) (mu : Mut (H x)) (he : e = x ∨ H e = some (.own x)) (k : ∀ b u, b ≠ e → h.get? b = some u → h'.get? b = some u) (heo : ∃ u, h'.get? e = some u)
    (new : ObjOk P w (upd H x o') h' x o') : HOk P w (upd H x o') h' := fun b u q => by
  have nown : ∀ c y, H c = some (.own y) → c ≠ x := fun c y r z => by subst z; rw [r] at mu; exact mu
  have ntup : ∀ c xs, H c = some (.tup xs) → c ≠ x := fun c xs r z => by subst z; rw [r] at mu; exact mu
  by_cases hb : b = x
  · subst hb; rw [upd_same] at q; cases q; exact new
  · rw [upd_ne hb] at q
    by_cases hbe : b = e
    · have q' : H b = some (.own x) := by
        rcases he with z | z
        · exact absurd (hbe.trans z) hb
        · rw [hbe]; exact z
      rw [q] at q'; cases q'
      obtain ⟨v, hv⟩ := heo
      exact ⟨v, by rw [hbe]; exact hv⟩
    · refine (ok b u q).stay (fun c v hc r => k c v ?_ r) (fun c r => by rw [upd_ne (nown c b r)]; exact r) fun c xs r => by rw [upd_ne (ntup c xs r)]; exact r
      rcases hc with rfl | hc
      · exact hbe
      · rintro rfl
        rcases he with z | z
        · exact nown c b hc z
        · rw [hc] at z; cases z; exact hb rfl
end

/-! ### kept unless tracked; of the frames at fs (the callers') the slots may change (an exception that passes writes there); of the records at ex (iterators) nothing is said -/
structure Un (fs ex : List Addr) (H H' : Hp) (h h' : Heap) : Prop where
  keep : ∀ b o, h.get? b = some o → H b = none → b ∉ fs → b ∉ ex → h'.get? b = some o
  slot : ∀ b o, h.get? b = some o → H b = none → b ∈ fs → b ∉ ex → ∃ sl, h'.get? b = some { o with slots := sl }
  free : ∀ b o, h.get? b = some o → H b = none → b ∉ ex → H' b = none
  there : ∀ b o, h.get? b = some o → b ∉ ex → ∃ o', h'.get? b = some o'
  tups : ∀ b xs, H b = some (.tup xs) → H' b = some (.tup xs)
  frzs : ∀ b o u, H b = some (.frz o u) → H' b = some (.frz o u)
  tbls : ∀ b ps, H b = some (.tbl ps) → ∃ more, H' b = some (.tbl (ps ++ more))
section
variable {fs fs' ex ex' : List Addr} {H H1 H2 : Hp} {h h1 h2 h' : Heap} {a x e : Addr} {o : HO}
theorem Un.any (u : Un fs ex H H1 h h1) {b : Addr} {ob : Obj} (q : h.get? b = some ob) (n : H b = none) (hx : b ∉ ex) : ∃ sl, h1.get? b = some { ob with slots := sl } := by
  by_cases hb : b ∈ fs
  · exact u.slot b ob q n hb hx
  · exact ⟨ob.slots, u.keep b ob q n hb hx⟩
theorem Un.kept (k : ∀ b u, h.get? b = some u → h'.get? b = some u) : Un fs ex H H h h' :=
  ⟨fun b ob q _ _ _ => k b ob q, fun b ob q _ _ _ => ⟨ob.slots, k b ob q⟩, fun _ _ _ n _ => n, fun b ob q _ => ⟨ob, k b ob q⟩, fun _ _ q => q, fun _ _ _ q => q, fun _ ps q => ⟨#[], by rw [q]; simp⟩⟩
theorem Un.refl : Un fs ex H H h h := Un.kept fun _ _ q => q
theorem Un.laid (k : ∀ b u, h.get? b = some u → h'.get? b = some u) (hp : h.objs.size ≤ a) (hn : H a = none) : Un fs ex H (upd H a o) h h' where
  keep := fun b u q _ _ _ => k b u q
  slot := fun b u q _ _ _ => ⟨u.slots, k b u q⟩
  free := fun b u q n _ => by rw [upd_ne (Nat.ne_of_lt (Nat.lt_of_lt_of_le (Heap.lt_size q) hp))]; exact n
  there := fun b u q _ => ⟨u, k b u q⟩
  tups := fun b xs q => by rw [upd_ne (ne_of_none q hn)]; exact q
  frzs := fun b u xs q => by rw [upd_ne (ne_of_none q hn)]; exact q
  tbls := fun b ps q => ⟨#[], by rw [upd_ne (ne_of_none q hn), q]; simp⟩
theorem Un.write (mu : Mut (H x)) (he : e = x ∨ H e = some (.own x)) (k : ∀ b u, b ≠ e → h.get? b = some u → h'.get? b = some u) (heo : ∃ u, h'.get? e = some u) : Un fs ex H (upd H x o) h h' := by
  have hx : ∀ b, H b = none → b ≠ x := fun b n z => by subst z; rw [n] at mu; exact mu
  have hb : ∀ b, H b = none → b ≠ e := fun b n z => by
    subst z
    rcases he with r | r
    · exact hx b n r
    · rw [n] at r; cases r
  have hm : ∀ b u, H b = some u → ¬ Mut (some u) → b ≠ x := fun b u q nm z => by subst z; rw [q] at mu; exact nm mu
  refine ⟨fun b u q n _ _ => k b u (hb b n) q, fun b u q n _ _ => ⟨u.slots, k b u (hb b n) q⟩, fun b u q n _ => by rw [upd_ne (hx b n)]; exact n, fun b u q _ => ?_,
    fun b xs q => by rw [upd_ne (hm b _ q fun z => z)]; exact q, fun b u xs q => by rw [upd_ne (hm b _ q fun z => z)]; exact q, fun b ps q => ⟨#[], by rw [upd_ne (hm b _ q fun z => z), q]; simp⟩⟩
  by_cases hbe : b = e
  · subst hbe; exact heo
  · exact ⟨u, k b u hbe q⟩
end

/-! ### the heap without what is tracked -/
def trk (h : Heap) (H : Hp) : List Addr := (List.range h.objs.size).filter fun a => (H a).isSome
def hidT (h : Heap) (H : Hp) : Heap := PySem.W.hideAll h (trk h H)
theorem hidT_size (h : Heap) (H : Hp) : (hidT h H).objs.size = h.objs.size := PySem.W.hideAll_size _ _
theorem hidT_get {h : Heap} {H : Hp} {b : Addr} {o : Obj} (e : h.get? b = some o) (n : H b = none) : (hidT h H).get? b = some o :=
  PySem.W.hideAll_get _ e fun hm => by
    have q : (H b).isSome = true := (List.mem_filter.mp hm).2
    rw [n] at q; simp at q
theorem of_hidT {h : Heap} {H : Hp} {b : Addr} {o : Obj} (e : (hidT h H).get? b = some o) : h.get? b = some o ∧ H b = none := by
  have e' : h.get? b = some o := PySem.W.of_hideAll (trk h H) e
  refine ⟨e', ?_⟩
  cases q : H b with
  | none => rfl
  | some x =>
    have hm : b ∈ trk h H := List.mem_filter.mpr ⟨List.mem_range.mpr (Heap.lt_size e'), by simp [q]⟩
    have z : (hidT h H).get? b = none := PySem.W.hideAll_none (trk h H) hm
    rw [z] at e; cases e

/-! ### OpenK's ledger, filled with every new object but one -/
def allNews (g h : Heap) (L : Addr) : List (Addr × Obj) := (List.range h.objs.size).filterMap fun a => if a = L ∨ (g.get? a).isSome = true then none else (h.get? a).map fun o => (a, o)
def rest (g h : Heap) (L d : Addr) : List (Addr × Obj) := (allNews g h L).filter fun p => decide (p.1 ≠ d)
end L2

namespace L2
open PySem PySem.Spec PyProof.Rows

/-- the module's facts, over the base: the heap at the law's entry without what is tracked there -/
structure Mod (K : PySem.W.Frag) (mg : Str → Option Value) (base : Heap) : Prop where
  kin : K.In base
  glob : base.Ns mainGlobals mg
  blt : ∃ mb, base.Ns builtinsNs mb ∧ ∀ x : Str, x ≠ "__name__" → mb x = bootBuiltins x
  nolimit : base.NoLimit

/-- the context: a def's body (or a comprehension's block) running. base: fixed through the whole law; s₀, H₀: the entry; outer: the frames whose slots others may change (a def's callers); stack: all frames that run;
   ex: iterators that were made ahead of the entry and are walked here (a comprehension's); fn: the names whose cells were made at the entry (a def: all; a comprehension's block: its own); calm: not within an except suite; pn: pins that every state bears; xe: what is wanted of an exception that leaves the code -/
structure Cx where
  prog : Program
  w : World
  K : PySem.W.Frag
  mg : Str → Option Value
  base : Heap
  A : Around
  N : List Str
  s₀ : Shared
  H₀ : Hp
  env : Env
  outer : List Env
  stack : List Env
  ex : List Addr
  fn : Str → Bool
  calm : Bool
  pn : List (Addr × Obj)
  xe : Value → Shared → Prop
/-- the callers' frames -/
def frs (l : List Env) : List Addr := l.filterMap (·.frame)
abbrev Cx.fs (X : Cx) : List Addr := frs X.outer

def Vis (sc : Scope) (x : Str) : Prop := sc.names.lookup x = some .local ∨ sc.names.lookup x = some .cell ∨ sc.names.lookup x = some .free
def Loc (sc : Scope) (x : Str) : Prop := sc.names.lookup x = some .local ∨ sc.names.lookup x = some .cell
def Look (env : Env) (h : Heap) (m : Str → Option Value) (x : Str) (u : Value) : Prop :=
  (env.kindOf x = some .local ∧ m x = some u) ∨ ((env.kindOf x = some .cell ∨ env.kindOf x = some .free) ∧ ∃ c, env.cells.lookup x = some c ∧ h.IsCell c (some u))

structure Cx.Ok (X : Cx) : Prop where
  mod : Mod X.K X.mg X.base
  kind : X.env.scope.kind = .function
  glob : X.env.globals = mainGlobals
  blt : X.env.builtins = builtinsNs
  above : X.s₀.heap.objs.size ≤ X.env.locals
  inj : ∀ x y c, X.env.cells.lookup x = some c → X.env.cells.lookup y = some c → x = y
  has : ∀ x, (X.env.kindOf x = some .cell ∨ X.env.kindOf x = some .free) → ∃ c, X.env.cells.lookup x = some c
  cab : ∀ x c, X.fn x = true → X.env.cells.lookup x = some c → X.s₀.heap.objs.size ≤ c
  hd : X.calm = true → X.A.handled = none
  frames : X.A.frames = some X.stack
  stk : X.stack = X.outer ∨ (X.stack = X.env :: X.outer ∧ X.env.frame = some X.env.locals)
  exf : ∀ b ∈ X.ex, b ≠ X.env.locals ∧ ∀ x c, X.env.cells.lookup x = some c → c ≠ b
  bs : ∀ b o, X.base.get? b = some o → X.s₀.heap.get? b = some o ∧ X.H₀ b = none
  bsz : X.base.objs.size ≤ X.s₀.heap.objs.size
  noex : ∀ b o, X.base.get? b = some o → b ∉ X.ex
  exfs : ∀ b ∈ X.ex, b ∉ X.fs
  funs : X.s₀.heap.FunFrames X.base X.outer
  frf : ∀ b ∈ X.fs, X.H₀ b = none

structure Inv (X : Cx) (pins : List (Addr × Obj)) (σ : List (Option V)) (H : Hp) (s : Shared) : Prop where
  ok : X.Ok
  os : s.os = X.s₀.os
  bare : AllBare s.gens
  base : Un X.fs X.ex X.H₀ H X.s₀.heap s.heap
  loc : ∃ m, s.heap.Ns X.env.locals m ∧ ∀ (i : Nat) (x : Str) (v : V), X.N[i]? = some x → σ[i]? = some (some v) → Vis X.env.scope x → ∃ u, RelV v u ∧ Look X.env s.heap m x u
  cell : ∀ x c, X.env.cells.lookup x = some c → ∃ v, s.heap.IsCell c v
  free : H X.env.locals = none
  freeC : ∀ x c, X.env.cells.lookup x = some c → H c = none
  pin : ∀ p ∈ X.pn ++ pins, s.heap.get? p.1 = some p.2 ∧ H p.1 = none ∧ p.1 ≠ X.env.locals ∧ p.1 ∉ X.fs ∧ ∀ v, p.2.data ≠ .cell v
  hok : HOk X.prog X.w H s.heap
  len : σ.length = X.N.length

section
variable {X : Cx} {pins : List (Addr × Obj)} {σ : List (Option V)} {H H' : Hp} {s : Shared} {h' : Heap}

theorem Cx.Ok.nofr (ok : X.Ok) {b : Addr} {o : Obj} (e : X.base.get? b = some o) : b ∉ X.fs := fun hb => by
  have := (ok.funs.mem hb).1
  rw [e] at this; cases this
theorem Inv.bs (I : Inv X pins σ H s) : ∀ b o, X.base.get? b = some o → s.heap.get? b = some o ∧ H b = none := fun b o e =>
  ⟨I.base.keep b o (I.ok.bs b o e).1 (I.ok.bs b o e).2 (I.ok.nofr e) (I.ok.noex b o e), I.base.free b o (I.ok.bs b o e).1 (I.ok.bs b o e).2 (I.ok.noex b o e)⟩
theorem Inv.bk (I : Inv X pins σ H s) : ∀ b o, X.base.get? b = some o → s.heap.get? b = some o := fun b o e => (I.bs b o e).1
theorem Inv.mod (I : Inv X pins σ H s) : Mod X.K X.mg X.base := I.ok.mod
theorem Inv.kIn (I : Inv X pins σ H s) : X.K.In s.heap := I.ok.mod.kin.keeps I.bk
theorem Inv.lt (I : Inv X pins σ H s) : X.env.locals < s.heap.objs.size := let ⟨_, hn, _⟩ := I.loc; hn.lt
theorem Inv.sz (I : Inv X pins σ H s) : X.s₀.heap.objs.size ≤ s.heap.objs.size := Nat.le_trans I.ok.above (Nat.le_of_lt I.lt)
theorem Inv.nofs (I : Inv X pins σ H s) {a : Addr} (h : s.heap.objs.size ≤ a) : a ∉ X.fs := fun hb => by
  obtain ⟨_, o, ho, _⟩ := I.ok.funs.mem hb
  exact absurd (Nat.lt_of_lt_of_le (Heap.lt_size ho) (Nat.le_trans I.sz h)) (Nat.lt_irrefl _)
theorem Inv.cne (I : Inv X pins σ H s) : ∀ x c, X.env.cells.lookup x = some c → c ≠ X.env.locals := fun x c e z => by
  obtain ⟨v, o, ho, hd⟩ := I.cell x c e
  obtain ⟨m, ⟨o', es, ep, ho', hd', _⟩, _⟩ := I.loc
  rw [z, ho'] at ho; cases ho; rw [hd'] at hd; cases hd
theorem Inv.funs (I : Inv X pins σ H s) : s.heap.FunFrames X.base X.outer := by
  have all : ∀ (l : List Env), (∀ b ∈ frs l, b ∈ X.fs) → X.s₀.heap.FunFrames X.base l → s.heap.FunFrames X.base l := by
    intro l
    induction l with
    | nil => intro _ _; trivial
    | cons env r ih =>
      intro hs hl
      obtain ⟨hk, ⟨L, o, hf, hn, ho, hd⟩, hr⟩ := hl
      have hL : L ∈ X.fs := hs L (by unfold frs; rw [List.filterMap_cons, hf]; exact List.mem_cons_self)
      obtain ⟨sl, e⟩ := I.base.slot L o ho (I.ok.frf L hL) hL fun z => I.ok.exfs L z hL
      exact ⟨hk, ⟨L, _, hf, hn, e, hd⟩, ih (fun b hb => hs b (by unfold frs; rw [List.filterMap_cons, hf]; exact List.mem_cons_of_mem _ hb)) hr⟩
  exact all X.outer (fun _ hb => hb) I.ok.funs

/-- the frames that run, for a call -/
theorem Inv.stack (I : Inv X pins σ H s) : s.heap.FunFrames X.base X.stack := by
  rcases I.ok.stk with e | ⟨e, hf⟩
  · rw [e]; exact I.funs
  · rw [e]
    obtain ⟨m, hn, _⟩ := I.loc
    refine .cons (by rw [I.ok.kind]; decide) hf hn ?_ I.funs
    exact Heap.get?_none_of_le (Nat.le_trans I.ok.bsz I.ok.above)
theorem Inv.stkSub (I : Inv X pins σ H s) : ∀ b ∈ frs X.stack, b ∈ X.env.locals :: X.fs := fun b hb => by
  rcases I.ok.stk with e | ⟨e, hf⟩
  · rw [e] at hb; exact List.mem_cons_of_mem _ hb
  · rw [e] at hb
    unfold frs at hb
    rw [List.filterMap_cons, hf] at hb
    exact hb
theorem Inv.stkFree (I : Inv X pins σ H s) : ∀ b ∈ frs X.stack, H b = none := fun b hb => by
  rcases List.mem_cons.mp (I.stkSub b hb) with e | hb
  · rw [e]; exact I.free
  · obtain ⟨_, o, ho, _⟩ := I.ok.funs.mem hb
    exact I.base.free b o ho (I.ok.frf b hb) fun z => I.ok.exfs b z hb

/-- THE STEP: the untracked objects but the frame and the records at ch are kept (the callers' frames up to slots), the frame's map is kept, the new abstract heap is held -/
theorem Inv.step {g' : Array GenState} {t' : Nat} {d' : Drawn} {ch : List Addr} (I : Inv X pins σ H s)
    (hch : ∀ b ∈ ch, (b ∈ X.ex ∨ X.s₀.heap.objs.size ≤ b) ∧ b ≠ X.env.locals ∧ (∀ x c, X.env.cells.lookup x = some c → c ≠ b) ∧ ∀ p ∈ X.pn ++ pins, p.1 ≠ b)
    (keep : ∀ b o, b ≠ X.env.locals → b ∉ X.fs → b ∉ ch → s.heap.get? b = some o → H b = none → h'.get? b = some o)
    (slot : ∀ b o, b ≠ X.env.locals → b ∈ X.fs → b ∉ ch → s.heap.get? b = some o → H b = none → ∃ sl, h'.get? b = some { o with slots := sl }) (free : ∀ b o, b ∉ ch → s.heap.get? b = some o → H b = none → H' b = none)
    (there : ∀ b o, b ∉ ch → s.heap.get? b = some o → ∃ o', h'.get? b = some o')
    (tups : ∀ b xs, H b = some (.tup xs) → H' b = some (.tup xs)) (frzs : ∀ b o u, H b = some (.frz o u) → H' b = some (.frz o u)) (tbls : ∀ b ps, H b = some (.tbl ps) → ∃ more, H' b = some (.tbl (ps ++ more)))
    (ns : ∀ m, s.heap.Ns X.env.locals m → h'.Ns X.env.locals m) (hok : HOk X.prog X.w H' h') (hg : AllBare g') :
    Inv X pins σ H' { s with heap := h', gens := g', drawn := d', toks := t' } := by
  have neL : ∀ b o, X.s₀.heap.get? b = some o → b ≠ X.env.locals := fun b o e => Nat.ne_of_lt (Nat.lt_of_lt_of_le (Heap.lt_size e) I.ok.above)
  have neC : ∀ b o, X.s₀.heap.get? b = some o → b ∉ X.ex → b ∉ ch := fun b o e hx hb => by
    rcases (hch b hb).1 with z | z
    · exact hx z
    · exact absurd (Nat.lt_of_lt_of_le (Heap.lt_size e) z) (Nat.lt_irrefl _)
  have cellK : ∀ x c, X.env.cells.lookup x = some c → ∀ v, s.heap.IsCell c v → h'.IsCell c v := fun x c e v ⟨o, ho, hd⟩ => by
    have nch : c ∉ ch := fun z => (hch c z).2.2.1 x c e rfl
    by_cases hc : c ∈ X.fs
    · obtain ⟨sl, q⟩ := slot c o (I.cne x c e) hc nch ho (I.freeC x c e)
      exact ⟨_, q, hd⟩
    · exact ⟨o, keep c o (I.cne x c e) hc nch ho (I.freeC x c e), hd⟩
  refine ⟨I.ok, I.os, hg, ⟨fun b o e n hb hx => ?_, fun b o e n hb hx => ?_, fun b o e n hx => ?_, fun b o e hx => ?_, fun b xs e => tups b xs (I.base.tups b xs e), fun b o xs e => frzs b o xs (I.base.frzs b o xs e), fun b ps e => ?_⟩, ?_, fun x c e => ?_, ?_, fun x c e => ?_, fun p hp => ?_, hok, I.len⟩
  · exact keep b o (neL b o e) hb (neC b o e hx) (I.base.keep b o e n hb hx) (I.base.free b o e n hx)
  · obtain ⟨sl, e1⟩ := I.base.slot b o e n hb hx
    obtain ⟨sl', e2⟩ := slot b _ (neL b o e) hb (neC b o e hx) e1 (I.base.free b o e n hx)
    exact ⟨sl', e2⟩
  · obtain ⟨o', e1⟩ := I.base.there b o e hx
    exact free b o' (neC b o e hx) e1 (I.base.free b o e n hx)
  · obtain ⟨o', e1⟩ := I.base.there b o e hx
    exact there b o' (neC b o e hx) e1
  · obtain ⟨m1, e1⟩ := I.base.tbls b ps e
    obtain ⟨m2, e2⟩ := tbls b _ e1
    exact ⟨m1 ++ m2, by rw [e2, Array.append_assoc]⟩
  · obtain ⟨m, hn, hl⟩ := I.loc
    refine ⟨m, ns m hn, fun i x v e1 e2 e3 => ?_⟩
    obtain ⟨u, r, l⟩ := hl i x v e1 e2 e3
    refine ⟨u, r, ?_⟩
    rcases l with l | ⟨k, c, e, z⟩
    · exact .inl l
    · exact .inr ⟨k, c, e, cellK x c e _ z⟩
  · obtain ⟨v, z⟩ := I.cell x c e
    exact ⟨v, cellK x c e v z⟩
  · obtain ⟨m, ⟨o, _, _, ho, _⟩, _⟩ := I.loc
    exact free _ o (fun z => (hch _ z).2.1 rfl) ho I.free
  · obtain ⟨v, o, ho, hd⟩ := I.cell x c e
    exact free c o (fun z => (hch c z).2.2.1 x c e rfl) ho (I.freeC x c e)
  · obtain ⟨e, n, ne, nf, d⟩ := I.pin p hp
    have nch : p.1 ∉ ch := fun z => (hch p.1 z).2.2.2 p hp rfl
    exact ⟨keep p.1 p.2 ne nf nch e n, free p.1 p.2 nch e n, ne, nf, d⟩
/-- .. where the frame's own object is kept too -/
theorem Inv.un {t' : Nat} (I : Inv X pins σ H s) (u : Un X.fs [] H H' s.heap h') (hok : HOk X.prog X.w H' h') : Inv X pins σ H' { s with heap := h', toks := t' } := by
  obtain ⟨m, ⟨o, es, ep, ho, r⟩, _⟩ := id I.loc
  obtain ⟨sl, hL⟩ := u.any ho I.free (by simp)
  exact I.step (g' := s.gens) (d' := s.drawn) (ch := []) (fun _ z => nomatch z) (fun b o _ hb _ e n => u.keep b o e n hb (by simp)) (fun b o _ hb _ e n => u.slot b o e n hb (by simp)) (fun b o _ e n => u.free b o e n (by simp)) (fun b o _ e => u.there b o e (by simp)) u.tups u.frzs u.tbls (fun m' hm => by
    obtain ⟨o', es', ep', ho', r'⟩ := hm
    rw [ho] at ho'; cases ho'
    exact ⟨_, es', ep', hL, r'⟩) hok I.bare
/-- behind a call (or a comprehension's block): the slots of this frame may have changed too, the records at ch may have turned -/
theorem Inv.call {g' : Array GenState} {t' : Nat} {d' : Drawn} {ch : List Addr} (I : Inv X pins σ H s) (u : Un (frs X.stack) ch H H' s.heap h') (hok : HOk X.prog X.w H' h') (hg : AllBare g')
    (hch : ∀ b ∈ ch, (b ∈ X.ex ∨ X.s₀.heap.objs.size ≤ b) ∧ b ≠ X.env.locals ∧ (∀ x c, X.env.cells.lookup x = some c → c ≠ b) ∧ ∀ p ∈ X.pn ++ pins, p.1 ≠ b) :
    Inv X pins σ H' { s with heap := h', gens := g', drawn := d', toks := t' } := by
  obtain ⟨m, ⟨o, es, ep, ho, r⟩, _⟩ := id I.loc
  obtain ⟨sl, hL⟩ := u.any ho I.free fun z => (hch _ z).2.1 rfl
  exact I.step (ch := ch) hch (fun b o hL hb hc e n => u.keep b o e n (fun z => (List.mem_cons.mp (I.stkSub b z)).elim hL hb) hc) (fun b o _ _ hc e n => u.any e n hc) (fun b o hc e n => u.free b o e n hc) (fun b o hc e => u.there b o e hc) u.tups u.frzs u.tbls (fun m' hm => by
    obtain ⟨o', es', ep', ho', r'⟩ := hm
    rw [ho] at ho'; cases ho'
    exact ⟨_, es', ep', hL, r'⟩) hok hg
/-- an untracked record of ours (an iterator) has turned -/
theorem Inv.turned {t' : Nat} {it : Addr} (I : Inv X pins σ H s) (k : ∀ b o, b ≠ it → s.heap.get? b = some o → h'.get? b = some o) (hn : H it = none) (hL : it ≠ X.env.locals)
    (h1 : it ∈ X.ex ∨ X.s₀.heap.objs.size ≤ it) (h2 : ∀ x c, X.env.cells.lookup x = some c → c ≠ it) (h3 : ∀ p ∈ X.pn ++ pins, p.1 ≠ it) : Inv X pins σ H { s with heap := h', toks := t' } := by
  have nit : ∀ b u, H b = some u → b ≠ it := fun b u e z => by rw [z, hn] at e; cases e
  refine I.step (g' := s.gens) (d' := s.drawn) (ch := [it]) (fun b hb => ?_) (fun b o _ _ hc e _ => k b o (fun z => hc (by simp [z])) e) (fun b o _ _ hc e _ => ⟨o.slots, k b o (fun z => hc (by simp [z])) e⟩) (fun _ _ _ _ n => n)
    (fun b o hc e => ⟨o, k b o (fun z => hc (by simp [z])) e⟩) (fun _ _ e => e) (fun _ _ _ e => e) (fun b ps e => ⟨#[], by rw [e]; simp⟩) (fun m hm => ?_) (fun b u e => ?_) I.bare
  · have e : b = it := by simpa using hb
    subst e
    exact ⟨h1, hL, h2, h3⟩
  · obtain ⟨o, es, ep, ho, r⟩ := hm
    exact ⟨o, es, ep, k _ o (Ne.symm hL) ho, r⟩
  · refine (I.hok b u e).stay (fun c v hc q => k c v ?_ q) (fun _ q => q) fun _ _ q => q
    rcases hc with z | z
    · rw [z]; exact nit b u e
    · exact nit c _ z
theorem Inv.tok (I : Inv X pins σ H s) (t : Nat) : Inv X pins σ H { s with toks := t } := I.un (h' := s.heap) (t' := t) Un.refl I.hok
/-- all objects kept -/
theorem Inv.kept {t' : Nat} (I : Inv X pins σ H s) (k : ∀ b u, s.heap.get? b = some u → h'.get? b = some u) : Inv X pins σ H { s with heap := h', toks := t' } := I.un (Un.kept k) (I.hok.kept k)
/-- a new object laid and tracked -/
theorem Inv.laid {a : Addr} {o : HO} {t' : Nat} (I : Inv X pins σ H s) (k : ∀ b u, s.heap.get? b = some u → h'.get? b = some u) (hp : s.heap.objs.size ≤ a) (new : ObjOk X.prog X.w (upd H a o) h' a o) :
    Inv X pins σ (upd H a o) { s with heap := h', toks := t' } := I.un (Un.laid k hp (I.hok.fresh hp)) (I.hok.laid k hp new)
/-- an object written -/
theorem Inv.write {x e : Addr} {o : HO} {t' : Nat} (I : Inv X pins σ H s) (mu : Mut (H x)) (he : e = x ∨ H e = some (.own x)) (k : ∀ b u, b ≠ e → s.heap.get? b = some u → h'.get? b = some u) (heo : ∃ u, h'.get? e = some u)
    (new : ObjOk X.prog X.w (upd H x o) h' x o) : Inv X pins σ (upd H x o) { s with heap := h', toks := t' } := I.un (Un.write mu he k heo) (I.hok.write mu he k heo new)
/-- forgetting slots, pins -/
theorem Inv.weak {σ' : List (Option V)} (I : Inv X pins σ H s) (hl : σ'.length = σ.length) (w : ∀ (i : Nat) v, σ'[i]? = some (some v) → σ[i]? = some (some v)) : Inv X pins σ' H s :=
  ⟨I.ok, I.os, I.bare, I.base, let ⟨m, hn, hl'⟩ := I.loc; ⟨m, hn, fun i x v e1 e2 e3 => hl' i x v e1 (w i v e2) e3⟩, I.cell, I.free, I.freeC, I.pin, I.hok, hl.trans I.len⟩
theorem Inv.pins_of {pins' : List (Addr × Obj)} (I : Inv X pins σ H s) (h : ∀ p ∈ pins', s.heap.get? p.1 = some p.2 ∧ H p.1 = none ∧ p.1 ≠ X.env.locals ∧ p.1 ∉ X.fs ∧ ∀ v, p.2.data ≠ .cell v) : Inv X pins' σ H s :=
  ⟨I.ok, I.os, I.bare, I.base, I.loc, I.cell, I.free, I.freeC, fun p hp => (List.mem_append.mp hp).elim (fun z => I.pin p (List.mem_append_left _ z)) (h p), I.hok, I.len⟩

theorem nodup_ix {N : List Str} (hN : N.Nodup) {i j : Nat} {x : Str} (a : N[i]? = some x) (b : N[j]? = some x) : i = j := by
  obtain ⟨h1, e1⟩ := List.getElem?_eq_some_iff.mp a
  obtain ⟨h2, e2⟩ := List.getElem?_eq_some_iff.mp b
  exact (List.getElem_inj hN).mp (e1.trans e2.symm)

/-- a name is stored; what changed -/
theorem store_ok2 {M : Model} {A : Around} {E : Value → Shared → Prop} {i : Nat} {x : Str} {v : V} {u : Value} {Q : Unit → Shared → Prop} (I : Inv X pins σ H s) (hN : X.N.Nodup) (hi : X.N[i]? = some x) (hx : Loc X.env.scope x) (r : RelV v u)
    (h : ∀ s', Inv X pins (σ.set i (some v)) H s' → (∃ a, Heap.SameBut a s.heap s'.heap ∧ (a = X.env.locals ∨ X.env.cells.lookup x = some a)) → Q () s') (hf : X.fn x = true ∨ X.env.scope.names.lookup x = some .local := by first | exact .inl rfl | exact .inr rfl | assumption) : wpAny M A (storeName X.env x u) Q E s := by
  obtain ⟨m, hn, hl⟩ := id I.loc
  have hcls : (X.env.scope.kind == .class || (X.env.scope.kind == .module && X.env.locals != X.env.globals)) = false := by rw [I.ok.kind]; rfl
  have hiσ : i < σ.length := by rw [I.len]; exact (List.getElem?_eq_some_iff.mp hi).1
  have cne := I.cne
  have tracked : ∀ {a : Addr} {h' : Heap}, (∃ o, s.heap.get? a = some o ∧ H a = none) → Heap.SameBut a s.heap h' → HOk X.prog X.w H h' := fun {a h'} ha hs b ob e => by
    obtain ⟨_, _, hfree⟩ := ha
    refine (I.hok b ob e).stay (fun c w' hc q => (hs.2 c ?_).trans q) (fun _ q => q) fun _ _ q => q
    rintro rfl
    rcases hc with rfl | hc
    · rw [hfree] at e; cases e
    · rw [hfree] at hc; cases hc
  rcases hx with hk | hk
  · refine wpAny_storeName_local hk hn (fun h' hn' hs => ?_) hcls
    obtain ⟨oL, _, _, hoL, _⟩ := id hn
    refine h _ ⟨I.ok, I.os, I.bare, ⟨fun b o e n hb hx => ?_, fun b o e n hb hx => ?_, I.base.free, fun b o e hx => ?_, I.base.tups, I.base.frzs, I.base.tbls⟩, ⟨_, hn', fun j y v' e1 e2 e3 => ?_⟩, fun y c e => ?_, I.free, I.freeC, fun p hp => ?_, tracked ⟨oL, hoL, I.free⟩ hs, by simpa using I.len⟩ ⟨_, hs, .inl rfl⟩
    · exact (hs.2 b (Nat.ne_of_lt (Nat.lt_of_lt_of_le (Heap.lt_size e) I.ok.above))).trans (I.base.keep b o e n hb hx)
    · obtain ⟨sl, e1⟩ := I.base.slot b o e n hb hx
      exact ⟨sl, (hs.2 b (Nat.ne_of_lt (Nat.lt_of_lt_of_le (Heap.lt_size e) I.ok.above))).trans e1⟩
    · obtain ⟨o', e1⟩ := I.base.there b o e hx
      exact ⟨o', (hs.2 b (Nat.ne_of_lt (Nat.lt_of_lt_of_le (Heap.lt_size e) I.ok.above))).trans e1⟩
    · by_cases hj : j = i
      · subst hj
        rw [hi] at e1; cases e1
        rw [List.getElem?_set_self hiσ] at e2
        cases e2
        exact ⟨u, r, .inl ⟨hk, by simp⟩⟩
      · rw [List.getElem?_set_ne (Ne.symm hj)] at e2
        obtain ⟨u', r', q⟩ := hl j y v' e1 e2 e3
        refine ⟨u', r', ?_⟩
        rcases q with ⟨k, e⟩ | ⟨k, c, e, z⟩
        · refine .inl ⟨k, ?_⟩
          have : y ≠ x := fun e => hj (nodup_ix hN e1 (e ▸ hi))
          simp [this, e]
        · exact .inr ⟨k, c, e, z.sameBut hs (cne y c e)⟩
    · obtain ⟨w', z⟩ := I.cell y c e
      exact ⟨w', z.sameBut hs (cne y c e)⟩
    · obtain ⟨e, n, ne, nf, d⟩ := I.pin p hp
      exact ⟨(hs.2 p.1 ne).trans e, n, ne, nf, d⟩
  · have hfn : X.fn x = true := by
      rcases hf with z | z
      · exact z
      · rw [z] at hk; cases hk
    obtain ⟨c, hc⟩ := I.ok.has x (.inl hk)
    obtain ⟨w', z⟩ := I.cell x c hc
    refine wpAny_storeName_cell I.ok.kind hk hc z (fun h' hc' hs => ?_)
    obtain ⟨oc, hoc, hocd⟩ := id z
    refine h { s with heap := h' } ⟨I.ok, I.os, I.bare, ⟨fun b o e n hb hx => ?_, fun b o e n hb hx => ?_, I.base.free, fun b o e hx => ?_, I.base.tups, I.base.frzs, I.base.tbls⟩, ⟨m, hn.sameBut hs (Ne.symm (cne x c hc)), fun j y v' e1 e2 e3 => ?_⟩, fun y c' e => ?_, I.free, I.freeC, fun p hp => ?_, tracked ⟨oc, hoc, I.freeC x c hc⟩ hs, by simpa using I.len⟩ ⟨c, hs, .inr hc⟩
    · exact (hs.2 b (Nat.ne_of_lt (Nat.lt_of_lt_of_le (Heap.lt_size e) (I.ok.cab x c hfn hc)))).trans (I.base.keep b o e n hb hx)
    · obtain ⟨sl, e1⟩ := I.base.slot b o e n hb hx
      exact ⟨sl, (hs.2 b (Nat.ne_of_lt (Nat.lt_of_lt_of_le (Heap.lt_size e) (I.ok.cab x c hfn hc)))).trans e1⟩
    · obtain ⟨o', e1⟩ := I.base.there b o e hx
      exact ⟨o', (hs.2 b (Nat.ne_of_lt (Nat.lt_of_lt_of_le (Heap.lt_size e) (I.ok.cab x c hfn hc)))).trans e1⟩
    · by_cases hj : j = i
      · subst hj
        rw [hi] at e1; cases e1
        rw [List.getElem?_set_self hiσ] at e2
        cases e2
        exact ⟨u, r, .inr ⟨.inl hk, c, hc, hc'⟩⟩
      · rw [List.getElem?_set_ne (Ne.symm hj)] at e2
        obtain ⟨u', r', q⟩ := hl j y v' e1 e2 e3
        refine ⟨u', r', ?_⟩
        rcases q with q | ⟨k, c', e, z'⟩
        · exact .inl q
        · refine .inr ⟨k, c', e, z'.sameBut hs ?_⟩
          rintro rfl
          exact hj (nodup_ix hN e1 (I.ok.inj _ _ _ e hc ▸ hi))
    · by_cases hcc : c' = c
      · subst hcc; exact ⟨_, hc'⟩
      · obtain ⟨w2, z2⟩ := I.cell y c' e
        exact ⟨w2, z2.sameBut hs hcc⟩
    · obtain ⟨e, n, ne, nf, d⟩ := I.pin p hp
      refine ⟨(hs.2 p.1 ?_).trans e, n, ne, nf, d⟩
      intro q
      rw [q, hoc] at e
      have q' : oc = p.2 := Option.some.inj e
      exact d w' (by rw [← q']; exact hocd)
theorem store_ok {M : Model} {A : Around} {E : Value → Shared → Prop} {i : Nat} {x : Str} {v : V} {u : Value} {Q : Unit → Shared → Prop} (I : Inv X pins σ H s) (hN : X.N.Nodup) (hi : X.N[i]? = some x) (hx : Loc X.env.scope x) (r : RelV v u)
    (h : ∀ s', Inv X pins (σ.set i (some v)) H s' → Q () s') (hf : X.fn x = true ∨ X.env.scope.names.lookup x = some .local := by first | exact .inl rfl | exact .inr rfl | assumption) : wpAny M A (storeName X.env x u) Q E s :=
  store_ok2 I hN hi hx r (fun s' I' _ => h s' I') hf
/-- behind a call or a block, the state as it is -/
theorem Inv.call' {s' : Shared} {ch : List Addr} (I : Inv X pins σ H s) (ho : s'.os = s.os) (u : Un (frs X.stack) ch H H' s.heap s'.heap) (hok : HOk X.prog X.w H' s'.heap) (hg : AllBare s'.gens)
    (hch : ∀ b ∈ ch, (b ∈ X.ex ∨ X.s₀.heap.objs.size ≤ b) ∧ b ≠ X.env.locals ∧ (∀ x c, X.env.cells.lookup x = some c → c ≠ b) ∧ ∀ p ∈ X.pn ++ pins, p.1 ≠ b) : Inv X pins σ H' s' := by
  obtain ⟨h', g', d', t', o'⟩ := s'
  have e : o' = s.os := ho
  subst e
  exact I.call (g' := g') (t' := t') (d' := d') u hok hg hch
end

/-! ### the judgements -/
/-- an exception: its class, its own dict's address (where it has one), the abstract heap behind it -/
abbrev XK := Value → Option Addr → Hp → Prop
abbrev St := List (Option V)
abbrev VK := V → Hp → Prop
/-- an expression's reading; a test's; an argument list's -/
abbrev TE := St → Hp → VK → Prop
abbrev TT := St → Hp → (Bool → Hp → Prop) → Prop
abbrev TA := St → Hp → (List V → Hp → Prop) → Prop
/-- what is wanted behind a statement -/
structure Ends where
  nx : St → Hp → Prop
  rt : VK
  bk : St → Hp → Prop := fun _ _ => False
  ct : St → Hp → Prop := fun _ _ => False
abbrev TS := Ends → St → Hp → Prop

def EP (X : Cx) (pins : List (Addr × Obj)) (σ : St) (Q : VK) (u : Value) (s' : Shared) : Prop := ∃ v H', Inv X pins σ H' s' ∧ RelV v u ∧ Q v H'
def TP (X : Cx) (pins : List (Addr × Obj)) (σ : St) (Q : Bool → Hp → Prop) (b : Bool) (s' : Shared) : Prop := ∃ H', Inv X pins σ H' s' ∧ Q b H'
def AP (X : Cx) (pins : List (Addr × Obj)) (σ : St) (Q : List V → Hp → Prop) (us : List Value) (s' : Shared) : Prop := ∃ vs H', Inv X pins σ H' s' ∧ Vals vs us ∧ Q vs H'
def SP (X : Cx) (pins : List (Addr × Obj)) (D : Ends) (f : Flow) (s' : Shared) : Prop :=
  match f with
  | .next => ∃ σ' H', Inv X pins σ' H' s' ∧ D.nx σ' H'
  | .brk => ∃ σ' H', Inv X pins σ' H' s' ∧ D.bk σ' H'
  | .cont => ∃ σ' H', Inv X pins σ' H' s' ∧ D.ct σ' H'
  | .ret u => ∃ v σ' H', Inv X pins σ' H' s' ∧ RelV v u ∧ D.rt v H'

def PE (X : Cx) (e : Expr) (t : TE) : Prop :=
  ∀ (pins : List (Addr × Obj)) (s : Shared) (σ : St) (H : Hp) (Q : VK), Inv X pins σ H s → t σ H Q → wpAny (model X.prog X.w) X.A (eval e X.env) (EP X pins σ Q) X.xe s
def PT (X : Cx) (e : Expr) (t : TT) : Prop :=
  ∀ (pins : List (Addr × Obj)) (s : Shared) (σ : St) (H : Hp) (Q : Bool → Hp → Prop), Inv X pins σ H s → t σ H Q → wpAny (model X.prog X.w) X.A (isTrue e X.env (eval e X.env)) (TP X pins σ Q) X.xe s
/-- a test whatever its 'whole' is (and, or) -/
def PW (X : Cx) (e : Expr) (t : TT) : Prop :=
  ∀ (whole : Sem Value) (pins : List (Addr × Obj)) (s : Shared) (σ : St) (H : Hp) (Q : Bool → Hp → Prop), Inv X pins σ H s → t σ H Q → wpAny (model X.prog X.w) X.A (isTrue e X.env whole) (TP X pins σ Q) X.xe s
theorem PW.pt {X : Cx} {e : Expr} {t : TT} (h : PW X e t) : PT X e t := h _
/-- an argument list (no star), from the left -/
def PA (X : Cx) (es : List Expr) (t : TA) : Prop :=
  ∀ (pos : Pos) (pins : List (Addr × Obj)) (s : Shared) (σ : St) (H : Hp) (Q : List V → Hp → Prop), Inv X pins σ H s → t σ H Q → wpAny (model X.prog X.w) X.A (spliced (backTo pos (starEach es X.env))) (AP X pins σ Q) X.xe s
def PS (X : Cx) (st : Stmt) (t : TS) : Prop :=
  ∀ (pins : List (Addr × Obj)) (s : Shared) (σ : St) (H : Hp) (D : Ends), Inv X pins σ H s → t D σ H → wpAny (model X.prog X.w) X.A (exec st X.env) (SP X pins D) X.xe s
def PSs (X : Cx) (st : List Stmt) (t : TS) : Prop :=
  ∀ (pins : List (Addr × Obj)) (s : Shared) (σ : St) (H : Hp) (D : Ends), Inv X pins σ H s → t D σ H → wpAny (model X.prog X.w) X.A (execs st X.env) (SP X pins D) X.xe s
/-- weaken the end -/
theorem thn {α : Type} {t : Sem α} {Q Q' : α → Shared → Prop} {M : Model} {A : Around} {E : Value → Shared → Prop} {s : Shared} (h : wpAny M A t Q E s) (hQ : ∀ a s, Q a s → Q' a s) : wpAny M A t Q' E s := wpAny_mono h hQ fun _ _ x => x
end L2

namespace L2
open PySem PySem.Spec PyProof.Rows
section
variable {X : Cx}

/-! ### names and constants -/
def tVar (i : Nat) : TE := fun σ H Q => ∃ v, σ[i]? = some (some v) ∧ Q v H
def tC (v : V) : TE := fun _ H Q => Q v H
theorem pe_var {i : Nat} {x : Str} {pos : Pos} (hN : X.N[i]? = some x) (hv : Vis X.env.scope x) (hd : (x == ("__debug__" : Str)) = false := by decide) (hcd : (x == ("__classdict__" : Str)) = false := by decide) : PE X (.Name x pos) (tVar i) := by
  intro pins s σ H Q I h
  obtain ⟨v, e, h⟩ := h
  obtain ⟨m, hn, hl⟩ := I.loc
  obtain ⟨u, r, l⟩ := hl i x v hN e hv
  have fin : EP X pins σ Q u s := ⟨v, H, I, r, h⟩
  rcases l with ⟨hk, hm⟩ | ⟨hk, c, hc, hcell⟩
  · exact wpAny_Name (wpAny_loadName_local I.ok.kind hk hn hm fin) hd
  · rcases hk with hk | hk
    · exact wpAny_Name (wpAny_loadName_cell I.ok.kind hk hc hcell fin) hd
    · exact wpAny_Name (wpAny_loadName_free I.ok.kind hk hc hcell fin hcd) hd
theorem pe_int {i j pos} : PE X (.Constant (.int i) j pos) (tC (.int i)) := fun _ _ _ H _ I h => wpAny_Constant_int ⟨.int i, H, I.tok _, ⟨_, rfl⟩, h⟩
theorem pe_bl {b j pos} : PE X (.Constant (.bool b) j pos) (tC (.bl b)) := fun _ _ _ H _ I h => Constant_bool ⟨.bl b, H, I, rfl, h⟩
theorem pe_str {x j pos} : PE X (.Constant (.str x) j pos) (tC (.str x)) := fun _ _ _ H _ I h => Calls.Constant_str ⟨.str x, H, I.tok _, ⟨_, rfl⟩, h⟩

/-- a global name of the def -/
def Gl (X : Cx) (x : Str) : Prop := X.env.kindOf x = some .globalImplicit
theorem ld_glob {E : Value → Shared → Prop} {pins : List (Addr × Obj)} {s : Shared} {σ : St} {H : Hp} {x : Str} {u : Value} {pos : Pos} {Q : Value → Shared → Prop} (I : Inv X pins σ H s) (hg : Gl X x) (hm : X.mg x = some u) (h : Q u s)
    (hd : (x == ("__debug__" : Str)) = false := by decide) : wpAny (model X.prog X.w) X.A (eval (.Name x pos) X.env) Q E s :=
  Calls.Name_function_global I.ok.kind hg (Calls.loadGlobal_global (by rw [I.ok.glob]; exact I.mod.glob.keeps I.bk) hm h) hd
theorem ld_blt {E : Value → Shared → Prop} {pins : List (Addr × Obj)} {s : Shared} {σ : St} {H : Hp} {x : Str} {u : Value} {pos : Pos} {Q : Value → Shared → Prop} (I : Inv X pins σ H s) (hg : Gl X x) (hm : X.mg x = none) (hv : bootBuiltins x = some u) (h : Q u s)
    (hn : x ≠ "__name__" := by decide) (hd : (x == ("__debug__" : Str)) = false := by decide) : wpAny (model X.prog X.w) X.A (eval (.Name x pos) X.env) Q E s := by
  obtain ⟨mb, h1, h2⟩ := I.mod.blt
  exact Calls.Name_function_global I.ok.kind hg (Calls.loadGlobal_builtin (by rw [I.ok.glob]; exact I.mod.glob.keeps I.bk) hm (by rw [I.ok.blt]; exact h1.keeps I.bk) ((h2 x hn).trans hv) h) hd
/-- a module's constant, a class, a function, as a value -/
theorem pe_glob {x : Str} {v : V} {u : Value} {pos : Pos} (hg : Gl X x) (hm : X.mg x = some u) (r : RelV v u) (hd : (x == ("__debug__" : Str)) = false := by decide) : PE X (.Name x pos) (tC v) :=
  fun _ _ _ H _ I h => ld_glob I hg hm ⟨v, H, I, r, h⟩ hd
theorem pe_bltn {x : Str} {v : V} {u : Value} {pos : Pos} (hg : Gl X x) (hm : X.mg x = none) (hv : bootBuiltins x = some u) (r : RelV v u) (hn : x ≠ "__name__" := by decide) (hd : (x == ("__debug__" : Str)) = false := by decide) : PE X (.Name x pos) (tC v) :=
  fun _ _ _ H _ I h => ld_blt I hg hm hv ⟨v, H, I, r, h⟩ hn hd

/-! ### arithmetic -/
/-- two ints -/
def t2I (ta tb : TE) (k : Int → Int → Hp → Prop) : St → Hp → Prop := fun σ H => ta σ H fun x H1 => tb σ H1 fun y H2 => ∃ i j, x = .int i ∧ y = .int j ∧ k i j H2
def tAdd (ta tb : TE) : TE := fun σ H Q => t2I ta tb (fun i j H2 => Q (.int (i + j)) H2) σ H
def tSub (ta tb : TE) : TE := fun σ H Q => t2I ta tb (fun i j H2 => Q (.int (i - j)) H2) σ H
/-- the left factor below 2^64 -/
def tMul (ta tb : TE) : TE := fun σ H Q => t2I ta tb (fun i j H2 => (-(2 ^ 64) < i ∧ i < 2 ^ 64) ∧ Q (.int (i * j)) H2) σ H
variable {a b : Expr} {ta tb : TE} {pos : Pos}
/-! ### comparisons -/
def PC (X : Cx) (op : CmpOp) (a b : Expr) (t : TE) : Prop :=
  ∀ (pins : List (Addr × Obj)) (s : Shared) (σ : St) (H : Hp) (Q : VK), Inv X pins σ H s → t σ H Q →
    wpAny (model X.prog X.w) X.A (eval a X.env) (fun v s₁ => wpAny (model X.prog X.w) X.A (eval b X.env) (fun u s₂ => wpAny (model X.prog X.w) X.A (compareOp op v u) (EP X pins σ Q) X.xe s₂) X.xe s₁) X.xe s
def tCmp (p : Int → Int → Bool) (ta tb : TE) : TE := fun σ H Q => t2I ta tb (fun i j H2 => Q (.bl (p i j)) H2) σ H
abbrev tLt : TE → TE → TE := tCmp fun i j => decide (i < j)
abbrev tLe : TE → TE → TE := tCmp fun i j => decide (i ≤ j)
abbrev tGt : TE → TE → TE := tCmp fun i j => decide (j < i)
abbrev tGe : TE → TE → TE := tCmp fun i j => decide (j ≤ i)
abbrev tEqI : TE → TE → TE := tCmp fun i j => decide (i = j)
abbrev tNeI : TE → TE → TE := tCmp fun i j => !decide (i = j)
/-- is None -/
def tIsN (ta : TE) : TE := fun σ H Q => ta σ H fun x H1 => Q (.bl (decide (x = .non))) H1
def tNotN (ta : TE) : TE := fun σ H Q => ta σ H fun x H1 => Q (.bl (!decide (x = .non))) H1
/-- a comparison as a value, as a test -/
def tB (t : TE) : TT := fun σ H Q => t σ H fun x H1 => ∃ c, x = .bl c ∧ Q c H1
/-- an expression whose value is a bool, as a test -/
theorem pt_val {e : Expr} {t : TE} (h : PE X e t) (he : ∀ whole, isTrue e X.env whole = (do let v ← whole; standAt e.pos; holding [v] (truthy v)) := by intro _; rfl) : PT X e (tB t) := by
  intro pins s σ H Q I hw
  refine isTrue_plain (thn (h pins s σ H _ I hw) fun v s1 ⟨x, H1, I1, r1, q1⟩ => ?_) (he _)
  obtain ⟨d, rfl, q⟩ := q1
  cases r1
  exact wpAny_truthy_bool ⟨H1, I1, q⟩

/-! ### and, or, not -/
variable {tA tB' : TT} {rest : List Expr}
def tAnd (t u : TT) : TT := fun σ H Q => t σ H fun c H1 => if c = true then u σ H1 Q else Q false H1
def tOr (t u : TT) : TT := fun σ H Q => t σ H fun c H1 => if c = true then Q true H1 else u σ H1 Q
def tNot (t : TT) : TT := fun σ H Q => t σ H fun c H1 => Q (!c) H1
theorem pw_and1 (ha : PT X a tA) : PW X (.BoolOp .And [a] pos) tA := by
  intro wh pins s σ H Q I h
  refine isTrue_and (thn (ha pins s σ H Q I h) fun c s1 e => ?_)
  cases c with
  | true => exact isTrue_and_nil e
  | false => exact e
theorem pw_or1 (ha : PT X a tA) : PW X (.BoolOp .Or [a] pos) tA := by
  intro wh pins s σ H Q I h
  refine isTrue_or (thn (ha pins s σ H Q I h) fun c s1 e => ?_)
  cases c with
  | false => exact isTrue_or_nil e
  | true => exact e
theorem pw_and (ha : PT X a tA) (hb : PW X (.BoolOp .And (b :: rest) pos) tB') : PW X (.BoolOp .And (a :: b :: rest) pos) (tAnd tA tB') := by
  intro wh pins s σ H Q I h
  refine isTrue_and (thn (ha pins s σ H _ I h) fun c s1 ⟨H1, I1, q1⟩ => ?_)
  cases c with
  | true => exact hb wh pins s1 σ H1 Q I1 q1
  | false => exact ⟨H1, I1, q1⟩
theorem pw_or (ha : PT X a tA) (hb : PW X (.BoolOp .Or (b :: rest) pos) tB') : PW X (.BoolOp .Or (a :: b :: rest) pos) (tOr tA tB') := by
  intro wh pins s σ H Q I h
  refine isTrue_or (thn (ha pins s σ H _ I h) fun c s1 ⟨H1, I1, q1⟩ => ?_)
  cases c with
  | true => exact ⟨H1, I1, q1⟩
  | false => exact hb wh pins s1 σ H1 Q I1 q1
theorem pt_not (ha : PT X a tA) : PT X (.UnaryOp .Not a pos) (tNot tA) := by
  intro pins s σ H Q I h
  exact isTrue_not (ha pins s σ H (fun c H1 => Q (!c) H1) I h)
/-- .. as values (bools) -/
def tAndV (ta tb : TE) : TE := fun σ H Q => ta σ H fun x H1 => ∃ c, x = .bl c ∧ if c = true then tb σ H1 Q else Q (.bl false) H1
def tOrV (ta tb : TE) : TE := fun σ H Q => ta σ H fun x H1 => ∃ c, x = .bl c ∧ if c = true then Q (.bl true) H1 else tb σ H1 Q
def tNotV (ta : TE) : TE := fun σ H Q => ta σ H fun x H1 => ∃ c, x = .bl c ∧ Q (.bl (!c)) H1
theorem pe_one {op} {t : TE} (h : PE X a t) : PE X (.BoolOp op [a] pos) t := fun pins s σ H Q I hw => BoolOp_one (h pins s σ H Q I hw)
theorem pe_and (ha : PE X a ta) (hb : PE X (.BoolOp .And (b :: rest) pos) tb) : PE X (.BoolOp .And (a :: b :: rest) pos) (tAndV ta tb) := by
  intro pins s σ H Q I h
  refine BoolOp_and (thn (ha pins s σ H _ I h) fun v s1 ⟨x, H1, I1, r1, q1⟩ => ?_)
  obtain ⟨c, rfl, q1⟩ := q1
  cases r1
  refine wpAny_truthy_bool ?_
  cases c with
  | true => exact hb pins s1 σ H1 Q I1 q1
  | false => exact ⟨.bl false, H1, I1, rfl, q1⟩
theorem pe_not (ha : PE X a ta) : PE X (.UnaryOp .Not a pos) (tNotV ta) := by
  intro pins s σ H Q I h
  refine UnaryOp_ (thn (ha pins s σ H _ I h) fun v s1 ⟨x, H1, I1, r1, q1⟩ => ?_)
  obtain ⟨c, rfl, q1⟩ := q1
  cases r1
  exact not_of (wpAny_truthy_bool ⟨.bl (!c), H1, I1, rfl, q1⟩)
/-- a if t else b -/
def tIf (t : TT) (ta tb : TE) : TE := fun σ H Q => t σ H fun c H1 => if c = true then ta σ H1 Q else tb σ H1 Q
end
end L2

namespace L2
open PySem PySem.Spec PyProof.Rows

/-! ### a list, a tuple that is read: tracked, frozen, or an object of the module -/
def SqL (K : PySem.W.Frag) (H : Hp) (a : Addr) (xs : List V) : Prop :=
  Rd H a (.lst xs) ∨
    ∃ (o : Obj) (its : Array Value) (n : Nat), K.lookup a = some o ∧ o.cls = .type "list" ∧ o.dict = none ∧ o.data = .seq its n ∧ its.size ≤ sizeLine ∧ Vals xs its.toList
def SqT (K : PySem.W.Frag) (H : Hp) (a : Addr) (xs : List V) : Prop :=
  Rd H a (.tup xs) ∨
    ∃ (o : Obj) (its : Array Value) (n : Nat), K.lookup a = some o ∧ o.cls = .type "tuple" ∧ o.data = .seq its n ∧ its.size ≤ sizeLine ∧ Vals xs its.toList
def absV : Value → Option V
  | .none => some .non
  | .bool b => some (.bl b)
  | .int i _ => some (.int i)
  | .str x _ => some (.str x)
  | .bytes b _ => some (.byt b)
  | .float b _ => some (.flt b)
  | .ref a => some (.ref a)
  | .type n => some (.ty n)
  | _ => none
theorem RelV.abs {x : V} {u : Value} (r : RelV x u) : absV u = some x := by
  cases x with
  | non => cases r; rfl
  | bl _ => cases r; rfl
  | int _ => obtain ⟨t, rfl⟩ := r; rfl
  | str _ => obtain ⟨t, rfl⟩ := r; rfl
  | byt _ => obtain ⟨t, rfl⟩ := r; rfl
  | flt _ => obtain ⟨t, rfl⟩ := r; rfl
  | ref _ => cases r; rfl
  | ty _ => cases r; rfl
theorem RelV.inj {x y : V} {u : Value} (r : RelV x u) (q : RelV y u) : x = y := Option.some.inj (r.abs.symm.trans q.abs)
theorem Vals.inj : ∀ {xs ys : List V} {us : List Value}, Vals xs us → Vals ys us → xs = ys
  | _, _, _, .nil, .nil => rfl
  | _, _, _, .cons r t, .cons r' t' => by rw [r.inj r', Vals.inj t t']
section
variable {X : Cx} {pins : List (Addr × Obj)} {σ : St} {H : Hp} {s : Shared} {a : Addr} {xs ys : List V}
theorem SqL.of {K : PySem.W.Frag} (h : H a = some (.lst xs)) : SqL K H a xs := .inl (.inl h)
theorem SqT.of {K : PySem.W.Frag} (h : H a = some (.tup xs)) : SqT K H a xs := .inl (.inl h)
theorem Inv.list (I : Inv X pins σ H s) (h : SqL X.K H a xs) : ∃ its : List Value, Vals xs its ∧ PlainL s.heap a its.toArray ∧ xs.length ≤ sizeLine := by
  rcases h with h | ⟨o, its, n, hk, hc, hd, hs, hz, r⟩
  · obtain ⟨z, its, n, r, e⟩ := h.ok I.hok
    exact ⟨its, r, ⟨_, n, e, rfl, rfl, rfl⟩, z⟩
  · refine ⟨its.toList, r, ⟨o, n, I.kIn a o hk, hc, hd, by simpa using hs⟩, ?_⟩
    have e := r.length
    simp only [Array.length_toList] at e
    omega
theorem Inv.tuple (I : Inv X pins σ H s) (h : SqT X.K H a xs) : ∃ its : List Value, Vals xs its ∧ IsTup s.heap a its.toArray ∧ xs.length ≤ sizeLine := by
  rcases h with h | ⟨o, its, n, hk, hc, hs, hz, r⟩
  · obtain ⟨z, its, r, p⟩ := h.ok I.hok
    exact ⟨its, r, p, z⟩
  · refine ⟨its.toList, r, ⟨o, I.kIn a o hk, hc, n, by simpa using hs⟩, ?_⟩
    have e := r.length
    simp only [Array.length_toList] at e
    omega
theorem Inv.list_inj (I : Inv X pins σ H s) (h : SqL X.K H a xs) (h' : SqL X.K H a ys) : xs = ys := by
  obtain ⟨its, r, ⟨o, n, e, _, _, d⟩, _⟩ := I.list h
  obtain ⟨its', r', ⟨o', n', e', _, _, d'⟩, _⟩ := I.list h'
  rw [e] at e'; cases e'
  rw [d] at d'
  injection d' with d1 _
  have : its = its' := by simpa using congrArg Array.toList d1
  subst this
  exact r.inj r'
end

/-! ### another wish about exceptions -/
abbrev Cx.wish (X : Cx) (E : Value → Shared → Prop) : Cx := { X with xe := E }
/-- no exception leaves -/
abbrev Cx.nox (X : Cx) : Cx := X.wish fun _ _ => False
theorem Cx.Ok.wish {X : Cx} (ok : X.Ok) (E : Value → Shared → Prop) : (X.wish E).Ok :=
  ⟨ok.mod, ok.kind, ok.glob, ok.blt, ok.above, ok.inj, ok.has, ok.cab, ok.hd, ok.frames, ok.stk, ok.exf, ok.bs, ok.bsz, ok.noex, ok.exfs, ok.funs, ok.frf⟩
theorem Cx.Ok.unwish {X : Cx} {E : Value → Shared → Prop} (ok : (X.wish E).Ok) : X.Ok :=
  ⟨ok.mod, ok.kind, ok.glob, ok.blt, ok.above, ok.inj, ok.has, ok.cab, ok.hd, ok.frames, ok.stk, ok.exf, ok.bs, ok.bsz, ok.noex, ok.exfs, ok.funs, ok.frf⟩
section
variable {X : Cx} {pins : List (Addr × Obj)} {σ : St} {H : Hp} {s : Shared} {E : Value → Shared → Prop}
theorem Inv.wish (I : Inv X pins σ H s) (E : Value → Shared → Prop) : Inv (X.wish E) pins σ H s := ⟨I.ok.wish E, I.os, I.bare, I.base, I.loc, I.cell, I.free, I.freeC, I.pin, I.hok, I.len⟩
theorem Inv.unwish (I : Inv (X.wish E) pins σ H s) : Inv X pins σ H s := ⟨I.ok.unwish, I.os, I.bare, I.base, I.loc, I.cell, I.free, I.freeC, I.pin, I.hok, I.len⟩
end

/-! ### blocks and small statements -/
section
variable {X : Cx} {st : Stmt} {rest : List Stmt} {t u : TS} {e : Expr} {te : TE} {pos : Pos}
def tNext : TS := fun D σ H => D.nx σ H
def tSeq (t u : TS) : TS := fun D σ H => t { D with nx := u D } σ H
theorem pss_nil : PSs X [] tNext := fun _ _ σ H _ I h => wpAny_execs_nil ⟨σ, H, I, h⟩
theorem pss_cons (h1 : PS X st t) (h2 : PSs X rest u) : PSs X (st :: rest) (tSeq t u) := by
  intro pins s σ H D I h
  refine wpAny_execs_cons (thn (h1 pins s σ H { D with nx := u D } I h) fun f s1 q => ?_)
  cases f with
  | next =>
    obtain ⟨σ', H', I', q⟩ := q
    exact h2 pins s1 σ' H' D I' q
  | ret v => exact q
  | brk => exact q
  | cont => exact q
theorem pss_one (h1 : PS X st t) : PSs X [st] t := by
  intro pins s σ H D I h
  refine wpAny_execs_cons (thn (h1 pins s σ H D I h) fun f s1 q => ?_)
  cases f with
  | next => exact wpAny_execs_nil q
  | ret v => exact q
  | brk => exact q
  | cont => exact q
def tBreak : TS := fun D σ H => D.bk σ H
def tCont : TS := fun D σ H => D.ct σ H
/-- in a def's body nothing is shown -/
theorem Inv.quiet {pins : List (Addr × Obj)} {σ : St} {H : Hp} {s : Shared} (I : Inv X pins σ H s) : interactive X.env = false := by simp [interactive, I.ok.kind]
/-- an expression whose value is dropped -/
def tDrop (te : TE) : TS := fun D σ H => te σ H fun _ H1 => D.nx σ H1
theorem ps_expr (he : PE X e te) (hs : swapsWith e none pos.line X.env = pure false := by rfl) : PS X (.Expr e pos) (tDrop te) := by
  intro pins s σ H D I h
  exact wpAny_Expr_any (thn (he pins s σ H _ I h) fun v s1 ⟨x, H1, I1, r1, q1⟩ => ⟨σ, H1, I1, q1⟩) I.quiet hs
def tRet (te : TE) : TS := fun D σ H => te σ H D.rt
theorem ps_ret (he : PE X e te) : PS X (.Return (some e) pos) (tRet te) := by
  intro pins s σ H D I h
  exact wpAny_Return_some (thn (he pins s σ H _ I h) fun v s1 ⟨x, H1, I1, r1, q1⟩ => ⟨x, σ, H1, I1, r1, q1⟩)
def tRetN : TS := fun D _ H => D.rt .non H
def tIfS (c : TT) (t u : TS) : TS := fun D σ H => c σ H fun b H1 => if b = true then t D σ H1 else u D σ H1
theorem ps_if {c : Expr} {a b : List Stmt} {tc : TT} (hc : PT X c tc) (ha : PSs X a t) (hb : PSs X b u) : PS X (.If c a b pos) (tIfS tc t u) := by
  intro pins s σ H D I h
  refine wpAny_If (thn (hc pins s σ H _ I h) fun d s1 ⟨H1, I1, q1⟩ => ?_)
  cases d with
  | true => exact ha pins s1 σ H1 D I1 q1
  | false => exact hb pins s1 σ H1 D I1 q1
/-- code that the proof never comes to -/
def tNever : TS := fun _ _ _ => False
theorem ps_never : PS X st tNever := fun _ _ _ _ _ _ h => h.elim
end

/-! ### targets -/
abbrev TG := V → St → Hp → (St → Hp → Prop) → Prop
abbrev TGs := List V → St → Hp → (St → Hp → Prop) → Prop
def PG (X : Cx) (target : Expr) (t : TG) : Prop :=
  ∀ (pins : List (Addr × Obj)) (s : Shared) (σ : St) (H : Hp) (v : V) (u : Value) (Q : St → Hp → Prop), Inv X pins σ H s → RelV v u → t v σ H Q →
    wpAny (model X.prog X.w) X.A (assign target X.env u) (fun _ s' => ∃ σ' H', Inv X pins σ' H' s' ∧ Q σ' H') X.xe s
/-- several targets, one after another -/
def PGs (X : Cx) (ts : List Expr) (t : TGs) : Prop :=
  ∀ (pins : List (Addr × Obj)) (s : Shared) (σ : St) (H : Hp) (vs : List V) (us : List Value) (Q : St → Hp → Prop), Inv X pins σ H s → Vals vs us → t vs σ H Q →
    wpAny (model X.prog X.w) X.A (assignInOrder ((assignEach ts X.env).map (·.2)) us) (fun _ s' => ∃ σ' H', Inv X pins σ' H' s' ∧ Q σ' H') X.xe s
/-- o[i] = v, by values -/
abbrev TSet := V → V → V → Hp → (Hp → Prop) → Prop
def PSet (X : Cx) (t : TSet) : Prop :=
  ∀ (pins : List (Addr × Obj)) (s : Shared) (σ : St) (H : Hp) (o i v : V) (ov iv u : Value) (Q : Hp → Prop), Inv X pins σ H s → RelV o ov → RelV i iv → RelV v u → t o i v H Q →
    wpAny (model X.prog X.w) X.A (setItem ov iv u) (fun _ s' => ∃ H', Inv X pins σ H' s' ∧ Q H') X.xe s
/-- a op= b, by values -/
abbrev TIp := V → V → Hp → VK → Prop
def PIp (X : Cx) (op : Operator) (t : TIp) : Prop :=
  ∀ (pins : List (Addr × Obj)) (s : Shared) (σ : St) (H : Hp) (x y : V) (v u : Value) (Q : VK), Inv X pins σ H s → RelV x v → RelV y u → t x y H Q →
    wpAny (model X.prog X.w) X.A (inplaceOp op v u) (EP X pins σ Q) X.xe s
section
variable {X : Cx} {pos : Pos}
def gName (i : Nat) : TG := fun v σ H Q => Q (σ.set i (some v)) H
theorem pg_name {i : Nat} {x : Str} (hN : X.N.Nodup) (hi : X.N[i]? = some x) (hx : Loc X.env.scope x) (hf : X.fn x = true ∨ X.env.scope.names.lookup x = some .local := by first | exact .inl rfl | exact .inr rfl | assumption) : PG X (.Name x pos) (gName i) := by
  intro pins s σ H v u Q I r h
  exact wpAny_assign_Name (store_ok I hN hi hx r (fun s' I' => ⟨_, H, I', h⟩) hf)
def gNil : TGs := fun vs σ H Q => vs = [] ∧ Q σ H
def gCons (t : TG) (u : TGs) : TGs := fun vs σ H Q => ∃ v r, vs = v :: r ∧ t v σ H fun σ' H' => u r σ' H' Q
theorem pgs_nil : PGs X [] gNil := by
  intro pins s σ H vs us Q I r h
  obtain ⟨e, h⟩ := h
  subst e
  cases r
  exact assignInOrder_nil ⟨σ, H, I, h⟩
theorem pgs_cons {e : Expr} {es : List Expr} {t : TG} {u : TGs} (h1 : PG X e t) (h2 : PGs X es u)
    (hs : (assignEach (e :: es) X.env).map (·.2) = assign e X.env :: (assignEach es X.env).map (·.2) := by rfl) : PGs X (e :: es) (gCons t u) := by
  intro pins s σ H vs us Q I r h
  obtain ⟨v, vr, e1, h⟩ := h
  subst e1
  cases r with
  | cons r rr =>
    rw [hs]
    refine assignInOrder_cons (thn (h1 pins s σ H _ _ _ I r h) fun _ s1 ⟨σ1, H1, I1, q1⟩ => ?_)
    exact h2 pins s1 σ1 H1 _ _ Q I1 rr q1
/-- (a, b, ..) = a tuple of that length -/
def gTup (K : PySem.W.Frag) (n : Nat) (t : TGs) : TG := fun v σ H Q => ∃ a xs, v = .ref a ∧ SqT K H a xs ∧ xs.length = n ∧ t xs σ H Q
theorem pg_tup {es : List Expr} {k : Nat} {t : TGs} {n : Nat} (hc : X.calm = true) (h : PGs X es t)
    (hn : (assignEach es X.env).length = n := by rfl) (hst : (assignEach es X.env).findIdx? (·.1) = none := by rfl) : PG X (.Tuple es k pos) (gTup X.K n t) := by
  intro pins s σ H v u Q I r hw
  obtain ⟨a, xs, e1, hq, hl, hw⟩ := hw
  subst e1
  cases r
  obtain ⟨its, rv, ht, hz⟩ := I.tuple hq
  refine assign_Tuple_tuple (I.ok.hd hc) ht (by simp [hn, ← hl, rv.length]) hst fun h' hx => ?_
  have I1 : Inv X pins σ H { s with heap := h' } := I.kept (t' := s.toks) fun b o e => hx b o (Nat.ne_of_lt (Heap.lt_size e)) e
  exact h pins _ σ H xs _ Q I1 (by simpa using rv) hw
/-- o[i] = .. -/
def gSub (to ti : TE) (t : TSet) : TG := fun v σ H Q => to σ H fun o H1 => ti σ H1 fun i H2 => t o i v H2 fun H3 => Q σ H3
theorem pg_sub {o i : Expr} {to ti : TE} {t : TSet} (ho : PE X o to) (hi : PE X i ti) (hs : PSet X t)
    (ha : ∀ v, assign (.Subscript o i pos) X.env v = (do
      let ov ← holding [v] (eval o X.env)
      let iv ← holding [v, ov] (eval i X.env)
      standAt pos
      holding [v, ov, iv] (setItem ov iv v)
      release [v, ov, iv] []) := by intro _; rfl) : PG X (.Subscript o i pos) (gSub to ti t) := by
  intro pins s σ H v u Q I r h
  rw [ha]
  refine wpAny_bind (wpAny_holding (thn (ho pins s σ H _ I h) fun ov s1 ⟨x, H1, I1, r1, q1⟩ => ?_))
  refine wpAny_bind (wpAny_holding (thn (hi pins s1 σ H1 _ I1 q1) fun iv s2 ⟨y, H2, I2, r2, q2⟩ => ?_))
  refine wpAny_bind (wpAny_standAt (wpAny_bind (wpAny_holding (thn (hs pins s2 σ H2 x y v ov iv u _ I2 r1 r2 r q2) fun _ s3 ⟨H3, I3, q3⟩ => ?_))))
  exact wpAny_release ⟨σ, H3, I3, q3⟩
/-- target = value -/
def tAsg (te : TE) (g : TG) : TS := fun D σ H => te σ H fun x H1 => g x σ H1 D.nx
theorem ps_asg {tg e : Expr} {te : TE} {g : TG} (he : PE X e te) (hg : PG X tg g) (hs : swapsWithSole [tg] e pos.line X.env = pure false := by rfl) (hw : swappedStores [tg] e X.env = pure none := by rfl)
    (h1 : (assignEach [tg] X.env).map (·.2) = [assign tg X.env] := by rfl) : PS X (.Assign [tg] e pos) (tAsg te g) := by
  intro pins s σ H D I h
  refine wpAny_Assign_stores (thn (he pins s σ H _ I h) fun v s1 ⟨x, H1, I1, r1, q1⟩ => ?_) hs hw
  rw [h1]
  exact thn (hg pins s1 σ H1 x v _ I1 r1 q1) fun _ s2 q => q
/-- name = value -/
theorem ps_set {i : Nat} {x : Str} {e : Expr} {te : TE} {pos' : Pos} (hN : X.N.Nodup) (hi : X.N[i]? = some x) (hx : Loc X.env.scope x) (he : PE X e te) (hs : swapsWith e (some (.Name x pos')) pos.line X.env = pure false := by rfl) (hf : X.fn x = true ∨ X.env.scope.names.lookup x = some .local := by first | exact .inl rfl | exact .inr rfl | assumption) :
    PS X (.Assign [.Name x pos'] e pos) (tAsg te (gName i)) := by
  intro pins s σ H D I h
  refine wpAny_Assign_Name (thn (he pins s σ H _ I h) fun v s1 ⟨y, H1, I1, r1, q1⟩ => ?_) hs
  exact store_ok I1 hN hi hx r1 (fun s2 I2 => ⟨_, H1, I2, q1⟩) hf
/-- a, b = x, y with plain local names: stored from the right; the pair itself is not tracked (the opening rows as in PyProof/Rows/TupAssign.lean:23) -/
def tPar (i j : Nat) (ta : TA) : TS := fun D σ H => ta σ H fun vs H1 => ∃ v w, vs = [v, w] ∧ D.nx ((σ.set i (some v)).set j (some w)) H1
/-- name op= e -/
def tAug (i : Nat) (te : TE) (ti : TIp) : TS := fun D σ H => ∃ x, σ[i]? = some (some x) ∧ te σ H fun y H1 => ti x y H1 fun z H2 => D.nx (σ.set i (some z)) H2
/-- o[i] op= e -/
def tAugS (to ti te : TE) (tget : V → V → Hp → VK → Prop) (tip : TIp) (tset : TSet) : TS := fun D σ H => to σ H fun o H1 => ti σ H1 fun i H2 => tget o i H2 fun x H3 => te σ H3 fun y H4 => tip x y H4 fun z H5 => tset o i z H5 fun H6 => D.nx σ H6
/-- o[i], by values -/
def PGet (X : Cx) (t : V → V → Hp → VK → Prop) : Prop :=
  ∀ (pins : List (Addr × Obj)) (s : Shared) (σ : St) (H : Hp) (o i : V) (ov iv : Value) (Q : VK), Inv X pins σ H s → RelV o ov → RelV i iv → t o i H Q →
    wpAny (model X.prog X.w) X.A (getItem ov iv) (EP X pins σ Q) X.xe s
/-- ints -/
def ipI (f : Int → Int → Int) : TIp := fun x y H Q => ∃ i j, x = .int i ∧ y = .int j ∧ Q (.int (f i j)) H
end

/-! ### while -/
section
variable {X : Cx} {pos : Pos}
/-- the invariant W with its measure -/
def tWhile (c : TT) (tb : TS) : TS := fun D σ H => ∃ W : Nat → St → Hp → Prop, (∃ m, W m σ H) ∧ ∀ m σ H, W m σ H →
  c σ H fun b H1 => if b = true then ∃ N : St → Hp → Prop, (∀ σ' H', N σ' H' → ∃ m', m' < m ∧ W m' σ' H') ∧ tb { D with nx := N, ct := N, bk := D.nx } σ H1 else D.nx σ H1
theorem ps_while {c : Expr} {body : List Stmt} {tc : TT} {tb : TS} (hp : PassesOwn (model X.prog X.w) X.A X.env X.xe) (hc : PT X c tc) (hb : PSs X body tb) : PS X (.While c body [] pos) (tWhile tc tb) := by
  intro pins s σ H D I h
  obtain ⟨W, ⟨m0, w0⟩, turn⟩ := h
  refine wpAny_While (codeAny_whileLoop (fun n s' => ∃ σ' H', Inv X pins σ' H' s' ∧ W n σ' H') ?_ m0 ⟨σ, H, I, w0⟩)
  rintro n s1 ⟨σ1, H1, I1, w1⟩
  refine wpAny_passesOwn hp (thn (hc pins s1 σ1 H1 _ I1 (turn n σ1 H1 w1)) fun b s2 ⟨H2, I2, q2⟩ => ?_)
  cases b with
  | true =>
    obtain ⟨N, hN, q2⟩ := q2
    rw [if_pos rfl]
    refine wpAny_passesOwn hp (thn (hb pins s2 σ1 H2 _ I2 q2) fun f s3 q3 => ?_)
    cases f with
    | next =>
      obtain ⟨σ3, H3, I3, n3⟩ := q3
      obtain ⟨m', hm, w3⟩ := hN σ3 H3 n3
      exact ⟨m', hm, σ3, H3, I3, w3⟩
    | cont =>
      obtain ⟨σ3, H3, I3, n3⟩ := q3
      obtain ⟨m', hm, w3⟩ := hN σ3 H3 n3
      exact ⟨m', hm, σ3, H3, I3, w3⟩
    | brk => exact q3
    | ret v => exact q3
  | false =>
    rw [if_neg Bool.false_ne_true]
    exact wpAny_execs_nil ⟨σ1, H2, I2, q2⟩
end

/-! ### what a loop or a comprehension walks -/
/-- at turn i: it yields x (the heap may grow), or it stops -/
structure It where
  go : Nat → Hp → Prop
  yld : Nat → Hp → V → Hp → Prop
  stop : Nat → Hp → Prop
/-- the iterator's own objects may turn: they are not the frame's, not pinned, younger than the entry (or a comprehension's own) -/
def FpOk (X : Cx) (pins : List (Addr × Obj)) (H : Hp) (b : Addr) : Prop :=
  H b = none ∧ b ≠ X.env.locals ∧ b ∉ X.fs ∧ (b ∈ X.ex ∨ X.s₀.heap.objs.size ≤ b) ∧ (∀ x c, X.env.cells.lookup x = some c → c ≠ b) ∧ ∀ p ∈ X.pn ++ pins, p.1 ≠ b
theorem Inv.fpOk {X : Cx} {pins : List (Addr × Obj)} {σ : St} {H H' : Hp} {s : Shared} {b : Addr} (I : Inv X pins σ H s) (hb : s.heap.objs.size ≤ b) (hn : H' b = none) : FpOk X pins H' b := by
  refine ⟨hn, Nat.ne_of_gt (Nat.lt_of_lt_of_le I.lt hb), I.nofs hb, .inr (Nat.le_trans I.sz hb), fun x c e z => ?_, fun p hp z => ?_⟩
  · obtain ⟨v, q⟩ := I.cell x c e
    exact absurd (Nat.lt_of_lt_of_le q.lt (by rw [z]; exact hb)) (Nat.lt_irrefl _)
  · exact absurd (Nat.lt_of_lt_of_le (Heap.lt_size (I.pin p hp).1) (by rw [z]; exact hb)) (Nat.lt_irrefl _)
structure Turn (P : Program) (w : World) (K : PySem.W.Frag) (tg : Expr) (J : It) (fp : List Addr) (it : Addr) (tn : Nat → Heap → Prop) : Prop where
  mem : it ∈ fp
  obj : ∀ i h, tn i h → ∀ b ∈ fp, ∃ o, h.get? b = some o ∧ ∀ v, o.data ≠ .cell v
  keep : ∀ i h h', tn i h → (∀ b ∈ fp, ∀ o, h.get? b = some o → h'.get? b = some o) → tn i h'
  item : ∀ (X : Cx), X.prog = P → X.w = w → X.K = K → X.calm = true → ∀ (i : Nat) (pins : List (Addr × Obj)) (s : Shared) (σ : St) (H : Hp) (E : Value → Shared → Prop), Inv X pins σ H s → (∀ b ∈ fp, FpOk X pins H b) → tn i s.heap → J.go i H →
    wpAny (model P w) X.A (pyNext (.ref it)) (fun r s1 => ∃ u, r = some u ∧
      wpAny (model P w) X.A (letOwnedTupleGo tg (.ref it) u) (fun _ s2 => ∃ x H', Inv X pins σ H' s2 ∧ RelV x u ∧ J.yld i H x H' ∧ tn (i + 1) s2.heap ∧ ∀ b ∈ fp, H' b = none) E s1) E s
  done : ∀ (X : Cx), X.prog = P → X.w = w → X.K = K → X.calm = true → ∀ (i : Nat) (pins : List (Addr × Obj)) (s : Shared) (σ : St) (H : Hp) (E : Value → Shared → Prop), Inv X pins σ H s → (∀ b ∈ fp, FpOk X pins H b) → tn i s.heap → J.stop i H →
    wpAny (model P w) X.A (pyNext (.ref it)) (fun r s1 => r = none ∧ Inv X pins σ H s1) E s
  self : ∀ (A : Around) (i : Nat) (s : Shared) (Q : Value → Shared → Prop) (E : Value → Shared → Prop), tn i s.heap → Q (.ref it) s → wpAny (model P w) A (pyIter (.ref it)) Q E s
abbrev TI := St → Hp → (It → Hp → Prop) → Prop
/-- an iterator has come -/
def PIE (X : Cx) (pins : List (Addr × Obj)) (σ : St) (tg : Expr) (R : It → Hp → Prop) (itv : Value) (s2 : Shared) : Prop :=
  ∃ (it : Addr) (fp : List Addr) (tn : Nat → Heap → Prop) (J : It) (H' : Hp), itv = .ref it ∧ Inv X pins σ H' s2 ∧ Turn X.prog X.w X.K tg J fp it tn ∧ tn 0 s2.heap ∧ (∀ b ∈ fp, FpOk X pins H' b) ∧ R J H'
def PI (X : Cx) (tg iter : Expr) (wi : TI) : Prop :=
  ∀ (pins : List (Addr × Obj)) (s : Shared) (σ : St) (H : Hp) (R : It → Hp → Prop), Inv X pins σ H s → wi σ H R →
    wpAny (model X.prog X.w) X.A (eval iter X.env) (fun v s1 => wpAny (model X.prog X.w) X.A (pyIter v) (PIE X pins σ tg R) X.xe s1) X.xe s

/-- the step ahead of the store is nothing for an iterator that keeps no tuple -/
theorem go_of {M : Model} {A : Around} {E : Value → Shared → Prop} {s : Shared} {tg : Expr} {it : Addr} {u : Value} {o : Obj} {n : String} {vs : Array Value} {Q : Unit → Shared → Prop} (ho : s.heap.get? it = some o) (hc : o.cls = .type n) (hd : o.data = .fields vs)
    (hn : ["enumerate", "zip", "dict_itemiterator", "dict_reverseitemiterator", "odict_iterator", "itertools.zip_longest", "itertools.pairwise"].contains n = false) (hQ : Q () s) : wpAny M A (letOwnedTupleGo tg (.ref it) u) Q E s := by
  unfold letOwnedTupleGo
  cases tg <;> first
    | exact wpAny_pure hQ
    | (cases u <;> first
        | exact wpAny_pure hQ
        | (refine wpAny_bind (wpAny_load ho ?_)
           rw [hc, hd]
           show wpAny M A (if (["enumerate", "zip", "dict_itemiterator", "dict_reverseitemiterator", "odict_iterator", "itertools.zip_longest", "itertools.pairwise"].contains n && vs[0]? == some (rawInt _)) = true then _ else _) Q E s
           rw [if_neg (by intro h; rw [hn, Bool.false_and] at h; cases h)]
           exact wpAny_pure hQ))

/-- the list at a, as it stands at each turn (a loop may append to it) -/
def Itl (K : PySem.W.Frag) (a : Addr) : It :=
  ⟨fun i H => ∃ xs x, SqL K H a xs ∧ xs[i]? = some x, fun i H x H' => H' = H ∧ ∀ xs, SqL K H a xs → xs[i]? = some x, fun i H => ∃ xs, SqL K H a xs ∧ xs.length ≤ i⟩
def Itt (K : PySem.W.Frag) (a : Addr) : It :=
  ⟨fun i H => ∃ xs x, SqT K H a xs ∧ xs[i]? = some x, fun i H x H' => H' = H ∧ ∀ xs, SqT K H a xs → xs[i]? = some x, fun i H => ∃ xs, SqT K H a xs ∧ xs.length ≤ i⟩
/-- lo, lo + 1, .. (n of them) -/
def Itr (lo : Int) (n : Nat) : It := ⟨fun i _ => i < n, fun i H x H' => H' = H ∧ x = .int (lo + i), fun i _ => n ≤ i⟩
theorem turn_list {P : Program} {w : World} {K : PySem.W.Frag} {tg : Expr} (a it : Addr) : Turn P w K tg (Itl K a) [it] it (fun i h => h.IsListIter it a i) where
  mem := by simp
  obj := fun i h st b hb => by
    have e : b = it := by simpa using hb
    subst e
    obtain ⟨o, e, c, d⟩ := st
    exact ⟨o, e, fun v z => by rw [d] at z; cases z⟩
  keep := fun i h h' st k => st.at fun o e => k it (by simp) o e
  item := by
    intro X hP hw hK hc i pins s σ H E I hf st hg
    subst hP hw hK
    obtain ⟨xs, x, hq, hx⟩ := hg
    obtain ⟨its, rv, p, hz⟩ := I.list hq
    obtain ⟨u, hu, ru⟩ := rv.get hx
    obtain ⟨f0, f1, f2, f3, f4, f5⟩ := hf it (by simp)
    refine wpAny_pyNext_list_item st p.isList (x := u) (by simpa using hu) fun h' st' sb => ?_
    have I1 : Inv X pins σ H { s with heap := h' } := I.turned (t' := s.toks) (fun b o hb e => (sb.2 b hb).trans e) f0 f1 f3 f4 f5
    obtain ⟨o, e, c, d⟩ := id st'
    exact ⟨u, rfl, go_of (s := { s with heap := h' }) e c d (by decide) ⟨x, H, I1, ru, ⟨rfl, fun ys hy => by rw [I.list_inj hy hq]; exact hx⟩, st', fun b hb => (hf b hb).1⟩⟩
  done := by
    intro X hP hw hK hc i pins s σ H E I hf st hg
    subst hP hw hK
    obtain ⟨xs, hq, hx⟩ := hg
    obtain ⟨its, rv, p, hz⟩ := I.list hq
    obtain ⟨f0, f1, f2, f3, f4, f5⟩ := hf it (by simp)
    have hl := rv.length
    exact wpAny_pyNext_list_end (I.ok.hd hc) st p.isList (by simp; omega) fun h' eb => ⟨rfl, I.turned (t' := s.toks) (fun b o hb e => eb b o hb e) f0 f1 f3 f4 f5⟩
  self := fun _ _ _ _ _ st h => wpAny_pyIter_listiter st h
end L2

namespace L2
open PySem PySem.Spec PyProof.Rows
section
variable {X : Cx} {tg : Expr}
def iList (K : PySem.W.Frag) (tl : TE) : TI := fun σ H R => tl σ H fun x H1 => ∃ a, x = .ref a ∧ (∃ xs, SqL K H1 a xs) ∧ R (Itl K a) H1
def iTup (K : PySem.W.Frag) (tl : TE) : TI := fun σ H R => tl σ H fun x H1 => ∃ a, x = .ref a ∧ (∃ xs, SqT K H1 a xs) ∧ R (Itt K a) H1
theorem pi_list {l : Expr} {tl : TE} (hl : PE X l tl) : PI X tg l (iList X.K tl) := by
  intro pins s σ H R I h
  refine thn (hl pins s σ H _ I h) fun v s1 ⟨x, H1, I1, r1, q1⟩ => ?_
  obtain ⟨a, e, ⟨xs, hq⟩, q⟩ := q1
  subst e
  cases r1
  obtain ⟨its, rv, p, hz⟩ := I1.list hq
  refine wpAny_pyIter_list p.isList ?_
  refine ⟨s1.heap.objs.size, [s1.heap.objs.size], _, _, H1, rfl, I1.kept (t' := s1.toks) fun b o e => Heap.get?_push_of_some _ e, turn_list a _, ⟨_, Heap.get?_push_size _ rfl, rfl, rfl⟩, fun b hb => ?_, q⟩
  have e : b = s1.heap.objs.size := by simpa using hb
  subst e
  exact I1.fpOk (Nat.le_refl _) (I1.hok.fresh (Nat.le_refl _))
def iRng1 (ta : TA) : TI := fun σ H R => ta σ H fun vs H1 => ∃ j : Int, vs = [.int j] ∧ -(2 ^ 62) ≤ j ∧ j < 2 ^ 62 ∧ R (Itr 0 j.toNat) H1
def iRng2 (ta : TA) : TI := fun σ H R => ta σ H fun vs H1 => ∃ i j : Int, vs = [.int i, .int j] ∧ (-(2 ^ 62) ≤ i ∧ i < 2 ^ 62 ∧ -(2 ^ 62) ≤ j ∧ j < 2 ^ 62) ∧ R (Itr i (j - i).toNat) H1
/-! ### for -/
/-- W: the invariant by the turn and a measure; N: what the body is to reach -/
def tFor (wi : TI) (g : TG) (tb : TS) : TS := fun D σ H => wi σ H fun J H1 => ∃ W : Nat → Nat → St → Hp → Prop, (∃ m, W 0 m σ H1) ∧ ∀ i m σ H, W i m σ H →
  (J.stop i H ∧ D.nx σ H) ∨ (J.go i H ∧ ∃ N : St → Hp → Prop, (∀ σ' H', N σ' H' → ∃ m', m' < m ∧ W (i + 1) m' σ' H') ∧ ∀ x H', J.yld i H x H' → g x σ H' fun σ2 H2 => tb { D with nx := N, ct := N, bk := D.nx } σ2 H2)
/-- the records at fp as they stand -/
def pinsAt (fp : List Addr) (h : Heap) : List (Addr × Obj) := fp.filterMap fun b => (h.get? b).map fun o => (b, o)
theorem mem_pinsAt {fp : List Addr} {h : Heap} {b : Addr} {o : Obj} (hb : b ∈ fp) (e : h.get? b = some o) : (b, o) ∈ pinsAt fp h := List.mem_filterMap.mpr ⟨b, hb, by rw [e]; rfl⟩
theorem of_pinsAt {fp : List Addr} {h : Heap} {p : Addr × Obj} (hp : p ∈ pinsAt fp h) : p.1 ∈ fp ∧ h.get? p.1 = some p.2 := by
  obtain ⟨b, hb, e⟩ := List.mem_filterMap.mp hp
  cases q : h.get? b with
  | none => rw [q] at e; cases e
  | some o =>
    rw [q] at e
    have e' : (b, o) = p := Option.some.inj e
    subst e'
    exact ⟨hb, q⟩
theorem Inv.pinned {pins : List (Addr × Obj)} {σ : St} {H : Hp} {s : Shared} {fp : List Addr} (I : Inv X pins σ H s) (hf : ∀ b ∈ fp, FpOk X pins H b) (ho : ∀ b ∈ fp, ∃ o, s.heap.get? b = some o ∧ ∀ v, o.data ≠ .cell v) : Inv X (pins ++ pinsAt fp s.heap) σ H s :=
  I.pins_of fun p hp => (List.mem_append.mp hp).elim (fun z => I.pin p (List.mem_append_right _ z)) fun z => by
    obtain ⟨hb, e⟩ := of_pinsAt z
    obtain ⟨f0, f1, f2, _⟩ := hf p.1 hb
    obtain ⟨o, e', d⟩ := ho p.1 hb
    rw [e] at e'; cases e'
    exact ⟨e, f0, f1, f2, d⟩
theorem Inv.unpinned {pins pl : List (Addr × Obj)} {σ : St} {H : Hp} {s : Shared} (I : Inv X (pins ++ pl) σ H s) : Inv X pins σ H s := I.pins_of fun p hp => I.pin p (List.mem_append_right _ (List.mem_append_left _ hp))
theorem ps_for {iter : Expr} {body : List Stmt} {wi : TI} {g : TG} {tb : TS} {pos : Pos} (hp : PassesOwn (model X.prog X.w) X.A X.env X.xe) (hc : X.calm = true) (hi : PI X tg iter wi) (hg : PG X tg g) (hb : PSs X body tb)
    (hs : ∀ x, foldedSetIterable iter X.env x = pure x := by intro _; rfl) : PS X (.For tg iter body [] pos) (tFor wi g tb) := by
  intro pins s σ H D I h
  refine wpAny_For (thn (hi pins s σ H _ I h) fun v s1 h1 => thn h1 fun itv s2 h2 => ?_) hs
  obtain ⟨it, fp, tn, J, H2, e, I2, T, st2, f2, W, ⟨m0, w0⟩, turn⟩ := h2
  subst e
  -- what stays true of the iterator's objects through the loop
  have stat : ∀ {H' : Hp}, (∀ b ∈ fp, H' b = none) → ∀ b ∈ fp, FpOk X pins H' b := fun hn b hb => ⟨hn b hb, (f2 b hb).2⟩
  refine codeAny_forLoop_any (fun n s' => ∃ i σ' H', Inv X pins σ' H' s' ∧ tn i s'.heap ∧ (∀ b ∈ fp, H' b = none) ∧ W i n σ' H') ?_ m0 ⟨0, σ, H2, I2, st2, fun b hb => (f2 b hb).1, w0⟩
  rintro n s3 ⟨i, σ3, H3, I3, st3, fr3, w3⟩
  rcases turn i n σ3 H3 w3 with ⟨stop, qn⟩ | ⟨go, N, hN, step⟩
  · refine wpAny_passesOwn hp (thn (T.done X rfl rfl rfl hc i pins s3 σ3 H3 X.xe I3 (stat fr3) st3 stop) fun r s4 ⟨hr, I4⟩ => ?_)
    subst hr
    exact wpAny_execs_nil ⟨σ3, H3, I4, qn⟩
  · refine wpAny_passesOwn hp (thn (T.item X rfl rfl rfl hc i pins s3 σ3 H3 X.xe I3 (stat fr3) st3 go) fun r s4 ⟨u, hr, h4⟩ => ?_)
    subst hr
    refine wpAny_passesOwn hp (thn h4 fun _ s5 ⟨x, H5, I5, r5, y5, st5, fr5⟩ => ?_)
    have I5' := I5.pinned (stat fr5) (T.obj _ _ st5)
    refine wpAny_passesOwn hp (thn (hg _ s5 σ3 H5 x u _ I5' r5 (step x H5 y5)) fun _ s6 ⟨σ6, H6, I6, q6⟩ => ?_)
    refine wpAny_passesOwn hp (thn (hb _ s6 σ6 H6 _ I6 q6) fun f s7 q7 => ?_)
    have again : ∀ {σ7 : St} {H7 : Hp}, Inv X (pins ++ pinsAt fp s5.heap) σ7 H7 s7 → N σ7 H7 → ∃ m, m < n ∧ ∃ i σ' H', Inv X pins σ' H' s7 ∧ tn i s7.heap ∧ (∀ b ∈ fp, H' b = none) ∧ W i m σ' H' := fun {σ7 H7} I7 n7 => by
      obtain ⟨m', hm, w7⟩ := hN σ7 H7 n7
      refine ⟨m', hm, i + 1, σ7, H7, I7.unpinned, T.keep _ _ _ st5 fun b hb o e => (I7.pin (b, o) (List.mem_append_right _ (List.mem_append_right _ (mem_pinsAt hb e)))).1, fun b hb => ?_, w7⟩
      obtain ⟨o, e, d⟩ := T.obj _ _ st5 b hb
      exact (I7.pin (b, o) (List.mem_append_right _ (List.mem_append_right _ (mem_pinsAt hb e)))).2.1
    cases f with
    | next => obtain ⟨σ7, H7, I7, n7⟩ := q7; exact again I7 n7
    | cont => obtain ⟨σ7, H7, I7, n7⟩ := q7; exact again I7 n7
    | brk => obtain ⟨σ7, H7, I7, q7⟩ := q7; exact ⟨σ7, H7, I7.unpinned, q7⟩
    | ret v => obtain ⟨x7, σ7, H7, I7, r7, q7⟩ := q7; exact ⟨x7, σ7, H7, I7.unpinned, r7, q7⟩
end

/-! ### the forms one uses -/
/-- over a list that the body leaves as it is -/
theorem for_list {K : PySem.W.Frag} {a : Addr} {xs : List V} {g : TG} {tb : TS} {D : Ends} {σ : St} {H : Hp} (Pv : Nat → St → Hp → Prop) (h0 : Pv 0 σ H) (hl : ∀ i σ H, i ≤ xs.length → Pv i σ H → SqL K H a xs)
    (hs : ∀ i x σ H, xs[i]? = some x → Pv i σ H → g x σ H fun σ2 H2 => tb { D with nx := Pv (i + 1), ct := Pv (i + 1), bk := D.nx } σ2 H2) (hd : ∀ σ H, Pv xs.length σ H → D.nx σ H) :
    ∃ W : Nat → Nat → St → Hp → Prop, (∃ m, W 0 m σ H) ∧ ∀ i m σ H, W i m σ H →
      ((Itl K a).stop i H ∧ D.nx σ H) ∨ ((Itl K a).go i H ∧ ∃ N : St → Hp → Prop, (∀ σ' H', N σ' H' → ∃ m', m' < m ∧ W (i + 1) m' σ' H') ∧ ∀ x H', (Itl K a).yld i H x H' → g x σ H' fun σ2 H2 => tb { D with nx := N, ct := N, bk := D.nx } σ2 H2) := by
  refine ⟨fun i m σ H => m = xs.length - i ∧ i ≤ xs.length ∧ Pv i σ H, ⟨xs.length, by simp, Nat.zero_le _, h0⟩, ?_⟩
  rintro i m σ H ⟨rfl, hi, p⟩
  have q := hl i σ H hi p
  by_cases hlt : i < xs.length
  · refine .inr ⟨⟨xs, xs[i], q, by simp [hlt]⟩, Pv (i + 1), fun σ' H' p' => ⟨xs.length - (i + 1), by omega, rfl, hlt, p'⟩, fun x H' y => ?_⟩
    obtain ⟨e, y⟩ := y
    subst e
    exact hs i x σ _ (y xs q) p
  · have e : i = xs.length := by omega
    subst e
    exact .inl ⟨⟨xs, q, Nat.le_refl _⟩, hd σ H p⟩
/-- while, by a word and a measure of the state -/
theorem while_by {c : TT} {tb : TS} {D : Ends} {σ : St} {H : Hp} (Pv : St → Hp → Prop) (μ : St → Hp → Nat) (h0 : Pv σ H)
    (hs : ∀ σ H, Pv σ H → c σ H fun b H1 => if b = true then tb { D with nx := fun σ' H' => Pv σ' H' ∧ μ σ' H' < μ σ H, ct := fun σ' H' => Pv σ' H' ∧ μ σ' H' < μ σ H, bk := D.nx } σ H1 else D.nx σ H1)
    (mono : ∀ σ H Q Q', (∀ b H1, Q b H1 → Q' b H1) → c σ H Q → c σ H Q') : tWhile c tb D σ H := by
  refine ⟨fun m σ H => m = μ σ H ∧ Pv σ H, ⟨_, rfl, h0⟩, ?_⟩
  rintro m σ H ⟨rfl, p⟩
  refine mono σ H _ _ (fun b H1 q => ?_) (hs σ H p)
  cases b with
  | true => exact ⟨_, fun σ' H' ⟨p', l⟩ => ⟨_, l, rfl, p'⟩, q⟩
  | false => exact q
end L2

namespace L2
open PySem PySem.Spec PyProof.Rows

abbrev R2 := V → V → Hp → VK → Prop
/-- a two-place operation on values: f is binaryOp op, inplaceOp op or compareOp op -/
def OpR (X : Cx) (f : Value → Value → Sem Value) (r : R2) : Prop :=
  ∀ (pins : List (Addr × Obj)) (s : Shared) (σ : St) (H : Hp) (x y : V) (v u : Value) (Q : VK), Inv X pins σ H s → RelV x v → RelV y u → r x y H Q →
    wpAny (model X.prog X.w) X.A (f v u) (EP X pins σ Q) X.xe s
/-- a one-place operation -/
def UnR (X : Cx) (f : Value → Sem Value) (r : V → Hp → VK → Prop) : Prop :=
  ∀ (pins : List (Addr × Obj)) (s : Shared) (σ : St) (H : Hp) (x : V) (v : Value) (Q : VK), Inv X pins σ H s → RelV x v → r x H Q →
    wpAny (model X.prog X.w) X.A (f v) (EP X pins σ Q) X.xe s
/-- a call of a value that is known (a builtin, a type) with values -/
def CallR (X : Cx) (f : Value) (r : List V → Hp → VK → Prop) : Prop :=
  ∀ (pins : List (Addr × Obj)) (s : Shared) (σ : St) (H : Hp) (xs : List V) (us : List Value) (Q : VK), Inv X pins σ H s → Vals xs us → r xs H Q →
    wpAny (model X.prog X.w) X.A (call f us) (EP X pins σ Q) X.xe s
/-- a value's truth -/
def TruR (X : Cx) (r : V → Hp → (Bool → Hp → Prop) → Prop) : Prop :=
  ∀ (pins : List (Addr × Obj)) (s : Shared) (σ : St) (H : Hp) (x : V) (v : Value) (Q : Bool → Hp → Prop), Inv X pins σ H s → RelV x v → r x H Q →
    wpAny (model X.prog X.w) X.A (truthy v) (TP X pins σ Q) X.xe s

def tOp (r : R2) (ta tb : TE) : TE := fun σ H Q => ta σ H fun x H1 => tb σ H1 fun y H2 => r x y H2 Q
def tUn (r : V → Hp → VK → Prop) (ta : TE) : TE := fun σ H Q => ta σ H fun x H1 => r x H1 Q
/-- ints in, under C, and a value out -/
def rI (C : Int → Int → Prop) (g : Int → Int → V) : R2 := fun x y H Q => ∃ i j, x = .int i ∧ y = .int j ∧ C i j ∧ Q (g i j) H
def rI0 (g : Int → Int → V) : R2 := fun x y H Q => ∃ i j, x = .int i ∧ y = .int j ∧ Q (g i j) H
def rU (g : Int → V) : V → Hp → VK → Prop := fun x H Q => ∃ i, x = .int i ∧ Q (g i) H

section
variable {X : Cx} {a b c : Expr} {ta tb tc : TE} {pos : Pos}

theorem binT (ha : PE X a ta) (hb : PE X b tb) {pins : List (Addr × Obj)} {s : Shared} {σ : St} {H : Hp} {R : V → V → Hp → Prop} (I : Inv X pins σ H s)
    (h : ta σ H fun x H1 => tb σ H1 fun y H2 => R x y H2) {Q : Value → Shared → Prop} {f : Value → Value → Sem Value}
    (hf : ∀ v u s2 x y H2, Inv X pins σ H2 s2 → RelV x v → RelV y u → R x y H2 → wpAny (model X.prog X.w) X.A (f v u) Q X.xe s2) :
    wpAny (model X.prog X.w) X.A (eval a X.env) (fun v s₁ => wpAny (model X.prog X.w) X.A (eval b X.env) (fun u s₂ => wpAny (model X.prog X.w) X.A (f v u) Q X.xe s₂) X.xe s₁) X.xe s := by
  refine thn (ha pins s σ H _ I h) fun v s1 ⟨x, H1, I1, r1, q1⟩ => ?_
  refine thn (hb pins s1 σ H1 _ I1 q1) fun u s2 ⟨y, H2, I2, r2, q2⟩ => ?_
  exact hf v u s2 x y H2 I2 r1 r2 q2

theorem pe_op {op : Operator} {r : R2} (ho : OpR X (binaryOp op) r) (ha : PE X a ta) (hb : PE X b tb) : PE X (.BinOp a op b pos) (tOp r ta tb) := by
  intro pins s σ H Q I h
  exact wpAny_BinOp (binT ha hb I h fun v u s2 x y H2 I2 rx ry q => ho pins s2 σ H2 x y v u Q I2 rx ry q)
theorem pe_un {op : UnaryOp} {r : V → Hp → VK → Prop} (ho : UnR X (unaryOp op) r) (ha : PE X a ta) : PE X (.UnaryOp op a pos) (tUn r ta) := by
  intro pins s σ H Q I h
  exact UnaryOp_ (thn (ha pins s σ H _ I h) fun v s1 ⟨x, H1, I1, r1, q1⟩ => ho pins s1 σ H1 x v Q I1 r1 q1)
/-! ### ints -/
theorem opI {f : Value → Value → Sem Value} {C : Int → Int → Prop} {g : Int → Int → Int}
    (rule : ∀ (i j : Int) (t u : Tok) (s : Shared) (Q : Value → Shared → Prop) (E : Value → Shared → Prop), C i j → Q (.int (g i j) s.toks) { s with toks := s.toks + 1 } → wpAny (model X.prog X.w) X.A (f (.int i t) (.int j u)) Q E s) :
    OpR X f (rI C fun i j => .int (g i j)) := by
  intro pins s σ H x y v u Q I rx ry h
  obtain ⟨i, j, rfl, rfl, hc, q⟩ := h
  obtain ⟨t, rfl⟩ := rx
  obtain ⟨t', rfl⟩ := ry
  exact rule i j t t' s _ _ hc ⟨.int (g i j), H, I.tok _, ⟨_, rfl⟩, q⟩
theorem opI0 {f : Value → Value → Sem Value} {g : Int → Int → Int}
    (rule : ∀ (i j : Int) (t u : Tok) (s : Shared) (Q : Value → Shared → Prop) (E : Value → Shared → Prop), Q (.int (g i j) s.toks) { s with toks := s.toks + 1 } → wpAny (model X.prog X.w) X.A (f (.int i t) (.int j u)) Q E s) :
    OpR X f (rI0 fun i j => .int (g i j)) := by
  intro pins s σ H x y v u Q I rx ry h
  obtain ⟨i, j, rfl, rfl, q⟩ := h
  obtain ⟨t, rfl⟩ := rx
  obtain ⟨t', rfl⟩ := ry
  exact rule i j t t' s _ _ ⟨.int (g i j), H, I.tok _, ⟨_, rfl⟩, q⟩
theorem opB0 {f : Value → Value → Sem Value} {g : Int → Int → Bool}
    (rule : ∀ (i j : Int) (t u : Tok) (s : Shared) (Q : Value → Shared → Prop) (E : Value → Shared → Prop), Q (.bool (g i j)) s → wpAny (model X.prog X.w) X.A (f (.int i t) (.int j u)) Q E s) :
    OpR X f (rI0 fun i j => .bl (g i j)) := by
  intro pins s σ H x y v u Q I rx ry h
  obtain ⟨i, j, rfl, rfl, q⟩ := h
  obtain ⟨t, rfl⟩ := rx
  obtain ⟨t', rfl⟩ := ry
  exact rule i j t t' s _ _ ⟨.bl (g i j), H, I, rfl, q⟩

def CDiv (i j : Int) : Prop := 0 < j ∧ j < 1073741824
def CDivN (i j : Int) : Prop := j ≠ 0 ∧ j.natAbs < 1073741824
def CPow (i j : Int) : Prop := 0 ≤ j ∧ j ≤ 1000000 ∧ i.natAbs < 2 ^ 64
def CMul (i j : Int) : Prop := (-(2 ^ 64) < i ∧ i < 2 ^ 64) ∨ (-(2 ^ 64) < j ∧ j < 2 ^ 64)
theorem op_add : OpR X (binaryOp .Add) (rI0 fun i j => .int (i + j)) := opI0 fun _ _ _ _ _ _ _ q => add_int q
theorem op_sub : OpR X (binaryOp .Sub) (rI0 fun i j => .int (i - j)) := opI0 fun _ _ _ _ _ _ _ q => sub_int q
/-- % by a positive divisor of any size -/
theorem op_mod : OpR X (binaryOp .Mod) (rI (fun _ j => 0 < j) fun i j => .int (i % j)) := opI fun i j _ _ _ _ _ hc q => by
  have h1 : (0 : Int) < j := hc
  exact mod_int' (by omega) (by rw [Int.fmod_eq_emod_of_nonneg i (by omega)]; exact q)
theorem op_pow : OpR X (binaryOp .Pow) (rI CPow fun i j => .int (i ^ j.toNat)) := opI fun _ _ _ _ _ _ _ hc q => pow_int_small hc.1 hc.2.1 hc.2.2 q
theorem unI {f : Value → Sem Value} {g : Int → Int}
    (rule : ∀ (i : Int) (t : Tok) (s : Shared) (Q : Value → Shared → Prop) (E : Value → Shared → Prop), Q (.int (g i) s.toks) { s with toks := s.toks + 1 } → wpAny (model X.prog X.w) X.A (f (.int i t)) Q E s) :
    UnR X f (rU fun i => .int (g i)) := by
  intro pins s σ H x v Q I rx h
  obtain ⟨i, rfl, q⟩ := h
  obtain ⟨t, rfl⟩ := rx
  exact rule i t s _ _ ⟨.int (g i), H, I.tok _, ⟨_, rfl⟩, q⟩
theorem un_neg : UnR X (unaryOp .USub) (rU fun i => .int (-i)) := unI fun _ _ _ _ _ q => neg_int q
/-! ### bools among ints: n += (a < b) -/
end

/-! ### comparisons -/
/-- the scalars that == tells apart as data does -/
def scal : V → V → Bool
  | .non, .non => true | .non, .int _ => true | .int _, .non => true | .non, .bl _ => true | .bl _, .non => true | .non, .str _ => true | .str _, .non => true
  | .int _, .int _ => true | .bl _, .bl _ => true | .str _, .str _ => true | .byt _, .byt _ => true
  | .int _, .str _ => true | .str _, .int _ => true | .bl _, .str _ => true | .str _, .bl _ => true
  | _, _ => false
def rEq : R2 := fun x y H Q => scal x y = true ∧ Q (.bl (decide (x = y))) H
def rNe : R2 := fun x y H Q => scal x y = true ∧ Q (.bl (!decide (x = y))) H

theorem dec_int {i j : Int} : decide (V.int i = V.int j) = (i == j) := by
  rw [Bool.eq_iff_iff]
  simp
theorem dec_bl {i j : Bool} : decide (V.bl i = V.bl j) = (i == j) := by
  rw [Bool.eq_iff_iff]
  simp
theorem dec_str {i j : Str} : decide (V.str i = V.str j) = (i == j) := by
  rw [Bool.eq_iff_iff]
  simp
theorem dec_byt {i j : Array UInt8} : decide (V.byt i = V.byt j) = (i.toList == j.toList) := by
  rw [Bool.eq_iff_iff]
  cases i
  cases j
  simp

section
variable {X : Cx} {a b c : Expr} {ta tb tc : TE} {pos : Pos}
theorem fin_bl {pins : List (Addr × Obj)} {σ : St} {H : Hp} {s : Shared} {Q : VK} {k k' : Bool} (I : Inv X pins σ H s) (q : Q (.bl k) H) (e : k = k') : EP X pins σ Q (.bool k') s := by
  subst e
  exact ⟨.bl k, H, I, rfl, q⟩
theorem op_eq : OpR X (compareOp .Eq) rEq := by
  intro pins s σ H x y v u Q I rx ry h
  obtain ⟨hs, q⟩ := h
  cases x with
  | non =>
    cases rx
    cases y with
    | non => cases ry; exact PySem.EqNone.eq_none_none (fin_bl I q (by simp))
    | bl j => cases ry; exact PySem.EqNone.eq_none_bool (fin_bl I q (by simp))
    | int j => obtain ⟨t', rfl⟩ := ry; exact PySem.EqNone.eq_none_int (fin_bl I q (by simp))
    | str j => obtain ⟨t', rfl⟩ := ry; exact PySem.EqNone.eq_none_str (fin_bl I q (by simp))
    | _ => exact absurd (show false = true from hs) Bool.false_ne_true
  | bl i =>
    cases rx
    cases y with
    | non => cases ry; exact PySem.EqNone.eq_bool_none (fin_bl I q (by simp))
    | bl j => cases ry; exact eq_bool (fin_bl I q dec_bl)
    | str j => obtain ⟨t', rfl⟩ := ry; exact PySem.EqMixed.eq_bool_str (fin_bl I q (by simp))
    | _ => exact absurd (show false = true from hs) Bool.false_ne_true
  | int i =>
    obtain ⟨t, rfl⟩ := rx
    cases y with
    | non => cases ry; exact PySem.EqNone.eq_int_none (fin_bl I q (by simp))
    | int j => obtain ⟨t', rfl⟩ := ry; exact eq_int (fin_bl I q dec_int)
    | str j => obtain ⟨t', rfl⟩ := ry; exact PySem.EqMixed.eq_int_str (fin_bl I q (by simp))
    | _ => exact absurd (show false = true from hs) Bool.false_ne_true
  | str i =>
    obtain ⟨t, rfl⟩ := rx
    cases y with
    | non => cases ry; exact PySem.EqNone.eq_str_none (fin_bl I q (by simp))
    | bl j => cases ry; exact PySem.EqMixed.eq_str_bool (fin_bl I q (by simp))
    | int j => obtain ⟨t', rfl⟩ := ry; exact PySem.EqMixed.eq_str_int (fin_bl I q (by simp))
    | str j => obtain ⟨t', rfl⟩ := ry; exact eq_str (fin_bl I q dec_str)
    | _ => exact absurd (show false = true from hs) Bool.false_ne_true
  | byt i =>
    obtain ⟨t, rfl⟩ := rx
    cases y with
    | byt j => obtain ⟨t', rfl⟩ := ry; exact PySem.W.eq_bytes (fin_bl I q dec_byt)
    | _ => exact absurd (show false = true from hs) Bool.false_ne_true
  | _ => cases y <;> exact absurd (show false = true from hs) Bool.false_ne_true
theorem op_ne : OpR X (compareOp .NotEq) rNe := by
  intro pins s σ H x y v u Q I rx ry h
  obtain ⟨hs, q⟩ := h
  cases x with
  | non =>
    cases rx
    cases y with
    | non => cases ry; exact PySem.EqNone.ne_none_none (fin_bl I q (by simp))
    | bl j => cases ry; exact PySem.EqNone.ne_none_bool (fin_bl I q (by simp))
    | int j => obtain ⟨t', rfl⟩ := ry; exact PySem.EqNone.ne_none_int (fin_bl I q (by simp))
    | str j => obtain ⟨t', rfl⟩ := ry; exact PySem.EqNone.ne_none_str (fin_bl I q (by simp))
    | _ => exact absurd (show false = true from hs) Bool.false_ne_true
  | bl i =>
    cases rx
    cases y with
    | non => cases ry; exact PySem.EqNone.ne_bool_none (fin_bl I q (by simp))
    | bl j => cases ry; exact ne_bool (fin_bl I q (congrArg not dec_bl))
    | str j => obtain ⟨t', rfl⟩ := ry; exact PySem.EqMixed.ne_bool_str (fin_bl I q (by simp))
    | _ => exact absurd (show false = true from hs) Bool.false_ne_true
  | int i =>
    obtain ⟨t, rfl⟩ := rx
    cases y with
    | non => cases ry; exact PySem.EqNone.ne_int_none (fin_bl I q (by simp))
    | int j => obtain ⟨t', rfl⟩ := ry; exact ne_int (fin_bl I q (congrArg not dec_int))
    | str j => obtain ⟨t', rfl⟩ := ry; exact PySem.EqMixed.ne_int_str (fin_bl I q (by simp))
    | _ => exact absurd (show false = true from hs) Bool.false_ne_true
  | str i =>
    obtain ⟨t, rfl⟩ := rx
    cases y with
    | non => cases ry; exact PySem.EqNone.ne_str_none (fin_bl I q (by simp))
    | bl j => cases ry; exact PySem.EqMixed.ne_str_bool (fin_bl I q (by simp))
    | int j => obtain ⟨t', rfl⟩ := ry; exact PySem.EqMixed.ne_str_int (fin_bl I q (by simp))
    | str j => obtain ⟨t', rfl⟩ := ry; exact ne_str (fin_bl I q (congrArg not dec_str))
    | _ => exact absurd (show false = true from hs) Bool.false_ne_true
  | byt i =>
    obtain ⟨t, rfl⟩ := rx
    cases y with
    | byt j => obtain ⟨t', rfl⟩ := ry; exact PySem.W.ne_bytes (fin_bl I q (congrArg not dec_byt))
    | _ => exact absurd (show false = true from hs) Bool.false_ne_true
  | _ => cases y <;> exact absurd (show false = true from hs) Bool.false_ne_true

theorem op_lt : OpR X (compareOp .Lt) (rI0 fun i j => .bl (decide (i < j))) := opB0 fun _ _ _ _ _ _ _ q => lt_int q
theorem op_gt : OpR X (compareOp .Gt) (rI0 fun i j => .bl (decide (j < i))) := opB0 fun _ _ _ _ _ _ _ q => gt_int q
/-- is, is not of two objects that are tracked lists or instances -/
def isObj : HO → Bool
  | .lst _ => true
  | .ins _ _ _ => true
  | _ => false
theorem nomark (b : Expr) {op : CmpOp} (h : op ≠ .In := by decide) (h2 : op ≠ .NotIn := by decide) : behindInMarks op b = false := by
  have e1 : (op == CmpOp.In) = false := by cases op <;> first | rfl | exact absurd rfl h
  have e2 : (op == CmpOp.NotIn) = false := by cases op <;> first | rfl | exact absurd rfl h2
  cases b <;> simp [behindInMarks, e1, e2]
/-- a comparison as a value; hm: nomark b, or (for in, not in) by with_unfolding_all rfl -/
theorem pe_cmpR {op : CmpOp} {r : R2} (ho : OpR X (compareOp op) r) (ha : PE X a ta) (hb : PE X b tb) (hm : behindInMarks op b = false) : PE X (.Compare a [op] [b] pos) (tOp r ta tb) := by
  intro pins s σ H Q I h
  exact wpAny_Compare1 (binT ha hb I h fun v u s2 x y H2 I2 rx ry q => ho pins s2 σ H2 x y v u Q I2 rx ry q) hm
/-- a reading of a value as a test -/
def tTest (t : TE) : TT := fun σ H Q => t σ H fun x H' => ∃ k, x = .bl k ∧ Q k H'
theorem pt_cmpR {op : CmpOp} {r : R2} (ho : OpR X (compareOp op) r) (ha : PE X a ta) (hb : PE X b tb) (hm : behindInMarks op b = false) : PT X (.Compare a [op] [b] pos) (tTest (tOp r ta tb)) := by
  intro pins s σ H Q I h
  refine wpAny_isTrue_Compare1 (thn (ha pins s σ H _ I h) fun v s1 ⟨x, H1, I1, r1, q1⟩ => thn (hb pins s1 σ H1 _ I1 q1) fun u s2 ⟨y, H2, I2, r2, q2⟩ =>
    thn (ho pins s2 σ H2 x y v u _ I2 r1 r2 q2) fun c s3 ⟨z, H3, I3, r3, k, e, q3⟩ => ?_) hm
  subst e
  cases r3
  exact wpAny_truthy_bool ⟨H3, I3, q3⟩
/-- a op1 b op2 c -/
def tChain (r r' : R2) (ta tb tc : TE) : TE := fun σ H Q => ta σ H fun x H1 => tb σ H1 fun y H2 => r x y H2 fun z H3 => ∃ k, z = .bl k ∧
  (if k = true then tc σ H3 fun w' H4 => r' y w' H4 Q else Q (.bl false) H3)
/-! ### truth -/
/-- a value's truth by the abstract heap -/
def TruV (K : PySem.W.Frag) (x : V) (H : Hp) (k : Bool) : Prop :=
  match x with
  | .non => k = false
  | .bl b => k = b
  | .int i => k = (i != 0)
  | .str y => y.length ≤ sizeLine ∧ k = ((y.length : Int) != 0)
  | .byt y => y.size ≤ sizeLine ∧ k = ((y.size : Int) != 0)
  | .ref p => (∃ xs, SqL K H p xs ∧ k = !xs.isEmpty) ∨ (∃ xs, SqT K H p xs ∧ k = !xs.isEmpty) ∨ ∃ kvs, H p = some (.dK kvs) ∧ k = !kvs.isEmpty
  | _ => False
theorem line63 : (sizeLine : Nat) < 2 ^ 63 := by rw [sizeLine_eq]; decide
/-! ### strs and bytes -/
theorem op_add_str : OpR X (binaryOp .Add) (fun x y H Q => ∃ i j, x = .str i ∧ y = .str j ∧ i.length + j.length ≤ sizeLine ∧ Q (.str (i ++ j)) H) := by
  intro pins s σ H x y v u Q I rx ry h
  obtain ⟨i, j, rfl, rfl, hz, q⟩ := h
  obtain ⟨t, rfl⟩ := rx
  obtain ⟨t', rfl⟩ := ry
  exact add_str (fun t' tk => ⟨.str (i ++ j), H, I.tok _, ⟨_, rfl⟩, q⟩) hz
def PlainIxT (b : Expr) : Prop := ∀ o i, subscripted b false o i = operate [o, i] (getItem o i)
/-! ### scalar builtins, by CallR -/
theorem vals1 {x : V} {us : List Value} (r : Vals [x] us) : ∃ u, us = [u] ∧ RelV x u := by
  cases r with
  | cons r1 r2 => cases r2; exact ⟨_, rfl, r1⟩
theorem vals2 {x y : V} {us : List Value} (r : Vals [x, y] us) : ∃ u w', us = [u, w'] ∧ RelV x u ∧ RelV y w' := by
  cases r with
  | cons r1 r2 =>
    cases r2 with
    | cons r3 r4 => cases r4; exact ⟨_, _, rfl, r1, r3⟩
theorem call_abs : CallR X (.builtin "abs") (fun xs H Q => ∃ i, xs = [.int i] ∧ Q (.int (if i < 0 then -i else i)) H) := by
  intro pins s σ H xs us Q I r h
  obtain ⟨i, rfl, q⟩ := h
  obtain ⟨u, rfl, t, rfl⟩ := vals1 r
  exact call_abs_int fun u tk => ⟨.int (if i < 0 then -i else i), H, I.tok _, ⟨_, rfl⟩, q⟩
theorem call_max2 (hc : X.calm = true) : CallR X (.builtin "max") (fun xs H Q => ∃ i j, xs = [.int i, .int j] ∧ Q (.int (if j > i then j else i)) H) := by
  intro pins s σ H xs us Q I r h
  obtain ⟨i, j, rfl, q⟩ := h
  obtain ⟨u, w', rfl, ⟨t, rfl⟩, ⟨t', rfl⟩⟩ := vals2 r
  refine max_two_ints (I.ok.hd hc) fun h' tk k => ⟨_, H, I.kept k, ?_, q⟩
  by_cases hj : j > i
  · rw [if_pos hj, if_pos hj]; exact ⟨_, rfl⟩
  · rw [if_neg hj, if_neg hj]; exact ⟨_, rfl⟩
/-- len of a str, a bytes, a list, a tuple -/
def LenV (K : PySem.W.Frag) (x : V) (H : Hp) (n : Nat) : Prop :=
  match x with
  | .str y => y.length ≤ sizeLine ∧ n = y.length
  | .byt y => y.size ≤ sizeLine ∧ n = y.size
  | .ref p => (∃ xs, SqL K H p xs ∧ n = xs.length) ∨ ∃ xs, SqT K H p xs ∧ n = xs.length
  | _ => False
end
end L2

namespace L2
open PySem PySem.Spec PyProof.Rows

/-! ### an instance, its attributes a map -/
structure ObjM (h : Heap) (x dx C : Addr) (mA : Str → Option Value) : Prop where
  obj : h.get? x = some (PySem.W.instObj C dx)
  ns : h.Ns1 dx mA
  ne : dx ≠ x

theorem lookIn_ns {h : Heap} {dx : Addr} {mA : Str → Option Value} (n : h.Ns1 dx mA) : ∃ od, h.get? dx = some od ∧ ∀ name, PySem.W.lookIn name od = some (mA name) := by
  obtain ⟨o, es, ep, ho, hd, hk, _, hm⟩ := n
  refine ⟨o, ho, fun name => ?_⟩
  have e := hm name
  unfold nsFind findBy at e
  rw [← Array.find?_toList] at e
  unfold PySem.W.lookIn
  rw [hd]
  dsimp only
  split
  · rename_i y q
    rw [q] at e
    exact congrArg some e
  · rename_i q
    rw [q] at e
    have a : es.toList.any (·.refKey) = false := by
      rw [List.any_eq_false]
      intro y hy
      obtain ⟨z, t, hkey⟩ := hk y (Array.mem_toList_iff.mp hy)
      simp [DictEntry.refKey, hkey]
    have a' : ¬ es.toList.any (·.refKey) = true := by rw [a]; exact Bool.false_ne_true
    rw [if_neg a']
    exact congrArg some e

theorem ObjM.look {h : Heap} {x dx C : Addr} {mA : Str → Option Value} (I : ObjM h x dx C mA) : ∃ od, PySem.W.InstAt h x (PySem.W.instObj C dx) C (some od) ∧ ∀ name, PySem.W.lookIn name od = some (mA name) :=
  let ⟨od, ho, hl⟩ := lookIn_ns I.ns
  ⟨od, ⟨I.obj, rfl, rfl, ho⟩, hl⟩

section
variable {prog : Program} {w : World} {A : Around} {E : Value → Shared → Prop} {s : Shared} {K : PySem.W.Frag} {x dx C f : Addr} {mA : Str → Option Value} {name : Str} {v : Value}

theorem get_map {expr : Bool} {Q : Value → Shared → Prop} (X : K.In s.heap) (I : ObjM s.heap x dx C mA) (hg : PySem.W.plainGet K C name = true) (hh : PySem.W.hasDictIn K C = true)
    (ha : PySem.W.findIn K (.ref C) name = some none) (hv : mA name = some v) (hv' : PySem.W.handedIn v = true) (h : Q v { s with toks := s.toks + 1 }) :
    wpAny (model prog w) A (getAttr (.ref x) name expr) Q E s := by
  obtain ⟨od, J, hl⟩ := I.look
  exact PySem.W.get_value X J (PySem.W.plainGet_of hg).1 (PySem.W.findObj_own hh ha rfl (by rw [hl, hv])) hv' h

theorem get_meth {pl : Sem Bool} {Q : Value × List Value → Shared → Prop} (X : K.In s.heap) (I : ObjM s.heap x dx C mA) (hg : PySem.W.plainGet K C name = true)
    (hf : PySem.W.findIn K (.ref C) name = some (some (.ref f))) (ht : PySem.W.isFn K (.ref f) = true) (hv : mA name = none) (h : Q (.ref f, [.ref x]) s) :
    wpAny (model prog w) A (getMethod (.ref x) name pl) Q E s := by
  obtain ⟨od, J, hl⟩ := I.look
  exact PySem.W.method_fn X J (PySem.W.plainGet_of hg).1 (PySem.W.plainGet_of hg).2 hf (beq_iff_eq.mp ht) (by show (PySem.W.lookIn name od).map (·.isSome) = some false; rw [hl, hv]; rfl) h

theorem set_map {ns : List Str} {Q : Unit → Shared → Prop} (X : K.In s.heap) (I : ObjM s.heap x dx C mA)
    (hs : PySem.W.findIn K (.ref C) "__setattr__" = some (some (.builtin "object.__setattr__"))) (hp : PySem.W.plainOver K C = true) (ht : PySem.W.takerIn K C name = some none) (hh : PySem.W.hasDictIn K C = true)
    (hw : PySem.Within mA ns) (hsz : ns.length ≤ sizeLine)
    (h : ∀ h', ObjM h' x dx C (fun y => if y = name then some v else mA y) → Heap.SameBut dx s.heap h' → Q () { s with heap := h', toks := s.toks + 2 }) :
    wpAny (model prog w) A (setAttr (.ref x) name v) Q E s := by
  obtain ⟨od, J, hl⟩ := I.look
  refine PySem.W.set_plain X J hs (PySem.W.osa_open (s := { s with toks := s.toks + 1 }) (r := none) X J hp ht fun b => ?_)
  obtain ⟨cd, hc, hd'⟩ := PySem.W.any_some hh
  have hx : s.heap.get? x = some ⟨.ref C, some dx, .plain, #[]⟩ := I.obj
  refine wpAny_bind (wpAny_pure (wpAny_bind (wpAny_bind (wpAny_loadPart hx (wpAny_bind (PySem.W.Looks.here (s := { s with toks := s.toks + 1 }) (PySem.W.looks_clsIn X hc) ?_))))))
  rw [hd']
  refine wpAny_pure (a := some dx) (wpAny_bind (wpAny_pure (wpAny_bind ?_)))
  refine wpAny_nsSet1 (s := { s with toks := s.toks + 1 }) I.ns fun h' hn2 hs2 => ?_
  obtain ⟨oD, esD, epD, hoD, hdD, hcD⟩ := hn2.count (PySem.Within.cons name v hw)
  refine wpAny_bind (wpAny_lookBehind hoD (by rw [hdD]; exact pastItsLine_dict (Nat.le_trans hcD (by rw [List.length_cons]; omega))) ?_)
  exact wpAny_pure (h _ ⟨(hs2.2 _ (Ne.symm I.ne)).trans I.obj, hn2, I.ne⟩ hs2)

/-- C(..): the dict at the heap's end, the instance behind it; then its __init__ -/
theorem make_map {R : Result → Shared → Prop} {vs : List Value} {kw : List (Str × Value)} (X : K.In s.heap) (hm : PySem.W.makesIn K C = true)
    (hi : PySem.W.findIn K (.ref C) "__init__" = some (some (.ref f))) (hf : PySem.W.typeIn K (.ref f) = some (.type "function"))
    (h : codeAny (model prog w) (A.under (.builtin "type.__call__" ⟨.ref C :: vs, kw⟩)) (.call (.ref f) ⟨.ref (s.heap.objs.size + 1) :: vs, kw⟩) (PySem.W.InitBack (s.heap.objs.size + 1) R)
      { s with heap := (s.heap.push PySem.W.emptyDict).push (PySem.W.instObj C s.heap.objs.size) }) :
    codeAny (model prog w) A (.call (.ref C) ⟨vs, kw⟩) R s := by
  obtain ⟨hh, g, d, t, os⟩ := s
  exact PySem.W.make_core (PySem.W.makes_of X hm) (PySem.W.looks_findIn X hi) (fun self => PySem.W.bind_fn X self hf) (.inl rfl) h
end

/-! ### the attributes as a list of pairs -/
def putF (f : Str) (v : V) : List (Str × V) → List (Str × V)
  | [] => [(f, v)]
  | (g, x) :: r => if g = f then (g, v) :: r else (g, x) :: putF f v r
theorem lookup_putF (f g : Str) (v : V) : ∀ fs : List (Str × V), (putF f v fs).lookup g = if g = f then some v else fs.lookup g
  | [] => by
    show List.lookup g [(f, v)] = _
    by_cases h : g = f
    · have hb : (g == f) = true := beq_iff_eq.mpr h
      simp only [List.lookup, hb, if_pos h]
    · have hb : (g == f) = false := beq_eq_false_iff_ne.mpr h
      simp only [List.lookup, hb, if_neg h]
  | (k, x) :: r => by
    have ih := lookup_putF f g v r
    rw [show putF f v ((k, x) :: r) = (if k = f then (k, v) :: r else (k, x) :: putF f v r) from rfl]
    by_cases hk : k = f
    · rw [if_pos hk]
      by_cases h : g = k
      · have hb : (g == k) = true := beq_iff_eq.mpr h
        simp only [List.lookup, hb, if_pos (h.trans hk)]
      · have hb : (g == k) = false := beq_eq_false_iff_ne.mpr h
        simp only [List.lookup, hb, if_neg (fun e : g = f => h (e.trans hk.symm))]
    · rw [if_neg hk]
      by_cases h : g = k
      · have hb : (g == k) = true := beq_iff_eq.mpr h
        simp only [List.lookup, hb, if_neg (fun e : g = f => hk (h.symm.trans e))]
      · have hb : (g == k) = false := beq_eq_false_iff_ne.mpr h
        simp only [List.lookup, hb]
        exact ih
theorem keys_putF (f : Str) (v : V) : ∀ fs : List (Str × V), f ∈ (putF f v fs).map (·.1) ∧ ∀ g, g ∈ fs.map (·.1) → g ∈ (putF f v fs).map (·.1)
  | [] => ⟨by simp [putF], fun g h => by simp at h⟩
  | (k, x) :: r => by
    obtain ⟨i1, i2⟩ := keys_putF f v r
    rw [show putF f v ((k, x) :: r) = (if k = f then (k, v) :: r else (k, x) :: putF f v r) from rfl]
    by_cases hk : k = f
    · rw [if_pos hk]
      subst hk
      exact ⟨by simp, fun g h => by simpa using h⟩
    · rw [if_neg hk]
      refine ⟨?_, fun g h => ?_⟩
      · rw [List.map_cons]
        exact List.mem_cons_of_mem _ i1
      · rw [List.map_cons] at h ⊢
        rcases List.mem_cons.mp h with e | e
        · exact List.mem_cons.mpr (.inl e)
        · exact List.mem_cons_of_mem _ (i2 g e)
theorem length_putF (f : Str) (v : V) : ∀ fs : List (Str × V), (putF f v fs).length ≤ fs.length + 1
  | [] => by simp [putF]
  | (k, x) :: r => by
    have ih := length_putF f v r
    rw [show putF f v ((k, x) :: r) = (if k = f then (k, v) :: r else (k, x) :: putF f v r) from rfl]
    by_cases hk : k = f
    · rw [if_pos hk, List.length_cons, List.length_cons]; omega
    · rw [if_neg hk, List.length_cons, List.length_cons]; omega

theorem RelO.some_of {v : V} {o : Option Value} (r : RelO (some v) o) : ∃ u, o = some u ∧ RelV v u := by
  cases o with
  | none => exact (show False from r).elim
  | some u => exact ⟨u, rfl, r⟩
theorem RelO.none_of {o : Option Value} (r : RelO none o) : o = none := by
  cases o with
  | none => rfl
  | some u => exact (show False from r).elim
theorem handed_of {v : V} {u : Value} (r : RelV v u) : PySem.W.handedIn u = true := by
  cases v with
  | non => cases (show u = Value.none from r); rfl
  | bl b => cases (show u = Value.bool b from r); rfl
  | int i => obtain ⟨t, e⟩ := (show ∃ t, u = Value.int i t from r); cases e; rfl
  | str x => obtain ⟨t, e⟩ := (show ∃ t, u = Value.str x t from r); cases e; rfl
  | byt b => obtain ⟨t, e⟩ := (show ∃ t, u = Value.bytes b t from r); cases e; rfl
  | flt b => obtain ⟨t, e⟩ := (show ∃ t, u = Value.float b t from r); cases e; rfl
  | ref a => cases (show u = Value.ref a from r); rfl
  | ty n => cases (show u = Value.type n from r); rfl

section
variable {P : Program} {w : World} {H H' : Hp} {h h' : Heap} {a C dx : Addr} {fs fs' : List (Str × V)}
theorem ins_get (hok : HOk P w H h) (e : H a = some (.ins C dx fs)) : ∃ mA, ObjM h a dx C mA ∧ (∀ f, RelO (fs.lookup f) (mA f)) ∧ PySem.Within mA (fs.map (·.1)) ∧ fs.length ≤ 1000 ∧ H dx = some (.own a) := by
  obtain ⟨d, z, ne, ob, mA, n, r, q⟩ := (show ObjOk P w H h a (.ins C dx fs) from hok a _ e)
  exact ⟨mA, ⟨ob, n, ne⟩, r, q, z, d⟩
end

/-! ### what of the text a class must have -/
structure Cls (K : PySem.W.Frag) (C : Addr) : Prop where
  pg : PySem.W.plainGet K C Str.empty = true
  hd : PySem.W.hasDictIn K C = true
  po : PySem.W.plainOver K C = true
  sa : PySem.W.findIn K (.ref C) "__setattr__" = some (some (.builtin "object.__setattr__"))
theorem Cls.get {K : PySem.W.Frag} {C : Addr} (c : Cls K C) (f : Str) : PySem.W.plainGet K C f = true := c.pg
/-- no class of it has the name -/
def NoAttr (K : PySem.W.Frag) (C : Addr) (f : Str) : Prop := PySem.W.findIn K (.ref C) f = some none
theorem NoAttr.taker {K : PySem.W.Frag} {C : Addr} {f : Str} (n : NoAttr K C f) : PySem.W.takerIn K C f = some none := by
  unfold PySem.W.takerIn
  rw [show PySem.W.findIn K (.ref C) f = some none from n]
  rfl
/-- a constant of the class -/
structure Con (K : PySem.W.Frag) (C : Addr) (f : Str) (v : V) (u : Value) : Prop where
  at_ : PySem.W.findIn K (.ref C) f = some (some u)
  rel : RelV v u
  get : PySem.W.specialIn K u "__get__" = some none
  cp : PySem.W.copiedNames.contains f = false
/-- a method: a plain def of the class or of one above it -/
structure Meth (K : PySem.W.Frag) (C : Addr) (m : Str) (f : Addr) : Prop where
  at_ : PySem.W.findIn K (.ref C) m = some (some (.ref f))
  fn : PySem.W.isFn K (.ref f) = true
  kp : PySem.W.keepIn K (.ref f) = true

section
variable {X : Cx} {pins : List (Addr × Obj)} {σ : St} {H : Hp} {s : Shared} {a C dx : Addr} {fs : List (Str × V)} {f : Str} {v : V} {A : Around} {E : Value → Shared → Prop}

theorem getattr_ok {b : Bool} {Q : Value → Shared → Prop} (I : Inv X pins σ H s) (e : H a = some (.ins C dx fs)) (c : Cls X.K C) (n : NoAttr X.K C f) (l : fs.lookup f = some v)
    (h : ∀ u s', Inv X pins σ H s' → RelV v u → Q u s') : wpAny (model X.prog X.w) A (getAttr (.ref a) f b) Q E s := by
  obtain ⟨mA, O, r, _, _, _⟩ := ins_get I.hok e
  obtain ⟨u, hu, ru⟩ := RelO.some_of (v := v) (o := mA f) (by rw [← l]; exact r f)
  exact get_map I.kIn O (c.get f) c.hd n hu (handed_of ru) (h u _ (I.tok _) ru)

theorem getmeth_ok {m : Str} {g : Addr} {pl : Sem Bool} {Q : Value × List Value → Shared → Prop} (I : Inv X pins σ H s) (e : H a = some (.ins C dx fs)) (c : Cls X.K C) (k : Meth X.K C m g) (l : fs.lookup m = none)
    (h : Q (.ref g, [.ref a]) s) : wpAny (model X.prog X.w) A (getMethod (.ref a) m pl) Q E s := by
  obtain ⟨mA, O, r, _, _, _⟩ := ins_get I.hok e
  have hn : mA m = none := RelO.none_of (by rw [← l]; exact r m)
  exact get_meth I.kIn O (c.get m) k.at_ k.fn hn h

theorem setattr_ok {y : V} {u : Value} {Q : Unit → Shared → Prop} (I : Inv X pins σ H s) (e : H a = some (.ins C dx fs)) (c : Cls X.K C) (n : NoAttr X.K C f) (hl : fs.length < 1000) (ry : RelV y u)
    (h : ∀ s', Inv X pins σ (upd H a (.ins C dx (putF f y fs))) s' → Q () s') : wpAny (model X.prog X.w) A (setAttr (.ref a) f u) Q E s := by
  obtain ⟨mA, O, r, wi, _, ho⟩ := ins_get I.hok e
  have hz : (fs.map (·.1)).length ≤ sizeLine := by rw [List.length_map, sizeLine_eq]; omega
  refine set_map I.kIn O c.sa c.po n.taker c.hd wi hz fun h' O' sb => h _ ?_
  have hd : ∃ o, h'.get? dx = some o := let ⟨o, _, _, e', _⟩ := O'.ns; ⟨o, e'⟩
  refine I.write (x := a) (e := dx) (by rw [e]; exact True.intro) (.inr ho) (fun b q hb z => (sb.2 b hb).trans z) hd ?_
  refine ⟨by rw [upd_ne O.ne]; exact ho, ?_, O.ne, O'.obj, _, O'.ns, fun g => ?_, fun g hg => ?_⟩
  · have := length_putF f y fs; omega
  · show RelO ((putF f y fs).lookup g) (if g = f then some u else mA g)
    rw [lookup_putF]
    by_cases q : g = f
    · rw [if_pos q, if_pos q]; exact ry
    · rw [if_neg q, if_neg q]; exact r g
  · by_cases q : g = f
    · rw [q]; exact (keys_putF f y fs).1
    · refine (keys_putF f y fs).2 g (wi g fun z => hg ?_)
      show (if g = f then some u else mA g) = none
      rw [if_neg q]; exact z

/-- a new instance, tracked, without attributes -/
theorem Inv.made (I : Inv X pins σ H s) : Inv X pins σ (upd (upd H s.heap.objs.size (.own (s.heap.objs.size + 1))) (s.heap.objs.size + 1) (.ins C s.heap.objs.size []))
    { s with heap := (s.heap.push PySem.W.emptyDict).push (PySem.W.instObj C s.heap.objs.size) } := by
  have e1 : (s.heap.push PySem.W.emptyDict).get? s.heap.objs.size = some PySem.W.emptyDict := Heap.get?_push_size s.heap rfl
  have e2 : ((s.heap.push PySem.W.emptyDict).push (PySem.W.instObj C s.heap.objs.size)).get? (s.heap.objs.size + 1) = some (PySem.W.instObj C s.heap.objs.size) := by
    have := Heap.get?_push_size (s.heap.push PySem.W.emptyDict) (o := PySem.W.instObj C s.heap.objs.size) rfl
    rwa [Heap.size_push] at this
  have e3 : (s.heap.push PySem.W.emptyDict).Ns s.heap.objs.size (fun _ => none) := ⟨PySem.W.emptyDict, #[], _, e1, rfl, (fun e he => absurd he (by simp)), fun _ => rfl⟩
  have I1 := I.laid (a := s.heap.objs.size) (o := .own (s.heap.objs.size + 1)) (h' := s.heap.push PySem.W.emptyDict) (t' := s.toks) (fun b u q => Heap.get?_push_of_some _ q) (Nat.le_refl _) ⟨_, e1⟩
  refine I1.laid (a := s.heap.objs.size + 1) (o := .ins C s.heap.objs.size []) (t' := s.toks) (fun b u q => Heap.get?_push_of_some _ q) (Nat.le_of_eq (Heap.size_push _ _)) ?_
  have ne : s.heap.objs.size ≠ s.heap.objs.size + 1 := Nat.ne_of_lt (Nat.lt_succ_self _)
  refine ⟨by rw [upd_ne ne, upd_same], Nat.zero_le _, ne, e2, fun _ => none, (Heap.Ns1.of_empty e3).at fun o q => Heap.get?_push_of_some _ q, fun _ => True.intro, fun y hy => absurd rfl hy⟩

/-- e.f where nothing but the object is asked: through attributeBase (super) and the last hold -/
theorem attr_of {prog : Program} {w : World} {env : Env} {e : Expr} {f : Str} {pos : Pos} {s : Shared} {Q : Value → Shared → Prop} (hb : attributeBase e f env (eval e env) = eval e env)
    (h : wpAny (model prog w) A (eval e env) (fun o s₁ => wpAny (model prog w) A (getAttr o f true) Q E s₁) E s) : wpAny (model prog w) A (eval (.Attribute e f pos) env) Q E s :=
  Attribute_any_ h (by rw [arm_eval_Attribute, hb])
end

/-! ### readings and rules -/
/-- e.f, an attribute of the instance -/
def tFld (K : PySem.W.Frag) (ta : TE) (f : Str) : TE := fun σ H Q => ta σ H fun x H1 => ∃ a C dx fs v, x = .ref a ∧ H1 a = some (.ins C dx fs) ∧ Cls K C ∧ NoAttr K C f ∧ fs.lookup f = some v ∧ Q v H1
/-- e.f, a constant of the class -/
def tCon (K : PySem.W.Frag) (ta : TE) (f : Str) : TE := fun σ H Q => ta σ H fun x H1 => ∃ a C dx fs v u, x = .ref a ∧ H1 a = some (.ins C dx fs) ∧ Cls K C ∧ Con K C f v u ∧ fs.lookup f = none ∧ Q v H1
/-- e.f = value -/
def sFld (K : PySem.W.Frag) (ta tv : TE) (f : Str) : TS := fun D σ H => tv σ H fun y H1 => ta σ H1 fun x H2 => ∃ a C dx fs, x = .ref a ∧ H2 a = some (.ins C dx fs) ∧ Cls K C ∧ NoAttr K C f ∧ fs.length < 1000 ∧
  D.nx σ (upd H2 a (.ins C dx (putF f y fs)))
/-- an augmented operator on two values -/
def InOp (X : Cx) (op : Operator) (rd : V → V → Hp → VK → Prop) : Prop :=
  ∀ (pins : List (Addr × Obj)) (s : Shared) (σ : St) (H : Hp) (x y : V) (u v : Value) (Q : VK), Inv X pins σ H s → RelV x u → RelV y v → rd x y H Q → wpAny (model X.prog X.w) X.A (inplaceOp op u v) (EP X pins σ Q) X.xe s
/-- e.f op= value -/
def sFldAug (K : PySem.W.Frag) (ta tv : TE) (rd : V → V → Hp → VK → Prop) (f : Str) : TS := fun D σ H => ta σ H fun x H1 => ∃ a C dx fs v, x = .ref a ∧ H1 a = some (.ins C dx fs) ∧ Cls K C ∧ NoAttr K C f ∧ fs.lookup f = some v ∧
  tv σ H1 fun y H2 => rd v y H2 fun z H3 => ∃ dx' fs', H3 a = some (.ins C dx' fs') ∧ fs'.length < 1000 ∧ D.nx σ (upd H3 a (.ins C dx' (putF f z fs')))

section
variable {X : Cx} {o e value : Expr} {f : Str} {pos pos' tpos : Pos} {ta tv : TE}
theorem pe_fld (he : PE X e ta) (hb : attributeBase e f X.env (eval e X.env) = eval e X.env) : PE X (.Attribute e f pos) (tFld X.K ta f) := by
  intro pins s σ H Q I h
  refine attr_of hb (thn (he pins s σ H _ I h) fun u s1 ⟨x, H1, I1, rx, a, C, dx, fs, v, ex, ea, c, n, l, q⟩ => ?_)
  subst ex
  obtain rfl : u = Value.ref a := rx
  exact getattr_ok I1 ea c n l fun u' s2 I2 ru => ⟨v, H1, I2, ru, q⟩
theorem ps_fld (ha : PE X o ta) (hv : PE X value tv) (hs : swapsWith value (some (.Attribute o f pos')) pos.line X.env = pure false) : PS X (.Assign [.Attribute o f pos'] value pos) (sFld X.K ta tv f) := by
  intro pins s σ H D I h
  refine plainObj_wpAny_Assign_Attribute (thn (hv pins s σ H _ I h) fun u s1 ⟨y, H1, I1, ry, q⟩ => thn (ha pins s1 σ H1 _ I1 q) fun ov s2 ⟨x, H2, I2, rx, a, C, dx, fs, ex, ea, c, n, l, q2⟩ => ?_) hs
  subst ex
  obtain rfl : ov = Value.ref a := rx
  exact setattr_ok I2 ea c n l ry fun s3 I3 => ⟨σ, _, I3, q2⟩
def rAdd : V → V → Hp → VK → Prop := fun x y H Q => ∃ i j, x = .int i ∧ y = .int j ∧ Q (.int (i + j)) H
def rSub : V → V → Hp → VK → Prop := fun x y H Q => ∃ i j, x = .int i ∧ y = .int j ∧ Q (.int (i - j)) H
end

/-! ### isinstance -/
section
variable {X : Cx} {pins : List (Addr × Obj)} {σ : St} {H : Hp} {s : Shared} {A : Around} {E : Value → Shared → Prop} {Q : Value → Shared → Prop} {c : Value} {b : Bool}
/-- the type of a value, as the fragment's deciders take it; for an instance its class -/
inductive TyOf (K : PySem.W.Frag) (H : Hp) : V → Value → Prop where
  | non : TyOf K H .non (.type "NoneType")
  | bl (x : Bool) : TyOf K H (.bl x) (.type "bool")
  | int (i : Int) : TyOf K H (.int i) (.type "int")
  | str (x : Str) : TyOf K H (.str x) (.type "str")
  | flt (x : UInt64) : TyOf K H (.flt x) (.type "float")
  | lst {a : Addr} {xs : List V} (e : H a = some (.lst xs)) : TyOf K H (.ref a) (.type "list")
  | frz {a : Addr} {o : Obj} {xs : List V} (e : H a = some (.frz o (.lst xs))) : TyOf K H (.ref a) (.type "list")
  | tup {a : Addr} {xs : List V} (e : H a = some (.tup xs)) : TyOf K H (.ref a) (.type "tuple")
  | dK {a : Addr} {kvs : List (Key × V)} (e : H a = some (.dK kvs)) : TyOf K H (.ref a) (.type "dict")
  | dT {a : Addr} {kvs : List (List Key × V)} (e : H a = some (.dT kvs)) : TyOf K H (.ref a) (.type "dict")
  | ins {a C dx : Addr} {fs : List (Str × V)} (e : H a = some (.ins C dx fs)) (cl : Cls K C) (ha : PySem.W.findIn K (.ref C) "__class__" = some (some (.builtin "object.__class__")))
      (hn : PySem.W.specialIn K (.builtin "object.__class__") "__get__" = some (some (.builtin "getset_descriptor.__get__"))) (htk : PySem.W.takesIn K (.builtin "object.__class__") = some true)
      (hm : PySem.W.mroIn K C (.type "object") = some true) : TyOf K H (.ref a) (.ref C)
/-- isinstance(x, c) for one class c, a built-in or an own one: kitOne's answer -/
theorem isinst_ok {x : V} {u t : Value} (I : Inv X pins σ H s) (rx : RelV x u) (ty : TyOf X.K H x t) (e : PySem.W.kitOne X.K t c = some b) (h : ∀ tk, Q (.bool b) { s with toks := tk }) :
    wpAny (model X.prog X.w) A (call (.builtin "isinstance") [u, c]) Q E s := by
  cases ty with
  | non => cases (show u = Value.none from rx); exact PySem.W.kia_one PySem.W.kitx_none I.kIn True.intro e (fun z => nomatch z) h
  | bl y => cases (show u = Value.bool y from rx); exact PySem.W.kia_one PySem.W.kitx_bool I.kIn True.intro e (fun z => nomatch z) h
  | int i => obtain ⟨t, q⟩ := (show ∃ t, u = Value.int i t from rx); cases q; exact PySem.W.kia_one PySem.W.kitx_int I.kIn True.intro e (fun z => nomatch z) h
  | str y => obtain ⟨t, q⟩ := (show ∃ t, u = Value.str y t from rx); cases q; exact PySem.W.kia_one PySem.W.kitx_str I.kIn True.intro e (fun z => nomatch z) h
  | flt y => obtain ⟨t, q⟩ := (show ∃ t, u = Value.float y t from rx); cases q; exact PySem.W.kia_one PySem.W.kitx_float I.kIn True.intro e (fun z => nomatch z) h
  | @lst a xs ea =>
    cases (show u = Value.ref a from rx)
    obtain ⟨_, _, n, _, h1⟩ := (show ObjOk X.prog X.w H s.heap a (.lst xs) from I.hok a _ ea)
    exact PySem.W.kia_one PySem.W.kitx_list I.kIn ⟨_, h1, rfl⟩ e (fun z => nomatch z) h
  | @frz a ob xs ea =>
    cases (show u = Value.ref a from rx)
    obtain ⟨_, _, _, n, _, h1⟩ := (show ObjOk X.prog X.w H s.heap a (.frz ob (.lst xs)) from I.hok a _ ea)
    exact PySem.W.kia_one PySem.W.kitx_list I.kIn ⟨_, h1, rfl⟩ e (fun z => nomatch z) h
  | @tup a xs ea =>
    cases (show u = Value.ref a from rx)
    obtain ⟨_, _, _, p⟩ := (show ObjOk X.prog X.w H s.heap a (.tup xs) from I.hok a _ ea)
    obtain ⟨o, h1, h2, _⟩ := p
    exact PySem.W.kia_one PySem.W.kitx_tuple I.kIn ⟨o, h1, h2⟩ e (fun z => nomatch z) h
  | @dK a kvs ea =>
    cases (show u = Value.ref a from rx)
    obtain ⟨_, _, vs, _, p⟩ := (show ObjOk X.prog X.w H s.heap a (.dK kvs) from I.hok a _ ea)
    obtain ⟨o, es, ep, h1, h2, _⟩ := p
    exact PySem.W.kia_one PySem.W.kitx_dict I.kIn ⟨o, h1, h2.1⟩ e (fun z => nomatch z) h
  | @dT a kvs ea =>
    cases (show u = Value.ref a from rx)
    obtain ⟨_, _, xs, _, o, es, ep, h1, h2, _⟩ := (show ObjOk X.prog X.w H s.heap a (.dT kvs) from I.hok a _ ea)
    exact PySem.W.kia_one PySem.W.kitx_dict I.kIn ⟨o, h1, h2.1⟩ e (fun z => nomatch z) h
  | @ins a C dx fs ea cl ha hn htk hm =>
    cases (show u = Value.ref a from rx)
    obtain ⟨mA, O, _⟩ := ins_get I.hok ea
    obtain ⟨od, J, _⟩ := O.look
    exact PySem.W.kia_one (PySem.W.kitx_own (cl.get _) cl.hd ha hn htk hm) I.kIn J e (fun z => nomatch z) h
end
end L2

namespace L2
open PySem PySem.Spec PyProof.Rows

/-! ### room -/
structure Room (k : Nat) (A : Around) : Prop where
  hd : A.handled = none
  dp : A.depth + 3 * k + 5 < recursionLimit
  un : A.units + 16 * k + 200 < cLine
  gd : A.guards = some []
theorem Room.mono {j k : Nat} {A : Around} (r : Room k A) (h : j ≤ k) : Room j A := ⟨r.hd, by have := r.dp; omega, by have := r.un; omega, r.gd⟩
theorem Room.deeper {k : Nat} {A : Around} (r : Room (k + 1) A) (env : Env) : Room k (A.deeper env) :=
  ⟨r.hd, by have := r.dp; show A.depth + 1 + 3 * k + 5 < _; omega, by have := r.un; show A.units + 3 + 16 * k + 200 < _; omega, r.gd⟩
theorem make_depth {A : Around} {C : Addr} {us : List Value} {kw : List (Str × Value)} : (A.under (.builtin "type.__call__" ⟨.ref C :: us, kw⟩)).depth = A.depth + 1 := by
  first | rfl | simp [Around.under, Code.weight, Code.isCreation, Code.isGuard, Code.isCaller, Code.frames, Code.isFrame, guardIds]
theorem make_units {A : Around} {C : Addr} {us : List Value} {kw : List (Str × Value)} : (A.under (.builtin "type.__call__" ⟨.ref C :: us, kw⟩)).units = A.units + 1 := by
  first | rfl | simp [Around.under, Code.cUnits, Code.frames, Code.isFrame]
theorem Room.make {k : Nat} {A : Around} (r : Room (k + 1) A) (C : Addr) (us : List Value) (kw : List (Str × Value)) : Room k (A.under (.builtin "type.__call__" ⟨.ref C :: us, kw⟩)) :=
  ⟨r.hd, by have := r.dp; rw [make_depth]; omega, by have := r.un; rw [make_units]; omega, by have := r.gd; first | exact this | simpa [Around.under, Code.isGuard, guardIds] using this⟩
theorem Room.depth {k : Nat} {A : Around} (r : Room k A) : A.depth < recursionLimit := by have := r.dp; omega
theorem Room.units {k : Nat} {A : Around} (r : Room k A) : A.units + 64 < cLine := by have := r.un; omega
theorem Room.units0 {k : Nat} {A : Around} (r : Room k A) : A.units < cLine := by have := r.un; omega

/-! ### argument lists and displays -/
def tNil : TA := fun _ H Q => Q [] H
def tCons (ta : TE) (tr : TA) : TA := fun σ H Q => ta σ H fun x H1 => tr σ H1 fun xs H2 => Q (x :: xs) H2
section
variable {X : Cx} {e : Expr} {es : List Expr} {te : TE} {t : TA} {pos : Pos}
theorem pa_nil : PA X [] tNil := fun _ _ _ _ H Q I h => Calls.spliced_nil ⟨[], H, I, .nil, h⟩
theorem pa_cons (ha : PE X e te) (hr : PA X es t) (hs : starEach (e :: es) X.env = (false, eval e X.env) :: starEach es X.env := by rfl) : PA X (e :: es) (tCons te t) := by
  intro pos pins s σ H Q I h
  rw [hs]
  show wpAny _ _ (spliced ((false, eval e X.env) :: backTo pos (starEach es X.env))) _ _ s
  refine Calls.spliced_cons (thn (ha pins s σ H _ I h) fun u s1 ⟨x, H1, I1, r1, q1⟩ => ?_)
  exact thn (hr pos pins s1 σ H1 _ I1 q1) fun us s2 ⟨xs, H2, I2, r2, q2⟩ => ⟨x :: xs, H2, I2, .cons r1 r2, q2⟩

/-- a tuple, a list of written items -/
def tTup (t : TA) : TE := fun σ H Q => t σ H fun xs H1 => xs.length ≤ sizeLine ∧ ∀ p, H1 p = none → Q (.ref p) (upd H1 p (.tup xs))
def tLst (t : TA) : TE := fun σ H Q => t σ H fun xs H1 => xs.length ≤ sizeLine ∧ ∀ p, H1 p = none → Q (.ref p) (upd H1 p (.lst xs))
theorem pe_tup {x1} (h : PA X es t) : PE X (.Tuple es x1 pos) (tTup t) := by
  intro pins s σ H Q I hq
  refine wpAny_Tuple_spliced (thn (h pos pins s σ H _ I hq) fun us s1 ⟨xs, H1, I1, r, z, q⟩ => ⟨by rw [← r.length]; exact z, ?_⟩)
  have hf : H1 s1.heap.objs.size = none := I1.hok.fresh (Nat.le_refl _)
  refine ⟨.ref s1.heap.objs.size, upd H1 s1.heap.objs.size (.tup xs), I1.laid (t' := s1.toks) (fun b u e => Heap.get?_push_of_some _ e) (Nat.le_refl _) ?_, rfl, q _ hf⟩
  exact ⟨z, us, r, ⟨_, Heap.get?_push_size _ rfl, rfl, _, rfl⟩⟩
theorem pe_lst (h : PA X es t) : PE X (.List es pos) (tLst t) := by
  intro pins s σ H Q I hq
  refine wpAny_List_spliced (thn (h pos pins s σ H _ I hq) fun us s1 ⟨xs, H1, I1, r, z, q⟩ => ⟨by rw [← r.length]; exact z, ?_⟩)
  have hf : H1 s1.heap.objs.size = none := I1.hok.fresh (Nat.le_refl _)
  refine ⟨.ref s1.heap.objs.size, upd H1 s1.heap.objs.size (.lst xs), I1.laid (t' := s1.toks) (fun b u e => Heap.get?_push_of_some _ e) (Nat.le_refl _) ?_, rfl, q _ hf⟩
  exact ⟨z, us, 0, r, Heap.get?_push_size _ rfl⟩
end

/-! ### what a def promises -/
/-- a def's promise: the bound arguments in the parameters' order, the heap, the wanted end, the wanted exception -/
abbrev Sp := List V → Hp → VK → XK → Prop
/-- how an exception lies behind a call (file 08 gives it): the callers' frames, abstract heap and state ahead of the call, the wish, the exception, the state -/
abbrev CXT := List Env → Hp → Shared → XK → Value → Shared → Prop

/-- the state at a call -/
structure Env0 (P : Program) (w : World) (K : PySem.W.Frag) (mg : Str → Option Value) (base : Heap) (A : Around) (outer : List Env) (s : Shared) (H : Hp) : Prop where
  frames : A.frames = some outer
  mod : Mod K mg base
  bs : ∀ b o, base.get? b = some o → s.heap.get? b = some o ∧ H b = none
  bsz : base.objs.size ≤ s.heap.objs.size
  funs : s.heap.FunFrames base outer
  frf : ∀ b ∈ frs outer, H b = none
  hok : HOk P w H s.heap
  bare : AllBare s.gens
/-- a call's end -/
def CE (outer : List Env) (P : Program) (w : World) (H : Hp) (s : Shared) (Q : VK) (u : Value) (s' : Shared) : Prop :=
  ∃ v H', s'.os = s.os ∧ AllBare s'.gens ∧ Un (frs outer) [] H H' s.heap s'.heap ∧ HOk P w H' s'.heap ∧ RelV v u ∧ Q v H'
def CR (CX : CXT) (outer : List Env) (P : Program) (w : World) (H : Hp) (s : Shared) (Q : VK) (E : XK) (r : Result) (s' : Shared) : Prop :=
  match r with
  | .ok (.ret u) => CE outer P w H s Q u s'
  | .ok _ => False
  | .error e => CX outer H s E e s'
structure FnOk (P : Program) (w : World) (K : PySem.W.Frag) (mg : Str → Option Value) (base : Heap) (CX : CXT) (k : Nat) (f : Addr) (fd : FuncData) (ps : List Str) (sp : Sp) : Prop where
  len : ∀ vs H Q E, sp vs H Q E → vs.length = ps.length
  run : ∀ (A : Around) (outer : List Env) (s : Shared) (H : Hp) (args : Args) (us : List Value) (vs : List V) (Q : VK) (E : XK), Room k A → Env0 P w K mg base A outer s H → BindsTo s fd args (ps.zip us) → Vals vs us → sp vs H Q E →
    codeAny (model P w) A (.call (.ref f) args) (CR CX outer P w H s Q E) s
theorem Env0.make {P : Program} {w : World} {K : PySem.W.Frag} {mg : Str → Option Value} {base : Heap} {A : Around} {outer : List Env} {s : Shared} {H : Hp} (e : Env0 P w K mg base A outer s H) (C : Addr) (us : List Value) (kw : List (Str × Value)) :
    Env0 P w K mg base (A.under (.builtin "type.__call__" ⟨.ref C :: us, kw⟩)) outer s H := ⟨by first | exact e.frames | (simpa [Around.under, Code.envs, Code.isFrame, pushEnvs] using e.frames), e.mod, e.bs, e.bsz, e.funs, e.frf, e.hok, e.bare⟩
section
variable {X : Cx} {pins : List (Addr × Obj)} {σ : St} {H : Hp} {s s' : Shared}
/-- from a body: what a callee wants -/
theorem Inv.env0 (I : Inv X pins σ H s) : Env0 X.prog X.w X.K X.mg X.base X.A X.stack s H :=
  ⟨I.ok.frames, I.ok.mod, I.bs, Nat.le_trans I.ok.bsz I.sz, I.stack, I.stkFree, I.hok, I.bare⟩
/-- behind a call -/
theorem Inv.after {Q : VK} {u : Value} (I : Inv X pins σ H s) (h : CE X.stack X.prog X.w H s Q u s') : EP X pins σ Q u s' := by
  obtain ⟨v, H', os, bare, un, hok, r, q⟩ := h
  obtain ⟨hh, g, d, t, os'⟩ := s'
  obtain rfl : os' = s.os := os
  exact ⟨v, H', I.call (h' := hh) (g' := g) (d' := d) (t' := t) (ch := []) un hok bare (fun b z => absurd z (by simp)), r, q⟩
end

/-! ### calls -/
/-- f(..): the written arguments, then the defaults dvs; E: what is wanted of an exception -/
def tCall (sp : Sp) (dvs : List V) (E : XK) (t : TA) : TE := fun σ H Q => t σ H fun vs H1 => sp (vs ++ dvs) H1 Q E
/-- o.m(..) of an instance of the class at C -/
def tMeth (C : Addr) (m : Str) (sp : Sp) (dvs : List V) (E : XK) (ta : TE) (t : TA) : TE := fun σ H Q => ta σ H fun x H1 => ∃ a dx fs, x = .ref a ∧ H1 a = some (.ins C dx fs) ∧ fs.lookup m = none ∧
  t σ H1 fun vs H2 => sp (x :: (vs ++ dvs)) H2 Q E
/-- C(..): a new instance and its dict, then __init__ -/
def tMake (C : Addr) (sp : Sp) (dvs : List V) (E : XK) (t : TA) : TE := fun σ H Q => t σ H fun vs H1 => ∀ x dx, H1 x = none → H1 dx = none → dx ≠ x →
  sp (.ref x :: (vs ++ dvs)) (upd (upd H1 dx (.own x)) x (.ins C dx [])) (fun v H2 => v = .non ∧ Q (.ref x) H2) E

/-- how the parameters are bound: us the positional arguments, kw the keywords' values by name, ds the defaults that fill up -/
def Binds (K : PySem.W.Frag) (fd : FuncData) (ps : List Str) (ds : List Value) : Prop :=
  ∀ (s : Shared) (us : List Value), K.In s.heap → (us ++ ds).length = ps.length → BindsTo s fd ⟨us, []⟩ (ps.zip (us ++ ds))
/-- every parameter is given -/
theorem Binds.all {K : PySem.W.Frag} {fd : FuncData} {ps : List Str} (h : ∀ us : List Value, us.length = ps.length → bindArgs fd ⟨us, []⟩ = pure (ps.zip us)) : Binds K fd ps [] := fun s us _ hl => by
  rw [List.append_nil] at hl ⊢
  exact .of_eq (h us hl)

/-- an exception of a callee reaches what this body wants of exceptions -/
def Passes (CX : CXT) (X : Cx) (E : XK) : Prop := ∀ (pins : List (Addr × Obj)) (σ : St) (H : Hp) (s : Shared) (e : Value) (s' : Shared), Inv X pins σ H s → CX X.stack H s E e s' → X.xe e s'

section
variable {X : Cx} {CX : CXT} {k : Nat} {f C : Addr} {fd : FuncData} {ps : List Str} {sp : Sp} {dvs : List V} {ds : List Value} {E : XK} {x m : Str} {p pos apos : Pos} {e o : Expr} {es : List Expr} {ta : TE} {t : TA}

/-- the callee runs -/
theorem run_fn {pins : List (Addr × Obj)} {σ : St} {H : Hp} {s : Shared} {Q : VK} {us : List Value} {vs : List V} (F : FnOk X.prog X.w X.K X.mg X.base CX k f fd ps sp) (hr : Room k X.A) (hb : Binds X.K fd ps ds) (hd : Vals dvs ds) (hx : Passes CX X E)
    (I : Inv X pins σ H s) (r : Vals vs us) (h : sp (vs ++ dvs) H Q E) : wpAny (model X.prog X.w) X.A (call (.ref f) us) (EP X pins σ Q) X.xe s := by
  have r2 : Vals (vs ++ dvs) (us ++ ds) := r.append hd
  have hl : (us ++ ds).length = ps.length := by rw [← r2.length]; exact F.len _ _ _ _ h
  refine wpAny_call (codeAny_mono (F.run X.A X.stack s H ⟨us, []⟩ (us ++ ds) (vs ++ dvs) Q E hr I.env0 (hb s us I.kIn hl) r2 h) fun r s' hq => ?_)
  cases r with
  | error e => exact hx pins σ H s e s' I hq
  | ok fl =>
    cases fl with
    | ret u => exact I.after hq
    | next => exact False.elim hq
    | brk => exact False.elim hq
    | cont => exact False.elim hq

theorem pe_call (F : FnOk X.prog X.w X.K X.mg X.base CX k f fd ps sp) (hr : Room k X.A) (hg : Gl X x) (hm : X.mg x = some (.ref f)) (hk : PySem.W.keepIn X.K (.ref f) = true) (hb : Binds X.K fd ps ds) (hd : Vals dvs ds) (hx : Passes CX X E)
    (ha : PA X (e :: es) t) (hdb : (x == ("__debug__" : Str)) = false := by decide) (he : starEach (e :: es) X.env = (false, eval e X.env) :: starEach es X.env := by rfl) (hpl : (backTo pos (starEach es X.env)).any (·.1) = false := by rfl) :
    PE X (.Call (.Name x p) (e :: es) [] pos) (tCall sp dvs E t) := by
  intro pins s σ H Q I h
  refine wpAny_Call_Name_kw (ld_glob I hg hm ?_ hdb)
  refine PySem.W.callWith_K (h₀ := X.base) I.ok.mod.kin hk (thn (ha pos pins s σ H _ I h) fun us s1 ⟨vs, H1, I1, r, q⟩ => ⟨I1.kIn, ?_⟩) he hpl
  exact run_fn F hr hb hd hx I1 r q
/-- what a class must have to be made -/
structure Mk (K : PySem.W.Frag) (C f : Addr) : Prop where
  makes : PySem.W.makesIn K C = true
  init : PySem.W.findIn K (.ref C) "__init__" = some (some (.ref f))
  fn : PySem.W.isFn K (.ref f) = true
  kp : PySem.W.keepIn K (.ref C) = true

theorem run_make {pins : List (Addr × Obj)} {σ : St} {H : Hp} {s : Shared} {Q : VK} {us : List Value} {vs : List V} (M : Mk X.K C f) (F : FnOk X.prog X.w X.K X.mg X.base CX k f fd ps sp) (hr : Room (k + 1) X.A) (hb : Binds X.K fd ps ds) (hd : Vals dvs ds)
    (hx : Passes CX X E) (I : Inv X pins σ H s) (r : Vals vs us)
    (h : ∀ x dx, H x = none → H dx = none → dx ≠ x → sp (.ref x :: (vs ++ dvs)) (upd (upd H dx (.own x)) x (.ins C dx [])) (fun v H2 => v = .non ∧ Q (.ref x) H2) E) :
    wpAny (model X.prog X.w) X.A (call (.ref C) us) (EP X pins σ Q) X.xe s := by
  have hq := h (s.heap.objs.size + 1) s.heap.objs.size (I.hok.fresh (Nat.le_succ _)) (I.hok.fresh (Nat.le_refl _)) (Nat.ne_of_lt (Nat.lt_succ_self _))
  have I2 := Inv.made (C := C) I
  have r2 : Vals (V.ref (s.heap.objs.size + 1) :: (vs ++ dvs)) (Value.ref (s.heap.objs.size + 1) :: (us ++ ds)) := .cons rfl (r.append hd)
  have hl : (Value.ref (s.heap.objs.size + 1) :: us ++ ds).length = ps.length := by
    have e := r2.length
    rw [F.len _ _ _ _ hq] at e
    exact e.symm
  refine wpAny_call (make_map (f := f) I.kIn M.makes M.init (beq_iff_eq.mp M.fn) (codeAny_mono (F.run _ X.stack _ _ ⟨Value.ref (s.heap.objs.size + 1) :: us, []⟩ (Value.ref (s.heap.objs.size + 1) :: (us ++ ds)) _ _ E (hr.make C us [])
    (I2.env0.make C us []) (hb _ (Value.ref (s.heap.objs.size + 1) :: us) I2.kIn hl) r2 hq) fun r s' hq' => ?_))
  cases r with
  | error e => exact hx pins σ _ _ e s' I2 hq'
  | ok fl =>
    cases fl with
    | ret u =>
      obtain ⟨v, H', I3, rv, ev, q3⟩ := I2.after hq'
      subst ev
      exact ⟨rv, ⟨V.ref (s.heap.objs.size + 1), H', I3, rfl, q3⟩⟩
    | next => exact False.elim hq'
    | brk => exact False.elim hq'
    | cont => exact False.elim hq'
theorem pe_make (M : Mk X.K C f) (F : FnOk X.prog X.w X.K X.mg X.base CX k f fd ps sp) (hr : Room (k + 1) X.A) (hg : Gl X x) (hm : X.mg x = some (.ref C)) (hb : Binds X.K fd ps ds) (hd : Vals dvs ds) (hx : Passes CX X E)
    (ha : PA X (e :: es) t) (hdb : (x == ("__debug__" : Str)) = false := by decide) (he : starEach (e :: es) X.env = (false, eval e X.env) :: starEach es X.env := by rfl) (hpl : (backTo pos (starEach es X.env)).any (·.1) = false := by rfl) :
    PE X (.Call (.Name x p) (e :: es) [] pos) (tMake C sp dvs E t) := by
  intro pins s σ H Q I h
  refine wpAny_Call_Name_kw (ld_glob I hg hm ?_ hdb)
  refine PySem.W.callWith_K (h₀ := X.base) I.ok.mod.kin M.kp (thn (ha pos pins s σ H _ I h) fun us s1 ⟨vs, H1, I1, r, q⟩ => ⟨I1.kIn, ?_⟩) he hpl
  exact run_make M F hr hb hd hx I1 r q
end

/-! ### keywords -/
/-- the values of the keywords, from the left -/
def PK (X : Cx) (kws : List Keyword) (t : TA) : Prop :=
  ∀ (pos : Pos) (pins : List (Addr × Obj)) (s : Shared) (σ : St) (H : Hp) (Q : List V → Hp → Prop), Inv X pins σ H s → t σ H Q → wpAny (model X.prog X.w) X.A (evalAll ((backToKw pos (keywordEach kws X.env)).map (·.2))) (AP X pins σ Q) X.xe s
section
variable {X : Cx} {CX : CXT} {k : Nat} {f C : Addr} {fd : FuncData} {ps ks : List Str} {sp : Sp} {E : XK} {x m : Str} {p pos apos kpos : Pos} {e o : Expr} {es : List Expr} {kws : List Keyword} {te ta : TE} {t tk : TA} {nm : Option Str}
/-- how a call with keywords binds: g puts the positional values us and the keywords' values ws (names ks) in the parameters' order, defaults among them -/
structure KBinds (K : PySem.W.Frag) (fd : FuncData) (ps ks : List Str) (g : List Value → List Value → List Value) (gV : List V → List V → List V) : Prop where
  to : ∀ (s : Shared) (us ws : List Value), K.In s.heap → (g us ws).length = ps.length → BindsTo s fd ⟨us, ks.zip ws⟩ (ps.zip (g us ws))
  rel : ∀ {vs : List V} {us : List Value} {zs : List V} {ws : List Value}, Vals vs us → Vals zs ws → Vals (gV vs zs) (g us ws)
def tCallK (sp : Sp) (gV : List V → List V → List V) (E : XK) (t tk : TA) : TE := fun σ H Q => t σ H fun vs H1 => tk σ H1 fun zs H2 => sp (gV vs zs) H2 Q E
variable {g : List Value → List Value → List Value} {gV : List V → List V → List V}
end

/-! ### a def's body keeps its promise -/
/-- names: the parameters first -/
structure FnScope (N P : List Str) (sc : Scope) : Prop where
  kind : sc.kind = .function
  co : sc.isCoroutine = false
  gen : sc.isGenerator = false
  nd : N.Nodup
  pre : N.take P.length = P
  par : ∀ x ∈ P, sc.names.lookup x = some .local ∨ sc.names.lookup x = some .cell
  nofree : ∀ y ∈ sc.names, y.2 ≠ .free

theorem bindL_out {kindOf : Str → Option NameKind} {x : Str} : ∀ {binds : List (Str × Value)} {m : Str → Option Value}, (∀ v, (x, v) ∉ binds) → bindL kindOf binds m x = m x
  | [], _, _ => rfl
  | (n, v) :: r, m, h => by
    unfold bindL
    rw [bindL_out fun w hw => h w (List.mem_cons_of_mem _ hw)]
    split
    · have : x ≠ n := by rintro rfl; exact h v List.mem_cons_self
      simp [this]
    · rfl
theorem bindC_out {kindOf : Str → Option NameKind} {x : Str} : ∀ {binds : List (Str × Value)} {m : Str → Option Value}, (∀ v, (x, v) ∉ binds) → bindC kindOf binds m x = m x
  | [], _, _ => rfl
  | (n, v) :: r, m, h => by
    unfold bindC
    rw [bindC_out fun w hw => h w (List.mem_cons_of_mem _ hw)]
    split
    · rfl
    · have : x ≠ n := by rintro rfl; exact h v List.mem_cons_self
      simp [this]
theorem bindL_get {kindOf : Str → Option NameKind} {x : Str} {v : Value} : ∀ {P : List Str} {vs : List Value} {i : Nat} {m : Str → Option Value}, P.Nodup → P[i]? = some x → vs[i]? = some v → kindOf x = some .local →
    bindL kindOf (P.zip vs) m x = some v
  | [], _, _, _, _, h, _, _ => by simp at h
  | _ :: _, [], _, _, _, _, h, _ => by simp at h
  | p :: P, w :: vs, 0, m, nd, h1, h2, hk => by
    simp at h1 h2; subst h1; subst h2
    show bindL kindOf ((p, w) :: P.zip vs) m p = _
    unfold bindL
    rw [bindL_out fun v hv => (List.nodup_cons.mp nd).1 (List.of_mem_zip hv).1, if_pos hk]
    simp
  | p :: P, w :: vs, i + 1, m, nd, h1, h2, hk => by
    show bindL kindOf ((p, w) :: P.zip vs) m x = _
    unfold bindL
    exact bindL_get (i := i) (List.nodup_cons.mp nd).2 (by simpa using h1) (by simpa using h2) hk
theorem bindC_get {kindOf : Str → Option NameKind} {x : Str} {v : Value} : ∀ {P : List Str} {vs : List Value} {i : Nat} {m : Str → Option Value}, P.Nodup → P[i]? = some x → vs[i]? = some v → kindOf x ≠ some .local →
    bindC kindOf (P.zip vs) m x = some v
  | [], _, _, _, _, h, _, _ => by simp at h
  | _ :: _, [], _, _, _, _, h, _ => by simp at h
  | p :: P, w :: vs, 0, m, nd, h1, h2, hk => by
    simp at h1 h2; subst h1; subst h2
    show bindC kindOf ((p, w) :: P.zip vs) m p = _
    unfold bindC
    rw [bindC_out fun v hv => (List.nodup_cons.mp nd).1 (List.of_mem_zip hv).1, if_neg hk]
    simp
  | p :: P, w :: vs, i + 1, m, nd, h1, h2, hk => by
    show bindC kindOf ((p, w) :: P.zip vs) m x = _
    unfold bindC
    exact bindC_get (i := i) (List.nodup_cons.mp nd).2 (by simpa using h1) (by simpa using h2) hk

/-- the names' values at the entry -/
def start (N : List Str) (vs : List V) : St := vs.map some ++ List.replicate (N.length - vs.length) none

/-- the context of a def's body, at its entry; an exception leaves the frame, then lies as CX says -/
def cxOf (CX : CXT) (P : Program) (w : World) (K : PySem.W.Frag) (mg : Str → Option Value) (base : Heap) (N : List Str) (qual : Str) (scope : Scope) (f : Addr) (cd : Value) (A : Around) (outer : List Env) (s : Shared) (H : Hp) (E : XK) : Cx where
  prog := P
  w := w
  K := K
  mg := mg
  base := base
  A := A.deeper (envOfC qual scope s.heap.objs.size f cd)
  N := N
  s₀ := s
  H₀ := H
  env := envOfC qual scope s.heap.objs.size f cd
  outer := outer
  stack := envOfC qual scope s.heap.objs.size f cd :: outer
  ex := []
  calm := true
  fn := fun _ => true
  pn := []
  xe := fun e s' => wpAny (model P w) (A.deeper (envOfC qual scope s.heap.objs.size f cd)) (leaving (envOfC qual scope s.heap.objs.size f cd) e) (fun _ s'' => CX outer H s E e s'') (fun e' s'' => CX outer H s E e' s'') s'

theorem cell_has {sc : Scope} {n : Nat} {x : Str} (h : sc.names.lookup x = some .cell) : ∃ c, (cellsFrom n sc.names []).lookup x = some c := by
  have q := PySem.W.cellsFrom_some sc.names n [] (.inl h)
  exact Option.isSome_iff_exists.mp q

theorem inv_start {CX : CXT} {P : Program} {w : World} {K : PySem.W.Frag} {mg : Str → Option Value} {base : Heap} {N ps : List Str} {qual : Str} {scope : Scope} {f : Addr} {cd : Value} {A : Around} {outer : List Env} {s s1 : Shared} {H : Hp} {E : XK} {us : List Value} {vs : List V}
    (S : FnScope N ps scope) (hd : A.handled = none) (e0 : Env0 P w K mg base A outer s H) (hl : vs.length = ps.length) (r : Vals vs us)
    (x : InCallC s s.heap.objs.size (bindL (envOfC qual scope s.heap.objs.size f cd).kindOf (ps.zip us) fun _ => none) (cellsFrom (s.heap.objs.size + 1) scope.names []) (bindC (envOfC qual scope s.heap.objs.size f cd).kindOf (ps.zip us) fun _ => none) s1) :
    Inv (cxOf CX P w K mg base N qual scope f cd A outer s H E) [] (start N vs) H s1 := by
  have hpl : ps.length ≤ N.length := by have := congrArg List.length S.pre; rw [List.length_take] at this; omega
  obtain ⟨h1, tk, rfl, hk⟩ := x.done
  have noA : ∀ b : Addr, b ∉ (cxOf CX P w K mg base N qual scope f cd A outer s H E).ex := fun b z => absurd (show b ∈ ([] : List Addr) from z) (by simp)
  refine ⟨⟨e0.mod, S.kind, rfl, rfl, Nat.le_refl _, fun y z c h1 h2 => ?_, fun y hy => ?_, fun y c _ h => ?_, fun _ => hd, Around.frames_deeper e0.frames, .inr ⟨rfl, rfl⟩, fun b z => absurd z (noA b), e0.bs, e0.bsz, fun b _ _ => noA b, fun b z => absurd z (noA b), e0.funs, e0.frf⟩,
    rfl, e0.bare, Un.kept hk, ⟨_, x.toInCall.ns, fun i y v h1 h2 h3 => ?_⟩, fun y c h => ⟨_, x.cell y c h⟩, e0.hok.fresh (Nat.le_refl _), fun y c h => ?_, fun p hp => absurd (show p ∈ ([] : List (Addr × Obj)) from hp) (by simp), e0.hok.kept hk, ?_⟩
  · exact name_of_addr x.apart (PySem.mem_of_lookup h1) (PySem.mem_of_lookup h2)
  · have hy : scope.names.lookup y = some .cell ∨ scope.names.lookup y = some .free := hy
    rcases hy with hy | hy
    · exact cell_has hy
    · exact absurd rfl (S.nofree _ (PySem.mem_of_lookup hy))
  · exact Nat.le_of_lt (x.above y c (PySem.mem_of_lookup h))
  · have hi : i < vs.length := by
      unfold start at h2
      by_cases hi : i < vs.length
      · exact hi
      · rw [List.getElem?_append_right (by simpa using hi)] at h2
        rw [List.getElem?_replicate] at h2
        split at h2 <;> cases h2
    have ha : vs[i]? = some v := by
      unfold start at h2
      rw [List.getElem?_append_left (by simpa using hi), List.getElem?_map] at h2
      cases e : vs[i]? with
      | none => rw [e] at h2; cases h2
      | some a => rw [e] at h2; cases h2; rfl
    obtain ⟨u, hu, rv⟩ := r.get ha
    have hp : ps[i]? = some y := by
      rw [← S.pre, List.getElem?_take_of_lt (by omega)]; exact h1
    have ndP : ps.Nodup := by rw [← S.pre]; exact S.nd.sublist (List.take_sublist _ _)
    refine ⟨u, rv, ?_⟩
    rcases S.par y (List.mem_of_getElem? hp) with k | k
    · exact .inl ⟨k, bindL_get ndP hp hu k⟩
    · obtain ⟨c, e⟩ := cell_has (n := s.heap.objs.size + 1) k
      refine .inr ⟨.inl k, c, e, ?_⟩
      have q := x.cell y c e
      rw [bindC_get ndP hp hu (by show scope.names.lookup y ≠ _; rw [k]; decide)] at q
      exact q
  · exact e0.hok.fresh (Nat.le_of_lt (x.above y c (PySem.mem_of_lookup h)))
  · unfold start
    show _ = N.length
    rw [List.length_append, List.length_map, List.length_replicate]
    omega

/-- THE RULE: a def (or a method) of the text, by its body. The body's reading t is chosen for each entry; it is run at the parameters' values -/
theorem fn_of {CX : CXT} {P : Program} {w : World} {K : PySem.W.Frag} {mg : Str → Option Value} {base : Heap} {k : Nat} {f : Addr} {name qual : Str} {params : Arguments} {body : List Stmt} {scope : Scope} {dV kV doc pm cdv ct oc : Value} {an od : Option Addr}
    {osl : Array (Option Value)} {N ps : List Str} {sp : Sp} (lk : K.lookup f = some ⟨oc, od, .func (PySem.W.fnOf name qual params body scope dV kV doc pm an cdv ct), osl⟩) (hcd : PySem.W.codeIn K cdv qual = true) (S : FnScope N ps scope)
    (len : ∀ vs H Q E, sp vs H Q E → vs.length = ps.length)
    (hbody : ∀ (A : Around) (outer : List Env) (s : Shared) (H : Hp) (vs : List V) (Q : VK) (E : XK), Room k (A.deeper (envOfC qual scope s.heap.objs.size f cdv)) → sp vs H Q E →
      ∃ t, PSs (cxOf CX P w K mg base N qual scope f cdv A outer s H E) body t ∧ t { nx := fun _ H' => Q .non H', rt := Q } (start N vs) H) :
    FnOk P w K mg base CX (k + 1) f (PySem.W.fnOf name qual params body scope dV kV doc pm an cdv ct) ps sp := by
  refine ⟨len, fun A outer s H args us vs Q E hr e0 hb r hsp => ?_⟩
  have hl := len _ _ _ _ hsp
  have KX : K.In s.heap := e0.mod.kin.keeps fun b o e => (e0.bs b o e).1
  have lim : s.heap.NoLimit := e0.mod.nolimit.keeps fun b o e => (e0.bs b o e).1
  have hkind : ∀ y ∈ ps.zip us, scope.names.lookup y.1 = some .local ∨ (scope.names.lookup y.1 = some .cell ∧ ((cellsFrom (s.heap.objs.size + 1) scope.names []).lookup y.1).isSome = true) := fun ⟨n, v⟩ hy => by
    rcases S.par n (List.of_mem_zip hy).1 with q | q
    · exact .inl q
    · exact .inr ⟨q, PySem.W.cellsFrom_some _ _ _ (.inl q)⟩
  refine codeAny_call_function hr.depth (KX _ _ lk) rfl S.co S.gen rfl (PySem.W.codeRec_of KX hcd) (hb _ _ _ _ ?_)
  refine wpAny_newFunctionEnv_cells S.kind hkind fun env he s1 x => ?_
  subst he
  refine ⟨lim.keeps x.toInCall.keep, codeAny_func ?_⟩
  obtain ⟨t, ht, hq⟩ := hbody A outer s H vs Q E (hr.deeper _) hsp
  have I : Inv (cxOf CX P w K mg base N qual scope f cdv A outer s H E) [] (start N vs) H s1 := inv_start S hr.hd e0 hl r x
  refine wpAny_mono (ht [] s1 (start N vs) H _ I hq) (fun fl s' hs => ?_) fun e s' hs => hs
  have fin : ∀ {σ' : St} {H' : Hp} {v : V} {u : Value}, Inv (cxOf CX P w K mg base N qual scope f cdv A outer s H E) [] σ' H' s' → RelV v u → Q v H' → CE outer P w H s Q u s' :=
    fun {σ' H' v u} J rv q => ⟨v, H', J.os, J.bare, J.base, J.hok, rv, q⟩
  cases fl with
  | ret u =>
    obtain ⟨v, σ', H', J, rv, q⟩ := hs
    exact fin J rv q
  | next =>
    obtain ⟨σ', H', J, q⟩ := hs
    exact fin (v := V.non) (u := Value.none) J rfl q
  | brk =>
    obtain ⟨_, _, _, q⟩ := hs
    exact False.elim q
  | cont =>
    obtain ⟨_, _, _, q⟩ := hs
    exact False.elim q
end L2

namespace L2
open PySem PySem.Spec PyProof.Rows
section
variable {X : Cx} {x : Str} {p pos : Pos} {e : Expr} {es : List Expr} {t : TA} {id T : String} {r : List V → Hp → VK → Prop}

def tCB (r : List V → Hp → VK → Prop) (t : TA) : TE := fun σ H Q => t σ H fun vs H1 => r vs H1 Q
/-- f(e, ..), f a built-in function -/
theorem pe_callB (hc : CallR X (.builtin id) r) (hg : Gl X x) (hm : X.mg x = none) (hv : bootBuiltins x = some (.builtin id)) (ha : PA X (e :: es) t) (hn : x ≠ "__name__" := by decide) (hdb : (x == ("__debug__" : Str)) = false := by decide)
    (he : starEach (e :: es) X.env = (false, eval e X.env) :: starEach es X.env := by rfl) (hpl : (backTo pos (starEach es X.env)).any (·.1) = false := by rfl) : PE X (.Call (.Name x p) (e :: es) [] pos) (tCB r t) := by
  intro pins s σ H Q I h
  refine wpAny_Call_Name_kw (ld_blt I hg hm hv ?_ hn hdb)
  exact PyProof.Rows.callWith_builtin1 (thn (ha pos pins s σ H _ I h) fun us s1 ⟨vs, H1, I1, r1, q1⟩ => hc pins s1 σ H1 vs us Q I1 r1 q1) he hpl
/-- T(e, ..), T a built-in type -/
theorem pe_callTy (hc : CallR X (.type T) r) (hg : Gl X x) (hm : X.mg x = none) (hv : bootBuiltins x = some (.type T)) (ha : PA X (e :: es) t) (hn : x ≠ "__name__" := by decide) (hdb : (x == ("__debug__" : Str)) = false := by decide)
    (he : starEach (e :: es) X.env = (false, eval e X.env) :: starEach es X.env := by rfl) (hpl : (backTo pos (starEach es X.env)).any (·.1) = false := by rfl) : PE X (.Call (.Name x p) (e :: es) [] pos) (tCB r t) := by
  intro pins s σ H Q I h
  refine wpAny_Call_Name_kw (ld_blt I hg hm hv ?_ hn hdb)
  exact PyProof.Rows.callWith_type1 (thn (ha pos pins s σ H _ I h) fun us s1 ⟨vs, H1, I1, r1, q1⟩ => hc pins s1 σ H1 vs us Q I1 r1 q1) he hpl
end
end L2

namespace HT
open PySem PyProof.Rows

/-- t < u of tuples of ints -/
def lexLt : List Int → List Int → Bool
  | [], [] => false
  | [], _ :: _ => true
  | _ :: _, [] => false
  | x :: xs, y :: ys => if x = y then lexLt xs ys else decide (x < y)
section
open PySem.SeqAt
open PySem.AutoSeq1 (wpAny_loadPart')
open PySem.MeetsSeq PySem.MeetsSeq2 PySem.MeetsSeq3

end

section
variable {prog : Program} {w : World} {A : Around} {E : Value → Shared → Prop} {s : Shared}

/-! ### t[a:b], not the whole -/
/-- a slice's bound as a place among n (d where it is left out) -/
def sIx (n d : Nat) : Option Int → Nat
  | none => d
  | some v => if v < 0 then (v + (n : Int)).toNat else min v.toNat n
end
end HT

namespace L2
open PySem PySem.Spec PyProof.Rows

/-! ### the parts of a slice -/
abbrev TO := St → Hp → (Option Int → Hp → Prop) → Prop
/-- a slice's part (left out, or an int) -/
def PO (X : Cx) (e : Option Expr) (t : TO) : Prop :=
  ∀ (pins : List (Addr × Obj)) (s : Shared) (σ : St) (H : Hp) (Q : Option Int → Hp → Prop), Inv X pins σ H s → t σ H Q →
    wpAny (model X.prog X.w) X.A (evalPart e X.env) (fun u s' => ∃ o H', Inv X pins σ H' s' ∧ IsPart u o ∧ Q o H') X.xe s
def tNoPart : TO := fun _ H Q => Q none H
def tPart (t : TE) : TO := fun σ H Q => t σ H fun x H1 => ∃ i, x = .int i ∧ Q (some i) H1

section
variable {X : Cx} {e : Expr} {te : TE} {lo hi : Option Expr} {tl th : TO} {pos p2 : Pos}

theorem po_some (h : PE X e te) : PO X (some e) (tPart te) := by
  intro pins s σ H Q I hw
  rw [evalPart_some]
  refine thn (h pins s σ H _ I hw) fun u s1 ⟨x, H1, I1, r1, q1⟩ => ?_
  obtain ⟨i, rfl, q⟩ := q1
  obtain ⟨t, rfl⟩ := r1
  exact ⟨some i, H1, I1, .int i t, q⟩

/-- what a slice of a value is, by values: the slice object stands at sl -/
def SlR (X : Cx) (r : V → Option Int → Option Int → Hp → VK → Prop) : Prop :=
  ∀ (pins : List (Addr × Obj)) (s : Shared) (σ : St) (H : Hp) (x : V) (v vl vu : Value) (lo hi : Option Int) (sl : Addr) (Q : VK), Inv X pins σ H s → RelV x v → s.heap.IsSliceOf sl vl vu .none → IsPart vl lo → IsPart vu hi → r x lo hi H Q →
    ∃ T id, typeLookup (.type T) "__getitem__" = pure (some (.builtin id)) ∧ s.TypeIs v T ∧ wpAny (model X.prog X.w) X.A (getItem v (.ref sl)) (EP X pins σ Q) X.xe s
def tSl (r : V → Option Int → Option Int → Hp → VK → Prop) (te : TE) (tl th : TO) : TE := fun σ H Q => te σ H fun x H1 => tl σ H1 fun l H2 => th σ H2 fun u H3 => r x l u H3 Q
/-- a[lo:hi], any a -/
theorem pe_slice {r : V → Option Int → Option Int → Hp → VK → Prop} (hr : SlR X r) (he : PE X e te) (hl : PO X lo tl) (hu : PO X hi th) : PE X (.Subscript e (.Slice lo hi none p2) pos) (tSl r te tl th) := by
  intro pins s σ H Q I h
  refine Subscript_ (thn (he pins s σ H _ I h) fun v s1 ⟨x, H1, I1, r1, q1⟩ => ?_)
  refine wpAny_Slice (thn (hl pins s1 σ H1 _ I1 q1) fun vl s2 ⟨l, H2, I2, pl, q2⟩ => thn (hu pins s2 σ H2 _ I2 q2) fun vu s3 ⟨u, H3, I3, pu, q3⟩ => ?_)
  rw [evalPart_none]
  refine wpAny_pure ?_
  have I4 : Inv X pins σ H3 { s3 with heap := s3.heap.push { cls := .type "slice", data := .fields #[vl, vu, .none] } } := I3.kept (t' := s3.toks) fun b ob q => Heap.get?_push_of_some _ q
  obtain ⟨T, id, hT, ht, hg⟩ := hr pins { s3 with heap := s3.heap.push { cls := .type "slice", data := .fields #[vl, vu, .none] } } σ H3 x v vl vu l u s3.heap.objs.size Q I4 r1 (Heap.IsSliceOf.new ..) pl pu q3
  show wpAny (model X.prog X.w) X.A (subscriptTail e (.Slice lo hi none p2) v (.ref s3.heap.objs.size)) (EP X pins σ Q) X.xe { s3 with heap := s3.heap.push { cls := .type "slice", data := .fields #[vl, vu, .none] } }
  exact tail_any (ops := [.ref s3.heap.objs.size, v]) ht hT hg (by with_unfolding_all rfl)

/-- the items of xs[lo:hi] -/
def cutV (xs : List V) (lo hi : Option Int) : List V := (xs.drop (HT.sIx xs.length 0 lo)).take (HT.sIx xs.length xs.length hi - HT.sIx xs.length 0 lo)
theorem cutV_length (xs : List V) (lo hi : Option Int) : (cutV xs lo hi).length ≤ xs.length := by
  unfold cutV
  rw [List.length_take, List.length_drop]
  omega
/-- t[lo:hi], not the whole of it (the whole would be t itself) -/
def rSlT (K : PySem.W.Frag) : V → Option Int → Option Int → Hp → VK → Prop := fun x lo hi H Q => ∃ a xs, x = .ref a ∧ SqT K H a xs ∧
  ¬ (HT.sIx xs.length 0 lo = 0 ∧ HT.sIx xs.length xs.length hi = xs.length) ∧ ∀ p, H p = none → Q (.ref p) (upd H p (.tup (cutV xs lo hi)))
/-! ### t < u, t + u -/
def rLtT (K : PySem.W.Frag) : R2 := fun x y H Q => ∃ a b ns ms, x = .ref a ∧ y = .ref b ∧ SqT K H a (ns.map V.int) ∧ SqT K H b (ms.map V.int) ∧ Q (.bl (HT.lexLt ns ms)) H
/-- t + u, t not empty: u empty gives t itself -/
def rCatT (K : PySem.W.Frag) : R2 := fun x y H Q => ∃ a b xs ys, x = .ref a ∧ y = .ref b ∧ SqT K H a xs ∧ SqT K H b ys ∧ xs ≠ [] ∧ xs.length + ys.length ≤ sizeLine ∧
  (ys = [] → Q (.ref a) H) ∧ (ys ≠ [] → ∀ p, H p = none → Q (.ref p) (upd H p (.tup (xs ++ ys))))
end
end L2

namespace L2
open PySem PySem.Spec PyProof.Rows

/-! ### places -/
/-- the place that an index of any sign means -/
def ixN (n : Nat) (i : Int) : Option Nat := if 0 ≤ i then (if i < n then some i.toNat else none) else if -(n : Int) ≤ i then some (i + n).toNat else none
def atI {α : Type} (xs : List α) (i : Int) : Option α := (ixN xs.length i).bind fun j => xs[j]?
theorem ixN_seq {n : Nat} {i : Int} {j : Nat} (h : ixN n i = some j) : seqIndex? i n = some j ∧ j < n ∧ -(n : Int) ≤ i ∧ i < n := by
  unfold ixN at h
  by_cases h0 : 0 ≤ i
  · rw [if_pos h0] at h
    by_cases h1 : i < n
    · rw [if_pos h1] at h
      have e : i.toNat = j := Option.some.inj h
      exact ⟨by rw [seqIndex_of h0 h1, e], by omega, by omega, h1⟩
    · rw [if_neg h1] at h; cases h
  · rw [if_neg h0] at h
    by_cases h1 : -(n : Int) ≤ i
    · rw [if_pos h1] at h
      have e : (i + n).toNat = j := Option.some.inj h
      exact ⟨by rw [seqIndex_neg (by omega) h1, e], by omega, h1, by omega⟩
    · rw [if_neg h1] at h; cases h
theorem atI_get {α : Type} {xs : List α} {i : Int} {v : α} (h : atI xs i = some v) : ∃ j, seqIndex? i xs.length = some j ∧ xs[j]? = some v ∧ j < xs.length ∧ -(xs.length : Int) ≤ i ∧ i < xs.length := by
  unfold atI at h
  cases e : ixN xs.length i with
  | none => rw [e] at h; cases h
  | some j =>
    rw [e] at h
    obtain ⟨h1, h2, h3, h4⟩ := ixN_seq e
    exact ⟨j, h1, h, h2, h3, h4⟩
theorem atI_nat {α : Type} {xs : List α} {j : Nat} {v : α} (h : xs[j]? = some v) : atI xs (j : Int) = some v := by
  have hj : j < xs.length := (List.getElem?_eq_some_iff.mp h).1
  have e : ixN xs.length (j : Int) = some j := by
    unfold ixN
    rw [if_pos (by omega), if_pos (by omega)]; simp
  unfold atI; rw [e]; exact h
/-! ### what may be subscripted -/
/-- what stands as an index of a plain subscript -/
def PlainIx (b : Expr) : Prop := ∀ o i, subscripted b false o i = operate [o, i] (getItem o i)
/-- a subscript by values -/
def IxR (X : Cx) (r : R2) : Prop :=
  ∀ (value slice : Expr) (pins : List (Addr × Obj)) (s : Shared) (σ : St) (H : Hp) (x y : V) (v u : Value) (Q : VK), Inv X pins σ H s → RelV x v → RelV y u → r x y H Q →
    subscripted slice false v u = operate [v, u] (getItem v u) → wpAny (model X.prog X.w) X.A (subscriptTail value slice v u) (EP X pins σ Q) X.xe s
/-- a call of a builtin's method by values: the receiver, the arguments -/
def MtR (X : Cx) (id : String) (r : V → List V → Hp → VK → Prop) : Prop :=
  ∀ (pins : List (Addr × Obj)) (s : Shared) (σ : St) (H : Hp) (x : V) (xs : List V) (v : Value) (us : List Value) (Q : VK), Inv X pins σ H s → RelV x v → Vals xs us → r x xs H Q →
    wpAny (model X.prog X.w) X.A (call (.builtin id) (v :: us)) (EP X pins σ Q) X.xe s
section
variable {X : Cx} {a b : Expr} {ta tb : TE} {pos : Pos}
/-- a[b] -/
theorem pe_ix {r : R2} (hr : IxR X r) (ha : PE X a ta) (hb : PE X b tb) (hs : PlainIx b) : PE X (.Subscript a b pos) (tOp r ta tb) := by
  intro pins s σ H Q I h
  exact Subscript_ (binT ha hb I h fun v u s2 x y H2 I2 rx ry q => hr a b pins s2 σ H2 x y v u Q I2 rx ry q (hs _ _))

def rIxL (K : PySem.W.Frag) : R2 := fun x y H Q => ∃ p xs i v, x = .ref p ∧ y = .int i ∧ SqL K H p xs ∧ atI xs i = some v ∧ Q v H
def rIxT (K : PySem.W.Frag) : R2 := fun x y H Q => ∃ p xs i v, x = .ref p ∧ y = .int i ∧ SqT K H p xs ∧ atI xs i = some v ∧ Q v H
def rIxS : R2 := fun x y H Q => ∃ z i c, x = .str z ∧ y = .int i ∧ z.length ≤ sizeLine ∧ atI z.cps.toList i = some c ∧ Q (.str ⟨#[c]⟩) H
theorem ix_list : IxR X (rIxL X.K) := by
  intro value slice pins s σ H x y v u Q I rx ry h hs
  obtain ⟨p, xs, i, z, rfl, rfl, hq, he, q⟩ := h
  cases rx
  obtain ⟨t, rfl⟩ := ry
  obtain ⟨its, r, pl, hz⟩ := I.list hq
  obtain ⟨j, h1, h2, h3, h4, h5⟩ := atI_get he
  obtain ⟨w, ew, rw'⟩ := r.get h2
  have hl := r.length
  have hn := line63
  have fin : EP X pins σ Q w s := ⟨z, H, I, rw', q⟩
  by_cases h0 : 0 ≤ i
  · have hj : i.toNat = j := by
      rw [seqIndex_of h0 h5] at h1
      exact Option.some.inj h1
    exact item_listR pl.isList h0 (by omega) (by rw [hj]; simpa using ew) fin hs
  · have hj : (i + (its.toArray.size : Int)).toNat = j := by
      rw [seqIndex_neg (by omega) h4] at h1
      rw [List.size_toArray, ← hl]
      exact Option.some.inj h1
    exact subscriptTail_builtinR (x := w) pl.isList.typeIs slot_list_getitem.lookup
      (wpAny_getItem_list_neg (Q := fun r s' => r = w ∧ EP X pins σ Q r s') pl.isList (by omega) (by rw [List.size_toArray] <;> omega) (by omega) (by rw [hj]; simpa using ew) ⟨rfl, fin⟩) hs
theorem ix_tup : IxR X (rIxT X.K) := by
  intro value slice pins s σ H x y v u Q I rx ry h hs
  obtain ⟨p, xs, i, z, rfl, rfl, hq, he, q⟩ := h
  cases rx
  obtain ⟨t, rfl⟩ := ry
  obtain ⟨its, r, pl, hz⟩ := I.tuple hq
  obtain ⟨j, h1, h2, h3, h4, h5⟩ := atI_get he
  obtain ⟨w, ew, rw'⟩ := r.get h2
  have hl := r.length
  have hn := line63
  have fin : EP X pins σ Q w s := ⟨z, H, I, rw', q⟩
  exact subscriptTail_builtinR (x := w) pl.typeIs slot_tuple_getitem.lookup
    (getItem_tuple (j := j) (Q := fun r s' => r = w ∧ EP X pins σ Q r s') pl (by omega) (by omega) (by rw [List.size_toArray, ← hl]; exact h1) (by simpa using ew) ⟨rfl, fin⟩) hs
theorem ix_str : IxR X rIxS := by
  intro value slice pins s σ H x y v u Q I rx ry h hs
  obtain ⟨z, i, c, rfl, rfl, hz, he, q⟩ := h
  obtain ⟨t, rfl⟩ := rx
  obtain ⟨t', rfl⟩ := ry
  obtain ⟨j, h1, h2, h3, h4, h5⟩ := atI_get he
  have hl : z.cps.toList.length = z.length := by simp [Str.length]
  rw [hl] at h1 h4 h5
  have hn := line63
  exact tail_any (typeIs_str s z t) slot_str_getitem.lookup (getItem_str (c := c) (by
    have e1 : decide (i < -(2 ^ 63 : Int)) = false := decide_eq_false (by omega)
    have e2 : decide (i ≥ 2 ^ 63) = false := decide_eq_false (by omega)
    rw [e1, e2, Bool.or_false]) (by rw [h1]; simpa using h2) ⟨.str ⟨#[c]⟩, H, I.tok _, ⟨_, rfl⟩, q⟩) hs
/-- list, tuple or str -/
def rIx (K : PySem.W.Frag) : R2 := fun x y H Q => rIxL K x y H Q ∨ rIxT K x y H Q ∨ rIxS x y H Q
/-! ### xs[i] = v, any sign -/
/-- the list's object behind a store -/
theorem mapSeq_set (its : List Value) (n j : Nat) (u : Value) : Obj.mapSeq (·.setIfInBounds j u) { cls := .type "list", data := .seq its.toArray n } = { cls := .type "list", data := .seq (its.set j u).toArray n } := by
  simp [Obj.mapSeq]
theorem Inv.lst {pins : List (Addr × Obj)} {σ : St} {H : Hp} {s : Shared} {p : Addr} {xs : List V} (I : Inv X pins σ H s) (h : H p = some (.lst xs)) :
    ∃ (its : List Value) (n : Nat), Vals xs its ∧ s.heap.get? p = some { cls := .type "list", data := .seq its.toArray n } ∧ xs.length ≤ sizeLine := by
  obtain ⟨z, its, n, r, e⟩ := I.hok p _ h
  exact ⟨its, n, r, e, z⟩
/-- the list at p is written by an update of its object -/
theorem Inv.lstUpd {pins : List (Addr × Obj)} {σ : St} {H : Hp} {s : Shared} {p : Addr} {xs ys : List V} {its its' : List Value} {n n' : Nat} {f : Obj → Obj} (I : Inv X pins σ H s) (h : H p = some (.lst xs))
    (ho : s.heap.get? p = some { cls := .type "list", data := .seq its.toArray n }) (hf : f { cls := .type "list", data := .seq its.toArray n } = { cls := .type "list", data := .seq its'.toArray n' }) (r : Vals ys its') (hz : ys.length ≤ sizeLine) (t : Nat) :
    Inv X pins σ (upd H p (.lst ys)) { s with heap := s.heap.update p f, toks := t } := by
  have e : (s.heap.update p f).get? p = some { cls := .type "list", data := .seq its'.toArray n' } := by
    rw [Heap.get?_update_self f ho (by rw [hf] <;> rfl), hf]
  refine I.write (x := p) (e := p) (by rw [h]; trivial) (.inl rfl) (fun b u hb q => (Heap.get?_update_other _ _ (Ne.symm hb)).trans q) ⟨_, e⟩ ?_
  exact ⟨hz, its', n', r, e⟩
def rSetL : V → V → V → Hp → (Hp → Prop) → Prop := fun o i v H Q => ∃ p xs k j, o = .ref p ∧ i = .int k ∧ H p = some (.lst xs) ∧ ixN xs.length k = some j ∧ Q (upd H p (.lst (xs.set j v)))
theorem set_list : PSet X rSetL := by
  intro pins s σ H o i v ov iv u Q I ro ri rv h
  obtain ⟨p, xs, k, j, rfl, rfl, hp, hj, q⟩ := h
  cases ro
  obtain ⟨t, rfl⟩ := ri
  obtain ⟨its, n, r, ho, hz⟩ := I.lst hp
  obtain ⟨h1, h2, h3, h4⟩ := ixN_seq hj
  have hl := r.length
  have hn := line63
  have I' : Inv X pins σ (upd H p (.lst (xs.set j v))) { s with heap := s.heap.update p (Obj.mapSeq (·.setIfInBounds j u)) } :=
    I.lstUpd hp ho (mapSeq_set its n j u) (r.set rv j) (by rw [List.length_set]; exact hz) s.toks
  by_cases h0 : 0 ≤ k
  · have hk : k.toNat = j := by
      rw [seqIndex_of h0 h4] at h1
      exact Option.some.inj h1
    exact PySem.W.ki_setAt ho h0 (by omega) (by rw [List.size_toArray, ← hl]; exact h4) (by rw [hk]; exact ⟨_, I', q⟩)
  · have hk : (k + (its.toArray.size : Int)).toNat = j := by
      rw [seqIndex_neg (by omega) h3] at h1
      rw [List.size_toArray, ← hl]
      exact Option.some.inj h1
    exact PySem.W.ki_setBack ho (by omega) (by rw [List.size_toArray, ← hl]; exact h3) (by omega) (by rw [hk]; exact ⟨_, I', q⟩)

/-! ### slices -/
theorem slice_bounds (lo hi : Option Int) (n : Nat) : (sliceBounds lo hi none n).1 = ((HT.sIx n 0 lo : Nat) : Int) ∧ (sliceBounds lo hi none n).2.1 = ((HT.sIx n n hi : Nat) : Int) ∧ (sliceBounds lo hi none n).2.2 = 1 := by
  refine ⟨?_, ?_, rfl⟩
  · cases lo with
    | none => simp [sliceBounds, HT.sIx]
    | some i =>
      simp only [sliceBounds, HT.sIx, Option.getD_none, show (1 : Int) > 0 by decide, if_true]
      by_cases h : i < 0
      · simp only [h, if_true] <;> omega
      · simp only [h, if_false] <;> omega
  · cases hi with
    | none => simp [sliceBounds, HT.sIx]
    | some i =>
      simp only [sliceBounds, HT.sIx, Option.getD_none, show (1 : Int) > 0 by decide, if_true]
      by_cases h : i < 0
      · simp only [h, if_true] <;> omega
      · simp only [h, if_false] <;> omega
theorem slicePick_cut (its : List Value) (lo hi : Option Int) : slicePick its.toArray lo hi none = ((its.drop (HT.sIx its.length 0 lo)).take (HT.sIx its.length its.length hi - HT.sIx its.length 0 lo)).toArray := by
  obtain ⟨h1, h2, h3⟩ := slice_bounds lo hi its.toArray.size
  unfold slicePick
  rw [h1, h2, h3]
  simp only [sliceRange_one, pick_run, List.size_toArray] <;> rfl
/-- xs[lo:hi] of a list: a new list -/
def rSlL (K : PySem.W.Frag) : V → Option Int → Option Int → Hp → VK → Prop := fun x lo hi H Q => ∃ a xs, x = .ref a ∧ SqL K H a xs ∧ ∀ p, H p = none → Q (.ref p) (upd H p (.lst (cutV xs lo hi)))
theorem sl_list : SlR X (rSlL X.K) := by
  intro pins s σ H x v vl vu lo hi sl Q I rx hs pl pu h
  obtain ⟨a, xs, rfl, hx, q⟩ := h
  cases rx
  obtain ⟨its, r, ht, hz⟩ := I.list hx
  have hlen := r.length
  refine ⟨"list", _, slot_list_getitem.lookup, ht.isList.typeIs, ?_⟩
  refine wpAny_getItem_list_slice ht.isList hs pl pu .none (by simp) ?_ (by rw [List.size_toArray] <;> omega)
  rw [slicePick_cut, ← hlen]
  refine ⟨.ref s.heap.objs.size, _, I.laid (t' := s.toks) (o := .lst (cutV xs lo hi)) (fun b ob q => Heap.get?_push_of_some _ q) (Nat.le_refl _) ?_, rfl, q _ (I.hok.fresh (Nat.le_refl _))⟩
  exact ⟨Nat.le_trans (cutV_length xs lo hi) hz, _, 0, (r.drop (HT.sIx xs.length 0 lo)).take (HT.sIx xs.length xs.length hi - HT.sIx xs.length 0 lo), Heap.get?_push_size _ rfl⟩

/-! ### in, not in: flat items -/
def flatV : V → Bool
  | .non => true
  | .bl _ => true
  | .int _ => true
  | .str _ => true
  | _ => false
/-- == of flat values -/
def eqV : V → V → Bool
  | .non, .non => true
  | .bl a, .bl b => a == b
  | .bl a, .int b => (if a then 1 else 0) == b
  | .int a, .bl b => a == (if b then 1 else 0)
  | .int a, .int b => a == b
  | .str a, .str b => a == b
  | _, _ => false
theorem eqAt_V {A : Around} {s : Shared} {y x : V} {u v : Value} (ry : RelV y u) (rx : RelV x v) (fy : flatV y = true) (fx : flatV x = true) : SeqAt.EqAt A s u v (eqV y x) := by
  cases y with
  | non =>
    cases ry
    cases x with
    | non => cases rx; exact SeqAt.EqAt.same _
    | bl b => cases rx; exact SeqAt.EqAt.none_bool b
    | int b => obtain ⟨t, rfl⟩ := rx; exact SeqAt.EqAt.none_int b t
    | str b => obtain ⟨t, rfl⟩ := rx; exact SeqAt.EqAt.none_str b t
    | _ => exact absurd (show false = true from fx) Bool.false_ne_true
  | bl a =>
    cases ry
    cases x with
    | non => cases rx; exact SeqAt.EqAt.bool_none a
    | bl b => cases rx; exact SeqAt.EqAt.bool_bool a b
    | int b => obtain ⟨t, rfl⟩ := rx; exact SeqAt.EqAt.bool_int a b t
    | str b => obtain ⟨t, rfl⟩ := rx; exact SeqAt.EqAt.bool_str a b t
    | _ => exact absurd (show false = true from fx) Bool.false_ne_true
  | int a =>
    obtain ⟨t', rfl⟩ := ry
    cases x with
    | non => cases rx; exact SeqAt.EqAt.int_none a t'
    | bl b => cases rx; exact SeqAt.EqAt.int_bool a t' b
    | int b => obtain ⟨t, rfl⟩ := rx; exact SeqAt.EqAt.int_int a t' b t
    | str b => obtain ⟨t, rfl⟩ := rx; exact SeqAt.EqAt.int_str a t' b t
    | _ => exact absurd (show false = true from fx) Bool.false_ne_true
  | str a =>
    obtain ⟨t', rfl⟩ := ry
    cases x with
    | non => cases rx; exact SeqAt.EqAt.str_none a t'
    | bl b => cases rx; exact SeqAt.EqAt.str_bool a t' b
    | int b => obtain ⟨t, rfl⟩ := rx; exact SeqAt.EqAt.str_int a t' b t
    | str b => obtain ⟨t, rfl⟩ := rx; exact SeqAt.EqAt.str_str a t' b t
    | _ => exact absurd (show false = true from fx) Bool.false_ne_true
  | _ => exact absurd (show false = true from fy) Bool.false_ne_true
/-- the items' answers, read off the values (a value's own answer does not lean on its token) -/
def eqU (x : V) (u : Value) : Bool := match u with
  | .none => eqV .non x
  | .bool b => eqV (.bl b) x
  | .int i _ => eqV (.int i) x
  | .str z _ => eqV (.str z) x
  | _ => false
theorem eqU_of {x y : V} {u : Value} (r : RelV y u) (f : flatV y = true) : eqU x u = eqV y x := by
  cases y with
  | non => cases r; rfl
  | bl b => cases r; rfl
  | int i => obtain ⟨t, rfl⟩ := r; rfl
  | str z => obtain ⟨t, rfl⟩ := r; rfl
  | _ => exact absurd (show false = true from f) Bool.false_ne_true
theorem any_eqU {x : V} : ∀ {xs : List V} {us : List Value}, Vals xs us → xs.all flatV = true → us.any (eqU x) = xs.any fun y => eqV y x
  | _, _, .nil, _ => rfl
  | y :: xs, u :: us, .cons r t, f => by
    rw [List.all_cons, Bool.and_eq_true] at f
    rw [List.any_cons, List.any_cons, eqU_of r f.1, any_eqU t f.2]
theorem mem_eqAt {A : Around} {s : Shared} {x : V} {v : Value} (rx : RelV x v) (fx : flatV x = true) : ∀ {xs : List V} {us : List Value}, Vals xs us → xs.all flatV = true → ∀ u ∈ us, SeqAt.EqAt A s u v (eqU x u)
  | _, _, .nil, _ => fun u hu => by cases hu
  | y :: xs, u :: us, .cons r t, f => fun u' hu => by
    rw [List.all_cons, Bool.and_eq_true] at f
    rcases List.mem_cons.mp hu with rfl | hu
    · rw [eqU_of r f.1]; exact eqAt_V r rx f.1 fx
    · exact mem_eqAt rx fx t f.2 u' hu
def inV (x : V) (xs : List V) : Bool := xs.any fun y => eqV y x
/-- x in a list or tuple of flat items -/
def rIn (K : PySem.W.Frag) (neg : Bool) : R2 := fun x y H Q => ∃ p xs, y = .ref p ∧ (SqL K H p xs ∨ SqT K H p xs) ∧ flatV x = true ∧ xs.all flatV = true ∧ Q (.bl (if neg then !inV x xs else inV x xs)) H
theorem op_notIn_seq : OpR X (compareOp .NotIn) (rIn X.K true) := by
  intro pins s σ H x y v u Q I rx ry h
  obtain ⟨p, xs, rfl, hq, fx, fs, q⟩ := h
  cases ry
  rcases hq with hq | hq
  · obtain ⟨its, r, pl, hz⟩ := I.list hq
    refine SeqAt.notIn_listAt (eqU x) pl.isList (fun w hw => mem_eqAt rx fx r fs w (by simpa using hw)) ⟨.bl _, H, I, rfl, ?_⟩
    rw [show its.toArray.any (eqU x) = its.any (eqU x) by simp, any_eqU r fs]
    exact q
  · obtain ⟨its, r, pl, hz⟩ := I.tuple hq
    refine SeqAt.notIn_tupleAt (eqU x) pl (fun w hw => mem_eqAt rx fx r fs w (by simpa using hw)) ⟨.bl _, H, I, rfl, ?_⟩
    rw [show its.toArray.any (eqU x) = its.any (eqU x) by simp, any_eqU r fs]
    exact q
/-! ### len, list(x), tuple(x) of any list or tuple that is read -/
theorem call_len_seq : CallR X (.builtin "len") (fun xs H Q => ∃ p ys, xs = [.ref p] ∧ (SqL X.K H p ys ∨ SqT X.K H p ys) ∧ Q (.int ys.length) H) := by
  intro pins s σ H xs us Q I r h
  obtain ⟨p, ys, rfl, hq, q⟩ := h
  obtain ⟨u, rfl, rx⟩ := vals1 r
  cases rx
  have hn := line63
  rcases hq with hq | hq
  · obtain ⟨its, r', pl, hz⟩ := I.list hq
    have hlen := r'.length
    exact Calls.call_len_list pl.isList (by simp only [List.size_toArray] <;> omega) ⟨.int ys.length, H, I.tok _, ⟨s.toks + 1, by rw [List.size_toArray, hlen]⟩, q⟩
  · obtain ⟨its, r', pl, hz⟩ := I.tuple hq
    have hlen := r'.length
    exact len_tuple pl (by simp only [List.size_toArray] <;> omega) ⟨.int ys.length, H, I.tok _, ⟨s.toks + 1, by rw [List.size_toArray, hlen]⟩, q⟩
theorem call_list_of : CallR X (.type "list") (fun xs H Q => ∃ p ys, xs = [.ref p] ∧ (SqL X.K H p ys ∨ SqT X.K H p ys) ∧ ∀ l, H l = none → Q (.ref l) (upd H l (.lst ys))) := by
  intro pins s σ H xs us Q I r h
  obtain ⟨p, ys, rfl, hq, q⟩ := h
  obtain ⟨u, rfl, rx⟩ := vals1 r
  cases rx
  have fin : ∀ (its : List Value), Vals ys its → ys.length ≤ sizeLine → ∀ (h' : Heap) (c' : Nat), (∀ b o', s.heap.get? b = some o' → h'.get? b = some o') →
      h'.get? s.heap.objs.size = some { cls := .type "list", dict := none, data := .seq its.toArray c', slots := #[] } → EP X pins σ Q (.ref s.heap.objs.size) { s with heap := h' } := fun its r' hz h' c' kp e =>
    ⟨.ref s.heap.objs.size, _, I.laid (t' := s.toks) kp (Nat.le_refl _) (show ObjOk X.prog X.w _ h' _ (.lst ys) from ⟨hz, its, c', r', e⟩), rfl, q _ (I.hok.fresh (Nat.le_refl _))⟩
  rcases hq with hq | hq
  · obtain ⟨its, r', pl, hz⟩ := I.list hq
    have hlen := r'.length
    obtain ⟨o, ho, hc, n, hd⟩ := pl.isList
    exact call_list_seq p (.inl rfl) ho hc hd (fun h' c' kp e => fin its r' hz h' c' kp e) (by simp only [List.size_toArray] <;> omega)
  · obtain ⟨its, r', pl, hz⟩ := I.tuple hq
    have hlen := r'.length
    obtain ⟨o, ho, hc, n, hd⟩ := pl
    exact call_list_seq p (.inr rfl) ho hc hd (fun h' c' kp e => fin its r' hz h' c' kp e) (by simp only [List.size_toArray] <;> omega)
/-! ### the call of a builtin's method: o.m(..) -/
/-- the value is of that builtin type -/
def tyV (K : PySem.W.Frag) (T : String) (x : V) (H : Hp) : Prop := match x with
  | .str _ => T = "str"
  | .int _ => T = "int"
  | .ref p => (T = "list" ∧ ∃ xs, SqL K H p xs) ∨ (T = "tuple" ∧ ∃ o, K.lookup p = some o ∧ o.cls = .type "tuple" ∧ o.dict = none) ∨
      (T = "dict" ∧ ((∃ kvs, H p = some (.dK kvs)) ∨ ∃ kvs, H p = some (.dT kvs))) ∨ (T = "set" ∧ ∃ S n, H p = some (.set S n))
  | _ => False
theorem tyV_is {pins : List (Addr × Obj)} {σ : St} {H : Hp} {s : Shared} {T : String} {x : V} {v : Value} (I : Inv X pins σ H s) (r : RelV x v) (ty : tyV X.K T x H) :
    s.TypeIs v T ∧ ∀ a, v = .ref a → ∃ ob, s.heap.get? a = some ob ∧ ob.dict = none := by
  cases x with
  | str z =>
    obtain ⟨t, rfl⟩ := r
    cases (show T = "str" from ty)
    exact ⟨typeIs_str s z t, fun _ e => nomatch e⟩
  | int i =>
    obtain ⟨t, rfl⟩ := r
    cases (show T = "int" from ty)
    exact ⟨typeIs_int s i t, fun _ e => nomatch e⟩
  | ref p =>
    cases r
    rcases ty with ⟨rfl, xs, hq⟩ | ⟨rfl, o, hk, hc, hd⟩ | ⟨rfl, hk⟩ | ⟨rfl, S, n, hk⟩
    · obtain ⟨its, _, pl, _⟩ := I.list hq
      refine ⟨pl.isList.typeIs, fun a e => ?_⟩
      cases e
      obtain ⟨o, n, e, c, hd, _⟩ := pl
      exact ⟨o, e, hd⟩
    · refine ⟨⟨o, I.kIn p o hk, hc⟩, fun a e => ?_⟩
      cases e
      exact ⟨o, I.kIn _ o hk, hd⟩
    · have z : ∃ o, s.heap.get? p = some o ∧ o.ExactDict := by
        rcases hk with ⟨kvs, hk⟩ | ⟨kvs, hk⟩
        · obtain ⟨_, _, _, _, o, _, _, e, ex, _⟩ := I.hok p _ hk
          exact ⟨o, e, ex⟩
        · obtain ⟨_, _, _, _, o, _, _, e, ex, _⟩ := I.hok p _ hk
          exact ⟨o, e, ex⟩
      obtain ⟨o, e, ex⟩ := z
      refine ⟨⟨o, e, ex.1⟩, fun a e2 => ?_⟩
      cases e2
      exact ⟨o, e, ex.2.1⟩
    · obtain ⟨o, _, _, _, e, ex, _⟩ := I.hok p _ hk
      refine ⟨⟨o, e, ex.1⟩, fun a e2 => ?_⟩
      cases e2
      exact ⟨o, e, ex.2.1⟩
  | _ => exact False.elim ty
def tBM0 (K : PySem.W.Frag) (T : String) (r : V → List V → Hp → VK → Prop) (to : TE) : TE := fun σ H Q => to σ H fun x H1 => tyV K T x H1 ∧ r x [] H1 Q
def tBM (K : PySem.W.Frag) (T : String) (r : V → List V → Hp → VK → Prop) (to : TE) (t : TA) : TE := fun σ H Q => to σ H fun x H1 => tyV K T x H1 ∧ t σ H1 fun xs H2 => r x xs H2 Q
variable {o e : Expr} {es : List Expr} {to : TE} {t : TA} {name : Str} {apos cpos : Pos} {T id : String} {r : V → List V → Hp → VK → Prop}
theorem pe_bm0 (pa : PlainAttrs T) (slot : Slot T name id) (hty : typeOf (.builtin id) = pure (.type "method_descriptor")) (hm : MtR X id r) (ho : PE X o to)
    (hbase : attributeBase o name X.env (eval o X.env) = eval o X.env := by rfl) (hline : (apos.endLine == cpos.line) = true := by rfl) : PE X (.Call (.Attribute o name apos) [] [] cpos) (tBM0 X.K T r to) := by
  intro pins s σ H Q I h
  refine wpAny_Call_method0_late hbase hline (thn (ho pins s σ H _ I h) fun v s1 ⟨x, H1, I1, r1, ty, q1⟩ => ?_)
  obtain ⟨h1, h2⟩ := tyV_is I1 r1 ty
  exact ⟨T, id, pa, slot, hty, h1, h2, Calls.callWith_builtin rfl (PySem.evalArgs_none (hm pins s1 σ H1 x [] v [] Q I1 r1 .nil q1))⟩
theorem pe_bm (pa : PlainAttrs T) (slot : Slot T name id) (hty : typeOf (.builtin id) = pure (.type "method_descriptor")) (hm : MtR X id r) (ho : PE X o to) (ha : PA X (e :: es) t)
    (hbase : attributeBase o name X.env (eval o X.env) = eval o X.env := by rfl)
    (hfew : ((backTo cpos (starEach (e :: es) X.env)).all (fun x => !x.1) && (backToKw cpos (keywordEach [] X.env)).all (fun x => x.1.isSome)
      && decide ((e :: es).length + ([] : List Keyword).length + (if ([] : List Keyword).isEmpty then 0 else 1) < 30)) = true := by rfl)
    (hline : (apos.endLine == cpos.line) = true := by rfl) (hs : starEach (e :: es) X.env = (false, eval e X.env) :: starEach es X.env := by rfl) (hplain : (backTo cpos (starEach es X.env)).any (·.1) = false := by rfl) :
    PE X (.Call (.Attribute o name apos) (e :: es) [] cpos) (tBM X.K T r to t) := by
  intro pins s σ H Q I h
  refine wpAny_Call_method_late hbase hfew hline rfl (thn (ho pins s σ H _ I h) fun v s1 ⟨x, H1, I1, r1, ty, q1⟩ => ?_)
  obtain ⟨h1, h2⟩ := tyV_is I1 r1 ty
  refine ⟨T, id, pa, slot, hty, h1, h2, ?_⟩
  have hA := ha cpos pins s1 σ H1 _ I1 q1
  rw [hs] at hA ⊢
  refine Calls.callWith_builtin (by show (false || (backTo cpos (starEach es X.env)).any (·.1)) = false; rw [hplain] <;> rfl) (Calls.evalArgs_plain ?_)
  exact thn hA fun us s2 ⟨vs, H2, I2, r2, q2⟩ => hm pins s2 σ H2 x vs v us Q I2 r1 r2 q2
/- xs.append(e), list.index on a module's tuple .. are MtR facts of 06m -/
end
end L2

namespace L2
open PySem PySem.Spec PyProof.Rows

def MtM (X : Cx) (id : String) (r : V → List V → Hp → VK → Prop) : Prop :=
  ∀ (pins : List (Addr × Obj)) (s : Shared) (σ : St) (H : Hp) (x : V) (xs : List V) (v : Value) (us : List Value) (Q : VK), Inv X pins σ H s → RelV x v → Vals xs us → r x xs H Q →
    wpAny (model X.prog X.w) X.A (call (.builtin id) (v :: us)) (EP X pins σ Q) X.xe s

/-! ### lists of values -/
theorem Vals.one : ∀ {x : V} {us : List Value}, Vals [x] us → ∃ u, us = [u] ∧ RelV x u
  | _, _, .cons r .nil => ⟨_, rfl, r⟩
theorem Vals.zero : ∀ {us : List Value}, Vals [] us → us = []
  | _, .nil => rfl
theorem Vals.dropLast {xs : List V} {us : List Value} (h : Vals xs us) : Vals xs.dropLast us.dropLast := by
  induction h with
  | nil => exact .nil
  | cons r t ih =>
    cases t with
    | nil => exact .nil
    | cons q t' => exact .cons r ih
theorem erase_last {α : Type} (l : List α) : l.eraseIdx (l.length - 1) = l.dropLast := by
  induction l with
  | nil => rfl
  | cons a r ih =>
    cases r with
    | nil => rfl
    | cons b r =>
      have e : (a :: b :: r).length - 1 = ((b :: r).length - 1) + 1 := by
        have h1 : (a :: b :: r).length = r.length + 2 := rfl
        have h2 : (b :: r).length = r.length + 1 := rfl
        omega
      rw [e, List.eraseIdx_cons_succ, ih]
      all_goals rfl
section
variable {X : Cx} {pins : List (Addr × Obj)} {σ : St} {H : Hp} {s : Shared} {l b : Addr} {xs ys zs : List V}

/-! ### the two steps: a tracked list is rewritten, a new list is laid -/
theorem Inv.lset {its its' : List Value} {n : Nat} {f : Array Value → Array Value} {t' : Nat} (I : Inv X pins σ H s) (hH : H l = some (.lst xs))
    (e : s.heap.get? l = some { cls := .type "list", data := .seq its.toArray n }) (hf : f its.toArray = its'.toArray) (hv : Vals ys its') (hz : ys.length ≤ sizeLine) :
    Inv X pins σ (upd H l (.lst ys)) { s with heap := s.heap.update l (Obj.mapSeq f), toks := t' } := by
  have q := PySem.IsL.update e f
  rw [hf] at q
  refine I.write (x := l) (e := l) (by rw [hH]; exact trivial) (.inl rfl) (fun b' u hb hu => (Heap.get?_update_other s.heap (Obj.mapSeq f) (Ne.symm hb)).trans hu) ⟨_, q⟩ ?_
  exact ⟨hz, its', _, hv, q⟩
theorem Inv.lnew {its : List Value} {t' : Nat} (I : Inv X pins σ H s) (hv : Vals ys its) (hz : ys.length ≤ sizeLine) :
    Inv X pins σ (upd H s.heap.objs.size (.lst ys)) { s with heap := s.heap.push { cls := .type "list", data := .seq its.toArray }, toks := t' } :=
  I.laid (fun _ _ q => Heap.get?_push_of_some _ q) (Nat.le_refl _) ⟨hz, its, 0, hv, Heap.get?_push_size _ rfl⟩
theorem Inv.fresh (I : Inv X pins σ H s) : H s.heap.objs.size = none := I.hok.fresh (Nat.le_refl _)
theorem Inv.lstM (I : Inv X pins σ H s) (hH : H l = some (.lst xs)) : xs.length ≤ sizeLine ∧ ∃ (its : List Value) (n : Nat), Vals xs its ∧ xs.length = its.length ∧ s.heap.get? l = some { cls := .type "list", data := .seq its.toArray n } := by
  obtain ⟨z, its, n, r, e⟩ := I.hok l _ hH
  exact ⟨z, its, n, r, r.length, e⟩

end

section
variable {X : Cx}

/-! ### methods -/
def rAppend : V → List V → Hp → VK → Prop := fun x vs H Q => ∃ l xs y, x = .ref l ∧ vs = [y] ∧ H l = some (.lst xs) ∧ xs.length < sizeLine ∧ Q .non (upd H l (.lst (xs ++ [y])))
theorem mt_append : MtM X "list.append" rAppend := by
  intro pins s σ H x vs v us Q I rx rv h
  obtain ⟨l, xs, y, rfl, rfl, hH, hz, q⟩ := h
  cases rx
  obtain ⟨u, rfl, ru⟩ := rv.one
  obtain ⟨z, its, n, r, hl, e⟩ := I.lstM hH
  refine call_meets F.slot_list_append ⟨_, e, rfl⟩ F.entry_list_append (F.args_list_append_2 _ _) (PySem.list_append l its.toArray n u (by rw [List.size_toArray]; omega)) ⟨e, ?_⟩
  refine ⟨.non, _, I.lset (its' := its ++ [u]) hH e (by simp) (r.append (.cons ru .nil)) ?_, rfl, q⟩
  rw [List.length_append, List.length_singleton]
  omega

def rExtend : V → List V → Hp → VK → Prop := fun x vs H Q => ∃ l b xs zs, x = .ref l ∧ vs = [.ref b] ∧ H l = some (.lst xs) ∧ H b = some (.lst zs) ∧ xs.length + zs.length ≤ sizeLine ∧ Q .non (upd H l (.lst (xs ++ zs)))
def rPop : V → List V → Hp → VK → Prop := fun x vs H Q => ∃ l xs y, x = .ref l ∧ vs = [] ∧ H l = some (.lst xs) ∧ xs[xs.length - 1]? = some y ∧ Q y (upd H l (.lst xs.dropLast))
theorem mt_pop : MtM X "list.pop" rPop := by
  intro pins s σ H x vs v us Q I rx rv h
  obtain ⟨l, xs, y, rfl, rfl, hH, hy, q⟩ := h
  cases rx
  have hus := rv.zero
  subst hus
  obtain ⟨z, its, n, r, hl, e⟩ := I.lstM hH
  obtain ⟨u, hu, ru⟩ := r.get hy
  have hy' : its.toArray[its.toArray.size - 1]? = some u := by
    show its.toArray[its.length - 1]? = some u
    rw [← Array.getElem?_toList, ← hl]
    exact hu
  refine call_meets F.slot_list_pop ⟨_, e, rfl⟩ F.entry_list_pop (F.args_list_pop_1 _) (MeetsSeq.list_pop_last l its.toArray n u hy' (by rw [List.size_toArray]; omega)) ⟨e, ?_⟩
  refine ⟨y, _, I.lset (its' := its.dropLast) hH e ?_ r.dropLast ?_, ru, q⟩
  · show its.toArray.eraseIdxIfInBounds (its.toArray.size - 1) = its.dropLast.toArray
    rw [List.size_toArray, List.eraseIdxIfInBounds_toArray, erase_last]
  · rw [List.length_dropLast]
    omega

def rPopAt : V → List V → Hp → VK → Prop := fun x vs H Q => ∃ l xs i k y, x = .ref l ∧ vs = [.int i] ∧ H l = some (.lst xs) ∧ -(2 ^ 63) ≤ i ∧ i < 2 ^ 63 ∧ seqIndex? i xs.length = some k ∧ xs[k]? = some y ∧ Q y (upd H l (.lst (xs.eraseIdx k)))
def rReverse : V → List V → Hp → VK → Prop := fun x vs H Q => ∃ l xs, x = .ref l ∧ vs = [] ∧ H l = some (.lst xs) ∧ Q .non (upd H l (.lst xs.reverse))
def rClear : V → List V → Hp → VK → Prop := fun x vs H Q => ∃ l xs, x = .ref l ∧ vs = [] ∧ H l = some (.lst xs) ∧ Q .non (upd H l (.lst []))
/-! ### list + list, list += list, list * int -/
def rCat : R2 := fun x y H Q => ∃ l b xs zs, x = .ref l ∧ y = .ref b ∧ H l = some (.lst xs) ∧ H b = some (.lst zs) ∧ xs.length + zs.length ≤ sizeLine ∧ ∀ p, H p = none → Q (.ref p) (upd H p (.lst (xs ++ zs)))
theorem op_cat : OpR X (binaryOp .Add) rCat := by
  intro pins s σ H x y v u Q I rx ry h
  obtain ⟨l, b, xs, zs, rfl, rfl, hH, hB, hz, q⟩ := h
  cases rx
  cases ry
  obtain ⟨z, its, n, r, hl, e⟩ := I.lstM hH
  obtain ⟨z2, its2, n2, r2, hl2, e2⟩ := I.lstM hB
  refine PySem.P.add_list e e2 ?_ (by rw [List.size_toArray, List.size_toArray]; omega)
  have ea : its.toArray ++ its2.toArray = (its ++ its2).toArray := by simp
  rw [ea]
  exact ⟨.ref _, _, I.lnew (t' := s.toks) (r.append r2) (by rw [List.length_append]; omega), rfl, q _ I.fresh⟩
/-- a list times an int (a negative one is nothing) -/
def rRep : R2 := fun x y H Q => ∃ l k xs, x = .ref l ∧ y = .int k ∧ H l = some (.lst xs) ∧ -(2 ^ 63) ≤ k ∧ k < 2 ^ 63 ∧ xs.length * k.toNat ≤ sizeLine ∧
  ∀ p, H p = none → Q (.ref p) (upd H p (.lst (List.replicate k.toNat xs).flatten))
theorem len_rep {α : Type} (xs : List α) (k : Nat) : (List.replicate k xs).flatten.length = k * xs.length := by
  induction k with
  | zero => simp
  | succ k ih => rw [List.replicate_succ, List.flatten_cons, List.length_append, ih, Nat.succ_mul, Nat.add_comm]
/-! ### del xs[i] -/
end

/-! ### xs[a:b] = ys -/
section
variable {prog : Program} {w : World} {A : Around} {E : Value → Shared → Prop} {s : Shared}
end

section
variable {X : Cx}
end
end L2

namespace Att
open PySem PySem.W PySem.Calls PyProof.Rows

/-! ### the script -/
theorem ints_of_wellAll {P : Params} {h : Heap} : ∀ (ns : List Int) (vs : List Value), WellAll P h vs (ns.map WData.int) → IntsAre vs ns := by
  intro ns
  induction ns with
  | nil =>
    intro vs w
    rw [List.map_nil] at w
    cases w
    exact .nil
  | cons n ns ih =>
    intro vs w
    rw [List.map_cons] at w
    cases w with
    | cons a b =>
      cases a
      exact .cons _ _ (ih _ b)

theorem script_of {l : OpenLaw} {n : Nat} (hn : l.most = some n) {P : Params} {h : Heap} {args : List WData} {vals : List Value}
    (hpre : l.row.toRowW.claim.pre args = true) (hwl : WellAll P h vals args) :
    ∃ a vs ns, vals = [Value.ref a] ∧ args = [WData.list (ns.map WData.int)] ∧ h.get? a = some { cls := .type "list", data := .seq vs.toArray } ∧ IntsAre vs ns ∧ ns.length ≤ n := by
  have hsh : WShape.hasAll [] args [.list .int] = true := (pre_splitW hpre).1
  have hc : l.pre.holds [] { args := args } = true := (pre_splitW hpre).2
  obtain ⟨d, r, rfl, h1, h2⟩ := hasAllW_cons hsh
  obtain rfl := hasAllW_nil h2
  obtain ⟨xs, rfl, h3⟩ := hasW_list h1
  obtain ⟨ns, rfl⟩ := items_int h3
  have hlen : ns.length ≤ n := by
    unfold OpenLaw.pre at hc
    have h4 : (WTm.not (.lt (.lit (.int (n : Int))) (.len (.arg 0)))).holds [] { args := [.list (ns.map .int)] } = true := by
      have h4 := (holds_andW hc).1
      rw [hn] at h4
      exact h4
    have h5 := condW_of h4 (w_not (w_lt w_lit (w_len_list (w_arg rfl))))
    rw [List.length_map] at h5
    refine Nat.le_of_not_lt fun q => ?_
    have q' : (n : Int) < ((ns.length : Nat) : Int) := by omega
    first
      | (rw [decide_eq_true q'] at h5; exact absurd h5 (by decide))
      | (simp at h5; omega)
  cases hwl with
  | cons w1 w2 =>
    cases w2
    cases w1 with
    | list ho hall => exact ⟨_, _, ns, rfl, rfl, ho, ints_of_wellAll ns _ hall, hlen⟩

theorem post_true (l : OpenLaw) (args : List WData) : l.row.toRowW.claim.post args (.bool true) args = true :=
  postW_of (r := l.row.toRowW) (X := (true == true))
    (show WShape.has [] (.bool true) .bool = true by first | rfl | decide | simp [WShape.has, WShape.arms, WShape.armsAll])
    (show (WTm.eq .res (.lit (.bool true))).value [] { args := args, res := some (.bool true), after := args } = some (.bool (true == true)) from w_eq_bool (w_res rfl) w_lit) rfl

/-! ### the attachment: holds_open's last premise (the goal 'hc' behind k_head) from a wpAny of the law's body -/
/-- the same from a codeAny of the CALL (for a layer whose function contracts speak of calls) -/
theorem attach_call {l : OpenLaw} {n : Nat} {q : Program} {loose : List Str} {XP : (Str → Option Value) → Heap → Prop} {YP : World → Heap → Prop} {d : DefRec}
    (hn : l.most = some n) (hdf : d.params.defaults = [])
    (call : ∀ (w : World) (s₀ s₁ : Shared) (mg mb : Str → Option Value) (fa : Addr) (o : Obj) (pm cd doc : Value) (a : Addr) (vs : List Value) (ns : List Int),
      Ground q loose [] XP w s₀ mg mb s₁.heap → YP w s₁.heap →
      s₁.heap.get? fa = some o → o.data = .func (docDef d.name d.params d.body d.scope pm cd doc) → s₁.heap.CodeRec cd d.name → mg d.name = some (.ref fa) →
      s₁.heap.get? a = some { cls := .type "list", data := .seq vs.toArray } → IntsAre vs ns → ns.length ≤ n → s₁.gens = #[] →
      codeAny (model l.prog w) callerA (.call (.ref fa) ⟨[.ref a], []⟩) (fun r s' => r = .ok (.ret (.bool true)) ∧ OldK s₁.heap s'.heap ∧ s'.os = s₁.os ∧ AllBare s'.gens) s₁) :
    WalkO q loose XP YP l.row.toRowW d [] (fun f vs => PySem.call f vs) := by
  intro w s₀ s₁ mg mb G Y fa o pm cd doc dV kV ho hd hcd hD hmg hg args vals as hpre hlay hrd hwl hlo
  obtain rfl : dV = .none := Dflts.none hD hdf
  obtain rfl : kV = .none := Dflts.noKw hD
  obtain ⟨a, vs, ns, rfl, rfl, hobj, hints, hlen⟩ := script_of hn hpre hwl
  refine enter_call (codeAny_mono (call w s₀ s₁ mg mb fa o pm cd doc a vs ns G Y ho (fd_plain hd) hcd hmg hobj hints hlen hg) fun r s' hq => ?_)
  obtain ⟨rfl, h2, h3, h4⟩ := hq
  exact ⟨.inl ⟨.bool true, .bool true, [], rfl, fun _ => rfl, .bool true, post_true l _, fun _ => ⟨List.Pairwise.nil, fun _ hm => (nomatch hm)⟩⟩, h2, h3, h4⟩

/-! ### rules over ANY heap (no ledger) from facts about the written part K: the library's own take a ledger (News) for what they write -/
section
variable {prog : Program} {w : World} {A : Around} {E : Value → Shared → Prop} {s : Shared} {K : Frag}

/-! the whole heap as the ledger: makes every rule that writes through a ledger a rule over any heap -/
def noObjs (h : Heap) : Heap := { h with objs := #[] }
def ledger (h : Heap) (L d : Addr) : List (Addr × Obj) := (List.range h.objs.size).filterMap fun a => if a = L ∨ a = d then none else (h.get? a).map fun o => (a, o)
end
end Att

namespace L2
open PySem PySem.Spec PyProof.Rows

theorem vals_ints : ∀ {vs : List Value} {ns : List Int}, IntsAre vs ns → Vals (ns.map V.int) vs
  | _, _, .nil => .nil
  | _, _, .cons n t h => .cons ⟨t, rfl⟩ (vals_ints h)

/-- nothing is tracked but the script, known to the object (or it is an object of the module) -/
def Only (H : Hp) : Prop := ∀ b, H b = none ∨ ∃ o xs, H b = some (.frz o (.lst xs))

/-- THE HEAD: the law's promise, at the heap behind the top. F, the promise of the law's def, may use that base is part of the heap (so K.In base, base.Ns mainGlobals mg stand in Mod) -/
theorem law_call {P : Program} {w : World} {K : PySem.W.Frag} {mg mb : Str → Option Value} {CX : CXT} {k : Nat} {fa a : Addr} {fd : FuncData} {x : Str} {sp : Sp} {s₁ : Shared} {vs : List Value} {ns : List Int}
    (KX : K.In s₁.heap) (hns : s₁.heap.Ns mainGlobals mg) (hb : s₁.heap.Ns builtinsNs mb) (hbb : ∀ x : Str, x ≠ "__name__" → mb x = bootBuiltins x) (hlim : s₁.heap.NoLimit) (hg : s₁.gens = #[])
    (ha : s₁.heap.get? a = some { cls := .type "list", data := .seq vs.toArray }) (hi : IntsAre vs ns) (hl : ns.length ≤ sizeLine) (hr : Room k callerA)
    (F : ∀ base : Heap, K.In base → base.Ns mainGlobals mg → FnOk P w K mg base CX k fa fd [x] sp) (hbind : ∀ (s : Shared) (u : Value), BindsTo s fd ⟨[u], []⟩ [(x, u)])
    (hsp : ∀ H : Hp, Only H → SqL K H a (ns.map V.int) → sp [.ref a] H (fun v _ => v = .bl true) fun _ _ _ => False)
    (hCX : ∀ H e s', CX [] H s₁ (fun _ _ _ => False) e s' → False) :
    codeAny (model P w) callerA (.call (.ref fa) ⟨[.ref a], []⟩) (fun r s' => r = .ok (.ret (.bool true)) ∧ OldK s₁.heap s'.heap ∧ s'.os = s₁.os ∧ AllBare s'.gens) s₁ := by
  have rv := vals_ints hi
  have lenV := hi.length
  -- from an abstract heap in which nothing but the script may be tracked
  have core : ∀ H : Hp, Only H → SqL K H a (ns.map V.int) → HOk P w H s₁.heap → (∀ b, H b ≠ none → b = a) → (H a ≠ none → K.lookup a = none) →
      codeAny (model P w) callerA (.call (.ref fa) ⟨[.ref a], []⟩) (fun r s' => r = .ok (.ret (.bool true)) ∧ OldK s₁.heap s'.heap ∧ s'.os = s₁.os ∧ AllBare s'.gens) s₁ := by
    intro H hO hS hok hA hK
    have base_of : ∀ {b : Addr} {o : Obj}, s₁.heap.get? b = some o → H b = none → (hidT s₁.heap H).get? b = some o := fun e n => hidT_get e n
    have noA : ∀ {b : Addr} {o : Obj} {es : Array DictEntry} {ep : Nat}, s₁.heap.get? b = some o → o.data = .dict es ep → H b = none := fun {b o es ep} e d => by
      cases q : H b with
      | none => rfl
      | some u =>
        have e' : b = a := hA b (by rw [q]; simp)
        subst e'
        rw [ha] at e; cases e
        have d' : Data.seq vs.toArray _ = Data.dict es ep := d
        cases d'
    have nsK : ∀ {b : Addr} {m : Str → Option Value}, s₁.heap.Ns b m → (hidT s₁.heap H).Ns b m := fun {b m} ⟨o, es, ep, e, d, r⟩ => ⟨o, es, ep, base_of e (noA e d), d, r⟩
    have hKb : K.In (hidT s₁.heap H) := fun b o e => base_of (KX b o e) (by
      cases q : H b with
      | none => rfl
      | some u =>
        have e' : b = a := hA b (by rw [q]; simp)
        subst e'
        rw [hK (by rw [q]; simp)] at e; cases e)
    have hM : Mod K mg (hidT s₁.heap H) := ⟨hKb, nsK hns, ⟨mb, nsK hb, hbb⟩, let ⟨mc, h1, h2⟩ := hlim; ⟨mc, nsK h1, h2⟩⟩
    have e0 : Env0 P w K mg (hidT s₁.heap H) callerA [] s₁ H := ⟨rfl, hM, fun b o e => of_hidT e, Nat.le_of_eq (hidT_size _ _), trivial, fun b hb => absurd (show b ∈ ([] : List Addr) from hb) (by simp), hok, .of_eq hg⟩
    refine codeAny_mono ((F _ hKb (nsK hns)).run callerA [] s₁ H ⟨[.ref a], []⟩ [.ref a] [.ref a] _ _ hr e0 (hbind s₁ (.ref a)) (.cons rfl .nil) (hsp H hO hS)) fun r s' h => ?_
    cases r with
    | error e => exact (hCX H e s' h).elim
    | ok fl =>
      cases fl with
      | next => exact False.elim h
      | brk => exact False.elim h
      | cont => exact False.elim h
      | ret u =>
        obtain ⟨v, H', os, bare, un, hok', r', q⟩ := h
        have q' : v = .bl true := q
        subst q'
        obtain rfl : u = Value.bool true := r'
        refine ⟨rfl, OldK.of_keep fun b o e => ?_, os, bare⟩
        cases q : H b with
        | none => exact un.keep b o e q (by intro z; exact absurd (show b ∈ ([] : List Addr) from z) (by simp)) (by simp)
        | some u =>
          rcases hO b with z | ⟨ob, xs, z⟩
          · rw [q] at z; cases z
          · have z2 := un.frzs b ob _ z
            obtain ⟨e1, _⟩ := hok b _ z
            obtain ⟨e2, _⟩ := hok' b _ z2
            rw [e] at e1; cases e1
            exact e2
  cases hk : K.lookup a with
  | some o =>
    -- the script is one of the module's own objects
    have e := KX a o hk
    rw [ha] at e
    cases e
    refine core (fun _ => none) (fun _ => .inl rfl) (.inr ⟨_, vs.toArray, _, hk, rfl, rfl, rfl, by rw [List.size_toArray, lenV]; exact hl, by simpa using rv⟩) (fun b u z => by have z' : (none : Option HO) = some u := z; cases z') (fun b z => absurd rfl z) fun z => absurd rfl z
  | none =>
    refine core (fun b => if b = a then some (.frz { cls := .type "list", data := .seq vs.toArray } (.lst (ns.map V.int))) else none) (fun b => ?_) (.inl (.inr ⟨{ cls := .type "list", data := .seq vs.toArray }, if_pos rfl⟩)) (fun b u z => ?_) (fun b z => ?_) fun _ => hk
    · by_cases hb : b = a
      · exact .inr ⟨_, _, if_pos hb⟩
      · exact .inl (if_neg hb)
    · by_cases hb : b = a
      · have z' := (if_pos hb).symm.trans z
        cases z'
        subst hb
        exact ⟨ha, by rw [List.length_map]; exact hl, vs, _, rv, ha⟩
      · have z' := (if_neg hb).symm.trans z
        cases z'
    · by_cases hb : b = a
      · exact hb
      · exact absurd (if_neg hb) z
end L2

namespace L2
open PySem PySem.Spec PyProof.Rows

abbrev KOf {K : PySem.W.Frag} {h : Heap} (_ : K.In h) : PySem.W.Frag := K

/-- the goal that k_head leaves (case hc), from the law's promise. F gives the function object fd (K's own) once, then the promise over every base -/
theorem walk_of {l : PySem.W.OpenLaw} {n k : Nat} {q : Program} {loose : List Str} {XP : (Str → Option Value) → Heap → Prop} {YP : World → Heap → Prop} {d : DefRec} {K : Params → PySem.W.Frag} {CX : World → CXT} {sp : World → Sp} {x : Str}
    (hn : l.most = some n) (hn2 : n ≤ sizeLine) (hdf : d.params.defaults = []) (hr : Room k callerA)
    (hY : ∀ (w : World) (h : Heap), YP w h → (K w.params).In h)
    (F : ∀ (w : World) (mg : Str → Option Value) (fa : Addr) (h : Heap), (K w.params).In h → h.Ns mainGlobals mg → mg d.name = some (.ref fa) →
      ∃ fd : FuncData, (∀ (s : Shared) (u : Value), BindsTo s fd ⟨[u], []⟩ [(x, u)]) ∧
        ∀ base : Heap, (K w.params).In base → base.Ns mainGlobals mg → FnOk l.prog w (K w.params) mg base (CX w) k fa fd [x] (sp w))
    (hsp : ∀ (w : World) (H : Hp) (a : Addr) (ns : List Int), ns.length ≤ n → Only H → SqL (K w.params) H a (ns.map V.int) → sp w [.ref a] H (fun v _ => v = .bl true) fun _ _ _ => False)
    (hCX : ∀ (w : World) (H : Hp) (s : Shared) (e : Value) (s' : Shared), CX w [] H s (fun _ _ _ => False) e s' → False) :
    PySem.W.WalkO q loose XP YP l.row.toRowW d [] (fun f vs => PySem.call f vs) := by
  refine Att.attach_call hn hdf fun w s₀ s₁ mg mb fa o pm cd doc a vs ns G Y ho hd hcd hmg hobj hints hlen hg => ?_
  have KX := hY w _ Y
  obtain ⟨fd, hb, hF⟩ := F w mg fa _ KX G.T.g hmg
  exact law_call KX G.T.g G.T.b G.T.builtins G.T.nolimit hg hobj hints (Nat.le_trans hlen hn2) hr hF hb (fun H hO hS => hsp w H a ns hlen hO hS) fun H e s' => hCX w H s₁ e s'
end L2

/- THE LAST THEOREM (shape; LID, My.* are yours):
   My.Adr: a structure of the addresses that your layer names (classes, functions); My.Txt K t: a structure (Prop) of the equations over K;
   My.txt_mk : {K} {implicit addresses ..} (e1 : nsIn K mainGlobals "law" = some (some (.ref f))) (e2 : K.lookup f = some ⟨oc, od, .func (fnOf "law" "law" params body scope dV kV doc pm an cdv ct), sl⟩) (e3 : codeIn K cdv "law" = true) .. : ∃ t, My.Txt K t

set_option maxRecDepth 100000 in
set_option maxHeartbeats 0 in
theorem PySem.Challenge.cw_LID_holds : PySem.Challenge.rw_LID.Holds := by
  w_on; o_law; k_head; (case hw => w_witness2)
  k_fill
  refine L2.walk_of (l := PySem.Challenge.rw_LID) (n := 63) (k := 40) (x := "script") (CX := fun w => ..) (sp := fun _ => My.sp_law) rfl (by decide) rfl ⟨rfl, by decide, by decide⟩ (fun w h Y => PySem.W.kIn_of Y) ?F ?S ?C
  case F =>
    intro w mg fa h KX G hmg
    have T : ∃ t, My.Txt (L2.KOf KX) t := by
      dsimp only [L2.KOf]                          -- K must stand as «<heap const> w.params» for k_is
      refine' My.txt_mk ?e1 ?e2 ?e3 ..
      (case e1 => PySem.W.k_is)                    -- in the order: a name -> its address -> its object -> its parts
      (case e2 => PySem.W.k_is)
      ..
    obtain ⟨t, T⟩ := T
    have e0 := hmg.symm.trans (PySem.W.mg_of KX G T.law)
    cases e0                                       -- fa is the law's own address
    exact ⟨_, fun s u => .of_eq rfl, fun base kb nb => My.law_fn T kb nb⟩     -- if «.of_eq rfl» comes too early: refine' ⟨_, ?b, fun base kb nb => My.law_fn T kb nb⟩; exact fun s u => .of_eq rfl
  case S => exact fun w H a ns hl hO hS => ..
  case C => exact ..
(the tactic k_is has no namespace: write k_is) -/

/-! SHORT WORDS over the layer: a def of the text, its body, what a loop and a test want. -/
namespace L2
open PySem PySem.Spec PyProof.Rows

/-! ### the text by places -/
/-- the j-th statement of a class's body -/
def inClass (s : Stmt) (j : Nat) : Stmt := match s with
  | .ClassDef _ _ _ body _ _ _ _ _ _ _ => body.getD j (.Pass ⟨0, 0, 0, 0⟩)
  | _ => .Pass ⟨0, 0, 0, 0⟩
def defArgs (s : Stmt) : Arguments := match s with
  | .FunctionDef _ a _ _ _ _ _ _ _ _ => a
  | _ => { posonlyargs := [], args := [], vararg := none, kwonlyargs := [], kw_defaults := [], kwarg := none, defaults := [] }
def defBody (s : Stmt) : List Stmt := match s with
  | .FunctionDef _ _ b _ _ _ _ _ _ _ => b
  | _ => []
def defScope (s : Stmt) : Scope := match s with
  | .FunctionDef _ _ _ _ _ _ sc _ _ _ => sc
  | _ => { kind := .function, names := [], isGenerator := false, isCoroutine := false }

/-! ### no exception leaves a def -/
abbrev CX0 : CXT := fun _ _ _ _ _ _ => False
abbrev E0 : XK := fun _ _ _ => False
/-! ### a def (or method) of the text as it stands behind the top -/
structure Fun (K : PySem.W.Frag) (x qual : Str) (st : Stmt) (f : Addr) (fd : FuncData) : Prop where
  ex : ∃ (oc : Value) (od : Option Addr) (kV doc pm : Value) (an : Option Addr) (cdv ct : Value) (osl : Array (Option Value)),
    fd = PySem.W.fnOf x qual (defArgs st) (defBody st) (defScope st) .none kV doc pm an cdv ct ∧ K.lookup f = some ⟨oc, od, .func fd, osl⟩ ∧ PySem.W.codeIn K cdv qual = true
  kp : PySem.W.keepIn K (.ref f) = true
section
variable {P : Program} {w : World} {K : PySem.W.Frag} {mg : Str → Option Value} {base : Heap}
/-- how its arguments bind (no defaults): h is «fun _ _ _ _ _ _ us hl => match us, hl with | [_, _], _ => rfl», one _ a parameter -/
theorem Fun.binds {x qual : Str} {st : Stmt} {f : Addr} {fd : FuncData} {ps : List Str} (F : Fun K x qual st f fd)
    (h : ∀ (kV doc pm : Value) (an : Option Addr) (cdv ct : Value) (us : List Value), us.length = ps.length → bindArgs (PySem.W.fnOf x qual (defArgs st) (defBody st) (defScope st) .none kV doc pm an cdv ct) ⟨us, []⟩ = pure (ps.zip us)) : Binds K fd ps [] := by
  obtain ⟨oc, od, kV, doc, pm, an, cdv, ct, osl, rfl, lk, hcd⟩ := F.ex
  exact .all (h kV doc pm an cdv ct)
theorem fun_mk {x qual : Str} {st : Stmt} {f : Addr} {oc : Value} {od an : Option Addr} {osl : Array (Option Value)} {kV doc pm cdv ct : Value} (l : K.lookup f = some ⟨oc, od, .func (PySem.W.fnOf x qual (defArgs st) (defBody st) (defScope st) .none kV doc pm an cdv ct), osl⟩)
    (c : PySem.W.codeIn K cdv qual = true) (k : PySem.W.keepIn K (.ref f) = true) : Fun K x qual st f (PySem.W.fnOf x qual (defArgs st) (defBody st) (defScope st) .none kV doc pm an cdv ct) := ⟨⟨oc, od, kV, doc, pm, an, cdv, ct, osl, rfl, l, c⟩, k⟩
end
theorem small1000 {n : Nat} (h : n ≤ 1000) : n < sizeLine := Nat.lt_of_le_of_lt h (by decide)

/-! ### expressions in short: the name that stands in the i-th slot -/
section
variable {X : Cx}
theorem pv (i : Nat) {x : Str} {pos : Pos} (hN : X.N[i]? = some x := by rfl) (hv : Vis X.env.scope x := by first | exact Or.inl rfl | exact Or.inr (Or.inl rfl) | exact Or.inr (Or.inr rfl)) (hd : (x == ("__debug__" : Str)) = false := by decide)
    (hcd : (x == ("__classdict__" : Str)) = false := by decide) : PE X (.Name x pos) (tVar i) := pe_var hN hv hd hcd
end

/-! ### tests -/
theorem iteF {A B : Prop} (h : B) : if false = true then A else B := by
  rw [if_neg Bool.false_ne_true]
  exact h
theorem iteT {A B : Prop} (h : A) : if true = true then A else B := by
  rw [if_pos rfl]
  exact h
/-! ### heaps -/
/-- all that was tracked is as it was -/
def Same (H H' : Hp) : Prop := ∀ b o, H b = some o → H' b = some o
theorem Same.refl (H : Hp) : Same H H := fun _ _ h => h
theorem Same.trans {H H1 H2 : Hp} (a : Same H H1) (b : Same H1 H2) : Same H H2 := fun c o h => b c o (a c o h)
theorem Same.free {H H' : Hp} (e : Same H H') {l : Addr} (h : H' l = Option.none) : H l = Option.none := by
  cases q : H l with
  | none => rfl
  | some o =>
    rw [e l o q] at h
    cases h
end L2

set_option maxHeartbeats 4000000

/-! ### more rules: wide numbers, isinstance, == of tuples -/
namespace L2
open PySem PySem.Spec PyProof.Rows
/-- fewer than n bits -/
def Bz (n : Nat) (x : Int) : Prop := x.natAbs < 2 ^ n
theorem Bz.mono {m n : Nat} {x : Int} (h : Bz m x) (hn : m ≤ n) : Bz n x := Nat.lt_of_lt_of_le h (Nat.pow_le_pow_right (by decide) hn)
theorem Bz.bits {n : Nat} {x : Int} (h : Bz n x) : Builtin.Int.intBits x ≤ n := PySem.intBits_le_iff.mpr h
theorem Bz.mulOk {m n : Nat} {x y : Int} (hx : Bz m x) (hy : Bz n y) (h : m + n ≤ 134217728 := by decide) : IntMulOk x y := PySem.IntMulOk.of_le hx.bits hy.bits h
theorem Bz.le {n : Nat} {x y : Int} (hx : Bz n x) (h : y.natAbs ≤ x.natAbs) : Bz n y := Nat.lt_of_le_of_lt h hx
theorem Bz.w {x : Int} (h1 : -340282366920938463463374607431768211456 < x) (h2 : x < 340282366920938463463374607431768211456) : Bz 128 x := by
  show x.natAbs < 340282366920938463463374607431768211456
  omega
theorem Bz.log2 {n : Nat} {x : Int} (h : Bz n x) (hn : n ≤ 9000 := by decide) : x.natAbs.log2 < 9000 := by
  by_cases h0 : x.natAbs = 0
  · rw [h0]; decide +kernel
  · exact (Nat.log2_lt h0).mpr (Nat.lt_of_lt_of_le h (Nat.pow_le_pow_right (by decide) hn))
def CDivB (_ j : Int) : Prop := 0 < j ∧ j.natAbs.log2 < 9000
def CDivM (_ j : Int) : Prop := j ≠ 0 ∧ j.natAbs.log2 < 9000
section
variable {X : Cx}
theorem op_mulB : OpR X (binaryOp .Mult) (rI IntMulOk fun i j => .int (i * j)) := opI fun _ _ _ _ _ _ _ hc q => mul_int q hc
theorem op_fdivB : OpR X (binaryOp .FloorDiv) (rI CDivB fun i j => .int (i / j)) := opI fun i j _ _ _ _ _ hc q => by
  have h1 : (0 : Int) < j := hc.1
  exact floordiv_int (by omega) (by rw [Int.fdiv_eq_ediv_of_nonneg i (by omega)]; exact q) (.inl (PyProof.noPylong_of_log2 hc.2))
theorem op_fdivM : OpR X (binaryOp .FloorDiv) (rI CDivM fun i j => .int (i.fdiv j)) := opI fun i j _ _ _ _ _ hc q =>
  floordiv_int hc.1 q (.inl (PyProof.noPylong_of_log2 hc.2))
/-- a statement, by what holds between it and the rest -/
theorem ps_mid {st : Stmt} {t : TS} (h : PS X st t) : PS X st (fun D σ H => ∃ P : St → Hp → Prop, t { D with nx := P } σ H ∧ ∀ σ' H', P σ' H' → D.nx σ' H') := by
  intro pins s σ H D I hw
  obtain ⟨P', hp, hk⟩ := hw
  refine thn (h pins s σ H _ I hp) fun f s1 q => ?_
  cases f with
  | next => obtain ⟨σ', H', I', p⟩ := q; exact ⟨σ', H', I', hk _ _ p⟩
  | ret v => exact q
  | brk => exact q
  | cont => exact q
/-- isinstance(x, T), T a built-in type -/
theorem call_isi : CallR X (.builtin "isinstance") (fun xs H Q => ∃ x n t b, xs = [x, .ty n] ∧ TyOf X.K H x t ∧ PySem.W.kitOne X.K t (.type n) = some b ∧ Q (.bl b) H) := by
  intro pins s σ H xs us Q I r h
  obtain ⟨x, n, t, b, rfl, ty, e, q⟩ := h
  obtain ⟨u, w', rfl, r1, r2⟩ := vals2 r
  cases r2
  exact isinst_ok I r1 ty e fun tk => ⟨.bl b, H, I.tok tk, rfl, q⟩
/-- == of two tuples of flat items -/
def eqLV (xs ys : List V) : Bool := (List.range (min xs.length ys.length)).all (fun j => eqV (xs.getD j .non) (ys.getD j .non)) && xs.length == ys.length
def rEqT (K : PySem.W.Frag) : R2 := fun x y H Q => ∃ a b xs ys, x = .ref a ∧ y = .ref b ∧ SqT K H a xs ∧ SqT K H b ys ∧ xs.all flatV = true ∧ ys.all flatV = true ∧ Q (.bl (eqLV xs ys)) H
end
theorem kp {H : Hp} {a p : Addr} {o u : HO} (h : H a = some o) (hp : H p = none) : upd H p u a = some o := by rw [upd_ne (ne_of_none h hp)]; exact h
theorem iteN {c A B : Prop} [Decidable c] (hc : ¬ c) (h : B) : if decide c = true then A else B := by
  rw [if_neg (fun z => hc (of_decide_eq_true z))]
  exact h
theorem iteY {c A B : Prop} [Decidable c] (hc : c) (h : A) : if decide c = true then A else B := by
  rw [if_pos (decide_eq_true hc)]
  exact h
theorem ite3 {c A B : Prop} [Decidable c] (h1 : c → A) (h2 : ¬ c → B) : if decide c = true then A else B := by
  by_cases h : c
  · exact iteY h (h1 h)
  · exact iteN h (h2 h)
theorem iteNo {c A B : Prop} [Decidable c] (h1 : ¬ c → A) (h2 : c → B) : if (!decide c) = true then A else B := by
  by_cases h : c
  · rw [decide_eq_true h]; exact iteF (h2 h)
  · rw [decide_eq_false h]; exact iteT (h1 h)
theorem sz {n : Nat} (h : n ≤ 1000 := by first | decide | (simp; done) | omega) : n ≤ sizeLine := Nat.le_of_lt (small1000 h)
theorem at_ints {ns : List Int} {k : Int} (h0 : 0 ≤ k) (h : k < (ns.length : Int)) : ∃ v : Int, atI (ns.map V.int) k = some (.int v) := by
  have hk : k.toNat < ns.length := by omega
  have ek : k = ((k.toNat : Nat) : Int) := by omega
  have q : atI (ns.map V.int) ((k.toNat : Nat) : Int) = some (.int ns[k.toNat]) := atI_nat (by rw [List.getElem?_map, List.getElem?_eq_getElem hk]; rfl)
  rw [← ek] at q
  exact ⟨_, q⟩
end L2

/-! ### values as data: deep == and != -/
namespace L2
open PySem PySem.Spec PyProof.Rows
mutual
inductive DV (K : PySem.W.Frag) (H : Hp) : V → PyData → Prop
  | non : DV K H .non .none
  | bl (b : Bool) : DV K H (.bl b) (.bool b)
  | int (i : Int) : DV K H (.int i) (.int i)
  | str (x : Str) : DV K H (.str x) (.str x)
  | lst {a : Addr} {xs : List V} {ds : List PyData} : SqL K H a xs → DVs K H xs ds → DV K H (.ref a) (.list ds)
  | tup {a : Addr} {xs : List V} {ds : List PyData} : SqT K H a xs → DVs K H xs ds → DV K H (.ref a) (.tuple ds)
inductive DVs (K : PySem.W.Frag) (H : Hp) : List V → List PyData → Prop
  | nil : DVs K H [] []
  | cons {x : V} {xs : List V} {d : PyData} {ds : List PyData} : DV K H x d → DVs K H xs ds → DVs K H (x :: xs) (d :: ds)
end
section
variable {X : Cx} {pins : List (Addr × Obj)} {σ : St} {H : Hp} {s : Shared}
mutual
theorem DV.reads (I : Inv X pins σ H s) : ∀ {x : V} {d : PyData} {u : Value}, DV X.K H x d → RelV x u → ∃ as, Reads s.heap u d as
  | _, _, _, .non, r => by cases r; exact ⟨_, .none⟩
  | _, _, _, .bl b, r => by cases r; exact ⟨_, .bool b⟩
  | _, _, _, .int i, r => by obtain ⟨t, rfl⟩ := r; exact ⟨_, .int i t⟩
  | _, _, _, .str x, r => by obtain ⟨t, rfl⟩ := r; exact ⟨_, .str x t⟩
  | _, _, _, .lst h hs, r => by
    cases r
    obtain ⟨its, rv, ⟨o, n, e, c, _, dd⟩, _⟩ := I.list h
    obtain ⟨as, q⟩ := DVs.reads I hs rv
    exact ⟨_, .list e c dd (by simpa using q)⟩
  | _, _, _, .tup h hs, r => by
    cases r
    obtain ⟨its, rv, ⟨o, e, c, n, dd⟩, _⟩ := I.tuple h
    obtain ⟨as, q⟩ := DVs.reads I hs rv
    exact ⟨_, .tuple e c dd (by simpa using q)⟩
theorem DVs.reads (I : Inv X pins σ H s) : ∀ {xs : List V} {ds : List PyData} {us : List Value}, DVs X.K H xs ds → Vals xs us → ∃ as, ReadsAll s.heap us ds as
  | _, _, _, .nil, r => by cases r; exact ⟨_, .nil⟩
  | _, _, _, .cons h hs, r => by
    cases r with
    | cons r rr =>
      obtain ⟨as, q⟩ := DV.reads I h r
      obtain ⟨bs, q'⟩ := DVs.reads I hs rr
      exact ⟨_, .cons q q'⟩
end
end
def rEqD (K : PySem.W.Frag) : R2 := fun x y H Q => ∃ dx dy, DV K H x dx ∧ DV K H y dy ∧ SeqAt.shaped dx = true ∧ SeqAt.shaped dy = true ∧ Q (.bl (PyData.eqv dx dy)) H
def rNeD (K : PySem.W.Frag) : R2 := fun x y H Q => ∃ dx dy, DV K H x dx ∧ DV K H y dy ∧ SeqAt.shaped dx = true ∧ SeqAt.shaped dy = true ∧ Q (.bl (!PyData.eqv dx dy)) H
section
variable {X : Cx} {e se : Expr} {te ts : TE} {pos p2 : Pos}
theorem op_eqD (hu : X.A.units + 64 < cLine) : OpR X (compareOp .Eq) (rEqD X.K) := by
  intro pins s σ H x y v u Q I rx ry h
  obtain ⟨dx, dy, hx, hy, sx, sy, q⟩ := h
  obtain ⟨as, r1⟩ := hx.reads I rx
  obtain ⟨bs, r2⟩ := hy.reads I ry
  exact eq_dataH r1 r2 sx sy hu ⟨.bl _, H, I, rfl, q⟩
theorem op_neD (hu : X.A.units + 64 < cLine) : OpR X (compareOp .NotEq) (rNeD X.K) := by
  intro pins s σ H x y v u Q I rx ry h
  obtain ⟨dx, dy, hx, hy, sx, sy, q⟩ := h
  obtain ⟨as, r1⟩ := hx.reads I rx
  obtain ⟨bs, r2⟩ := hy.reads I ry
  exact ne_dataH r1 r2 sx sy hu ⟨.bl _, H, I, rfl, q⟩
end
/-- the script, known to the object: it is never written -/
def SqF (K : PySem.W.Frag) (H : Hp) (a : Addr) (xs : List V) : Prop :=
  (∃ o, H a = some (.frz o (.lst xs))) ∨ ∃ (o : Obj) (its : Array Value) (n : Nat), K.lookup a = some o ∧ o.cls = .type "list" ∧ o.dict = none ∧ o.data = .seq its n ∧ its.size ≤ sizeLine ∧ Vals xs its.toList
theorem SqF.sq {K : PySem.W.Frag} {H : Hp} {a : Addr} {xs : List V} (h : SqF K H a xs) : SqL K H a xs := by
  rcases h with ⟨o, h⟩ | h
  · exact .inl (.inr ⟨o, h⟩)
  · exact .inr h
theorem SqF.upd {K : PySem.W.Frag} {H : Hp} {a p : Addr} {xs : List V} {u : HO} (h : SqF K H a xs) (hp : ∀ o w, H p ≠ some (.frz o w)) : SqF K (L2.upd H p u) a xs := by
  rcases h with ⟨o, h⟩ | h
  · refine .inl ⟨o, ?_⟩
    rw [upd_ne (fun e => hp o _ (by rw [← e]; exact h))]
    exact h
  · exact .inr h
theorem SqF.new {K : PySem.W.Frag} {H : Hp} {a p : Addr} {xs : List V} {u : HO} (h : SqF K H a xs) (hp : H p = none) : SqF K (L2.upd H p u) a xs := h.upd fun o w e => by rw [hp] at e; cases e
theorem SqF.of_only {K : PySem.W.Frag} {H : Hp} {a : Addr} {xs : List V} (hO : Only H) (h : SqL K H a xs) : SqF K H a xs := by
  rcases h with (h | ⟨o, h⟩) | h
  · rcases hO a with z | ⟨o, ys, z⟩
    · rw [z] at h; cases h
    · rw [z] at h; cases h
  · exact .inl ⟨o, h⟩
  · exact .inr h
theorem same_new {H : Hp} {p : Addr} (h : H p = none) (o : HO) : Same H (L2.upd H p o) := fun b u q => by rw [upd_ne (ne_of_none q h)]; exact q
end L2
namespace L2
open PySem
theorem bt_isinstance : bootBuiltins "isinstance" = some (.builtin "isinstance") := by decide +kernel
theorem bt_int : bootBuiltins "int" = some (.type "int") := by decide +kernel
theorem bt_bool : bootBuiltins "bool" = some (.type "bool") := by decide +kernel
theorem bt_abs : bootBuiltins "abs" = some (.builtin "abs") := by decide +kernel
theorem bt_list : bootBuiltins "list" = some (.type "list") := by decide +kernel
theorem bt_max : bootBuiltins "max" = some (.builtin "max") := by decide +kernel
theorem bt_len : bootBuiltins "len" = some (.builtin "len") := by decide +kernel
theorem bt_sorted : bootBuiltins "sorted" = some (.builtin "sorted") := by decide +kernel
theorem bt_sum : bootBuiltins "sum" = some (.builtin "sum") := by decide +kernel
theorem bt_ValueError : bootBuiltins "ValueError" = some (.type "ValueError") := by decide +kernel
end L2

namespace L2
open PySem PySem.Spec PyProof.Rows
section
variable {X : Cx} {e se : Expr} {te ts : TE} {pos p2 : Pos}
/-- xs[::-1] -/
def tRev (K : PySem.W.Frag) (te ts : TE) : TE := fun σ H Q => te σ H fun x H1 => ts σ H1 fun y H2 => ∃ a xs, x = .ref a ∧ y = .int (-1) ∧ SqL K H2 a xs ∧ ∀ p, H2 p = none → Q (.ref p) (upd H2 p (.lst xs.reverse))
end
end L2

/-! ### the greatest divisor -/
namespace M
def G (a b : Int) : Int := if Nat.gcd a.natAbs b.natAbs = 0 then 1 else (Nat.gcd a.natAbs b.natAbs : Nat)
theorem G_pos (a b : Int) : 0 < G a b := by
  unfold G
  split <;> omega
theorem G_eq {a b : Int} (h : b ≠ 0) : G a b = ((Nat.gcd a.natAbs b.natAbs : Nat) : Int) := by
  have : 0 < Nat.gcd a.natAbs b.natAbs := Nat.gcd_pos_of_pos_right _ (by omega)
  unfold G
  rw [if_neg (by omega)]
structure Inv (a b x y : Int) : Prop where
  x0 : 0 ≤ x
  y0 : 0 ≤ y
  e : Nat.gcd x.natAbs y.natAbs = Nat.gcd a.natAbs b.natAbs
theorem abs_eq (i : Int) : (if i < 0 then -i else i) = (i.natAbs : Int) := by
  split <;> omega
theorem Inv.start (a b : Int) (hb : 0 ≤ b) : Inv a b (if a < 0 then -a else a) b := by
  rw [abs_eq]
  exact ⟨by omega, hb, by simp⟩
theorem Inv.start2 (a b : Int) : Inv a b (if a < 0 then -a else a) (if b < 0 then -b else b) := by
  rw [abs_eq, abs_eq]
  exact ⟨by omega, by omega, by simp⟩
theorem Inv.turn {a b x y : Int} (h : Inv a b x y) (hy : 0 < y) : Inv a b y (x % y) := by
  obtain ⟨x0, y0, e⟩ := h
  refine ⟨y0, Int.emod_nonneg x (by omega), ?_⟩
  rw [← e]
  have e1 : (x % y).natAbs = x.natAbs % y.natAbs := by
    obtain ⟨n, rfl⟩ := Int.eq_ofNat_of_zero_le x0
    obtain ⟨m, rfl⟩ := Int.eq_ofNat_of_zero_le y0
    exact congrArg Int.natAbs (Int.natCast_emod n m).symm
  rw [e1, Nat.gcd_comm x.natAbs y.natAbs]
  rw [Nat.gcd_comm y.natAbs (x.natAbs % y.natAbs), ← Nat.gcd_rec, Nat.gcd_comm]
theorem less {x y : Int} (hy : 0 < y) : (x % y).toNat < y.toNat := by
  have h1 := Int.emod_nonneg x (show y ≠ 0 by omega)
  have h2 := Int.emod_lt_of_pos x hy
  omega
theorem Inv.out {a b x y : Int} (h : Inv a b x y) (hy : y = 0) (hb : b ≠ 0) : x = G a b := by
  obtain ⟨x0, y0, e⟩ := h
  rw [G_eq hb, ← e, hy]
  simp
  omega
theorem G_le {a b : Int} (h : b ≠ 0) : (G a b).natAbs ≤ b.natAbs := by
  rw [G_eq h]
  exact Nat.le_of_dvd (by omega) (Nat.gcd_dvd_right _ _)
end M

namespace M
theorem num_low {t b : Int} (hb : 0 < b) : t / G t b = (Rat.divInt t b).num := by
  rw [Rat.num_divInt, G_eq (by omega), Int.sign_eq_one_of_pos hb, Int.one_mul]
  show t / _ = t / ((Nat.gcd b.natAbs t.natAbs : Nat) : Int)
  rw [Nat.gcd_comm]
theorem den_low {t b : Int} (hb : 0 < b) : b / G t b = ((Rat.divInt t b).den : Int) := by
  rw [Rat.den_divInt, if_neg (by omega), G_eq (by omega)]
  show b / _ = (((b.natAbs / Nat.gcd b.natAbs t.natAbs : Nat)) : Int)
  rw [Int.natCast_ediv, Nat.gcd_comm]
  congr 1
  omega
theorem num_neg {t b : Int} (hb : b < 0) : t.fdiv (-G t b) = (Rat.divInt t b).num := by
  have e : Rat.divInt t b = Rat.divInt (-t) (-b) := (Rat.neg_divInt_neg t b).symm
  rw [e, ← num_low (by omega)]
  have g : G (-t) (-b) = G t b := by unfold G; simp
  have h := G_pos t b
  rw [g, ← Int.fdiv_eq_ediv_of_nonneg (-t) (Int.le_of_lt h)]
  rw [← Int.neg_fdiv_neg, Int.neg_neg]
theorem den_neg {t b : Int} (hb : b < 0) : b.fdiv (-G t b) = ((Rat.divInt t b).den : Int) := by
  have e : Rat.divInt t b = Rat.divInt (-t) (-b) := (Rat.neg_divInt_neg t b).symm
  rw [e, ← den_low (by omega)]
  have g : G (-t) (-b) = G t b := by unfold G; simp
  have h := G_pos t b
  rw [g, ← Int.fdiv_eq_ediv_of_nonneg (-b) (Int.le_of_lt h)]
  rw [← Int.neg_fdiv_neg, Int.neg_neg]
end M

namespace M
def sumR : List Rat → Rat
  | [] => 0
  | r :: rs => r + sumR rs
abbrev D0 : Int := 5342931457063200
/-- a ratio over D0 whose top is not too great -/
def Item (r : Rat) : Prop := ∃ c : Int, r = Rat.divInt c D0 ∧ -(100000000000 * D0) ≤ c ∧ c ≤ 100000000000 * D0
def All (rs : List Rat) : Prop := ∀ r ∈ rs, Item r
end M

namespace M
end M

/-! ### exceptions of own classes: raised in a def, passed on, caught around a call -/
namespace L2
open PySem PySem.Spec PyProof.Rows
theorem ObjOk.there {P : Program} {w : World} {H : Hp} {h : Heap} {a : Addr} {o : HO} (x : ObjOk P w H h a o) : ∃ ob, h.get? a = some ob := by
  cases o with
  | lst xs => obtain ⟨_, _, _, _, e⟩ := x; exact ⟨_, e⟩
  | tup xs => obtain ⟨_, _, _, ob, e, _⟩ := x; exact ⟨ob, e⟩
  | dK kvs => obtain ⟨_, _, _, _, o, _, _, e, _⟩ := x; exact ⟨o, e⟩
  | dT kvs => obtain ⟨_, _, _, _, o, _, _, e, _⟩ := x; exact ⟨o, e⟩
  | set S n => obtain ⟨o, _, _, _, e, _⟩ := x; exact ⟨o, e⟩
  | ins C dx fs => obtain ⟨_, _, _, e, _⟩ := x; exact ⟨_, e⟩
  | own y => exact x
  | xd fs => obtain ⟨_, ⟨_, _, _, e, _⟩, _⟩ := x; exact ⟨_, e⟩
  | rng lo hi => obtain ⟨_, _, _, e⟩ := x; exact ⟨_, e⟩
  | frz ob u => obtain ⟨e, _⟩ := x; exact ⟨_, e⟩
  | tbl ps => exact ⟨_, x⟩
  | met f y => exact ⟨_, x⟩
  | ext φ => obtain ⟨_, e, _⟩ := x; exact e

/-- an exception ea of the class cls is in flight above the frames of outer, begun at (H, s); B: what it leaves as it is -/
structure Fly (P : Program) (w : World) (outer : List Env) (H : Hp) (s : Shared) (cls : Value) (H' : Hp) (ea : Addr) (B : Heap) (a0 : Value) (s' : Shared) : Prop where
  os : s'.os = s.os
  bare : AllBare s'.gens
  new : s.heap.get? ea = none
  un : Un (frs outer) [] H H' s.heap s'.heap
  hok : HOk P w H' s'.heap
  keepB : ∀ b o, s.heap.get? b = some o → H b = none → b ∉ frs outer → B.get? b = some o
  tracked : ∀ b u, H' b = some u → ∃ o, s'.heap.get? b = some o ∧ B.get? b = some o
  thB : ∀ b o, s.heap.get? b = some o → b ∉ frs outer → ∃ o', B.get? b = some o'
  fly : Heap.FlyingW B outer ea cls a0 s'.heap
def CXe (P : Program) (w : World) : CXT := fun outer H s E e s' => ∃ (ea : Addr) (cls : Value) (H' : Hp) (B : Heap) (a0 : Value), e = .ref ea ∧ Fly P w outer H s cls H' ea B a0 s' ∧ E cls none H'

section
variable {P : Program} {w : World} {outer : List Env} {H H' : Hp} {s s' : Shared} {cls a0 : Value} {ea : Addr} {B h' : Heap}
theorem Fly.fresh (F : Fly P w outer H s cls H' ea B a0 s') : H' ea = none := by
  cases q : H' ea with
  | none => rfl
  | some u =>
    obtain ⟨o, _, e⟩ := F.tracked ea u q
    rw [F.fly.2.1] at e
    cases e
/-- the heap turns about the exception -/
theorem Fly.move (F : Fly P w outer H s cls H' ea B a0 s') (st : B.StaysIn h') (up : s'.heap.UpToSlots h') : Un (frs outer) [] H H' s.heap h' ∧ HOk P w H' h' := by
  refine ⟨⟨fun b o e n hb _ => st b o (F.keepB b o e n hb), fun b o e n hb hx => ?_, F.un.free, fun b o e hx => ?_, F.un.tups, F.un.frzs, F.un.tbls⟩, fun a u e => ?_⟩
  · obtain ⟨sl, e1⟩ := F.un.slot b o e n hb hx
    obtain ⟨_, o2, ho2, nf⟩ := F.fly.2.2.1.mem hb
    rw [e1] at ho2
    cases ho2
    obtain ⟨sl', e2⟩ := up b _ e1 nf
    exact ⟨sl', e2⟩
  · by_cases hb : b ∈ frs outer
    · obtain ⟨_, o2, ho2, nf⟩ := F.fly.2.2.1.mem hb
      obtain ⟨sl', e2⟩ := up b _ ho2 nf
      exact ⟨_, e2⟩
    · obtain ⟨o', e'⟩ := F.thB b o e hb
      exact ⟨o', st b o' e'⟩
  · refine (F.hok a u e).stay (fun b v hb q => ?_) (fun _ q => q) fun _ _ q => q
    have tr : ∃ u', H' b = some u' := by
      rcases hb with z | z
      · rw [z]; exact ⟨u, e⟩
      · exact ⟨_, z⟩
    obtain ⟨u', e'⟩ := tr
    obtain ⟨o, e1, e2⟩ := F.tracked b u' e'
    rw [q] at e1
    cases e1
    exact st b v e2
end

section
variable {X : Cx} {pins : List (Addr × Obj)} {σ : St} {H : Hp} {s s' : Shared} {M : Model} {E : Value → Shared → Prop} {Q : Unit → Shared → Prop}
theorem Inv.notStk (I : Inv X pins σ H s) {b : Addr} {o : Obj} (e : X.s₀.heap.get? b = some o) (hb : b ∉ X.fs) : b ∉ frs X.stack := fun z =>
  (List.mem_cons.mp (I.stkSub b z)).elim (fun q => absurd q (Nat.ne_of_lt (Nat.lt_of_lt_of_le (Heap.lt_size e) I.ok.above))) hb
/-- raised here, it leaves the frame -/
theorem made_fly (I : Inv X pins σ H s) (hst : X.stack = X.env :: X.outer) (hf : X.env.frame = some X.env.locals) (hex : X.ex = []) {h1 : Heap} {ea : Addr} {cls : Value} {args : List Value} (hx : Heap.MadeExcOf s.heap h1 ea cls args)
    (k : ∀ h' a0, Fly X.prog X.w X.outer X.H₀ X.s₀ cls H ea (PySem.W.hideAll s.heap (frs X.stack)) a0 { s with heap := h' } → Q () { s with heap := h' }) :
    wpAny M X.A (leaving X.env (.ref ea)) Q E { s with heap := h1 } := by
  have noex : ∀ b : Addr, b ∉ X.ex := fun b z => by rw [hex] at z; cases z
  have hin : ∀ env ∈ X.stack, ∀ a, env.frame = some a → a ∈ frs X.stack := fun env he a ha => List.mem_filterMap.mpr ⟨env, he, ha⟩
  have hl : s.heap.FunFrames (PySem.W.hideAll s.heap (frs X.stack)) (X.env :: X.outer) := by
    have z := PySem.W.funFrames_hide I.stack hin
    rw [hst] at z ⊢
    exact z
  refine wpAny_leaves_madeW (base := PySem.W.hideAll s.heap (frs X.stack)) (h := s.heap) (by rw [I.ok.frames, hst]) hf (fun b o q => PySem.W.of_hideAll _ q) hl hx fun h' t x1 _ _ x4 => k h' (.ref t) ?_
  have st := x1.1
  have nstk : ∀ b u, H b = some u → b ∉ frs X.stack := fun b u e z => by rw [I.stkFree b z] at e; cases e
  have tr : ∀ b u, H b = some u → ∃ o, s.heap.get? b = some o ∧ h'.get? b = some o ∧ (PySem.W.hideAll s.heap (frs X.stack)).get? b = some o := fun b u e => by
    obtain ⟨o, ho⟩ := (I.hok b u e).there
    have q := PySem.W.hideAll_get (frs X.stack) ho (nstk b u e)
    exact ⟨o, ho, st b o q, q⟩
  refine ⟨I.os, I.bare, ?_, ⟨fun b o e n hb _ => ?_, fun b o e n hb _ => ?_, fun b o e n _ => I.base.free b o e n (noex b), fun b o e _ => ?_, I.base.tups, I.base.frzs, I.base.tbls⟩, fun a u e => ?_, fun b o e n hb => ?_, fun b u e => ?_, fun b o e hb => ?_, x1⟩
  · cases q : X.s₀.heap.get? ea with
    | none => rfl
    | some o =>
      obtain ⟨o', e⟩ := I.base.there ea o q (noex ea)
      rw [hx.new] at e
      cases e
  · exact st b o (PySem.W.hideAll_get _ (I.base.keep b o e n hb (noex b)) (I.notStk e hb))
  · obtain ⟨sl, e1⟩ := I.base.slot b o e n hb (noex b)
    obtain ⟨_, o2, ho2, nf⟩ := I.funs.mem hb
    rw [e1] at ho2
    cases ho2
    obtain ⟨sl', e2⟩ := x4 b _ (hx.keeps b _ e1) nf
    exact ⟨sl', e2⟩
  · by_cases hb : b ∈ X.fs
    · obtain ⟨_, o2, ho2, nf⟩ := I.funs.mem hb
      obtain ⟨sl', e2⟩ := x4 b _ (hx.keeps b _ ho2) nf
      exact ⟨_, e2⟩
    · obtain ⟨o', e'⟩ := I.base.there b o e (noex b)
      exact ⟨o', st b o' (PySem.W.hideAll_get _ e' (I.notStk e hb))⟩
  · refine (I.hok a u e).stay (fun b v hb q => ?_) (fun _ q => q) fun _ _ q => q
    have z : ∃ u', H b = some u' := by
      rcases hb with z | z
      · rw [z]; exact ⟨u, e⟩
      · exact ⟨_, z⟩
    obtain ⟨u', e'⟩ := z
    obtain ⟨o, e1, e2, _⟩ := tr b u' e'
    rw [q] at e1
    cases e1
    exact e2
  · exact PySem.W.hideAll_get _ (I.base.keep b o e n hb (noex b)) (I.notStk e hb)
  · obtain ⟨o, _, e2, e3⟩ := tr b u e
    exact ⟨o, e2, e3⟩
  · obtain ⟨o', e'⟩ := I.base.there b o e (noex b)
    exact ⟨o', PySem.W.hideAll_get _ e' (I.notStk e hb)⟩
/-- it comes from a callee and leaves this frame too -/
theorem fly_on (I : Inv X pins σ H s) (hst : X.stack = X.env :: X.outer) (hf : X.env.frame = some X.env.locals) (hex : X.ex = []) {H' : Hp} {ea : Addr} {cls a0 : Value} {B : Heap} (F : Fly X.prog X.w X.stack H s cls H' ea B a0 s')
    (k : ∀ h', Fly X.prog X.w X.outer X.H₀ X.s₀ cls H' ea B a0 { s' with heap := h' } → Q () { s' with heap := h' }) : wpAny M X.A (leaving X.env (.ref ea)) Q E s' := by
  have noex : ∀ b : Addr, b ∉ X.ex := fun b z => by rw [hex] at z; cases z
  have sub : ∀ b ∈ X.fs, b ∈ frs X.stack := fun b hb => by
    rw [hst]
    obtain ⟨env, he, hf'⟩ := List.mem_filterMap.mp hb
    exact List.mem_filterMap.mpr ⟨env, List.mem_cons_of_mem _ he, hf'⟩
  refine wpAny_leaves_onW (by rw [I.ok.frames, hst]) hf (by have z := F.fly; rw [hst] at z; exact z) fun h' x1 x2 => k h' ?_
  have st := x1.1
  have ff := F.fly.2.2.1
  refine ⟨F.os.trans I.os, F.bare, ?_, ⟨fun b o e n hb _ => ?_, fun b o e n hb _ => ?_, fun b o e n _ => ?_, fun b o e _ => ?_, fun b xs e => F.un.tups b xs (I.base.tups b xs e), fun b o u e => F.un.frzs b o u (I.base.frzs b o u e), fun b ps e => ?_⟩, fun a u e => ?_, fun b o e n hb => ?_, fun b u e => ?_, fun b o e hb => ?_, x1⟩
  · cases q : X.s₀.heap.get? ea with
    | none => rfl
    | some o =>
      obtain ⟨o', e⟩ := I.base.there ea o q (noex ea)
      rw [F.new] at e
      cases e
  · exact st b o (F.keepB b o (I.base.keep b o e n hb (noex b)) (I.base.free b o e n (noex b)) (I.notStk e hb))
  · obtain ⟨sl, e1⟩ := I.base.slot b o e n hb (noex b)
    obtain ⟨sl2, e2⟩ := F.un.slot b _ e1 (I.base.free b o e n (noex b)) (sub b hb) (by simp)
    obtain ⟨_, o2, ho2, nf⟩ := ff.mem (sub b hb)
    rw [e2] at ho2
    cases ho2
    obtain ⟨sl', e3⟩ := x2 b _ e2 nf
    exact ⟨sl', e3⟩
  · obtain ⟨o', e'⟩ := I.base.there b o e (noex b)
    exact F.un.free b o' e' (I.base.free b o e n (noex b)) (by simp)
  · by_cases hb : b ∈ X.fs
    · obtain ⟨_, o2, ho2, nf⟩ := ff.mem (sub b hb)
      obtain ⟨sl', e3⟩ := x2 b _ ho2 nf
      exact ⟨_, e3⟩
    · obtain ⟨o', e'⟩ := I.base.there b o e (noex b)
      obtain ⟨o2, e2⟩ := F.thB b o' e' (I.notStk e hb)
      exact ⟨o2, st b o2 e2⟩
  · obtain ⟨m1, e1⟩ := I.base.tbls b ps e
    obtain ⟨m2, e2⟩ := F.un.tbls b _ e1
    exact ⟨m1 ++ m2, by rw [e2, Array.append_assoc]⟩
  · refine (F.hok a u e).stay (fun b v hb q => ?_) (fun _ q => q) fun _ _ q => q
    have z : ∃ u', H' b = some u' := by
      rcases hb with z | z
      · rw [z]; exact ⟨u, e⟩
      · exact ⟨_, z⟩
    obtain ⟨u', e'⟩ := z
    obtain ⟨o, e1, e2⟩ := F.tracked b u' e'
    rw [q] at e1
    cases e1
    exact st b v e2
  · exact F.keepB b o (I.base.keep b o e n hb (noex b)) (I.base.free b o e n (noex b)) (I.notStk e hb)
  · obtain ⟨o, _, e2⟩ := F.tracked b u e
    exact ⟨o, st b o e2, e2⟩
  · obtain ⟨o', e'⟩ := I.base.there b o e (noex b)
    exact F.thB b o' e' (I.notStk e hb)
end

section
variable {P : Program} {w : World} {K : PySem.W.Frag} {mg : Str → Option Value} {base : Heap}
/-- what a callee raises passes through this def -/
theorem pass_e {N : List Str} {qual : Str} {scope : Scope} {f : Addr} {cd : Value} {A : Around} {outer : List Env} {s : Shared} {H : Hp} {E E' : XK} (hE : ∀ cls H', E' cls none H' → E cls none H') :
    Passes (CXe P w) (cxOf (CXe P w) P w K mg base N qual scope f cd A outer s H E) E' := fun pins σ H1 s1 e s' I h => by
  obtain ⟨ea, cls, H', B, a0, rfl, F, q⟩ := h
  exact fly_on I rfl rfl rfl F fun h' F' => ⟨ea, cls, H', B, a0, rfl, F', hE _ _ q⟩
/-- a def that may raise -/
theorem Fun.okx {x qual : Str} {st : Stmt} {f : Addr} {fd : FuncData} {N ps : List Str} {k : Nat} {sp : Sp} (F : Fun K x qual st f fd) (S : FnScope N ps (defScope st)) (len : ∀ vs H Q E, sp vs H Q E → vs.length = ps.length)
    (hbody : ∀ (cdv : Value) (A : Around) (outer : List Env) (s : Shared) (H : Hp) (vs : List V) (Q : VK) (E : XK), Room k (A.deeper (envOfC qual (defScope st) s.heap.objs.size f cdv)) → sp vs H Q E →
      ∃ t, PSs (cxOf (CXe P w) P w K mg base N qual (defScope st) f cdv A outer s H E) (defBody st) t ∧ t { nx := fun _ H' => Q .non H', rt := Q } (start N vs) H) : FnOk P w K mg base (CXe P w) (k + 1) f fd ps sp := by
  obtain ⟨oc, od, kV, doc, pm, an, cdv, ct, osl, rfl, lk, hcd⟩ := F.ex
  refine fn_of lk hcd S len fun A outer s H vs Q E hr hsp => ?_
  exact hbody cdv A outer s H vs Q E hr hsp
end
/-- an own class of exceptions, its built-in base B -/
structure Exc (K : PySem.W.Frag) (mg : Str → Option Value) (x : Str) (C : Addr) : Prop where
  at' : mg x = some (.ref C)
  ex : PySem.W.excIn K C [.type "ValueError", .type "Exception", .type "BaseException", .type "object"] "ValueError.__new__" = true
theorem Exc.obj {K : PySem.W.Frag} {mg : Str → Option Value} {x : Str} {C : Addr} {h : Heap} (T : Exc K mg x C) (KX : K.In h) : OwnCls x C [.type "ValueError", .type "Exception", .type "BaseException", .type "object"] "ValueError.__new__" mg h := by
  refine ⟨T.at', ?_⟩
  have q := T.ex
  unfold PySem.W.excIn at q
  split at q
  · rename_i dd cd sl ho
    split at q
    · rename_i CC bm k0 k1 k2 k3 nw k5 hm hs
      simp only [beq_iff_eq, Bool.and_eq_true, Bool.not_eq_true'] at q
      obtain ⟨⟨⟨⟨⟨r1, r2⟩, r3⟩, r4⟩, r5⟩, r6⟩ := q
      subst r1
      subst r2
      obtain ⟨nm, bs, mr, ns, qn, hd, sn, sub, ab, col, dl⟩ := cd
      dsimp only at hm r3 r5 r6
      subst hm
      subst r3
      have hsl : sl = #[k0, k1, k2, k3, some (.builtin "ValueError.__new__"), k5] := by
        obtain ⟨l⟩ := sl
        simp only at hs
        rw [hs]
      subst hsl
      exact ⟨bm, ns, nm, qn, bs, hd, sn, sub, ab, col, dd, k0, k1, k2, k3, k5, _, KX _ _ ho, .of_isNs (PySem.W.isNs_of_in KX r5), PySem.W.nsMap_none_of_in KX r5 r6, PySem.W.tail_of_in KX r4⟩
    · cases q
  · cases q
/-- raise C(e, ..) -/
def tRaise (t : TA) (C : Addr) (E : XK) : TS := fun _ σ H => t σ H fun vs H1 => vs.length ≤ sizeLine ∧ E (.ref C) none H1
section
variable {P : Program} {w : World} {K : PySem.W.Frag} {mg : Str → Option Value} {base : Heap} {N : List Str} {qual : Str} {scope : Scope} {f C : Addr} {cd : Value} {A : Around} {outer : List Env} {s₀ : Shared} {H₀ : Hp} {E : XK} {x : Str} {e : Expr} {es : List Expr} {t : TA} {np cpos pos : Pos}
theorem ps_raise (T : Exc K mg x C) (hg : Gl (cxOf (CXe P w) P w K mg base N qual scope f cd A outer s₀ H₀ E) x) (ha : PA (cxOf (CXe P w) P w K mg base N qual scope f cd A outer s₀ H₀ E) (e :: es) t) (hd : (x == ("__debug__" : Str)) = false := by decide)
    (he : starEach (e :: es) (envOfC qual scope s₀.heap.objs.size f cd) = (false, eval e (envOfC qual scope s₀.heap.objs.size f cd)) :: starEach es (envOfC qual scope s₀.heap.objs.size f cd) := by rfl)
    (hpl : (backTo cpos (starEach es (envOfC qual scope s₀.heap.objs.size f cd))).any (·.1) = false := by rfl) :
    PS (cxOf (CXe P w) P w K mg base N qual scope f cd A outer s₀ H₀ E) (.Raise (some (.Call (.Name x np) (e :: es) [] cpos)) none pos) (tRaise t C E) := by
  intro pins s σ H D I h
  obtain ⟨tl, N', nm, q, bs, hdct, sn, sub, ab, col, dd, k0, k1, k2, k3, k5, mN, hC, hN, hni, TL⟩ := (T.obj I.ok.mod.kin).obj
  have hA := ha cpos pins s σ H _ I h
  refine wpAny_Raise_call_subT (C := C) (nm := nm) (q := q) (N := N') (bs := bs) (bm := tl) (hdct := hdct) (sn := sn) (sub := sub) (ab := ab) (col := col) (dd := dd) (k0 := k0) (k1 := k1) (k2 := k2) (k3 := k3) (k5 := k5)
    PySem.F.excBase_ValueError (mN := mN) (TL.hasType PySem.F.excBase_ValueError.hasBase) (I.ok.hd rfl) ?_ hni (ld_glob I hg T.at' ⟨rfl, ?_⟩ hd)
  · show (backTo cpos (starEach (e :: es) (envOfC qual scope s₀.heap.objs.size f cd))).any (·.1) = false
    rw [he]
    show (false || (backTo cpos (starEach es (envOfC qual scope s₀.heap.objs.size f cd))).any (·.1)) = false
    rw [hpl]
    rfl
  · have hA' : wpAny (model P w) (A.deeper (envOfC qual scope s₀.heap.objs.size f cd)) (spliced (backTo cpos (starEach (e :: es) (envOfC qual scope s₀.heap.objs.size f cd)))) _ _ s := hA
    show wpAny (model P w) (A.deeper (envOfC qual scope s₀.heap.objs.size f cd)) (evalArgs (.ref C) true (backTo cpos (starEach (e :: es) (envOfC qual scope s₀.heap.objs.size f cd))) []) _ _ s
    rw [he] at hA' ⊢
    refine Calls.evalArgs_plain (wpAny_mono hA' (fun us s1 hq => ?_) fun _ _ y => y)
    obtain ⟨vs, H1, I1, r1, z, q1⟩ := hq
    refine ⟨rfl, by rw [← r1.length]; exact z, I1.bk _ _ hC, hN.keeps I1.bk, TL.keeps I1.bk, fun h' e' hm => ?_⟩
    exact made_fly I1 rfl rfl rfl hm fun h2 a0 F => ⟨e', .ref C, H1, _, a0, rfl, F, q1⟩
end

/-! ### try: f(..) except C as n: .. -/
/-- an expression that may raise, by what is wanted then -/
def PEx (X : Cx) (e : Expr) (tx : St → Hp → VK → (Value → Hp → Prop) → Prop) : Prop :=
  ∀ (pins : List (Addr × Obj)) (s : Shared) (σ : St) (H : Hp) (Q : VK) (Ex : Value → Hp → Prop), Inv X pins σ H s → tx σ H Q Ex →
    wpAny (model X.prog X.w) X.A (eval e X.env) (EP X pins σ Q) (fun ev s' => ∃ H1 s1, Inv X pins σ H1 s1 ∧ CXe X.prog X.w X.stack H1 s1 (fun cls _ H' => Ex cls H') ev s') s
section
variable {X : Cx} {k : Nat} {f C : Addr} {fd : FuncData} {ps : List Str} {sp : Sp} {dvs : List V} {ds : List Value} {x m : Str} {p pos apos : Pos} {e o : Expr} {es : List Expr} {ta : TE} {t : TA}
theorem pex_call (F : FnOk X.prog X.w X.K X.mg X.base (CXe X.prog X.w) k f fd ps sp) (hr : Room k X.A) (hg : Gl X x) (hm : X.mg x = some (.ref f)) (hk : PySem.W.keepIn X.K (.ref f) = true) (hb : Binds X.K fd ps ds) (hd : Vals dvs ds)
    (ha : PA X.nox (e :: es) t) (hdb : (x == ("__debug__" : Str)) = false := by decide) (he : starEach (e :: es) X.env = (false, eval e X.env) :: starEach es X.env := by rfl) (hpl : (backTo pos (starEach es X.env)).any (·.1) = false := by rfl) :
    PEx X (.Call (.Name x p) (e :: es) [] pos) (fun σ H Q Ex => t σ H fun vs H1 => sp (vs ++ dvs) H1 Q (fun cls _ H' => Ex cls H')) := by
  intro pins s σ H Q Ex I h
  refine wpAny_Call_Name_kw (ld_glob I hg hm ?_ hdb)
  refine PySem.W.callWith_K (h₀ := X.base) I.ok.mod.kin hk (wpAny_mono (ha pos pins s σ H _ (I.wish _) h) (fun us s1 hq => ?_) fun _ _ z => False.elim z) he hpl
  obtain ⟨vs, H1, I1, r, q⟩ := hq
  have I1' : Inv X pins σ H1 s1 := I1.unwish
  refine ⟨I1'.kIn, ?_⟩
  have r2 : Vals (vs ++ dvs) (us ++ ds) := r.append hd
  have hl : (us ++ ds).length = ps.length := by rw [← r2.length]; exact F.len _ _ _ _ q
  refine wpAny_call (codeAny_mono (F.run X.A X.stack s1 H1 ⟨us, []⟩ (us ++ ds) (vs ++ dvs) Q _ hr I1'.env0 (hb s1 us I1'.kIn hl) r2 q) fun r s' hq => ?_)
  cases r with
  | error e => exact ⟨H1, s1, I1', hq⟩
  | ok fl =>
    cases fl with
    | ret u => exact I1'.after hq
    | next => exact False.elim hq
    | brk => exact False.elim hq
    | cont => exact False.elim hq
end
/-- the context of an except suite -/
abbrev Cx.inExc (X : Cx) (ea : Addr) : Cx := { X with A := X.A.mark (some (.ref ea)), calm := false }
theorem Inv.inExc {X : Cx} {pins : List (Addr × Obj)} {σ : St} {H : Hp} {s : Shared} (I : Inv X pins σ H s) (ea : Addr) : Inv (X.inExc ea) pins σ H s :=
  ⟨⟨I.ok.mod, I.ok.kind, I.ok.glob, I.ok.blt, I.ok.above, I.ok.inj, I.ok.has, I.ok.cab, (fun z => Bool.noConfusion z), I.ok.frames, I.ok.stk, I.ok.exf, I.ok.bs, I.ok.bsz, I.ok.noex, I.ok.exfs, I.ok.funs, I.ok.frf⟩, I.os, I.bare, I.base, I.loc, I.cell, I.free, I.freeC, I.pin, I.hok, I.len⟩
theorem Inv.outExc {X : Cx} {pins : List (Addr × Obj)} {σ : St} {H : Hp} {s : Shared} {ea : Addr} (ok : X.Ok) (I : Inv (X.inExc ea) pins σ H s) : Inv X pins σ H s :=
  ⟨ok, I.os, I.bare, I.base, I.loc, I.cell, I.free, I.freeC, I.pin, I.hok, I.len⟩
/-- an exception that is held -/
abbrev exO (ea : Addr) (cls : Value) : HO := .ext fun h => ∃ (o : Obj) (vs : Array Value), h.get? ea = some o ∧ o.cls = cls ∧ o.data = .fields vs
def tTryAs (K : PySem.W.Frag) (tx : St → Hp → VK → (Value → Hp → Prop) → Prop) (C : Addr) (i : Nat) (tb : Addr → TS) : TS := fun D σ H => tx σ H (fun _ H1 => D.nx σ H1) fun cls H1 =>
  PySem.W.exmOne K cls (.ref C) = some true ∧ ∀ ea, H1 ea = none → tb ea { nx := fun _ _ => False, rt := D.rt } (σ.set i (some (.ref ea))) (upd H1 ea (exO ea cls))
theorem ps_tryAs {X : Cx} {call : Expr} {tx : St → Hp → VK → (Value → Hp → Prop) → Prop} {cn n : Str} {C : Addr} {i : Nat} {b₀ : Stmt} {suite : List Stmt} {tb : Addr → TS} {np epos hpos tpos : Pos} (hx : PEx X call tx) (hst : X.stack = X.env :: X.outer) (hf : X.env.frame = some X.env.locals)
    (hg : Gl X cn) (hm : X.mg cn = some (.ref C)) (hN : X.N.Nodup) (hi : X.N[i]? = some n) (hl : X.env.scope.names.lookup n = some .local) (hb : ∀ ea, PSs (X.inExc ea).nox (b₀ :: suite) (tb ea))
    (hs : swapsWith call none epos.line X.env = pure false := by rfl) (hd : (cn == ("__debug__" : Str)) = false := by decide) :
    PS X (.Try [.Expr call epos] [.ExceptHandler (some (.Name cn np)) (some n) (b₀ :: suite) hpos] [] [] tpos) (tTryAs X.K tx C i tb) := by
  intro pins s σ H D I h
  refine wpAny_Try_except (wpAny_execs_cons (wpAny_Expr_any (wpAny_mono (hx pins s σ H _ _ I h) (fun v s1 hq => ?_) fun ev s1 hq => ?_) I.quiet hs))
  · obtain ⟨v', H1, I1, r1, q1⟩ := hq
    exact wpAny_execs_nil (wpAny_execs_nil ⟨σ, H1, I1, q1⟩)
  obtain ⟨H1, s0, I1, ea, cls, H', B, a0, rfl, F, hcls, hbody⟩ := hq
  have hfr : X.A.frames = some (X.env :: X.outer) := by rw [I.ok.frames, hst]
  have hfly : Heap.FlyingW B (X.env :: X.outer) ea cls a0 s1.heap := by have z := F.fly; rw [hst] at z; exact z
  refine wpAny_looks_onW hfr hf hfly fun h4 x1 x2 => wpAny_landsW x1 fun h5 y1 y2 => ?_
  have m5 := F.move y1.1 (x2.trans y2)
  have I5 : Inv X pins σ H' { s1 with heap := h5 } := I1.call' (s' := { s1 with heap := h5 }) F.os m5.1 m5.2 F.bare fun b z => by cases z
  have I5e := I5.inExc ea
  refine wpAny_handleBy_cons (codeAny_handlers_test (ld_glob (X := X.inExc ea) I5e hg hm ?_ hd)) (by intro q; cases q)
  obtain ⟨ob, hob, hobc⟩ := Heap.FlyingW.there y1
  have LT : PySem.W.Looks (model X.prog X.w) h5 (typeOf (.ref ea)) cls := hobc ▸ (PySem.W.Looks.ld hob).andThen .now
  refine (PySem.W.exm_one I5.kIn LT hcls).here ?_
  show codeAny _ _ _ _ _
  refine codeAny_handlers_suite_as (lands_againW y1 fun h6 z1 z2 => ?_)
  have m6 := F.move z1.1 ((x2.trans y2).trans z2)
  obtain ⟨oe, ws, hoe, hoec, hoed, _⟩ := z1.first
  have fr := F.fresh
  have old : ∀ b o, s0.heap.get? b = some o → b ≠ ea := fun b o e z => by rw [z, F.new] at e; cases e
  have ne' : ∀ b u, H' b = some u → b ≠ ea := fun b u e z => by rw [z, fr] at e; cases e
  have u6 : Un (frs X.stack) [] H1 (upd H' ea (exO ea cls)) s0.heap h6 := by
    refine ⟨m6.1.keep, m6.1.slot, fun b o e n hx => ?_, m6.1.there, fun b xs e => ?_, fun b o u e => ?_, fun b ps e => ?_⟩
    · rw [upd_ne (old b o e)]; exact m6.1.free b o e n hx
    · have q := m6.1.tups b xs e
      rw [upd_ne (ne' b _ q)]; exact q
    · have q := m6.1.frzs b o u e
      rw [upd_ne (ne' b _ q)]; exact q
    · obtain ⟨m, q⟩ := m6.1.tbls b ps e
      exact ⟨m, by rw [upd_ne (ne' b _ q)]; exact q⟩
  have k6 : HOk X.prog X.w (upd H' ea (exO ea cls)) h6 := fun a u e => by
    by_cases ha : a = ea
    · subst ha
      rw [upd_same] at e
      cases e
      exact ⟨⟨oe, ws, hoe, hoec, hoed⟩, ⟨oe, hoe⟩, fun h1 h2 ⟨o, vs, p1, p2, p3⟩ k => ⟨o, vs, k o p1, p2, p3⟩⟩
    · rw [upd_ne ha] at e
      refine (m6.2 a u e).stay (fun _ _ _ q => q) (fun b q => ?_) fun b xs q => ?_
      · rw [upd_ne (ne' b _ q)]; exact q
      · rw [upd_ne (ne' b _ q)]; exact q
  have I6 : Inv X pins σ (upd H' ea (exO ea cls)) { s1 with heap := h6 } := I1.call' (s' := { s1 with heap := h6 }) F.os u6 k6 F.bare fun b z => by cases z
  refine store_ok (X := X.inExc ea) (v := .ref ea) (I6.inExc ea) hN hi (.inl hl) rfl (fun s7 I7 => ?_) (.inr hl)
  refine wpAny_mono (hb ea pins s7 _ _ _ (I7.wish _) (hbody ea fr)) (fun fl s8 q8 => ?_) fun _ _ z => False.elim z
  cases fl with
  | next => obtain ⟨_, _, _, z⟩ := q8; exact False.elim z
  | brk => obtain ⟨_, _, _, z⟩ := q8; exact False.elim z
  | cont => obtain ⟨_, _, _, z⟩ := q8; exact False.elim z
  | ret u =>
    obtain ⟨v8, σ8, H8, I8, r8, q8⟩ := q8
    have I8' : Inv X pins σ8 H8 s8 := Inv.outExc I.ok I8.unwish
    obtain ⟨m8, n8, _⟩ := I8'.loc
    have hcls8 : (X.env.scope.kind == .class || (X.env.scope.kind == .module && X.env.locals != X.env.globals)) = false := by rw [I.ok.kind]; rfl
    show wpAny (model X.prog X.w) X.A (do bindName X.env n .none; unbindBehindTheSuite X.env n hpos) (fun _ s₃ => SP X pins D (.ret u) s₃) X.xe s8
    refine wpAny_nameGoes hl n8 hcls8 fun h9 m9 n9 sb => ?_
    refine ⟨v8, σ8.map (fun _ => none), H8, ?_, r8, q8⟩
    have tracked : HOk X.prog X.w H8 h9 := fun b ob e => by
      refine (I8'.hok b ob e).stay (fun c w' hc q => (sb.2 c ?_).trans q) (fun _ q => q) fun _ _ q => q
      rintro rfl
      rcases hc with rfl | hc
      · rw [I8'.free] at e; cases e
      · rw [I8'.free] at hc; cases hc
    refine ⟨I8'.ok, I8'.os, I8'.bare, ⟨fun b o e n hb hx => ?_, fun b o e n hb hx => ?_, I8'.base.free, fun b o e hx => ?_, I8'.base.tups, I8'.base.frzs, I8'.base.tbls⟩, ⟨_, n9, fun j y v' e1 e2 e3 => ?_⟩, fun y c e => ?_, I8'.free, I8'.freeC, fun p hp => ?_, tracked, by rw [List.length_map]; exact I8'.len⟩
    · exact (sb.2 b (Nat.ne_of_lt (Nat.lt_of_lt_of_le (Heap.lt_size e) I8'.ok.above))).trans (I8'.base.keep b o e n hb hx)
    · obtain ⟨sl, e1⟩ := I8'.base.slot b o e n hb hx
      exact ⟨sl, (sb.2 b (Nat.ne_of_lt (Nat.lt_of_lt_of_le (Heap.lt_size e) I8'.ok.above))).trans e1⟩
    · obtain ⟨o', e1⟩ := I8'.base.there b o e hx
      exact ⟨o', (sb.2 b (Nat.ne_of_lt (Nat.lt_of_lt_of_le (Heap.lt_size e) I8'.ok.above))).trans e1⟩
    · rw [List.getElem?_map] at e2
      cases q : σ8[j]? with
      | none => rw [q] at e2; cases e2
      | some z => rw [q] at e2; cases e2
    · obtain ⟨w', z⟩ := I8'.cell y c e
      exact ⟨w', z.sameBut sb (I8'.cne y c e)⟩
    · obtain ⟨e, n, ne, nf, d⟩ := I8'.pin p hp
      exact ⟨(sb.2 p.1 ne).trans e, n, ne, nf, d⟩
end L2

/-! ### isinstance of an exception that is held -/
namespace L2
open PySem PySem.Spec PyProof.Rows
/-- what the top says of a class of exceptions, for its instances -/
structure ExcI (K : PySem.W.Frag) (C : Addr) : Prop where
  ga : PySem.W.findIn K (.ref C) "__getattribute__" = some (some (.builtin "BaseException.__getattribute__"))
  gt : PySem.W.findIn K (.ref C) "__getattr__" = some none
  cl : PySem.W.findIn K (.ref C) "__class__" = some (some (.builtin "object.__class__"))
  mb : PySem.W.mroIn K C (.type "BaseException") = some true
  mo : PySem.W.mroIn K C (.type "object") = some true
section
variable {prog : Program} {w : World} {A : Around} {E : Value → Shared → Prop} {h : Heap} {g : Array GenState} {d : Drawn} {t : Nat} {os : OsState} {a C : Addr} {o : Obj} {vs : Array Value} {K : PySem.W.Frag}
theorem exc_get {R : Result → Shared → Prop} (KX : K.In h) (T : ExcI K C) (hx : h.get? a = some o) (hc : o.cls = .ref C) (hq : R (.ok (.ret (.ref C))) ⟨h, g, d, t, os⟩) :
    codeAny (model prog w) A (.call (.builtin "getset_descriptor.__get__") ⟨[.builtin "object.__class__", .ref a, .ref C], []⟩) R ⟨h, g, d, t, os⟩ := by
  have g1 : (⟨h, g, d, t, os⟩ : Shared).TypeIs (.builtin "object.__class__") "getset_descriptor" := F.typeOf_object_class
  have LO := PySem.W.looks_mroIn (M := model prog w) KX T.mo
  rw [← F.owner_object_class] at LO
  refine codeAny_call_builtin F.slot_gs_get.plain F.entry_gs_get (F.slot_gs_get.check _ _ _ _ _ _ _ _ g1 (F.args_gs_get _ _ _) ?_)
  repeat (any_goals (first | assumption | (with_reducible refine wpAny_loadPart_at hx ?_; rw [hc]) | (with_reducible refine PySem.W.Looks.at LO ?_) | wp_step))
  refine And.intro (Code.quiet_builtin _ (by decide +kernel)) (codeAny_builtin F.entry_object_class ?_)
  repeat (any_goals (first | assumption | (with_reducible refine wpAny_loadPart_at hx ?_; rw [hc]) | wp_step))
theorem exc_entry {tk : Tok} {Q : Fin → Shared → Prop} (KX : K.In h) (T : ExcI K C) (hx : h.get? a = some o) (hc : o.cls = .ref C) (hq : Q (.done (.ret (.ref C))) ⟨h, g, d, t, os⟩) :
    wpAny (model prog w) A (Builtin.«object.__getattribute__» (⟨[.ref a, .str "__class__" tk], []⟩ : Args)) Q E ⟨h, g, d, t, os⟩ := by
  have g1 : (⟨h, g, d, t, os⟩ : Shared).TypeIs (.builtin "object.__class__") "getset_descriptor" := F.typeOf_object_class
  have g2 := F.typeOf_object_class
  have g3 := F.slot_gs_get.lookup
  have g4 := F.slot_gs_set.lookup
  have L1 := PySem.W.looks_findIn (M := model prog w) KX T.cl
  repeat (any_goals (first | assumption | (with_reducible refine wpAny_loadPart_at hx ?_; rw [hc]) | (with_reducible refine PySem.W.Looks.at L1 ?_) | wp_step))
  refine exc_get KX T hx hc ?_
  repeat (any_goals (first | assumption | (with_reducible refine PySem.W.Looks.at L1 ?_) | wp_step))
theorem exc_check {M : Model} {nameV : Value} {Q : Unit → Shared → Prop} (KX : K.In h) (T : ExcI K C) (hx : h.get? a = some o) (hc : o.cls = .ref C) (hq : Q () ⟨h, g, d, t, os⟩) :
    wpAny M A (checkBuiltinCall "BaseException.__getattribute__" ⟨[.ref a, nameV], []⟩) Q E ⟨h, g, d, t, os⟩ := by
  have k1 : builtinKind "BaseException.__getattribute__" = some .slot := by decide +kernel
  have k2 : splitId "BaseException.__getattribute__" = some ("BaseException", "__getattribute__") := by decide +kernel
  have k3 := F.args_bexc_ga (.ref a) nameV
  have LB := PySem.W.looks_mroIn (M := M) KX T.mb
  simp only [checkBuiltinCall, k1, k2]
  refine wpAny_bind ?_
  unfold isInstance
  repeat (first | (with_reducible refine wpAny_loadPart_at hx ?_; rw [hc]) | (with_reducible refine PySem.W.Looks.at LB ?_) | wp_step)
  exact hq
theorem exc_call {tk : Tok} {R : Result → Shared → Prop} (KX : K.In h) (T : ExcI K C) (hx : h.get? a = some o) (hc : o.cls = .ref C) (hq : R (.ok (.ret (.ref C))) ⟨h, g, d, t, os⟩) :
    codeAny (model prog w) A (.call (.builtin "BaseException.__getattribute__") ⟨[.ref a, .str "__class__" tk], []⟩) R ⟨h, g, d, t, os⟩ :=
  codeAny_call_builtin PySem.F.attrBase_ValueError.ga.plain F.entry_bexc_ga (exc_check KX T hx hc (exc_entry KX T hx hc hq))
theorem exc_by {tk : Tok} {fill expr : Bool} {Q : Value → Shared → Prop} (KX : K.In h) (T : ExcI K C) (hx : h.get? a = some o) (hc : o.cls = .ref C) (hq : Q (.ref C) ⟨h, g, d, t, os⟩) :
    wpAny (model prog w) A (getAttrBy (.ref a) (.str "__class__" tk) fill expr) Q E ⟨h, g, d, t, os⟩ := by
  have f3 := PySem.F.attrBase_ValueError.ga.bind (.ref a)
  have x0 : (expr && onTheHeap (Value.builtin "BaseException.__getattribute__")) = false := by cases expr <;> rfl
  have x2 : (Value.builtin "BaseException.__getattribute__" == Value.builtin "object.__getattribute__") = false := by decide +kernel
  have x1 : (onTheHeap (Value.ref C) && Value.builtin "BaseException.__getattribute__" == Value.builtin "object.__getattribute__") = false := by rw [x2]; rfl
  have L1 := PySem.W.looks_findIn (M := model prog w) KX T.ga
  have L2 := PySem.W.looks_findIn (M := model prog w) KX T.gt
  repeat (any_goals (first | assumption | (with_reducible refine wpAny_loadPart_at hx ?_; rw [hc]) | (with_reducible refine PySem.W.Looks.at L1 ?_) | (with_reducible refine PySem.W.Looks.at L2 ?_) | wp_step))
  refine exc_call KX T hx hc ?_
  repeat (any_goals (first | assumption | (with_reducible refine PySem.W.Looks.at L2 ?_) | wp_step))
theorem exc_attr {Q : Option Value → Shared → Prop} (KX : K.In h) (T : ExcI K C) (hx : h.get? a = some o) (hc : o.cls = .ref C) (hq : Q (some (.ref C)) ⟨h, g, d, t + 1, os⟩) : wpAny (model prog w) A (getAttr? (.ref a) "__class__") Q E ⟨h, g, d, t, os⟩ := by
  unfold getAttr? getAttrBy?
  repeat (any_goals (first | assumption | (with_reducible apply exc_by KX T hx hc) | wp_step))
end
theorem kitx_exc {K : PySem.W.Frag} {a C : Addr} (T : ExcI K C) : PySem.W.KitX K (.ref a) (.ref C) (fun h => ∃ o, h.get? a = some o ∧ o.cls = .ref C) where
  ty := fun _ _ _ p => by obtain ⟨o, p1, p2⟩ := p; exact p2 ▸ (PySem.W.Looks.ld p1).andThen .now
  it := fun _ h X _ => by
    obtain ⟨cd, e, _⟩ := Option.bind_eq_some_iff.mp T.mo
    unfold PySem.W.clsIn at e
    split at e
    · rename_i c0 d0 cd0 sl0 ho
      intro A' Q' E' s' k q
      unfold isType loadHead
      refine wpAny_bind (wpAny_loadPart (k _ _ (X _ _ ho)) ?_); exact wpAny_pure q
    · cases e
  ne := fun hh tp dd its n sl X htp => by
    obtain ⟨cd, e, _⟩ := Option.bind_eq_some_iff.mp T.mo
    refine Bool.eq_false_iff.mpr fun q2 => ?_
    have e2 : C = tp := Value.ref.inj (beq_iff_eq.mp q2)
    subst e2
    unfold PySem.W.clsIn at e
    split at e
    · rename_i c0 d0 cd0 sl0 ho
      have zz := (X _ _ ho).symm.trans htp
      cases zz
    · cases e
  ca := fun {prog w A E Q s} X p k => by
    obtain ⟨o, p1, p2⟩ := p
    obtain ⟨h0, g0, d0, t0, os0⟩ := s
    exact exc_attr X T p1 p2 k

section
variable {X : Cx}
/-- isinstance(e, C), e an exception that is held, C one class -/
theorem call_isiE : CallR X (.builtin "isinstance") (fun xs H Q => ∃ ea D c b, xs = [.ref ea, c] ∧ H ea = some (exO ea (.ref D)) ∧ ExcI X.K D ∧ (∀ u, RelV c u → PySem.W.kitOne X.K (.ref D) u = some b) ∧ Q (.bl b) H) := by
  intro pins s σ H xs us Q I r h
  obtain ⟨ea, D, c, b, rfl, he, T, e, q⟩ := h
  obtain ⟨u, w', rfl, r1, r2⟩ := vals2 r
  cases r1
  obtain ⟨⟨o, vs, p1, p2, _⟩, _⟩ := I.hok ea _ he
  exact PySem.W.kia_one (kitx_exc T) I.kIn ⟨o, p1, p2⟩ (e w' r2) (fun z => nomatch z) fun tk => ⟨.bl b, H, I.tok tk, rfl, q⟩
end
end L2

/-! ### a list comprehension -/
namespace L2
open PySem PySem.Spec PyProof.Rows
/-- the closure's cells -/
def clOf (cells : List (Str × Addr)) : List (Str × NameKind) → List (Str × Addr) → List (Str × Addr)
  | [], acc => acc
  | (n, k) :: r, acc => if k == .free then (match cells.lookup n with | some c => clOf cells r ((n, c) :: acc) | none => clOf cells r acc) else clOf cells r acc
theorem clOf_sub {cells : List (Str × Addr)} : ∀ {names : List (Str × NameKind)} {acc : List (Str × Addr)}, (∀ x c, acc.lookup x = some c → cells.lookup x = some c) → ∀ x c, (clOf cells names acc).lookup x = some c → cells.lookup x = some c
  | [], _, h => h
  | (n, k) :: r, acc, h => by
    intro x c
    unfold clOf
    split
    · split
      · rename_i c' hc
        refine clOf_sub (names := r) (fun y d hy => ?_) x c
        rw [List.lookup_cons] at hy
        by_cases e : y == n
        · rw [e] at hy
          cases hy
          rw [beq_iff_eq.mp e]
          exact hc
        · rw [Bool.eq_false_iff.mpr e] at hy
          exact h y d hy
      · exact clOf_sub (names := r) h x c
    · exact clOf_sub (names := r) h x c
theorem clOf_mono {cells : List (Str × Addr)} : ∀ {names : List (Str × NameKind)} {acc : List (Str × Addr)} {x : Str}, (∃ c, acc.lookup x = some c) → ∃ c, (clOf cells names acc).lookup x = some c
  | [], _, _, h => h
  | (n, k) :: r, acc, x, h => by
    unfold clOf
    split
    · split
      · refine clOf_mono (names := r) ?_
        rw [List.lookup_cons]
        by_cases e : x == n
        · rw [e]; exact ⟨_, rfl⟩
        · rw [Bool.eq_false_iff.mpr e]; exact h
      · exact clOf_mono (names := r) h
    · exact clOf_mono (names := r) h
theorem clOf_has {cells : List (Str × Addr)} : ∀ {names : List (Str × NameKind)} {acc : List (Str × Addr)} {x : Str}, (x, NameKind.free) ∈ names → (∃ c, cells.lookup x = some c) → ∃ c, (clOf cells names acc).lookup x = some c
  | [], _, _, h, _ => by cases h
  | (n, k) :: r, acc, x, h, hc => by
    unfold clOf
    rcases List.mem_cons.mp h with e | e
    · cases e
      obtain ⟨c, hc⟩ := hc
      rw [hc]
      refine clOf_mono (names := r) ⟨c, ?_⟩
      rw [List.lookup_cons, beq_self_eq_true]
    · split
      · split
        · exact clOf_has (names := r) e hc
        · exact clOf_has (names := r) e hc
      · exact clOf_has (names := r) e hc
theorem closureFor_eq {scope : Scope} {env : Env} (h : ∀ y ∈ scope.names, y.2 = .free → ∃ c, env.cells.lookup y.1 = some c) : closureFor scope env = pure (clOf env.cells scope.names []) := by
  have gen : ∀ (names : List (Str × NameKind)) (acc : List (Str × Addr)), (∀ y ∈ names, y.2 = .free → ∃ c, env.cells.lookup y.1 = some c) →
      (forIn names acc fun (x : Str × NameKind) r => (if x.2 == NameKind.free then do let c ← cellOf env x.1; pure (ForInStep.yield ((x.1, c) :: r)) else pure (ForInStep.yield r) : Sem (ForInStep (List (Str × Addr))))) = pure (clOf env.cells names acc) := by
    intro names
    induction names with
    | nil => intro acc _; rfl
    | cons y r ih =>
      intro acc h
      obtain ⟨n, k⟩ := y
      have hr : ∀ y ∈ r, y.2 = .free → ∃ c, env.cells.lookup y.1 = some c := fun y hy => h y (List.mem_cons_of_mem _ hy)
      rw [List.forIn_cons]
      unfold clOf
      by_cases e : (k == NameKind.free) = true
      · obtain ⟨c, hc⟩ := h (n, k) List.mem_cons_self (by simpa using e)
        rw [if_pos e, hc]
        have hcell : cellOf env n = pure c := by
          unfold cellOf
          rw [show env.cells.lookup n = some c from hc]
        simp only [if_pos e, hcell, pure_bind]
        exact ih _ hr
      · rw [if_neg e]
        simp only [if_neg e, pure_bind]
        exact ih _ hr
  unfold closureFor
  have g := gen scope.names [] h
  simp only [bind_pure]
  exact g
end L2

namespace L2
open PySem PySem.Spec PyProof.Rows
def rlb (env : Env) (names : List (Str × NameKind)) : List (Str × NameKind) := names.map fun (n, k) => if (k == NameKind.free && env.scope.kind == .function && env.kindOf n == some .cell) then (n, NameKind.cell) else (n, k)
theorem rlb_lookup {env : Env} : ∀ {names : List (Str × NameKind)} {x : Str}, (rlb env names).lookup x = (names.lookup x).map fun k => if (k == NameKind.free && env.scope.kind == .function && env.kindOf x == some .cell) then NameKind.cell else k
  | [], _ => rfl
  | (n, k) :: r, x => by
    have ih := @rlb_lookup env r x
    show List.lookup x ((if (k == NameKind.free && env.scope.kind == .function && env.kindOf n == some .cell) = true then (n, NameKind.cell) else (n, k)) :: rlb env r) = _
    rw [List.lookup_cons]
    cases hx : x == n with
    | true =>
      have e := beq_iff_eq.mp hx
      subst e
      by_cases hc : (k == NameKind.free && env.scope.kind == .function && env.kindOf x == some .cell) = true
      · rw [if_pos hc, List.lookup_cons, beq_self_eq_true]
        show _ = some (if (k == NameKind.free && env.scope.kind == .function && env.kindOf x == some .cell) = true then NameKind.cell else k)
        rw [if_pos hc]
      · rw [if_neg hc, List.lookup_cons, beq_self_eq_true]
        show _ = some (if (k == NameKind.free && env.scope.kind == .function && env.kindOf x == some .cell) = true then NameKind.cell else k)
        rw [if_neg hc]
    | false =>
      by_cases hcond : (k == NameKind.free && env.scope.kind == .function && env.kindOf n == some .cell) = true
      · rw [if_pos hcond, List.lookup_cons, hx]; exact ih
      · rw [if_neg hcond, List.lookup_cons, hx]; exact ih
theorem mem_of_look {names : List (Str × NameKind)} {x : Str} {k : NameKind} (h : names.lookup x = some k) : (x, k) ∈ names := PySem.mem_of_lookup h
/-- the names and the state of a comprehension's block: the targets, then the captured names -/
def lcN (X : Cx) (ts : List Str) (js : List Nat) : List Str := ts ++ js.map fun j => X.N.getD j ""
def lcS (ts : List Str) (js : List Nat) (σ : St) : St := ts.map (fun _ => none) ++ js.map fun j => (σ[j]?).join
abbrev Cx.lc (X : Cx) (scope : Scope) (ts : List Str) (js : List Nat) (C : Addr) (s2 : Shared) (H2 : Hp) (fp : List Addr) : Cx :=
  { X with N := lcN X ts js, s₀ := s2, H₀ := H2, env := compEnvC scope (clOf X.env.cells scope.names []) C X.env, outer := X.stack, ex := fp, fn := fun _ => false, pn := [], xe := fun _ _ => False }
/-- what is asked of a comprehension's scope -/
structure LcOk (X : Cx) (scope : Scope) (js : List Nat) : Prop where
  kind : scope.kind = .function
  cell : ∀ y ∈ scope.names, y.2 ≠ .cell
  names : ∀ y ∈ scope.names, y.2 = .local → scope.names.lookup y.1 = some .local
  free : ∀ y ∈ scope.names, y.2 = .free → X.env.kindOf y.1 = some .cell ∨ X.env.kindOf y.1 = some .free
  cap : ∀ j ∈ js, scope.names.lookup (X.N.getD j "") = some .free
section
variable {X : Cx} {scope : Scope} {ts : List Str} {js : List Nat} {pins : List (Addr × Obj)} {σ : St} {H H' : Hp} {s : Shared} {h' : Heap}
theorem lc_start {C : Addr} {fp : List Addr} {t' : Nat} (L : LcOk X scope js) (I : Inv X pins σ H s) (hC : s.heap.objs.size ≤ C) (hns : h'.Ns C fun _ => none) (kept : ∀ b o, s.heap.get? b = some o → h'.get? b = some o)
    (hfp : ∀ b ∈ fp, FpOk X pins H b) (hob : ∀ b ∈ fp, ∃ o, s.heap.get? b = some o) : Inv (X.lc scope ts js C s H fp) [] (lcS ts js σ) H { s with heap := h', toks := t' } := by
  have sub : ∀ x c, (clOf X.env.cells scope.names []).lookup x = some c → X.env.cells.lookup x = some c := clOf_sub (names := scope.names) (acc := []) (fun _ _ z => by cases z)
  have hasc : ∀ x, scope.names.lookup x = some .free → ∃ c, (clOf X.env.cells scope.names []).lookup x = some c := fun x hx =>
    clOf_has (mem_of_look hx) (I.ok.has x (L.free _ (mem_of_look hx) rfl))
  have kinds : ∀ x, (compEnvC scope (clOf X.env.cells scope.names []) C X.env).kindOf x = (scope.names.lookup x).map fun k => if (k == NameKind.free && X.env.scope.kind == .function && X.env.kindOf x == some .cell) then NameKind.cell else k := fun x => rlb_lookup
  have ltC : ∀ b o, s.heap.get? b = some o → b ≠ C := fun b o e => Nat.ne_of_lt (Nat.lt_of_lt_of_le (Heap.lt_size e) hC)
  have fromFree : ∀ x, ((compEnvC scope (clOf X.env.cells scope.names []) C X.env).kindOf x = some .cell ∨ (compEnvC scope (clOf X.env.cells scope.names []) C X.env).kindOf x = some .free) → scope.names.lookup x = some .free := fun x hx => by
    rw [kinds] at hx
    cases q : scope.names.lookup x with
    | none => rw [q] at hx; rcases hx with z | z <;> cases z
    | some k =>
      rw [q] at hx
      have hk : k ≠ .cell := L.cell _ (mem_of_look q)
      cases k with
      | free => rfl
      | cell => exact absurd rfl hk
      | _ => rcases hx with z | z <;> cases z
  refine ⟨⟨I.ok.mod, L.kind, I.ok.glob, I.ok.blt, hC, fun x y c h1 h2 => I.ok.inj x y c (sub x c h1) (sub y c h2), fun x hx => hasc x (fromFree x hx), fun _ _ z => Bool.noConfusion z, I.ok.hd, I.ok.frames, .inl rfl, fun b hb => ?_, I.bs, Nat.le_trans I.ok.bsz I.sz, fun b o e hb => ?_, fun b hb z => ?_, I.stack, I.stkFree⟩,
    rfl, I.bare, Un.kept kept, ⟨_, hns, fun i x v h1 h2 h3 => ?_⟩, fun x c e => ?_, I.hok.fresh hC, fun x c e => I.freeC x c (sub x c e), fun p hp => absurd (show p ∈ ([] : List (Addr × Obj)) from hp) (by simp), I.hok.kept kept, ?_⟩
  · obtain ⟨o, e⟩ := hob b hb
    exact ⟨ltC b o e, fun x c q => (hfp b hb).2.2.2.2.1 x c (sub x c q)⟩
  · rcases (hfp b hb).2.2.2.1 with z | z
    · exact I.ok.noex b o e z
    · exact absurd (Nat.lt_of_lt_of_le (Heap.lt_size e) (Nat.le_trans I.ok.bsz z)) (Nat.lt_irrefl _)
  · exact (List.mem_cons.mp (I.stkSub b z)).elim (hfp b hb).2.1 (hfp b hb).2.2.1
  · have hi : ¬ i < ts.length := fun hi => by
      have h2' : (lcS ts js σ)[i]? = some (some v) := h2
      unfold lcS at h2'
      rw [List.getElem?_append_left (by simpa using hi), List.getElem?_map, List.getElem?_eq_getElem hi] at h2'
      cases h2'
    have h2' : (lcS ts js σ)[i]? = some (some v) := h2
    have h1' : (lcN X ts js)[i]? = some x := h1
    unfold lcS at h2'
    unfold lcN at h1'
    rw [List.getElem?_append_right (by simpa using hi), List.getElem?_map, List.length_map] at h2'
    rw [List.getElem?_append_right (by omega), List.getElem?_map] at h1'
    cases q : js[i - ts.length]? with
    | none => rw [q] at h1'; cases h1'
    | some j =>
      rw [q] at h1' h2'
      have e1 : X.N.getD j "" = x := Option.some.inj h1'
      have e2 : (σ[j]?).join = some v := Option.some.inj h2'
      have e3 : σ[j]? = some (some v) := by
        cases z : σ[j]? with
        | none => rw [z] at e2; cases e2
        | some o => rw [z] at e2; exact congrArg some e2
      have hj : j < X.N.length := by rw [← I.len]; exact (List.getElem?_eq_some_iff.mp e3).1
      have e4 : X.N[j]? = some x := by
        rw [List.getElem?_eq_getElem hj, ← e1, List.getD_eq_getElem?_getD, List.getElem?_eq_getElem hj]; rfl
      have hf := L.cap j (List.mem_of_getElem? q)
      rw [e1] at hf
      have hk := L.free _ (mem_of_look hf) rfl
      obtain ⟨m, hn, hl⟩ := I.loc
      have vis : Vis X.env.scope x := by
        rcases hk with z | z
        · exact .inr (.inl z)
        · exact .inr (.inr z)
      obtain ⟨u, r, l⟩ := hl j x v e4 e3 vis
      refine ⟨u, r, ?_⟩
      rcases l with ⟨z, _⟩ | ⟨_, c, hc, hcell⟩
      · have z' : X.env.kindOf x = some .local := z
        rcases hk with k | k
        · rw [z'] at k; cases k
        · rw [z'] at k; cases k
      · obtain ⟨c', hc'⟩ := hasc x hf
        have e5 := sub x c' hc'
        rw [hc] at e5
        cases e5
        refine .inr ⟨?_, c, hc', ?_⟩
        · rw [kinds, hf]
          by_cases z : ((NameKind.free == NameKind.free) && X.env.scope.kind == .function && X.env.kindOf x == some .cell) = true
          · left; simp only [Option.map_some, if_pos z]
          · right; simp only [Option.map_some, if_neg z]
        · obtain ⟨o, ho, hd⟩ := hcell
          exact ⟨o, kept c o ho, hd⟩
  · obtain ⟨v, o, ho, hd⟩ := I.cell x c (sub x c e)
    exact ⟨v, o, kept c o ho, hd⟩
  · show (lcS ts js σ).length = (lcN X ts js).length
    unfold lcS lcN
    simp
end
end L2

namespace L2
open PySem PySem.Spec PyProof.Rows
/-- what is wanted of one turn of a comprehension's loop, the exceptions left out -/
def LcTurn (Mo : Model) (A : Around) (tgt elt : Expr) (tests : List Expr) (it lst : Value) (env : Env) (Fin : Shared → Prop) (Again : Shared → Prop) (s0 : Shared) : Prop :=
  wpAny Mo A (pyNext it) (fun nx s1 => match nx with
    | none => Fin s1
    | some v => wpAny Mo A (letOwnedTupleGo tgt it v) (fun _ s2 => wpAny Mo A (assign tgt env v) (fun _ s3 =>
        wpAny Mo A (forIn tests true fun c ok => if ok = true then (do let b ← isTrue c env (eval c env); pure (ForInStep.yield b)) else pure (ForInStep.yield ok)) (fun b s4 =>
          if b = true then wpAny Mo A (eval elt env) (fun y s5 => wpAny Mo A (call (.builtin "list.append") [lst, y]) (fun _ s6 => Again s6) (fun _ _ => False) s5) (fun _ _ => False) s4
          else Again s4) (fun _ _ => False) s3) (fun _ _ => False) s2) (fun _ _ => False) s1) (fun _ _ => False) s0
theorem compLoop_by {P : Program} {w : World} {A : Around} {R : Result → Shared → Prop} {s0 : Shared} {elt tgt iter : Expr} {tests : List Expr} {scope : Scope} {pos : Pos} {it lst : Value} {env : Env} (Iv : Nat → Shared → Prop)
    (turn : ∀ k sk, Iv k sk → LcTurn (model P w) A tgt elt tests it lst env (R (.ok .next)) (fun s' => ∃ j, j < k ∧ Iv j s') sk) (k0 : Nat) (h0 : Iv k0 s0) :
    codeAny (model P w) A (.compLoop (.ListComp elt [⟨tgt, iter, tests, 0⟩] scope pos) 0 it lst env) R s0 := by
  refine codeAny_loop rfl Iv (fun k sk hk => ?_) k0 h0
  show wpAny (model P w) A ((compTurn (.ListComp elt [⟨tgt, iter, tests, 0⟩] scope pos) 0 it lst env).onRaise fun ex => do noteFrame ex env; theTreesLotGoes ex) _ _ sk
  refine wpAny_noted (wpAny_noRaise ?_)
  rw [compTurn_list]
  refine wpAny_bind (wpAny_standAt (wpAny_bind (thn (turn k sk hk) fun nx s1 q1 => ?_)))
  cases nx with
  | none => exact wpAny_pure q1
  | some v =>
    refine wpAny_bind (thn q1 fun _ s2 q2 => wpAny_bind (thn q2 fun _ s3 q3 => wpAny_bind (thn q3 fun b s4 q4 => ?_)))
    cases b with
    | true => exact wpAny_bind (wpAny_bind (thn q4 fun y s5 q5 => wpAny_bind (thn q5 fun _ s6 q6 => wpAny_pure (wpAny_pure ⟨rfl, q6⟩))))
    | false => exact wpAny_pure ⟨rfl, q4⟩
/-- what a state still says -/
def SubS : St → St → Prop
  | [], [] => True
  | none :: a, _ :: b => SubS a b
  | some v :: a, w :: b => w = some v ∧ SubS a b
  | [], _ :: _ => False
  | _ :: _, [] => False
theorem SubS.ok : ∀ {a b : St}, SubS a b → a.length = b.length ∧ ∀ (i : Nat) v, a[i]? = some (some v) → b[i]? = some (some v)
  | [], [], _ => ⟨rfl, fun i v h => by simp at h⟩
  | none :: a, _ :: b, h => by
    obtain ⟨h1, h2⟩ := SubS.ok (a := a) (b := b) h
    refine ⟨by simp [h1], fun i v hv => ?_⟩
    cases i with
    | zero => simp at hv
    | succ i => simpa using h2 i v (by simpa using hv)
  | some u :: a, w :: b, h => by
    obtain ⟨h1, h2⟩ := SubS.ok (a := a) (b := b) h.2
    refine ⟨by simp [h1], fun i v hv => ?_⟩
    cases i with
    | zero => simpa [h.1] using hv
    | succ i => simpa using h2 i v (by simpa using hv)
  | [], _ :: _, h => False.elim h
  | none :: _, [], h => False.elim h
  | some _ :: _, [], h => False.elim h
/-- the tests of a comprehension -/
def PIfs (X : Cx) (ifs : List Expr) (t : TT) : Prop :=
  ∀ (pins : List (Addr × Obj)) (s : Shared) (σ : St) (H : Hp) (Q : Bool → Hp → Prop), Inv X pins σ H s → t σ H Q →
    wpAny (model X.prog X.w) X.A (forIn ifs true fun c r => if r = true then do let ok ← isTrue c X.env (eval c X.env); pure (ForInStep.yield ok) else pure (ForInStep.yield r)) (TP X pins σ Q) X.xe s
def tYes : TT := fun _ H Q => Q true H
theorem pf_nil {X : Cx} : PIfs X [] tYes := fun _ _ _ H _ I h => wpAny_pure ⟨H, I, h⟩
/-- [te for g in wi if tc]: W, the invariant by the turn, a measure, the items so far -/
def LcW (J : It) (ts : List Str) (js : List Nat) (g : TG) (tc : TT) (te : TE) (σ : St) (H1 : Hp) (Q : VK) : Prop := ∃ (W : Nat → List V → Hp → Prop) (n : Nat), W 0 [] H1 ∧ ∀ i ys H, W i ys H →
  (J.stop i H ∧ ∀ p, H p = none → Q (.ref p) (upd H p (.lst ys))) ∨
  (i < n ∧ J.go i H ∧ ys.length < sizeLine ∧ ∀ x H', J.yld i H x H' → g x (lcS ts js σ) H' fun σ2 H2 => SubS (lcS ts js σ) σ2 ∧ tc σ2 H2 fun b H3 => if b = true then te σ2 H3 fun y H4 => W (i + 1) (ys ++ [y]) H4 else W (i + 1) ys H3)
abbrev Dp (α : Type) := Addr → Shared → Hp → List Addr → α
def tLc (wi : TI) (ts : List Str) (js : List Nat) (g : Dp TG) (tc : Dp TT) (te : Dp TE) : TE := fun σ H Q => wi σ H fun J H1 => ∀ C s2 H2 fp, LcW J ts js (g C s2 H2 fp) (tc C s2 H2 fp) (te C s2 H2 fp) σ H1 Q
section
variable {X : Cx} {scope : Scope} {ts : List Str} {js : List Nat} {pins : List (Addr × Obj)} {σ : St} {H H' : Hp} {s : Shared} {tg elt iter : Expr} {ifs : List Expr} {g : Dp TG} {tc : Dp TT} {te : Dp TE} {pos : Pos} {E : Value → Shared → Prop}
/-- an object that stood untracked is tracked -/
theorem Inv.track {D : Addr} {o : HO} (I : Inv X pins σ H s) (f : FpOk X pins H D) (hD : X.s₀.heap.objs.size ≤ D) (new : ObjOk X.prog X.w (upd H D o) s.heap D o) : Inv X pins σ (upd H D o) s := by
  obtain ⟨f0, f1, f2, f3, f4, f5⟩ := f
  have ne : ∀ b u, H b = some u → b ≠ D := fun b u e z => by rw [z, f0] at e; cases e
  have ne0 : ∀ b ob, X.s₀.heap.get? b = some ob → b ≠ D := fun b ob e => Nat.ne_of_lt (Nat.lt_of_lt_of_le (Heap.lt_size e) hD)
  refine ⟨I.ok, I.os, I.bare, ⟨I.base.keep, I.base.slot, fun b ob e n hx => ?_, I.base.there, fun b xs e => ?_, fun b ob u e => ?_, fun b ps e => ?_⟩, I.loc, I.cell, ?_, fun x c e => ?_, fun p hp => ?_, fun a u e => ?_, I.len⟩
  · rw [upd_ne (ne0 b ob e)]; exact I.base.free b ob e n hx
  · have q := I.base.tups b xs e
    rw [upd_ne (ne b _ q)]; exact q
  · have q := I.base.frzs b ob u e
    rw [upd_ne (ne b _ q)]; exact q
  · obtain ⟨m, q⟩ := I.base.tbls b ps e
    exact ⟨m, by rw [upd_ne (ne b _ q)]; exact q⟩
  · rw [upd_ne (Ne.symm f1)]; exact I.free
  · rw [upd_ne (f4 x c e)]; exact I.freeC x c e
  · obtain ⟨a1, a2, a3⟩ := I.pin p hp
    exact ⟨a1, by rw [upd_ne (f5 p hp)]; exact a2, a3⟩
  · by_cases ha : a = D
    · subst ha
      rw [upd_same] at e
      cases e
      exact new
    · rw [upd_ne ha] at e
      refine (I.hok a u e).stay (fun _ _ _ q => q) (fun b q => ?_) fun b xs q => ?_
      · rw [upd_ne (ne b _ q)]; exact q
      · rw [upd_ne (ne b _ q)]; exact q
theorem lc_block {it : Addr} {fp : List Addr} {tn : Nat → Heap → Prop} {J : It} {Q : VK} {RR : Value → Addr → Result → Shared → Prop} (L : LcOk X scope js) (hc : X.calm = true) (I : Inv X pins σ H s) (T : Turn X.prog X.w X.K tg J fp it tn) (st : tn 0 s.heap)
    (hf : ∀ b ∈ fp, FpOk X pins H b) (hg : ∀ C s H fp, PG (X.lc scope ts js C s H fp) tg (g C s H fp)) (hcs : ∀ C s H fp, PIfs (X.lc scope ts js C s H fp) ifs (tc C s H fp)) (he : ∀ C s H fp, PE (X.lc scope ts js C s H fp) elt (te C s H fp)) (hw : ∀ C s2 H2 fp, LcW J ts js (g C s2 H2 fp) (tc C s2 H2 fp) (te C s2 H2 fp) σ H Q)
    (hRR : ∀ D C s' H' ys m', Inv X pins σ (upd H' D (.lst ys)) s' → FpOk X pins (upd H' D (.lst ys)) C → s'.heap.Ns C m' → Q (.ref D) (upd H' D (.lst ys)) → RR (.ref D) C (.ok .next) s') :
    wpAny (model X.prog X.w) X.A (newList []) (fun acc s₃ => wpAny (model X.prog X.w) X.A (newFunctionEnv scope X.env.globals (clOf X.env.cells scope.names []) [] X.env.qual none .none (some X.env)) (fun cenv s₄ =>
      codeAny (model X.prog X.w) X.A (.compStart (.ListComp elt [⟨tg, iter, ifs, 0⟩] scope pos) 0 (.ref it) acc { cenv with scope := relabel scope X.env }) (RR acc cenv.locals) s₄) E s₃) E s := by
  refine wpAny_newObj_type (wpAny_newFunctionEnv L.cell (by intro y hy; simp at hy) (fun h₁ hns₁ hsb₁ => ?_) L.kind)
  dsimp only at hns₁ hsb₁ ⊢
  generalize hH2 : s.heap.push { cls := .type "list", dict := none, data := .seq ([] : List Value).toArray } = G2 at hns₁ hsb₁ ⊢
  have hC : G2.objs.size = s.heap.objs.size + 1 := by rw [← hH2, Heap.size_push]
  generalize hCd : G2.objs.size = C at hns₁ hsb₁ hC ⊢
  obtain ⟨W, nn, w0, turn⟩ := hw C s H fp
  have hDC : s.heap.objs.size ≠ C := by rw [hC]; exact Nat.ne_of_lt (Nat.lt_succ_self _)
  have hCle : s.heap.objs.size ≤ C := by rw [hC]; exact Nat.le_succ _
  have below : ∀ b, b < s.heap.objs.size → b ≠ C ∧ b ≠ s.heap.objs.size := fun b hb => ⟨by rw [hC]; exact Nat.ne_of_lt (Nat.lt_succ_of_lt hb), Nat.ne_of_lt hb⟩
  have old : ∀ b o, s.heap.get? b = some o → h₁.get? b = some o := fun b o e => hsb₁.extBut b o (below b (Heap.lt_size e)).1 (Heap.get?_push_of_some _ (hH2 ▸ Heap.get?_push_of_some _ e))
  have hacc : h₁.PlainList s.heap.objs.size #[] := ⟨_, hsb₁.extBut _ _ hDC (Heap.get?_push_of_some _ (hH2 ▸ Heap.get?_push_size _ rfl))⟩
  have hob : ∀ b ∈ fp, ∃ o, s.heap.get? b = some o := fun b hb => by obtain ⟨o, e, _⟩ := T.obj 0 _ st b hb; exact ⟨o, e⟩
  have st₁ : tn 0 h₁ := T.keep 0 _ _ st fun b _ o e => old b o e
  generalize hD : s.heap.objs.size = D at hacc hDC hCle below ⊢
  have I1 : Inv (X.lc scope ts js C s H fp) [] (lcS ts js σ) H { s with heap := h₁, toks := s.toks + ([] : List (Str × Value)).length } := lc_start L I (by rw [hD]; exact hCle) hns₁ old hf hob
  have stk : ∀ b ∈ frs X.stack, b < s.heap.objs.size := fun b hb => by obtain ⟨_, o, e, _⟩ := I.stack.mem hb; exact Heap.lt_size e
  have cells : ∀ x c, (clOf X.env.cells scope.names []).lookup x = some c → X.env.cells.lookup x = some c := clOf_sub (names := scope.names) (acc := []) (fun _ _ z => by cases z)
  have stat : ∀ {K : Hp}, (∀ b ∈ D :: fp, K b = none) → ∀ b ∈ D :: fp, FpOk (X.lc scope ts js C s H fp) [] K b := fun {K} hn b hb => by
    refine ⟨hn b hb, ?_, ?_, ?_, ?_, fun p hp => absurd (show p ∈ ([] : List (Addr × Obj)) from hp) (by simp)⟩
    · rcases List.mem_cons.mp hb with z | z
      · rw [z]; exact hDC
      · obtain ⟨o, e⟩ := hob b z
        exact (below b (by rw [← hD]; exact Heap.lt_size e)).1
    · intro z
      rcases List.mem_cons.mp hb with q | q
      · have := stk b z
        rw [q, hD] at this
        exact Nat.lt_irrefl _ this
      · exact (List.mem_cons.mp (I.stkSub b z)).elim (hf b q).2.1 (hf b q).2.2.1
    · rcases List.mem_cons.mp hb with q | q
      · right; rw [q]; exact Nat.le_of_eq hD
      · exact .inl q
    · intro x c e z
      rcases List.mem_cons.mp hb with q | q
      · obtain ⟨v, qc⟩ := I.cell x c (cells x c e)
        have := qc.lt
        rw [z, q, hD] at this
        exact Nat.lt_irrefl _ this
      · exact (hf b q).2.2.2.2.1 x c (cells x c e) z
  have fr1 : ∀ b ∈ D :: fp, H b = none := fun b hb => by
    rcases List.mem_cons.mp hb with q | q
    · rw [q]; exact I.hok.fresh (by rw [hD]; exact Nat.le_refl _)
    · exact (hf b q).1
  have objs : ∀ i (h : Heap) (its : Array Value), tn i h → h.PlainList D its → ∀ b ∈ D :: fp, ∃ o, h.get? b = some o ∧ ∀ v, o.data ≠ .cell v := fun i h its t p b hb => by
    rcases List.mem_cons.mp hb with q | q
    · subst q
      obtain ⟨n, e⟩ := p
      exact ⟨_, e, fun v z => by cases z⟩
    · exact T.obj i h t b q
  have loop : ∀ s₃ : Shared, s₃ = { s with heap := h₁, toks := s.toks + ([] : List (Str × Value)).length } →
      codeAny (model X.prog X.w) X.A (.compLoop (.ListComp elt [⟨tg, iter, ifs, 0⟩] scope pos) 0 (.ref it) (.ref D) (compEnvC scope (clOf X.env.cells scope.names []) C X.env)) (RR (.ref D) C) s₃ := by
    rintro s₃ rfl
    refine compLoop_by (fun k s' => ∃ i ys its H', Inv (X.lc scope ts js C s H fp) [] (lcS ts js σ) H' s' ∧ tn i s'.heap ∧ (∀ b ∈ D :: fp, H' b = none) ∧ s'.heap.PlainList D its ∧ Vals ys its.toList ∧ ys.length ≤ sizeLine ∧ k = nn - i ∧ W i ys H') ?_ nn ⟨0, [], #[], H, I1, st₁, fr1, hacc, .nil, Nat.zero_le _, rfl, w0⟩
    rintro n s3 ⟨i, ys, its, H3, I3, st3, fr3, p3, v3, z3, rfl, w3⟩
    have I3' := I3.pinned (fp := [D]) (fun b hb => stat fr3 b (by rw [List.mem_singleton.mp hb]; exact List.mem_cons_self)) (fun b hb => objs i _ its st3 p3 b (by rw [List.mem_singleton.mp hb]; exact List.mem_cons_self))
    have sp : ∀ b ∈ fp, FpOk (X.lc scope ts js C s H fp) ([] ++ pinsAt [D] s3.heap) H3 b := fun b hb => by
      obtain ⟨a0, a1, a2, a3, a4, a5⟩ := stat fr3 b (List.mem_cons_of_mem _ hb)
      refine ⟨a0, a1, a2, a3, a4, fun p hp z => ?_⟩
      obtain ⟨q, _⟩ := of_pinsAt (show p ∈ pinsAt [D] s3.heap from hp)
      have e := List.mem_singleton.mp q
      obtain ⟨o, eo⟩ := hob b hb
      exact (below b (by rw [← hD]; exact Heap.lt_size eo)).2 (by rw [← z]; exact e)
    rcases turn i ys H3 w3 with ⟨stop, qn⟩ | ⟨hin, go, hz, step⟩
    · refine thn (T.done (X.lc scope ts js C s H fp) rfl rfl rfl hc i _ s3 _ H3 _ I3' sp st3 stop) fun r s4 ⟨hr, I4⟩ => ?_
      subst hr
      obtain ⟨n3, e3⟩ := p3
      have e4 : s4.heap.get? D = some { cls := .type "list", data := .seq its n3 } := (I4.pin (D, _) (List.mem_append_right _ (mem_pinsAt (List.mem_singleton.mpr rfl) e3))).1
      have I4' : Inv (X.lc scope ts js C s H fp) [] (lcS ts js σ) H3 s4 := Inv.unpinned (pins := []) I4
      have hlen := v3.length
      have back : Inv X pins σ H3 s4 := I.call' (ch := fp) I4'.os I4'.base I4'.hok I4'.bare fun b hb => ⟨(hf b hb).2.2.2.1, (hf b hb).2.1, (hf b hb).2.2.2.2.1, (hf b hb).2.2.2.2.2⟩
      have fD : FpOk X pins H3 D := I.fpOk (Nat.le_of_eq hD) (fr3 D List.mem_cons_self)
      have ob : ObjOk X.prog X.w (upd H3 D (.lst ys)) s4.heap D (.lst ys) := ⟨z3, its.toList, n3, v3, by simpa using e4⟩
      have tr := back.track fD (by rw [← hD]; exact I.sz) ob
      obtain ⟨m4, n4, _⟩ := I4'.loc
      refine hRR D C s4 H3 ys m4 tr ?_ n4 (qn D (fr3 D List.mem_cons_self))
      refine I.fpOk (by rw [hD]; exact hCle) ?_
      rw [upd_ne (Ne.symm hDC)]
      exact I4'.free
    · refine thn (T.item (X.lc scope ts js C s H fp) rfl rfl rfl hc i _ s3 _ H3 _ I3' sp st3 go) fun r s4 ⟨u, hr, h4⟩ => ?_
      subst hr
      refine thn h4 fun _ s5 ⟨x, H5, I5, r5, y5, st5, fr5⟩ => ?_
      obtain ⟨n3, e3⟩ := p3
      have e5 := I5.pin (D, _) (List.mem_append_right _ (mem_pinsAt (List.mem_singleton.mpr rfl) e3))
      have fr5' : ∀ b ∈ D :: fp, H5 b = none := fun b hb => by
        rcases List.mem_cons.mp hb with q | q
        · rw [q]; exact e5.2.1
        · exact fr5 b q
      have p5 : s5.heap.PlainList D its := ⟨n3, e5.1⟩
      have I5b : Inv (X.lc scope ts js C s H fp) [] (lcS ts js σ) H5 s5 := Inv.unpinned (pins := []) I5
      have I5' := I5b.pinned (fp := D :: fp) (stat fr5') (objs _ _ its st5 p5)
      refine thn (hg C s H fp _ s5 _ H5 x u _ I5' r5 (step x H5 y5)) fun _ s6 ⟨σ6, H6, I6, sub6, q6⟩ => ?_
      refine thn (hcs C s H fp _ s6 σ6 H6 _ I6 q6) fun b s7 ⟨H7, I7, q7⟩ => ?_
      have wk : ∀ {H' : Hp} {s' : Shared}, Inv (X.lc scope ts js C s H fp) ([] ++ pinsAt (D :: fp) s5.heap) σ6 H' s' → Inv (X.lc scope ts js C s H fp) ([] ++ pinsAt (D :: fp) s5.heap) (lcS ts js σ) H' s' := fun I' => I'.weak sub6.ok.1 sub6.ok.2
      have rec' : ∀ {H' : Hp} {s' : Shared}, Inv (X.lc scope ts js C s H fp) ([] ++ pinsAt (D :: fp) s5.heap) σ6 H' s' → Inv (X.lc scope ts js C s H fp) [] (lcS ts js σ) H' s' ∧ tn (i + 1) s'.heap ∧ (∀ b ∈ D :: fp, H' b = none) ∧ s'.heap.PlainList D its := fun {H' s'} I' => by
        have pin : ∀ b ∈ D :: fp, ∀ o, s5.heap.get? b = some o → s'.heap.get? b = some o ∧ H' b = none := fun b hb o e => by
          have z := I'.pin (b, o) (List.mem_append_right _ (List.mem_append_right _ (mem_pinsAt hb e)))
          exact ⟨z.1, z.2.1⟩
        refine ⟨Inv.unpinned (pins := []) (wk I'), T.keep _ _ _ st5 fun b hb o e => (pin b (List.mem_cons_of_mem _ hb) o e).1, fun b hb => ?_, ⟨n3, (pin D List.mem_cons_self _ e5.1).1⟩⟩
        obtain ⟨o, e, _⟩ := objs _ _ its st5 p5 b hb
        exact (pin b hb o e).2
      cases b with
      | false =>
        obtain ⟨j1, j2, j3, j4⟩ := rec' I7
        exact ⟨nn - (i + 1), by omega, i + 1, ys, its, H7, j1, j2, j3, j4, v3, z3, rfl, q7⟩
      | true =>
        refine thn (he C s H fp _ s7 σ6 H7 _ I7 q7) fun yv s8 ⟨y, H8, I8, r8, w8⟩ => ?_
        obtain ⟨j1, j2, j3, j4⟩ := rec' I8
        have hlen : its.size = ys.length := by have := v3.length; simp at this; omega
        refine wpAny_list_append_plain (hsz := by rw [hlen]; exact z3) j4 fun h9 p9 sb9 => ?_
        obtain ⟨f0, f1, f2, f3, f4, f5⟩ := stat j3 D List.mem_cons_self
        refine ⟨nn - (i + 1), by omega, i + 1, ys ++ [y], its.push yv, H8, j1.turned (t' := s8.toks) (fun b o hb e => (sb9.2 b hb).trans e) f0 f1 f3 f4 f5, T.keep _ _ _ j2 fun b hb o e => (sb9.2 b ?_).trans e, j3, p9, ?_, ?_, rfl, w8⟩
        · obtain ⟨o, eo⟩ := hob b hb
          exact (below b (by rw [← hD]; exact Heap.lt_size eo)).2
        · rw [Array.toList_push]
          exact v3.append (.cons r8 .nil)
        · rw [List.length_append, List.length_singleton]; exact hz
  exact codeAny_compStart_list (loop _ rfl) (T.self _ 0 _ _ _ st₁ (loop _ rfl))
end
end L2

namespace L2
open PySem PySem.Spec PyProof.Rows
section
variable {X : Cx} {scope : Scope} {ts : List Str} {js : List Nat} {tg elt iter : Expr} {ifs : List Expr} {wi : TI} {g : Dp TG} {tc : Dp TT} {te : Dp TE} {pos : Pos}
theorem pe_lc (L : LcOk X scope js) (hc : X.calm = true) (hi : PI X tg iter wi) (hg : ∀ C s H fp, PG (X.lc scope ts js C s H fp) tg (g C s H fp)) (hcs : ∀ C s H fp, PIfs (X.lc scope ts js C s H fp) ifs (tc C s H fp)) (he : ∀ C s H fp, PE (X.lc scope ts js C s H fp) elt (te C s H fp))
    (hs : ∀ x, foldedSetIterable iter X.env x = pure x := by intro _; rfl) : PE X (.ListComp elt [⟨tg, iter, ifs, 0⟩] scope pos) (tLc wi ts js g tc te) := by
  intro pins s σ H Q I h
  rw [eval_ListComp]
  refine wpAny_comprehension_free (use := none) rfl hs (closureFor_eq fun y hy hf => I.ok.has y.1 (L.free y hy hf)) L.kind L.names (thn (hi pins s σ H _ I h) fun v s1 h1 => thn h1 fun itv s2 h2 => ?_)
  obtain ⟨it, fp, tn, J, H2, rfl, I2, T, st2, f2, hw⟩ := h2
  refine lc_block (RR := fun acc C => compPost (model X.prog X.w) X.A X.xe none (EP X pins σ Q) acc C) L hc I2 T st2 f2 hg hcs he hw ?_
  intro D C s' H' ys m' I' fC hn hq
  obtain ⟨f0, f1, f2, f3, f4, f5⟩ := fC
  exact ⟨m', hn, fun h' hs' => ⟨.ref D, _, I'.turned (t' := s'.toks) (fun b o hb e => (hs'.2 b hb).trans e) f0 f1 f3 f4 f5, rfl, hq⟩⟩
/-- x = [..], where the name is stored ahead of the block's end -/
theorem ps_setLC {i : Nat} {x : Str} {pos' spos : Pos} (hN : X.N.Nodup) (hxi : X.N[i]? = some x) (hx : Loc X.env.scope x) (L : LcOk X scope js) (hc : X.calm = true) (hi : PI X tg iter wi) (hg : ∀ C s H fp, PG (X.lc scope ts js C s H fp) tg (g C s H fp))
    (hcs : ∀ C s H fp, PIfs (X.lc scope ts js C s H fp) ifs (tc C s H fp)) (he : ∀ C s H fp, PE (X.lc scope ts js C s H fp) elt (te C s H fp))
    (hsw : swapsWith (.ListComp elt [⟨tg, iter, ifs, 0⟩] scope pos) (some (.Name x pos')) spos.line X.env = pure true := by rfl)
    (hs : ∀ x, foldedSetIterable iter X.env x = pure x := by intro _; rfl) (hf : X.fn x = true ∨ X.env.scope.names.lookup x = some .local := by first | exact .inl rfl | exact .inr rfl | assumption) :
    PS X (.Assign [.Name x pos'] (.ListComp elt [⟨tg, iter, ifs, 0⟩] scope pos) spos) (tAsg (tLc wi ts js g tc te) (gName i)) := by
  intro pins s σ H D0 I h
  rw [exec_Assign_Name_used x pos' _ spos hsw]; refine wpAny_bind (wpAny_standAt ?_); refine wpAny_bind ?_
  show wpAny _ X.A (do let _ ← comprehension (.ListComp elt [⟨tg, iter, ifs, 0⟩] scope pos) scope X.env _ (newList []) false (eval iter X.env) (some (assign (.Name x pos') X.env))) _ _ s
  refine wpAny_bind (wpAny_mono (wpAny_comprehension_free (use := some (assign (.Name x pos') X.env)) (Q := fun _ s' => SP X pins D0 .next s') rfl hs (closureFor_eq fun y hy hf => I.ok.has y.1 (L.free y hy hf)) L.kind L.names
    (thn (hi pins s σ H _ I h) fun v s1 h1 => thn h1 fun itv s2 h2 => ?_)) (fun _ s' hq => wpAny_pure (wpAny_pure hq)) fun _ _ e => e)
  obtain ⟨it, fp, tn, J, H2, rfl, I2, T, st2, f2, hw⟩ := h2
  refine lc_block (RR := fun acc C => compPost (model X.prog X.w) X.A X.xe (some (assign (.Name x pos') X.env)) (fun _ s' => SP X pins D0 .next s') acc C) L hc I2 T st2 f2 hg hcs he hw ?_
  intro D C s' H' ys m' I' fC hn hq
  obtain ⟨oC, es, ep, hoC, hdC, rC⟩ := id hn
  have I'' := I'.pinned (fp := [C]) (fun b hb => by rw [List.mem_singleton.mp hb]; exact fC) (fun b hb => by rw [List.mem_singleton.mp hb]; exact ⟨oC, hoC, fun v z => by rw [hdC] at z; cases z⟩)
  show wpAny _ X.A (assign (.Name x pos') X.env (.ref D)) _ _ _
  refine wpAny_assign_Name (store_ok I'' hN hxi hx (v := .ref D) rfl (fun s7 I7 => ?_) hf)
  have e7 := I7.pin (C, oC) (List.mem_append_right _ (List.mem_append_right _ (mem_pinsAt (List.mem_singleton.mpr rfl) hoC)))
  refine ⟨m', ⟨oC, es, ep, e7.1, hdC, rC⟩, fun h9 sb9 => ?_⟩
  obtain ⟨f0, f1, f2, f3, f4, f5⟩ := fC
  exact ⟨_, _, (Inv.unpinned I7).turned (t' := s7.toks) (fun b o hb e => (sb9.2 b hb).trans e) e7.2.1 f1 f3 f4 f5, hq⟩
end
end L2

/-! ### names for the generator -/
namespace L2
open PySem PySem.Spec PyProof.Rows
def lcOkB (scope : Scope) (ek : List (Str × NameKind)) (N : List Str) (js : List Nat) : Bool :=
  scope.kind == .function && scope.names.all (fun y => y.2 != .cell) && scope.names.all (fun y => y.2 != .local || scope.names.lookup y.1 == some .local) &&
  scope.names.all (fun y => y.2 != .free || ek.lookup y.1 == some .cell || ek.lookup y.1 == some .free) && js.all (fun j => scope.names.lookup (N.getD j "") == some .free)
theorem LcOk.of {X : Cx} {scope : Scope} {js : List Nat} (h : lcOkB scope X.env.scope.names X.N js = true) : LcOk X scope js := by
  unfold lcOkB at h
  simp only [Bool.and_eq_true, List.all_eq_true, Bool.or_eq_true, bne_iff_ne, beq_iff_eq] at h
  obtain ⟨⟨⟨⟨h1, h2⟩, h3⟩, h4⟩, h5⟩ := h
  refine ⟨h1, h2, fun y hy e => ?_, fun y hy e => ?_, h5⟩
  · exact (h3 y hy).resolve_left fun z => z e
  · rcases h4 y hy with (z | z) | z
    · exact absurd e z
    · exact .inl z
    · exact .inr z
theorem nodup_of {l : List Str} (h : decide l.Nodup = true) : l.Nodup := of_decide_eq_true h
theorem passN {X : Cx} : Passes (CXe X.prog X.w) X E0 := fun _ _ _ _ _ _ _ h => by
  obtain ⟨_, _, _, _, _, _, _, z⟩ := h
  exact z.elim
theorem powx {P : Program} {w : World} {K : PySem.W.Frag} {mg : Str → Option Value} {base : Heap} {N : List Str} {qual : Str} {scope : Scope} {f : Addr} {cd : Value} {A : Around} {outer : List Env} {s : Shared} {H : Hp} {E : XK} :
    PassesOwn (model P w) (cxOf (CXe P w) P w K mg base N qual scope f cd A outer s H E).A (cxOf (CXe P w) P w K mg base N qual scope f cd A outer s H E).env (cxOf (CXe P w) P w K mg base N qual scope f cd A outer s H E).xe := PassesOwn.leaving
theorem walk_ofX {l : PySem.W.OpenLaw} {n k : Nat} {q : Program} {loose : List Str} {XP : (Str → Option Value) → Heap → Prop} {YP : World → Heap → Prop} {d : DefRec} {K : Params → PySem.W.Frag} {sp : PySem.W.Frag → Sp} {x : Str}
    (hn : l.most = some n) (hn2 : n ≤ sizeLine) (hdf : d.params.defaults = []) (hr : Room k callerA)
    (hY : ∀ (w : World) (h : Heap), YP w h → (K w.params).In h)
    (F : ∀ (w : World) (mg : Str → Option Value) (fa : Addr) (h : Heap), (K w.params).In h → h.Ns mainGlobals mg → mg d.name = some (.ref fa) →
      ∃ fd : FuncData, (∀ (s : Shared) (u : Value), BindsTo s fd ⟨[u], []⟩ [(x, u)]) ∧
        ∀ base : Heap, (K w.params).In base → base.Ns mainGlobals mg → FnOk l.prog w (K w.params) mg base (CXe l.prog w) k fa fd [x] (sp (K w.params)))
    (hsp : ∀ (K : PySem.W.Frag) (H : Hp) (a : Addr) (ns : List Int), ns.length ≤ n → Only H → SqL K H a (ns.map V.int) → sp K [.ref a] H (fun v _ => v = .bl true) fun _ _ _ => False) :
    PySem.W.WalkO q loose XP YP l.row.toRowW d [] (fun f vs => PySem.call f vs) :=
  walk_of (K := K) (CX := fun w => CXe l.prog w) (sp := fun w => sp (K w.params)) hn hn2 hdf hr hY F (fun w H a ns h1 h2 h3 => hsp (K w.params) H a ns h1 h2 h3) fun _ H s e s' h => by
    obtain ⟨_, _, _, _, _, _, _, z⟩ := h
    exact z
end L2

namespace L2
open PySem PySem.Spec PyProof.Rows
section
variable {X : Cx}
theorem OpR.imp {f : Value → Value → Sem Value} {r r' : R2} (h : OpR X f r) (i : ∀ x y H Q, r' x y H Q → r x y H Q) : OpR X f r' := fun pins s σ H x y v u Q I rx ry hq => h pins s σ H x y v u Q I rx ry (i _ _ _ _ hq)
theorem op_eqI : OpR X (compareOp .Eq) (rI0 fun i j => .bl (decide (i = j))) := op_eq.imp fun x y H Q h => by
  obtain ⟨i, j, rfl, rfl, q⟩ := h
  refine ⟨rfl, ?_⟩
  have e : decide (V.int i = V.int j) = decide (i = j) := decide_eq_decide.mpr ⟨fun z => V.int.inj z, fun z => congrArg V.int z⟩
  rw [e]; exact q
theorem op_neI : OpR X (compareOp .NotEq) (rI0 fun i j => .bl (!decide (i = j))) := op_ne.imp fun x y H Q h => by
  obtain ⟨i, j, rfl, rfl, q⟩ := h
  refine ⟨rfl, ?_⟩
  have e : decide (V.int i = V.int j) = decide (i = j) := decide_eq_decide.mpr ⟨fun z => V.int.inj z, fun z => congrArg V.int z⟩
  rw [e]; exact q
def rS0 (g : Str → Str → V) : R2 := fun x y H Q => ∃ i j, x = .str i ∧ y = .str j ∧ Q (g i j) H
theorem op_eqS : OpR X (compareOp .Eq) (rS0 fun i j => .bl (decide (i = j))) := op_eq.imp fun x y H Q h => by
  obtain ⟨i, j, rfl, rfl, q⟩ := h
  refine ⟨rfl, ?_⟩
  have e : decide (V.str i = V.str j) = decide (i = j) := decide_eq_decide.mpr ⟨fun z => V.str.inj z, fun z => congrArg V.str z⟩
  rw [e]; exact q
end
theorem ite3n {c A B : Prop} [Decidable c] (h1 : ¬ c → A) (h2 : c → B) : if (!decide c) = true then A else B := iteNo h1 h2
/-- as it was, but at b -/
def SameB (b : Addr) (H H' : Hp) : Prop := ∀ a o, a ≠ b → H a = some o → H' a = some o
theorem SameB.refl (b : Addr) (H : Hp) : SameB b H H := fun _ _ _ h => h
theorem Same.upd {H H' : Hp} {p : Addr} (s : Same H H') (h : H p = none) (o : HO) : Same H (upd H' p o) := fun b u q => by rw [upd_ne (ne_of_none q h)]; exact s b u q
theorem Same.new {H H' : Hp} {p : Addr} (s : Same H H') (h : H' p = none) (o : HO) : Same H (L2.upd H' p o) := s.upd (s.free h) o
end L2
namespace L2
open PySem PySem.Spec PyProof.Rows
/-- an expression of written numbers -/
theorem pe_fold {X : Cx} {e : Expr} {t : TE} (v : V) (h : PE X e t) (c : ∀ σ H Q, Q v H → t σ H Q) : PE X e (tC v) := fun pins s σ H Q I hq => h pins s σ H Q I (c σ H Q hq)
end L2
namespace L2
open PySem PySem.Spec PyProof.Rows
theorem isiTy {K : PySem.W.Frag} {t : Value} {n : String} {b : Bool} (h : PySem.W.kitOne K t (.type n) = some b) : ∀ u, RelV (.ty n) u → PySem.W.kitOne K t u = some b := fun u r => by cases r; exact h
end L2
/-- an invariant, closed to the walk -/
structure Iv (p : Prop) : Prop where
  o : p

/-! ### try: f(..) except C: .. (no name), the suite goes on -/
namespace L2
open PySem PySem.Spec PyProof.Rows
/-- the kinds of an exception that come here, and what is wanted then -/
def tTry (K : PySem.W.Frag) (tx : St → Hp → VK → (Value → Hp → Prop) → Prop) (C : Addr) (tb : Addr → TS) : TS := fun D σ H => tx σ H (fun _ H1 => D.nx σ H1) fun cls H1 =>
  PySem.W.exmOne K cls (.ref C) = some true ∧ ∀ ea, tb ea D σ H1
theorem ps_try {X : Cx} {call : Expr} {tx : St → Hp → VK → (Value → Hp → Prop) → Prop} {cn : Str} {C : Addr} {b₀ : Stmt} {suite : List Stmt} {tb : Addr → TS} {np epos hpos tpos : Pos} (hx : PEx X call tx) (hst : X.stack = X.env :: X.outer) (hf : X.env.frame = some X.env.locals)
    (hg : Gl X cn) (hm : X.mg cn = some (.ref C)) (hb : ∀ ea, PSs (X.inExc ea).nox (b₀ :: suite) (tb ea))
    (hs : swapsWith call none epos.line X.env = pure false := by rfl) (hd : (cn == ("__debug__" : Str)) = false := by decide) :
    PS X (.Try [.Expr call epos] [.ExceptHandler (some (.Name cn np)) none (b₀ :: suite) hpos] [] [] tpos) (tTry X.K tx C tb) := by
  intro pins s σ H D I h
  refine wpAny_Try_except (wpAny_execs_cons (wpAny_Expr_any (wpAny_mono (hx pins s σ H _ _ I h) (fun v s1 hq => ?_) fun ev s1 hq => ?_) I.quiet hs))
  · obtain ⟨v', H1, I1, r1, q1⟩ := hq
    exact wpAny_execs_nil (wpAny_execs_nil ⟨σ, H1, I1, q1⟩)
  obtain ⟨H1, s0, I1, ea, cls, H', B, a0, rfl, F, hcls, hbody⟩ := hq
  have hfr : X.A.frames = some (X.env :: X.outer) := by rw [I.ok.frames, hst]
  have hfly : Heap.FlyingW B (X.env :: X.outer) ea cls a0 s1.heap := by have z := F.fly; rw [hst] at z; exact z
  refine wpAny_looks_onW hfr hf hfly fun h4 x1 x2 => wpAny_landsW x1 fun h5 y1 y2 => ?_
  have m5 := F.move y1.1 (x2.trans y2)
  have I5 : Inv X pins σ H' { s1 with heap := h5 } := I1.call' (s' := { s1 with heap := h5 }) F.os m5.1 m5.2 F.bare fun b z => by cases z
  have I5e := I5.inExc ea
  refine wpAny_handleBy_cons (codeAny_handlers_test (ld_glob (X := X.inExc ea) I5e hg hm ?_ hd)) (by intro q; cases q)
  obtain ⟨ob, hob, hobc⟩ := Heap.FlyingW.there y1
  have LT : PySem.W.Looks (model X.prog X.w) h5 (typeOf (.ref ea)) cls := hobc ▸ (PySem.W.Looks.ld hob).andThen .now
  refine (PySem.W.exm_one I5.kIn LT hcls).here ?_
  show codeAny _ _ _ _ _
  refine codeAny_handlers_suite (lands_againW y1 fun h6 z1 z2 => ?_)
  have m6 := F.move z1.1 ((x2.trans y2).trans z2)
  have I6 : Inv X pins σ H' { s1 with heap := h6 } := I1.call' (s' := { s1 with heap := h6 }) F.os m6.1 m6.2 F.bare fun b z => by cases z
  refine wpAny_mono (hb ea pins _ _ _ _ ((I6.inExc ea).wish _) (hbody ea)) (fun fl s8 q8 => ?_) fun _ _ z => False.elim z
  cases fl with
  | next => obtain ⟨σ8, H8, I8, q⟩ := q8; exact ⟨σ8, H8, Inv.outExc I.ok I8.unwish, q⟩
  | brk => obtain ⟨σ8, H8, I8, q⟩ := q8; exact ⟨σ8, H8, Inv.outExc I.ok I8.unwish, q⟩
  | cont => obtain ⟨σ8, H8, I8, q⟩ := q8; exact ⟨σ8, H8, Inv.outExc I.ok I8.unwish, q⟩
  | ret u => obtain ⟨v8, σ8, H8, I8, r8, q⟩ := q8; exact ⟨v8, σ8, H8, Inv.outExc I.ok I8.unwish, r8, q⟩
end L2

/-! ### the signs of a text; all, any -/
namespace L2
open PySem PySem.Spec PyProof.Rows
/-- the signs of x -/
def Its (x : Str) : It := ⟨fun i _ => i < x.cps.size, fun i H v H' => H' = H ∧ ∃ c, x.cps[i]? = some c ∧ v = .str ⟨#[c]⟩, fun i _ => x.cps.size ≤ i⟩
section
variable {X : Cx} {tg : Expr}
def iStr (tl : TE) : TI := fun σ H R => tl σ H fun x H1 => ∃ z, x = .str z ∧ R (Its z) H1
end
/-- one sign -/
abbrev sg (c : Nat) : V := .str ⟨#[c]⟩
/-! comprehensions, by their items -/
section
variable {K : PySem.W.Frag} {ts : List Str} {js : List Nat} {g : TG} {tc : TT} {te : TE} {σ : St} {H : Hp} {Q : VK}
theorem lc_list {a : Addr} {xs : List V} (Pv : Nat → List V → Hp → Prop) (h0 : Pv 0 [] H) (hl : ∀ i ys H, i ≤ xs.length → Pv i ys H → SqL K H a xs ∧ ys.length < sizeLine)
    (hs : ∀ i x ys H, xs[i]? = some x → Pv i ys H → g x (lcS ts js σ) H fun σ2 H2 => SubS (lcS ts js σ) σ2 ∧ tc σ2 H2 fun b H3 => if b = true then te σ2 H3 fun y H4 => i + 1 ≤ xs.length ∧ Pv (i + 1) (ys ++ [y]) H4 else i + 1 ≤ xs.length ∧ Pv (i + 1) ys H3)
    (hd : ∀ ys H, Pv xs.length ys H → ∀ p, H p = none → Q (.ref p) (upd H p (.lst ys))) : LcW (Itl K a) ts js g tc te σ H Q := by
  refine ⟨fun i ys H => i ≤ xs.length ∧ Pv i ys H, xs.length, ⟨Nat.zero_le _, h0⟩, ?_⟩
  rintro i ys H ⟨hi, p⟩
  obtain ⟨q, hz⟩ := hl i ys H hi p
  by_cases hlt : i < xs.length
  · refine .inr ⟨hlt, ⟨xs, xs[i], q, by simp [hlt]⟩, hz, fun x H' y => ?_⟩
    obtain ⟨e, y⟩ := y
    subst e
    exact hs i x ys _ (y xs q) p
  · have e : i = xs.length := by omega
    subst e
    exact .inl ⟨⟨xs, q, Nat.le_refl _⟩, hd ys H p⟩
end
end L2

namespace L2
open PySem PySem.Spec PyProof.Rows
section
variable {X : Cx}
end
end L2

/-! ### for a, b in zip(xs, ys) -/
namespace L2
open PySem PySem.Spec PyProof.Rows
section
variable {X : Cx} {pins : List (Addr × Obj)} {σ : St} {H : Hp} {s : Shared} {h' : Heap}
theorem Inv.turnedL {t' : Nat} {ch : List Addr} (I : Inv X pins σ H s) (k : ∀ b o, b ∉ ch → s.heap.get? b = some o → h'.get? b = some o) (hf : ∀ b ∈ ch, FpOk X pins H b) : Inv X pins σ H { s with heap := h', toks := t' } := by
  have nit : ∀ b u, H b = some u → b ∉ ch := fun b u e z => by rw [(hf b z).1] at e; cases e
  refine I.step (g' := s.gens) (d' := s.drawn) (ch := ch) (fun b hb => ⟨(hf b hb).2.2.2.1, (hf b hb).2.1, (hf b hb).2.2.2.2.1, (hf b hb).2.2.2.2.2⟩) (fun b o _ _ hc e _ => k b o hc e) (fun b o _ _ hc e _ => ⟨o.slots, k b o hc e⟩) (fun _ _ _ _ n => n)
    (fun b o hc e => ⟨o, k b o hc e⟩) (fun _ _ e => e) (fun _ _ _ e => e) (fun b ps e => ⟨#[], by rw [e]; simp⟩) (fun m hm => ?_) (fun b u e => ?_) I.bare
  · obtain ⟨o, es, ep, ho, r⟩ := hm
    exact ⟨o, es, ep, k _ o (fun z => (hf _ z).2.1 rfl) ho, r⟩
  · refine (I.hok b u e).stay (fun c v hc q => k c v ?_ q) (fun _ q => q) fun _ _ q => q
    rcases hc with z | z
    · rw [z]; exact nit b u e
    · exact nit c _ z
end
/-- two lists side by side -/
def Itz (K : PySem.W.Frag) (a b : Addr) : It :=
  ⟨fun i H => ∃ xs ys x y, SqL K H a xs ∧ SqL K H b ys ∧ xs[i]? = some x ∧ ys[i]? = some y,
   fun i H v H' => ∃ T x y, H T = none ∧ v = .ref T ∧ H' = upd H T (.tup [x, y]) ∧ (∀ xs, SqL K H a xs → xs[i]? = some x) ∧ ∀ ys, SqL K H b ys → ys[i]? = some y,
   fun i H => ∃ xs ys, SqL K H a xs ∧ SqL K H b ys ∧ (xs.length ≤ i ∨ ys.length ≤ i)⟩
section
variable {X : Cx}
def iZip (K : PySem.W.Frag) (ta : TA) : TI := fun σ H R => ta σ H fun vs H1 => ∃ a b, vs = [.ref a, .ref b] ∧ (∃ xs, SqL K H1 a xs) ∧ (∃ ys, SqL K H1 b ys) ∧ R (Itz K a b) H1
end
end L2

/-! ### set(xs) of ints and texts, len of it -/
namespace L2
open PySem PySem.Spec PyProof.Rows
def memK (acc : List Key) (k : Key) : Bool := acc.any fun x => decide (x = k)
def addK (acc : List Key) (k : Key) : List Key := if memK acc k = true then acc else acc ++ [k]
/-- each once, in the order of their first coming -/
def dd (ks : List Key) : List Key := ks.foldl addK []
/-- a set of ints and texts -/
abbrev SetO (P : Program) (w : World) (a : Addr) (S : List Key) : HO := .ext fun h => h.SetOf (mixKind P w) a (memK S) S.length
section
variable {P : Program} {w : World} {A : Around} {E : Value → Shared → Prop} {s : Shared} {R : Result → Shared → Prop}
end
/-- an empty set's object -/
abbrev fr (led : Bool) : Obj := { cls := .type "set", dict := none, data := .set #[] 0 (.fresh 0 0 led) }
section
variable {P : Program} {w : World} {A : Around} {E : Value → Shared → Prop} {s : Shared}
end
end L2

namespace L2
open PySem PySem.Spec PyProof.Rows
section
variable {X : Cx}
end
end L2

/-! ### texts -/
namespace L2
open PySem PySem.Spec PyProof.Rows
/-- the codes of a text -/
abbrev cds (x : Str) : List Nat := x.cps.toList
abbrev tx (l : List Nat) : Str := ⟨l.toArray⟩
theorem cds_len (x : Str) : (cds x).length = x.length := by show x.cps.toList.length = x.cps.size; simp
theorem cds_app (x y : Str) : cds (x ++ y) = cds x ++ cds y := by
  show (x.cps ++ y.cps).toList = _
  simp
section
variable {X : Cx}
def rSlS : V → Option Int → Option Int → Hp → VK → Prop := fun x lo hi H Q => ∃ z, x = .str z ∧ z.length ≤ sizeLine ∧ Q (.str (Txt.slice z lo hi)) H
/-- z.join(xs) of a list of texts -/
def rJoin (K : PySem.W.Frag) : V → List V → Hp → VK → Prop := fun x vs H Q => ∃ z l ss, x = .str z ∧ vs = [.ref l] ∧ SqL K H l (ss.map V.str) ∧ (ss.map (·.length)).sum + ss.length * z.length ≤ 16777216 ∧ Q (.str (Txt.join z ss)) H
end
end L2

/-! ### words; data of tuples; several objects at once -/
namespace L2
open PySem PySem.Spec PyProof.Rows
/-- a to z -/
def isL (c : Nat) : Bool := decide (97 ≤ c) && decide (c ≤ 122)
def isW (x : Str) : Bool := decide (1 ≤ x.length) && decide (x.length ≤ 12) && (cds x).all isL
def letters : Str := "abcdefghijklmnopqrstuvwxyz"
theorem inV_str {x : Str} {ws : List Str} : inV (.str x) (ws.map V.str) = decide (x ∈ ws) := by
  rw [Bool.eq_iff_iff, decide_eq_true_iff]
  unfold inV
  rw [List.any_map, List.any_eq_true]
  have e : ∀ w : Str, eqV (.str w) (.str x) = true ↔ w = x := fun w => by simp [eqV]
  constructor
  · rintro ⟨w, hw, h⟩
    rw [← (e w).mp h]; exact hw
  · intro h
    exact ⟨x, h, (e x).mpr rfl⟩
/-- the tuples stay -/
def SameT (H H' : Hp) : Prop := ∀ a xs, H a = some (.tup xs) → H' a = some (.tup xs)
theorem SameT.refl (H : Hp) : SameT H H := fun _ _ h => h
theorem SameT.trans {H H1 H2 : Hp} (x : SameT H H1) (y : SameT H1 H2) : SameT H H2 := fun a xs h => y a xs (x a xs h)
theorem Same.t {H H' : Hp} (s : Same H H') : SameT H H' := fun a xs h => s a _ h
theorem SameT.new {H H' : Hp} {p : Addr} (s : SameT H H') (h : H' p = none) (o : HO) : SameT H (upd H' p o) := fun a xs q => by rw [upd_ne (ne_of_none (s a xs q) h)]; exact s a xs q
theorem SameT.lst {H H' : Hp} {p : Addr} {ys : List V} (s : SameT H H') (h : H' p = some (.lst ys)) (o : HO) : SameT H (upd H' p o) := fun a xs q => by
  rw [upd_ne (ne_of (s a xs q) h (by intro z; cases z))]; exact s a xs q
mutual
/-- a value that is tuples of plain ones: it never changes -/
inductive TV (K : PySem.W.Frag) (H : Hp) : V → PyData → Prop
  | non : TV K H .non .none
  | bl (b : Bool) : TV K H (.bl b) (.bool b)
  | int (i : Int) : TV K H (.int i) (.int i)
  | str (x : Str) : TV K H (.str x) (.str x)
  | tup {a : Addr} {xs : List V} {ds : List PyData} : H a = some (.tup xs) → TVs K H xs ds → TV K H (.ref a) (.tuple ds)
inductive TVs (K : PySem.W.Frag) (H : Hp) : List V → List PyData → Prop
  | nil : TVs K H [] []
  | cons {x : V} {xs : List V} {d : PyData} {ds : List PyData} : TV K H x d → TVs K H xs ds → TVs K H (x :: xs) (d :: ds)
end
section
variable {K : PySem.W.Frag} {H H' : Hp}
mutual
theorem TV.mono (s : SameT H H') : ∀ {x : V} {d : PyData}, TV K H x d → TV K H' x d
  | _, _, .non => .non
  | _, _, .bl b => .bl b
  | _, _, .int i => .int i
  | _, _, .str x => .str x
  | _, _, .tup h hs => .tup (s _ _ h) (TVs.mono s hs)
theorem TVs.mono (s : SameT H H') : ∀ {xs : List V} {ds : List PyData}, TVs K H xs ds → TVs K H' xs ds
  | _, _, .nil => .nil
  | _, _, .cons h hs => .cons (TV.mono s h) (TVs.mono s hs)
end
mutual
theorem TV.dv : ∀ {x : V} {d : PyData}, TV K H x d → DV K H x d
  | _, _, .non => .non
  | _, _, .bl b => .bl b
  | _, _, .int i => .int i
  | _, _, .str x => .str x
  | _, _, .tup h hs => .tup (SqT.of h) (TVs.dv hs)
theorem TVs.dv : ∀ {xs : List V} {ds : List PyData}, TVs K H xs ds → DVs K H xs ds
  | _, _, .nil => .nil
  | _, _, .cons h hs => .cons (TV.dv h) (TVs.dv hs)
end
theorem TVs.length : ∀ {xs : List V} {ds : List PyData}, TVs K H xs ds → xs.length = ds.length
  | _, _, .nil => rfl
  | _, _, .cons _ hs => by simp [TVs.length hs]
theorem TVs.append : ∀ {xs ys : List V} {ds es : List PyData}, TVs K H xs ds → TVs K H ys es → TVs K H (xs ++ ys) (ds ++ es)
  | _, _, _, _, .nil, s => s
  | _, _, _, _, .cons h hs, s => .cons h (TVs.append hs s)
theorem TVs.get : ∀ {xs : List V} {ds : List PyData} {i : Nat} {x : V}, TVs K H xs ds → xs[i]? = some x → ∃ d, ds[i]? = some d ∧ TV K H x d
  | _, _, _, _, .nil, e => by simp at e
  | _, _, 0, _, .cons h _, e => by
    obtain rfl := Option.some.inj e
    exact ⟨_, rfl, h⟩
  | _, _, i + 1, _, .cons _ hs, e => by simpa using TVs.get (i := i) hs (by simpa using e)
theorem TV.pair {x : V} {a b : PyData} (h : TV K H x (.tuple [a, b])) : ∃ p u v, x = .ref p ∧ H p = some (.tup [u, v]) ∧ TV K H u a ∧ TV K H v b := by
  cases h with
  | tup e hs =>
    cases hs with
    | cons h1 hs =>
      cases hs with
      | cons h2 hs =>
        cases hs
        exact ⟨_, _, _, rfl, e, h1, h2⟩
theorem TV.strs {x : V} {s : Str} (h : TV K H x (.str s)) : x = .str s := by cases h; rfl
theorem TV.ints {x : V} {s : Int} (h : TV K H x (.int s)) : x = .int s := by cases h; rfl
end
/-- these objects stand at these places, no two at one -/
structure Hs (H : Hp) (L : List (Addr × HO)) : Prop where
  nd : (L.map (·.1)).Nodup
  at' : ∀ p ∈ L, H p.1 = some p.2
namespace Hs
variable {H H' : Hp} {L : List (Addr × HO)} {a p : Addr} {o o' : HO}
end Hs
end L2

/-! ### shapes; equal data -/
namespace L2
open PySem PySem.Spec PyProof.Rows
/-- plain data, at most n deep -/
structure Shp (n : Nat) (d : PyData) : Prop where
  lay : d.canLay0 = true
  dep : d.depth ≤ n
theorem Shp.mono {m n : Nat} {d : PyData} (h : Shp m d) (hn : m ≤ n) : Shp n d := ⟨h.lay, Nat.le_trans h.dep hn⟩
theorem lay_all {ds : List PyData} (h : ∀ d ∈ ds, d.canLay0 = true) : PyData.canLayAll0 ds = true := by
  induction ds with
  | nil => simp [PyData.canLayAll0]
  | cons d ds ih =>
    simp only [PyData.canLayAll0, Bool.and_eq_true]
    exact ⟨h d List.mem_cons_self, ih fun x hx => h x (List.mem_cons_of_mem _ hx)⟩
theorem dep_all {n : Nat} {ds : List PyData} (h : ∀ d ∈ ds, d.depth ≤ n) : PyData.depthAll ds ≤ n := by
  induction ds with
  | nil => simp [PyData.depthAll]
  | cons d ds ih =>
    simp only [PyData.depthAll]
    exact Nat.max_le.mpr ⟨h d List.mem_cons_self, ih fun x hx => h x (List.mem_cons_of_mem _ hx)⟩
theorem Shp.tup {n : Nat} {ds : List PyData} (h : ∀ d ∈ ds, Shp n d) : Shp (n + 1) (.tuple ds) :=
  ⟨by simp only [PyData.canLay0]; exact lay_all fun d hd => (h d hd).lay, by simp only [PyData.depth]; exact Nat.succ_le_succ (dep_all fun d hd => (h d hd).dep)⟩
theorem Shp.lst {n : Nat} {ds : List PyData} (h : ∀ d ∈ ds, Shp n d) : Shp (n + 1) (.list ds) :=
  ⟨by simp only [PyData.canLay0]; exact lay_all fun d hd => (h d hd).lay, by simp only [PyData.depth]; exact Nat.succ_le_succ (dep_all fun d hd => (h d hd).dep)⟩
theorem Shp.int (n : Nat) (i : Int) : Shp n (.int i) := ⟨by simp [PyData.canLay0], by simp [PyData.depth]⟩
theorem Shp.str (n : Nat) {x : Str} (h : ∀ c ∈ cds x, c < 128) : Shp n (.str x) := by
  refine ⟨?_, by simp [PyData.depth]⟩
  simp only [PyData.canLay0]
  unfold PyData.strOk
  rw [← Array.all_toList, List.all_eq_true]
  intro c hc
  have := h c hc
  exact decide_eq_true (by omega)
theorem Shp.shaped {d : PyData} (h : Shp 64 d) : SeqAt.shaped d = true := by
  unfold SeqAt.shaped
  rw [Bool.and_eq_true, decide_eq_true_iff]
  exact ⟨h.lay, h.dep⟩
section
variable {K : PySem.W.Frag} {H : Hp} {x y : V} {d : PyData} {Q : VK}
end
end L2
namespace L2
theorem Same.at' {H H' : Hp} {a : PySem.Addr} {o : HO} (s : Same H H') (h : H a = some o) : H' a = some o := s a o h
end L2
namespace L2
theorem upd_none {H : Hp} {a p : PySem.Addr} {o : HO} (h : upd H a o p = none) : p ≠ a ∧ H p = none := by
  unfold upd at h
  by_cases e : p = a
  · rw [if_pos e] at h; cases h
  · rw [if_neg e] at h; exact ⟨e, h⟩
end L2
namespace L2
theorem getD_mem {α : Type} {ws : List α} {n : Nat} (dflt : α) (h : n < ws.length) : ws.getD n dflt ∈ ws := by
  rw [List.getD_eq_getElem?_getD, List.getElem?_eq_getElem h]
  exact List.getElem_mem h
end L2
namespace L2
end L2
namespace L2
open PySem
theorem ne_fresh {H : Hp} {a b : Addr} {o : HO} (h' : H b = none) (h : H a = some o) : a ≠ b := ne_of_none h h'
theorem SqF.sb {K : PySem.W.Frag} {H H' : Hp} {a b : Addr} {xs ys : List V} (s : SameB b H H') (hb : H b = some (.lst ys)) (h : SqF K H a xs) : SqF K H' a xs := by
  rcases h with ⟨o, h⟩ | h
  · exact .inl ⟨o, s _ _ (ne_of h hb (by intro z; cases z)) h⟩
  · exact .inr h
theorem SqF.nw {K : PySem.W.Frag} {H : Hp} {a p : Addr} {xs : List V} {u : HO} (hp : H p = none) (h : SqF K H a xs) : SqF K (L2.upd H p u) a xs := h.new hp
namespace Hs
variable {H H' : Hp} {L L' : List (Addr × HO)} {a p : Addr} {o o' : HO}
end Hs
end L2
namespace L2
theorem upd_at {H : Hp} {a b : PySem.Addr} {o u : HO} (n : b ≠ a) (h : H b = some o) : upd H a u b = some o := by rw [upd_ne n]; exact h
end L2

/-! ### sum, sorted, reversed -/
namespace L2
open PySem PySem.Spec PyProof.Rows
theorem vals_int_at : ∀ {ns : List Int} {us : List Value} {i : Nat} {v : Value}, Vals (ns.map V.int) us → us[i]? = some v → ∃ t, v = .int (ns.getD i 0) t
  | [], _, i, v, r, e => by cases r; simp at e
  | n :: ns, _, 0, v, r, e => by
    cases r with
    | cons h t =>
      obtain ⟨t, rfl⟩ := h
      exact ⟨t, (Option.some.inj e).symm⟩
  | n :: ns, _, i + 1, v, r, e => by
    cases r with
    | cons h t => simpa using vals_int_at (ns := ns) (i := i) t (by simpa using e)
theorem strs_of : ∀ {ws : List Str} {us : List Value}, Vals (ws.map V.str) us → StrsAre us ws
  | [], _, r => by cases r; exact .nil
  | w :: ws, _, r => by
    cases r with
    | cons h t =>
      obtain ⟨t', rfl⟩ := h
      exact .cons w t' (strs_of t)
theorem of_strs : ∀ {ws : List Str} {us : List Value}, StrsAre us ws → Vals (ws.map V.str) us
  | _, _, .nil => .nil
  | _, _, .cons w t r => .cons ⟨t, rfl⟩ (of_strs r)
section
variable {X : Cx}
theorem call_sum (hc : X.calm = true) : CallR X (.builtin "sum") (fun xs H Q => ∃ (p : Addr) (ns : List Int), xs = [.ref p] ∧ SqL X.K H p (ns.map V.int) ∧ Q (.int ns.sum) H) := by
  intro pins s σ H xs us Q I r h
  obtain ⟨p, ns, rfl, hp, q⟩ := h
  obtain ⟨u, rfl, ru⟩ := vals1 r
  cases ru
  obtain ⟨its, rv, pl, hz⟩ := I.list hp
  have hl := rv.length
  rw [List.length_map] at hl
  obtain ⟨o, n, e, _⟩ := id pl
  have lt := Heap.lt_size e
  refine call_sum_walkG (wpAny_pyIter_list pl.isList ?_)
  refine ⟨s.heap.objs.size, _, _, _, _, _, fun i => ns.getD i 0, rfl, Walks.list (A := X.A.in1) (by show X.A.handled = none; exact I.ok.hd hc) _ p (Nat.ne_of_lt lt) its.toArray, ⟨⟨_, Heap.get?_push_size _ rfl, rfl, rfl⟩, pl.isList.push _⟩, fun b hb => ?_, fun i v hP => vals_int_at rv (by simpa using hP), fun h' tk t' kk => ?_⟩
  · show b < (s.heap.push _).objs.size
    rw [Heap.size_push]
    rcases hb with _ | ⟨_, _ | ⟨_, hb⟩⟩
    · exact Nat.lt_succ_self _
    · exact Nat.lt_succ_of_lt lt
    · cases hb
  · obtain ⟨f0, f1, f2, f3, f4, f5⟩ := I.fpOk (H' := H) (b := s.heap.objs.size) (Nat.le_refl _) (I.hok.fresh (Nat.le_refl _))
    have I1 := I.kept (t' := s.toks) (h' := s.heap.push { cls := .type "list_iterator", data := .fields #[.ref p, rawInt 0] }) fun b o e => Heap.get?_push_of_some _ e
    refine ⟨.int ns.sum, H, I1.turned (t' := tk) (fun b o hb e => kk b o (by simpa using hb) e) f0 f1 f3 f4 f5, ⟨t', ?_⟩, q⟩
    have e2 : its.toArray.size = ns.length := by simp [← hl]
    rw [e2, preSum_getD, List.take_length]
end
end L2
/-! ### for x in reversed(xs) -/
namespace L2
open PySem PySem.Spec PyProof.Rows
/-- a list of n items from behind -/
def Itv (K : PySem.W.Frag) (a : Addr) (n : Nat) : It :=
  ⟨fun i H => ∃ xs, SqL K H a xs ∧ xs.length = n ∧ i < n, fun i H v H' => H' = H ∧ ∀ xs, SqL K H a xs → xs[n - 1 - i]? = some v, fun i _ => i = n⟩
section
variable {X : Cx} {tg : Expr}
def iRev (K : PySem.W.Frag) (ta : TA) : TI := fun σ H R => ta σ H fun vs H1 => ∃ a xs, vs = [.ref a] ∧ SqL K H1 a xs ∧ R (Itv K a xs.length) H1
end
end L2
/-! ### max(xs, default=d) of whole numbers -/
namespace L2
open PySem PySem.Spec PyProof.Rows
/-- the greatest of these and m -/
def mxF (m : Int) (ns : List Int) : Int := ns.foldl (fun a b => if a < b then b else a) m
/-- the greatest one, or d -/
def mxD (d : Int) : List Int → Int
  | [] => d
  | n :: ns => mxF n ns
/-- what the loop keeps -/
def kept : List Value → Array Value
  | [] => #[]
  | v :: _ => #[v, v]
section
variable {P : Program} {w : World} {A : Around} {s : Shared} {R : Result → Shared → Prop}
/-- one step of a built-in's own loop -/
theorem code_by {id : String} {B : Builtin} {args : Args} (e : entryFor table id = some B) (p : plainId id = true) (h : wpAny (model P w) A.in1 (B args)
    (fun fin s' => match fin with | .done f => R (.ok f) s' | .again c' => c'.quiet = true ∧ codeAny (model P w) A c' R s') (fun e s' => R (.error e) s') s) : codeAny (model P w) A (.builtin id args) R s :=
  codeAny_builtin e (by rw [Around.under_plainId p]; exact h)
theorem max_fill {It S l : Addr} {us : Array Value} {d : Value} {kw : List (Str × Value)} (hh : A.handled = none) (n1 : l ≠ It) (n2 : S ≠ It) (n3 : S ≠ l) :
    ∀ (rs : List Int) (i : Nat) (s : Shared) (b : Option (Int × Tok)) (c : Nat), (∀ (j : Nat) n, rs[j]? = some n → ∃ t, us[i + j]? = some (.int n t)) → i + rs.length = us.size → s.heap.IsListIter It l i → s.heap.IsList l us →
      s.heap.get? S = some { cls := .type "list", dict := none, data := .seq (kept (b.toList.map fun x => .int x.1 x.2)) c, slots := #[] } → (b = none → rs = [] → ∃ k tl, kw = (k, d) :: tl) →
      (∀ (v : Value) (h' : Heap) (tk : Nat), (match b, rs with | none, [] => v = d | none, n :: ns => ∃ t, v = .int (mxF n ns) t | some m, ns => ∃ t, v = .int (mxF m.1 ns) t) →
        (∀ a o, a ≠ It → a ≠ S → s.heap.get? a = some o → h'.get? a = some o) → R (.ok (.ret v)) { s with heap := h', toks := tk }) →
      codeAny (model P w) A (.builtin "max.loop" ⟨[.ref It, .none, .ref S], kw⟩) R s := by
  intro rs
  have nm : (toString "max" ++ toString ".loop" : String) = "max.loop" := by decide
  induction rs with
  | nil =>
    intro i s b c hv hn hi hl hS hk fin
    refine code_by PySem.F.entry_max_loop PySem.F.plain_max_loop (wpAny_bind (m := seqItems? (.ref S)) (wpAny_seqItems hS rfl ?_))
    refine wpAny_bind (m := tryCatch (pyNext (.ref It)) _) (wpAny_tryCatch (wpAny_pyNext_list_end (by simpa using hh) hi hl (by simp; simp at hn; omega) fun h' eb => ?_))
    have hS' := eb S _ n2 hS
    cases b with
    | none =>
      obtain ⟨k, tl, rfl⟩ := hk rfl rfl
      refine wpAny_bind (m := rule _) (wpAny_rule (wpAny_pure ?_))
      exact fin d h' s.toks rfl fun a o x y e => eb a o x e
    | some m =>
      refine wpAny_bind (m := updateSeq S fun _ => #[]) (wpAny_updateSeq hS' rfl ?_ (show 2 ≤ sizeLine from sz))
      refine wpAny_bind (m := letGo _ _) (wpAny_letGo (wpAny_pure ?_))
      exact fin _ _ s.toks ⟨m.2, rfl⟩ fun a o x y e => (Heap.get?_update_other _ _ (Ne.symm y)).trans (eb a o x e)
  | cons n ns ih =>
    intro i s b c hv hn hi hl hS hk fin
    obtain ⟨t, ht⟩ := hv 0 n rfl
    refine code_by PySem.F.entry_max_loop PySem.F.plain_max_loop (wpAny_bind (m := seqItems? (.ref S)) (wpAny_seqItems hS rfl ?_))
    refine wpAny_bind (m := tryCatch (pyNext (.ref It)) _) (wpAny_tryCatch (wpAny_pyNext_list_item hi hl ht fun h' hi' sb => ?_))
    have hS' := (sb.2 S n2).trans hS
    have hl' := hl.at fun o e => (sb.2 l n1).trans e
    have hv' : ∀ (j : Nat) m, ns[j]? = some m → ∃ t, us[i + 1 + j]? = some (.int m t) := fun j m e => by
      obtain ⟨t, z⟩ := hv (j + 1) m (by simpa using e)
      exact ⟨t, by rw [← z]; congr 1; omega⟩
    have hn' : i + 1 + ns.length = us.size := by simp at hn; omega
    cases b with
    | none =>
      refine wpAny_bind (m := updateSeq S fun _ => #[.int n t, .int n t]) (wpAny_updateSeq hS' rfl ?_ (show 0 ≤ sizeLine from sz))
      rw [nm]
      refine wpAny_pure ⟨plainId_quiet PySem.F.plain_max_loop _, ih (i + 1) _ (some (n, t)) _ hv' hn' ?_ ?_ (Heap.get?_update_self _ hS' rfl) (fun z => nomatch z) fun v h2 tk q k => ?_⟩
      · exact hi'.at fun o e => (Heap.get?_update_other _ _ n2).trans e
      · exact hl'.at fun o e => (Heap.get?_update_other _ _ n3).trans e
      · exact fin v h2 tk q fun a o x y e => k a o x y ((Heap.get?_update_other _ _ (Ne.symm y)).trans ((sb.2 a x).trans e))
    | some m =>
      refine wpAny_bind (m := tryCatch (holding [.int n t, .int n t] _) _) (wpAny_tryCatch (wpAny_holding (wpAny_bind (m := richCompare .Gt (.int n t) (.int m.1 m.2)) (PySem.P.gt_int ?_))))
      refine wpAny_bind (m := holding [.bool (decide (m.1 < n))] (truthy (.bool (decide (m.1 < n))))) (wpAny_holding (wpAny_truthy_bool ?_))
      refine wpAny_bind (m := letGo _ _) (wpAny_letGo (wpAny_pure ?_))
      by_cases lt : m.1 < n
      · rw [if_pos (decide_eq_true lt)]
        refine wpAny_bind (m := updateSeq S fun _ => #[.int n t, .int n t]) (wpAny_updateSeq hS' rfl ?_ (show 2 ≤ sizeLine from sz))
        refine wpAny_bind (m := letGo _ _) (wpAny_letGo ?_)
        rw [nm]
        refine wpAny_pure ⟨plainId_quiet PySem.F.plain_max_loop _, ih (i + 1) _ (some (n, t)) _ hv' hn' ?_ ?_ (Heap.get?_update_self _ hS' rfl) (fun z => nomatch z) fun v h2 tk q k => ?_⟩
        · exact hi'.at fun o e => (Heap.get?_update_other _ _ n2).trans e
        · exact hl'.at fun o e => (Heap.get?_update_other _ _ n3).trans e
        · refine fin v h2 tk ?_ fun a o x y e => k a o x y ((Heap.get?_update_other _ _ (Ne.symm y)).trans ((sb.2 a x).trans e))
          show ∃ t, v = Value.int (mxF (if m.1 < n then n else m.1) ns) t
          rw [if_pos lt]
          exact q
      · rw [if_neg (by simpa using lt)]
        refine wpAny_bind (m := letGo _ _) (wpAny_letGo ?_)
        rw [nm]
        refine wpAny_pure ⟨plainId_quiet PySem.F.plain_max_loop _, ih (i + 1) _ (some m) _ hv' hn' hi' hl' hS' (fun z => nomatch z) fun v h2 tk q k => ?_⟩
        refine fin v h2 tk ?_ fun a o x y e => k a o x y ((sb.2 a x).trans e)
        show ∃ t, v = Value.int (mxF (if m.1 < n then n else m.1) ns) t
        rw [if_neg lt]
        exact q
end
theorem args_max_dflt (a v : Value) : argsOk "max" ⟨[a], [(Str.ofString "default", v)]⟩ := by
  unfold argsOk
  kernel_rfl
section
variable {X : Cx} {k : Str}
/-- a call of a value that is known, with values and one by name -/
def CallKw (X : Cx) (f : Value) (k : Str) (r : List V → V → Hp → VK → Prop) : Prop :=
  ∀ (pins : List (Addr × Obj)) (s : Shared) (σ : St) (H : Hp) (xs : List V) (us : List Value) (x : V) (u : Value) (Q : VK), Inv X pins σ H s → Vals xs us → RelV x u → r xs x H Q →
    wpAny (model X.prog X.w) X.A (call f us [(k, u)]) (EP X pins σ Q) X.xe s
def tCK (r : List V → V → Hp → VK → Prop) (t : TA) (tk : TE) : TE := fun σ H Q => t σ H fun vs H1 => tk σ H1 fun v H2 => r vs v H2 Q
/-- f(e, .., k=c), c a value that is no place -/
theorem pe_callKw {id : String} {r : List V → V → Hp → VK → Prop} {x : Str} {e ek : Expr} {es : List Expr} {p pos kp : Pos} {t : TA} {tk : TE} (hc : CallKw X (.builtin id) k r) (hg : Gl X x) (hm : X.mg x = none) (hv : bootBuiltins x = some (.builtin id)) (ha : PA X (e :: es) t) (hk : PE X ek tk)
    (hn : x ≠ "__name__" := by decide) (hdb : (x == ("__debug__" : Str)) = false := by decide) (he : backTo pos (starEach (e :: es) X.env) = (false, eval e X.env) :: backTo pos (starEach es X.env) := by rfl) (hpl : (backTo pos (starEach (e :: es) X.env)).any (·.1) = false := by rfl) :
    PE X (.Call (.Name x p) (e :: es) [⟨some k, ek, kp⟩] pos) (tCK r t tk) := by
  intro pins s σ H Q I h
  refine wpAny_Call_Name_kw (ld_blt I hg hm hv ?_ hn hdb)
  refine PyProof.Rows.callWith_kw ?_ he hpl
  refine thn (ha pos pins s σ H _ I h) fun us s1 ⟨vs, H1, I1, r1, q1⟩ => ?_
  refine PyProof.Rows.kws_cons (thn (hk pins s1 σ H1 _ I1 q1) fun u s2 ⟨v, H2, I2, r2, q2⟩ => PyProof.Rows.kws_nil ?_)
  exact hc pins s2 σ H2 vs us v u Q I2 r1 r2 q2
/-- the list is walked from its start -/
theorem max_run {pins : List (Addr × Obj)} {s : Shared} {σ : St} {H : Hp} {Q : VK} {p : Addr} {ns : List Int} {d : Int} {t : Tok} {kw : List (Str × Value)} (hc : X.calm = true) (I : Inv X pins σ H s) (hp : SqL X.K H p (ns.map V.int)) (q : Q (.int (mxD d ns)) H)
    (hk : ns = [] → ∃ k tl, kw = (k, .int d t) :: tl) :
    wpAny (model X.prog X.w) X.A.in1 (do let it ← pyIter (.ref p); again (.builtin "max.loop" ⟨[it, .none, ← newList []], kw⟩))
      (fun fin s' => match fin with
        | .done f => (match (Except.ok f : Result) with | .ok (.ret v) => EP X pins σ Q v s' | .ok _ => False | .error e => X.xe e s')
        | .again c' => c'.quiet = true ∧ codeAny (model X.prog X.w) X.A c' (fun r s' => match r with | .ok (.ret v) => EP X pins σ Q v s' | .ok _ => False | .error e => X.xe e s') s') X.xe s := by
  obtain ⟨its, rv, pl, hz⟩ := I.list hp
  have hl := rv.length
  rw [List.length_map] at hl
  obtain ⟨o, n, e, _⟩ := id pl
  have lt := Heap.lt_size e
  refine wpAny_bind (wpAny_pyIter_list pl.isList (wpAny_bind (wpAny_newList ?_ (Nat.zero_le _))))
  have z : (s.heap.push { cls := .type "list_iterator", data := .fields #[.ref p, .int 0 0] }).objs.size = s.heap.objs.size + 1 := Heap.size_push ..
  refine wpAny_pure ⟨plainId_quiet PySem.F.plain_max_loop _, max_fill (l := p) (us := its.toArray) (d := .int d t) (I.ok.hd hc) (Nat.ne_of_lt lt) ?_ ?_ ns 0 _ none 0 (fun j m e => ?_) ?_ ?_ ((pl.isList.push _).push _) (Heap.get?_push_size _ rfl) (fun _ => hk) fun v h' tk qv k => ?_⟩
  · show (_ : Nat) ≠ _
    rw [z]
    omega
  · show (_ : Nat) ≠ _
    rw [z]
    exact fun y => absurd lt (by rw [← y]; exact Nat.not_lt.mpr (Nat.le_succ _))
  · obtain ⟨v, ev, rv'⟩ := rv.get (by rw [List.getElem?_map, e]; rfl)
    obtain ⟨t, rfl⟩ := rv'
    exact ⟨t, by simpa using ev⟩
  · simp [hl]
  · exact Heap.IsListIter.at ⟨_, Heap.get?_push_size _ rfl, rfl, rfl⟩ fun o e => Heap.get?_push_of_some _ e
  · refine ⟨.int (mxD d ns), H, I.kept (t' := tk) fun b o e => k b o (Nat.ne_of_lt (Heap.lt_size e)) ?_ (Heap.get?_push_of_some _ (Heap.get?_push_of_some _ e)), ?_, q⟩
    · show (_ : Nat) ≠ _
      rw [z]
      exact Nat.ne_of_lt (Nat.lt_succ_of_lt (Heap.lt_size e))
    · cases ns with
      | nil => exact ⟨t, qv⟩
      | cons n ns => exact qv
theorem call_max_dflt (hc : X.calm = true) : CallKw X (.builtin "max") "default" (fun xs d H Q => ∃ (p : Addr) (ns : List Int) (i : Int), xs = [.ref p] ∧ d = .int i ∧ SqL X.K H p (ns.map V.int) ∧ Q (.int (mxD i ns)) H) := by
  intro pins s σ H xs us x u Q I r ru h
  obtain ⟨p, ns, i, rfl, rfl, hp, q⟩ := h
  obtain ⟨t, rfl⟩ := ru
  obtain ⟨u, rfl, ru⟩ := vals1 r
  cases ru
  refine kmk_tree PySem.F.kind_max PySem.F.plain_max PySem.F.entry_max (args_max_dflt _ _) ?_
  refine wpAny_bind (m := Builtin.Builtins.bindParams "max" ["key", "default"] 0 ⟨[], [(Str.ofString "default", .int i t)]⟩) (wpAny_of_eq (a := [none, some (.int i t)]) rfl ?_)
  have nm : (toString "max" ++ toString ".loop" : String) = "max.loop" := by decide
  refine wpAny_bind (m := pure (Value.ref p)) (wpAny_pure ?_)
  rw [nm]
  exact max_run hc I hp q fun _ => ⟨_, _, rfl⟩
theorem call_max1 (hc : X.calm = true) : CallR X (.builtin "max") (fun xs H Q => ∃ (p : Addr) (ns : List Int), xs = [.ref p] ∧ SqL X.K H p (ns.map V.int) ∧ ns ≠ [] ∧ Q (.int (mxD 0 ns)) H) := by
  intro pins s σ H xs us Q I r h
  obtain ⟨p, ns, rfl, hp, ne, q⟩ := h
  obtain ⟨u, rfl, ru⟩ := vals1 r
  cases ru
  refine kmk_tree PySem.F.kind_max PySem.F.plain_max PySem.F.entry_max (PySem.F.args_max1 _) ?_
  refine wpAny_bind (m := Builtin.Builtins.bindParams "max" ["key", "default"] 0 ⟨[], []⟩) (wpAny_of_eq (a := [none, none]) rfl ?_)
  have nm : (toString "max" ++ toString ".loop" : String) = "max.loop" := by decide
  refine wpAny_bind (m := pure (Value.ref p)) (wpAny_pure ?_)
  rw [nm]
  exact max_run (t := 0) hc I hp q fun z => absurd z ne
end
end L2

/-! ### x in xs, by their data -/
namespace L2
open PySem PySem.Spec PyProof.Rows
section
variable {X : Cx}
def rInD (K : PySem.W.Frag) : R2 := fun x y H Q => ∃ dx ds, DV K H x dx ∧ DV K H y (.list ds) ∧ Shp 63 dx ∧ Shp 63 (.list ds) ∧ Q (.bl (ds.any fun z => PyData.eqv z dx)) H
end
end L2

/-! ### f-strings: the text itself is left open -/
namespace L2
open PySem PySem.Spec PyProof.Rows
/-- parts of a text, n signs or fewer ahead of them -/
abbrev TF := Nat → St → Hp → VK → Prop
/-- signs that can be written -/
def okS (x : Str) : Prop := ∀ c ∈ x.cps.toList, c < 16 ^ 8
section
variable {X : Cx}
def PF (X : Cx) (es : List Expr) (t : TF) : Prop :=
  ∀ (n : Nat) (out : Str) (pins : List (Addr × Obj)) (s : Shared) (σ : St) (H : Hp) (Q : VK), out.length ≤ n → Inv X pins σ H s → t n σ H Q → wpAny (model X.prog X.w) X.A (joinParts out (evalEach es X.env)) (EP X pins σ Q) X.xe s
def fNil : TF := fun n _ H Q => n ≤ sizeLine ∧ ∀ y : Str, Q (.str y) H
def fLit (k : Nat) (t : TF) : TF := fun n σ H Q => n + k ≤ sizeLine ∧ t (n + k) σ H Q
def fRep (te : TE) (t : TF) : TF := fun n σ H Q => te σ H fun v H1 => ∃ x, v = .str x ∧ okS x ∧ x.length ≤ 1000 ∧ n + 10002 ≤ sizeLine ∧ t (n + 10002) σ H1 Q
def fInt (te : TE) (t : TF) : TF := fun n σ H Q => te σ H fun v H1 => ∃ i, v = .int i ∧ 0 ≤ i ∧ i < 1000 ∧ n + 3 ≤ sizeLine ∧ t (n + 3) σ H1 Q
theorem pfs_nil : PF X [] fNil := fun n out pins s σ H Q hn I h => joinParts_nil ⟨.str out, H, I.tok _, ⟨_, rfl⟩, h.2 out⟩ (Nat.le_trans hn h.1)
theorem len_app (x y : Str) : (x ++ y).length = x.length + y.length := strLen_append x y
theorem pfs_lit {c : Str} {q : Nat} {p : Pos} {es : List Expr} {t : TF} {k : Nat} (hk : c.length ≤ k) (h : PF X es t) : PF X (.Constant (.str c) q p :: es) (fLit k t) := by
  intro n out pins s σ H Q hn I z
  refine joinParts_cons (thn (pe_str pins s σ H (fun v H1 => v = .str c ∧ H1 = H) I ⟨rfl, rfl⟩) ?_)
  rintro u s1 ⟨v, H1, I1, r, rfl, rfl⟩
  obtain ⟨t', rfl⟩ := r
  have e := len_app out c
  exact ⟨by have := z.1; omega, h (n + k) _ pins s1 σ H1 Q (by omega) I1 z.2⟩
theorem pfs_r {e : Expr} {p : Pos} {es : List Expr} {te : TE} {t : TF} (he : PE X e te) (h : PF X es t) : PF X (.FormattedValue e 114 none p :: es) (fRep te t) := by
  intro n out pins s σ H Q hn I z
  refine joinParts_cons (wpAny_FormattedValue_repr (thn (he pins s σ H _ I z) ?_))
  rintro u s1 ⟨v, H1, I1, r, x, rfl, ok, lx, zn, zt⟩
  obtain ⟨t', rfl⟩ := r
  have l2 := StrLaws.reprText_len x ok
  have big : (reprText x).length ≤ sizeLine := Nat.le_trans l2 (by unfold sizeLine; omega)
  refine pyReprObj_str (formatField_str (fun t2 tk => ?_) big) big
  have e := len_app out (reprText x)
  exact ⟨by omega, h (n + 10002) _ pins _ σ H1 Q (by omega) (I1.tok _) zt⟩
theorem pe_fstr {a b : Expr} {es : List Expr} {p : Pos} {t : TF} (h : PF X (a :: b :: es) t) : PE X (.JoinedStr (a :: b :: es) p) (t 0) := by
  intro pins s σ H Q I z
  exact JoinedStr_many (h 0 Str.empty pins s σ H Q (Nat.le_refl _) I z)
end
end L2
namespace L2
theorem szB {n : Nat} (h : n ≤ 1000000) : n ≤ PySem.sizeLine := Nat.le_trans h (by decide)
end L2
namespace L2
open PySem
/-- a written constant is no starred one -/
theorem se_c {c : Const} {j : Nat} {p : Pos} {es : List Expr} {env : Env} : starEach (.Constant c j p :: es) env = (false, eval (.Constant c j p) env) :: starEach es env := rfl
end L2

/-! ### an object made under try; whole numbers in f-strings -/
namespace L2
open PySem PySem.Spec PyProof.Rows
section
variable {X : Cx} {k : Nat} {f C : Addr} {fd : FuncData} {ps : List Str} {sp : Sp} {dvs : List V} {ds : List Value} {x : Str} {p pos : Pos} {e : Expr} {es : List Expr} {t : TA}
end
end L2

/-! ### a method called under try -/
namespace L2
open PySem PySem.Spec PyProof.Rows
section
variable {X : Cx} {k : Nat} {f C : Addr} {fd : FuncData} {ps : List Str} {sp : Sp} {dvs : List V} {ds : List Value} {m : Str} {pos apos : Pos} {e o : Expr} {es : List Expr} {ta : TE} {t : TA}
end
end L2

/-! ### a pair of texts in an f-string -/
namespace L2
open PySem PySem.Spec PyProof.Rows
section
variable {X : Cx}
def fPair (te : TE) (t : TF) : TF := fun n σ H Q => te σ H fun v H1 => ∃ (a : Addr) (x y : Str), v = .ref a ∧ H1 a = some (.tup [.str x, .str y]) ∧ okS x ∧ okS y ∧ x.length ≤ 1000 ∧ y.length ≤ 1000 ∧ n + 20008 ≤ sizeLine ∧ t (n + 20008) σ H1 Q
end
end L2

/-! ### for i, x in enumerate(xs) -/
namespace L2
open PySem PySem.Spec PyProof.Rows
/-- a list with its numbers -/
def Ite (K : PySem.W.Frag) (a : Addr) : It :=
  ⟨fun i H => ∃ xs x, SqL K H a xs ∧ xs[i]? = some x,
   fun i H v H' => ∃ T x, H T = none ∧ v = .ref T ∧ H' = upd H T (.tup [.int (i : Int), x]) ∧ ∀ xs, SqL K H a xs → xs[i]? = some x,
   fun i H => ∃ xs, SqL K H a xs ∧ xs.length ≤ i⟩
theorem turn_enum {P : Program} {w : World} {K : PySem.W.Frag} {elts : List Expr} {kk : Nat} {pos : Pos} {z it l : Addr} (ne : z ≠ it) :
    Turn P w K (.Tuple elts kk pos) (Ite K l) [z, it] z (fun i h => (∃ old, IsEnum h z it ((i : Nat) : Int) old) ∧ h.IsListIter it l i) where
  mem := List.mem_cons_self
  obj := fun i h st b hb => by
    obtain ⟨⟨old, he⟩, ⟨o1, e1, c1, d1⟩⟩ := st
    rcases List.mem_cons.mp hb with rfl | hb
    · exact ⟨_, he, fun v q => by cases q⟩
    · obtain rfl := List.mem_singleton.mp hb
      exact ⟨_, e1, fun v q => by rw [d1] at q; cases q⟩
  keep := fun i h h' st k => by
    obtain ⟨⟨old, he⟩, h1⟩ := st
    exact ⟨⟨old, k z List.mem_cons_self _ he⟩, h1.at fun o x => k it (List.mem_cons_of_mem _ List.mem_cons_self) o x⟩
  item := by
    intro X hP hw hK hc i pins s σ H E I hf st hg
    subst hP hw hK
    obtain ⟨xs, x, q1, hx⟩ := hg
    obtain ⟨its1, rv1, pl1, z1⟩ := I.list q1
    obtain ⟨u1, hu1, ru1⟩ := rv1.get hx
    obtain ⟨⟨old, he⟩, h1⟩ := st
    refine wpAny_pyNext_enum_item he h1 pl1.isList (x := u1) (by simpa using hu1) ne fun h' a1 a2 a3 a4 a5 => ?_
    refine ⟨_, rfl, wpAny_letOwnedTupleGo_enum a1 fun h2' he' hs' => ?_⟩
    have I1 : Inv X pins σ H { s with heap := h', toks := s.toks + 1 } := I.turnedL (t' := s.toks + 1) (ch := [z, it]) (fun c o hc e => a5 c o (fun q => hc (by simp [q])) (fun q => hc (by simp [q])) e) hf
    have hT0 := I.hok.fresh (Nat.le_refl s.heap.objs.size)
    have fT : FpOk X pins H s.heap.objs.size := I.fpOk (Nat.le_refl _) hT0
    have I2 : Inv X pins σ (upd H s.heap.objs.size (.tup [.int (i : Int), x])) { s with heap := h', toks := s.toks + 1 } := I1.track fT I.sz ⟨(show 2 ≤ sizeLine from sz), [.int i s.toks, u1], .cons ⟨_, rfl⟩ (.cons ru1 .nil), ⟨_, a3, rfl, _, rfl⟩⟩
    obtain ⟨f0, f1, f2, f3, f4, f5⟩ := hf z List.mem_cons_self
    have ne' : ∀ c ∈ [z, it], c ≠ s.heap.objs.size := fun c hc q => by
      have q' : ∃ o, s.heap.get? c = some o := by
        obtain ⟨o1, e1, _⟩ := h1
        rcases List.mem_cons.mp hc with rfl | hc
        · exact ⟨_, he⟩
        · obtain rfl := List.mem_singleton.mp hc
          exact ⟨_, e1⟩
      obtain ⟨o, e⟩ := q'
      exact absurd (Heap.lt_size e) (by rw [q]; exact Nat.lt_irrefl _)
    refine ⟨.ref s.heap.objs.size, _, I2.turned (t' := s.toks + 1) (fun c o hc e => (hs'.2 c hc).trans e) (by rw [upd_ne (ne' z List.mem_cons_self)]; exact f0) f1 f3 f4 f5, rfl, ⟨_, x, hT0, rfl, rfl, fun zs hz => by rw [I.list_inj hz q1]; exact hx⟩, ?_, fun c hc => by rw [upd_ne (ne' c hc)]; exact (hf c hc).1⟩
    have ei : (((i + 1 : Nat)) : Int) = (i : Int) + 1 := by omega
    rw [ei]
    exact ⟨⟨_, he'⟩, a2.extBut hs'.extBut (Ne.symm ne)⟩
  done := by
    intro X hP hw hK hc i pins s σ H E I hf st hg
    subst hP hw hK
    obtain ⟨xs, q1, hend⟩ := hg
    obtain ⟨its1, rv1, pl1, z1⟩ := I.list q1
    obtain ⟨⟨old, he⟩, h1⟩ := st
    have e1 := rv1.length
    obtain ⟨f0, f1, f2, f3, f4, f5⟩ := hf it (List.mem_cons_of_mem _ List.mem_cons_self)
    exact wpAny_pyNext_enum_end (I.ok.hd hc) he h1 pl1.isList (by simp; omega) fun h' eb => ⟨rfl, I.turned (t' := s.toks) (fun b o hb e => eb b o hb e) f0 f1 f3 f4 f5⟩
  self := fun A i s Q E st h => let ⟨⟨_, he⟩, _⟩ := st; wpAny_pyIter_enum he h
section
variable {X : Cx}
def iEnum (K : PySem.W.Frag) (ta : TA) : TI := fun σ H R => ta σ H fun vs H1 => ∃ a, vs = [.ref a] ∧ (∃ xs, SqL K H1 a xs) ∧ R (Ite K a) H1
theorem pi_enum {elts : List Expr} {kk : Nat} {tpos : Pos} {a : Expr} {ta : TA} {p pos : Pos} (hg : Gl X "enumerate") (hm : X.mg "enumerate" = none) (ha : PA X [a] ta) (hs : starEach [a] X.env = [(false, eval a X.env)] := by rfl) :
    PI X (.Tuple elts kk tpos) (.Call (.Name "enumerate" p) [a] [] pos) (iEnum X.K ta) := by
  intro pins s σ H R I h
  refine Call_ (ld_blt I hg hm (by decide +kernel : bootBuiltins "enumerate" = some (.type "enumerate")) (PyProof.Rows.callWith_type1 (thn (ha pos pins s σ H _ I h) fun us s1 ⟨vs, H1, I1, r1, q1⟩ => ?_) hs rfl))
  obtain ⟨l, e, ⟨xs, hq⟩, q⟩ := q1
  subst e
  obtain ⟨u, rfl, ru⟩ := vals1 r1
  cases ru
  obtain ⟨its, rv, pl, hz⟩ := I1.list hq
  refine call_enumerate_list pl.isList fun h' a1 a2 a3 a4 => ?_
  refine wpAny_pyIter_enum a1 ?_
  refine ⟨s1.heap.objs.size + 1, _, _, _, H1, rfl, I1.kept (t' := s1.toks) a4, turn_enum (z := s1.heap.objs.size + 1) (it := s1.heap.objs.size) (l := l) (by show @Ne Nat _ _; omega), ⟨⟨_, a1⟩, a2⟩, fun b hb => ?_, q⟩
  have hb' : s1.heap.objs.size ≤ b := by
    show @LE.le Nat _ _ _
    rcases List.mem_cons.mp hb with rfl | hb
    · omega
    · obtain rfl := List.mem_singleton.mp hb
      exact Nat.le_refl _
  exact I1.fpOk hb' (I1.hok.fresh hb')
theorem for_enum {K : PySem.W.Frag} {a : Addr} {xs : List V} {g : TG} {tb : TS} {D : Ends} {σ : St} {H : Hp} (Pv : Nat → St → Hp → Prop) (h0 : Pv 0 σ H) (hl : ∀ i σ H, i ≤ xs.length → Pv i σ H → SqL K H a xs)
    (hs : ∀ i x σ H T, xs[i]? = some x → Pv i σ H → H T = none → g (.ref T) σ (upd H T (.tup [.int (i : Int), x])) fun σ2 H2 => tb { D with nx := Pv (i + 1), ct := Pv (i + 1), bk := D.nx } σ2 H2) (hd : ∀ σ H, Pv xs.length σ H → D.nx σ H) :
    ∃ W : Nat → Nat → St → Hp → Prop, (∃ m, W 0 m σ H) ∧ ∀ i m σ H, W i m σ H →
      ((Ite K a).stop i H ∧ D.nx σ H) ∨ ((Ite K a).go i H ∧ ∃ N : St → Hp → Prop, (∀ σ' H', N σ' H' → ∃ m', m' < m ∧ W (i + 1) m' σ' H') ∧ ∀ x H', (Ite K a).yld i H x H' → g x σ H' fun σ2 H2 => tb { D with nx := N, ct := N, bk := D.nx } σ2 H2) := by
  refine ⟨fun i m σ H => m + i = xs.length ∧ Pv i σ H, ⟨xs.length, rfl, h0⟩, ?_⟩
  rintro i m σ H ⟨hm, p⟩
  have q1 := hl i σ H (by omega) p
  cases m with
  | zero => exact .inl ⟨⟨xs, q1, by omega⟩, hd σ H ((show i = xs.length by omega) ▸ p)⟩
  | succ m =>
    have h1 : i < xs.length := by omega
    refine .inr ⟨⟨xs, xs[i], q1, List.getElem?_eq_getElem h1⟩, Pv (i + 1), fun σ' H' p' => ⟨m, Nat.lt_succ_self _, by omega, p'⟩, fun x H' y => ?_⟩
    obtain ⟨T, x1, hT, rfl, rfl, k1⟩ := y
    exact hs i x1 σ H T (k1 xs q1) p hT
end
end L2
/-! ### for i in reversed(range(n)) -/
namespace PySem
section
variable {prog : Program} {w : World} {A : Around} {E : Value → Shared → Prop} {s : Shared}
def downObj (n : Int) : Obj := { cls := .type "range_iterator", data := .fields #[rawInt (n - 1), rawInt n, rawInt (-1)] }
end
end PySem
namespace L2
open PySem PySem.Spec PyProof.Rows
def Itd (n : Nat) : It := ⟨fun i _ => i < n, fun i H v H' => H' = H ∧ v = .int ((n : Int) - 1 - (i : Int)), fun i _ => n ≤ i⟩
section
variable {X : Cx} {tg : Expr}
def iDown (ta : TA) : TI := fun σ H R => ta σ H fun vs H1 => ∃ n : Nat, vs = [.int (n : Int)] ∧ n < 1000000 ∧ R (Itd n) H1
end
end L2
/-! ### min(xs) of whole numbers -/
namespace L2
open PySem PySem.Spec PyProof.Rows
/-- the least of these and m -/
def mnF (m : Int) (ns : List Int) : Int := ns.foldl (fun a b => if b < a then b else a) m
/-- the least one, or d -/
def mnD (d : Int) : List Int → Int
  | [] => d
  | n :: ns => mnF n ns
section
variable {P : Program} {w : World} {A : Around} {s : Shared} {R : Result → Shared → Prop}
end
section
variable {X : Cx} {k : Str}
end
end L2

namespace L2
open PySem PySem.Spec PyProof.Rows

/-! ### lists of pairs as tables -/
section
variable {κ : Type} [DecidableEq κ]
def valV (kvs : List (κ × V)) (k : κ) : Option V := (kvs.find? fun kv => decide (kv.1 = k)).map (·.2)
/-- in its place, or at the end -/
def putK (kvs : List (κ × V)) (k : κ) (v : V) : List (κ × V) :=
  if (kvs.any fun kv => decide (kv.1 = k)) = true then kvs.map (fun kv => if kv.1 = k then (kv.1, v) else kv) else kvs ++ [(k, v)]
def dropK (kvs : List (κ × V)) (k : κ) : List (κ × V) := kvs.filter fun kv => decide (kv.1 ≠ k)

theorem valV_pos {p : κ × V} {r : List (κ × V)} {k : κ} (e : p.1 = k) : valV (p :: r) k = some p.2 := by simp [valV, List.find?_cons, e]
theorem valV_neg {p : κ × V} {r : List (κ × V)} {k : κ} (e : ¬ p.1 = k) : valV (p :: r) k = valV r k := by simp [valV, List.find?_cons, e]
theorem valV_any (k : κ) : ∀ kvs : List (κ × V), (kvs.any fun kv => decide (kv.1 = k)) = (valV kvs k).isSome
  | [] => rfl
  | p :: r => by
    rw [List.any_cons]
    by_cases e : p.1 = k
    · simp only [valV_pos e, decide_eq_true e, Bool.true_or, Option.isSome_some]
    · rw [valV_neg e, decide_eq_false e, Bool.false_or]; exact valV_any k r
theorem length_putK (kvs : List (κ × V)) (k : κ) (v : V) : (putK kvs k v).length ≤ kvs.length + 1 := by
  unfold putK
  split
  · rw [List.length_map]; omega
  · rw [List.length_append, List.length_cons, List.length_nil]; omega
theorem putK_new {kvs : List (κ × V)} {k : κ} (v : V) (h : valV kvs k = none) : putK kvs k v = kvs ++ [(k, v)] := by
  unfold putK
  rw [valV_any, h]
  exact if_neg (by decide)

theorem RelO.isSome_eq {o : Option V} {u : Option Value} (r : RelO o u) : o.isSome = u.isSome := by
  cases o with
  | none => cases u with
    | none => rfl
    | some _ => exact (show False from r).elim
  | some _ => cases u with
    | none => exact (show False from r).elim
    | some _ => rfl
theorem RelO.getD {o : Option V} {u : Option Value} {d : V} {d' : Value} (r : RelO o u) (rd : RelV d d') : RelV (o.getD d) (u.getD d') := by
  cases o with
  | none => cases u with
    | none => exact rd
    | some _ => exact (show False from r).elim
  | some _ => cases u with
    | none => exact (show False from r).elim
    | some _ => exact r

/-- raw tables of the same keys -/
theorem KV.val {kvs : List (κ × V)} {vs : List (κ × Value)} (r : KV kvs vs) (k : κ) : RelO (valV kvs k) (valueAt vs k) := by
  unfold KV at r
  induction r with
  | nil => exact True.intro
  | @cons p q ps qs h t ih =>
    obtain ⟨h1, h2⟩ := h
    by_cases e : p.1 = k
    · have e' : q.1 = k := h1.symm.trans e
      have b : valueAt (q :: qs) k = some q.2 := by simp [valueAt, List.find?_cons, e']
      rw [valV_pos e, b]; exact h2
    · have e' : ¬ q.1 = k := fun z => e (h1.trans z)
      have b : valueAt (q :: qs) k = valueAt qs k := by simp [valueAt, List.find?_cons, e']
      rw [valV_neg e, b]; exact ih
theorem KV.any {kvs : List (κ × V)} {vs : List (κ × Value)} (r : KV kvs vs) (k : κ) : (kvs.any fun kv => decide (kv.1 = k)) = vs.any fun kv => decide (kv.1 = k) := by
  unfold KV at r
  induction r with
  | nil => rfl
  | cons h t ih => rw [List.any_cons, List.any_cons, ih, h.1]
theorem KV.repl {kvs : List (κ × V)} {vs : List (κ × Value)} (r : KV kvs vs) (k : κ) {y : V} {u : Value} (ry : RelV y u) :
    KV (kvs.map fun kv => if kv.1 = k then (kv.1, y) else kv) (vs.map fun kv => if kv.1 = k then (kv.1, u) else kv) := by
  unfold KV at r ⊢
  induction r with
  | nil => exact .nil
  | @cons p q ps qs h t ih =>
    rw [List.map_cons, List.map_cons]
    refine .cons ?_ ih
    obtain ⟨h1, h2⟩ := h
    by_cases e : p.1 = k
    · rw [if_pos e, if_pos (h1.symm.trans e)]; exact ⟨h1, ry⟩
    · rw [if_neg e, if_neg (fun z => e (h1.trans z))]; exact ⟨h1, h2⟩
theorem KV.put {kvs : List (κ × V)} {vs : List (κ × Value)} (r : KV kvs vs) (k : κ) {y : V} {u : Value} (ry : RelV y u) : KV (putK kvs k y) (stored vs k u) := by
  unfold putK stored
  rw [r.any k]
  by_cases e : (vs.any fun kv => decide (kv.1 = k)) = true
  · rw [if_pos e, if_pos e]; exact r.repl k ry
  · rw [if_neg e, if_neg e]; exact Paired.snoc r ⟨rfl, ry⟩
theorem KV.keys {kvs : List (κ × V)} {vs : List (κ × Value)} (r : KV kvs vs) : kvs.map (·.1) = vs.map (·.1) := by
  unfold KV at r
  induction r with
  | nil => rfl
  | cons h t ih => rw [List.map_cons, List.map_cons, ih, h.1]
theorem KV.length {kvs : List (κ × V)} {vs : List (κ × Value)} (r : KV kvs vs) : kvs.length = vs.length := Paired.length r
end


/-! ### a tracked dict, its keys ints and texts or tuples of these -/
theorem kV_is {P : Program} {w : World} {k : Key} {u : Value} (r : RelV (kV k) u) : (mixKind P w).is k u = true := by
  cases k with
  | inl i => obtain ⟨t, e⟩ := (show ∃ t, u = Value.int i t from r); subst e; exact mixKind_int P w i t
  | inr x => obtain ⟨t, e⟩ := (show ∃ t, u = Value.str x t from r); subst e; exact mixKind_str P w x t
theorem items_are {P : Program} {w : World} : ∀ {ks : List Key} {us : List Value}, Vals (ks.map kV) us → ItemsAre (mixKind P w) ks us
  | [], _, r => by rw [List.map_nil] at r; cases r; exact .nil
  | k :: ks, _, r => by
    rw [List.map_cons] at r
    cases r with
    | cons h t => exact .cons (kV_is h) (items_are t)

/-- raw entries of a dict with tuple keys -/
abbrev KT (H : Hp) : List (List Key × V) → List (List Key × Addr × Value) → Prop := Paired fun p q => p.1 = q.1 ∧ H q.2.1 = some (.tup (p.1.map kV)) ∧ RelV p.2 q.2.2
theorem KT.val {H : Hp} {kvs : List (List Key × V)} {xs : List (List Key × Addr × Value)} (r : KT H kvs xs) (k : List Key) : RelO (valV kvs k) ((atKey xs k).map (·.2)) := by
  induction r with
  | nil => exact True.intro
  | @cons p q ps qs h t ih =>
    obtain ⟨h1, _, h2⟩ := h
    by_cases e : p.1 = k
    · have e' : q.1 = k := h1.symm.trans e
      have b : atKey (q :: qs) k = some q.2 := by simp [atKey, List.find?_cons, e']
      rw [valV_pos e, b]; exact h2
    · have e' : ¬ q.1 = k := fun z => e (h1.trans z)
      have b : atKey (q :: qs) k = atKey qs k := by simp [atKey, List.find?_cons, e']
      rw [valV_neg e, b]; exact ih
theorem KT.repl {H : Hp} {kvs : List (List Key × V)} {xs : List (List Key × Addr × Value)} (r : KT H kvs xs) (k : List Key) {y : V} {u : Value} (ry : RelV y u) :
    KT H (kvs.map fun kv => if kv.1 = k then (kv.1, y) else kv) (xs.map (putAt k u)) := by
  induction r with
  | nil => exact .nil
  | @cons p q ps qs h t ih =>
    rw [List.map_cons, List.map_cons]
    refine .cons ?_ ih
    obtain ⟨h1, h2, h3⟩ := h
    unfold putAt
    by_cases e : p.1 = k
    · rw [if_pos e, if_pos (h1.symm.trans e)]; exact ⟨h1, h2, ry⟩
    · rw [if_neg e, if_neg (fun z => e (h1.trans z))]; exact ⟨h1, h2, h3⟩
theorem KT.put {H : Hp} {kvs : List (List Key × V)} {xs : List (List Key × Addr × Value)} (r : KT H kvs xs) (k : List Key) {b : Addr} {y : V} {u : Value} (hb : H b = some (.tup (k.map kV))) (ry : RelV y u) :
    KT H (putK kvs k y) (storedH xs k b u) := by
  have e : (kvs.any fun kv => decide (kv.1 = k)) = (atKey xs k).isSome := by
    rw [valV_any, (r.val k).isSome_eq, Option.isSome_map]
  unfold putK storedH
  rw [e]
  by_cases q : (atKey xs k).isSome = true
  · rw [if_pos q, if_pos q]; exact r.repl k ry
  · rw [if_neg q, if_neg q]; exact Paired.snoc r ⟨rfl, hb, ry⟩
theorem KT.keeps {H H' : Hp} {kvs : List (List Key × V)} {xs : List (List Key × Addr × Value)} (r : KT H kvs xs) (ht : ∀ b ys, H b = some (.tup ys) → H' b = some (.tup ys)) : KT H' kvs xs :=
  Paired.mapP r fun _ _ z => ⟨z.1, ht _ _ z.2.1, z.2.2⟩

section
variable {P : Program} {w : World} {H : Hp} {h : Heap} {a : Addr}
theorem rd_of {u : HO} (ok : HOk P w H h) (e : Rd H a u) : ObjOk P w H h a u := e.ok ok
theorem dk_rd {kvs : List (Key × V)} (ok : HOk P w H h) (e : Rd H a (.dK kvs)) : kvs.length ≤ sizeLine ∧ (a == sysModules) = false ∧ ∃ vs, KV kvs vs ∧ h.DictOf (mixKind P w) a vs :=
  show ObjOk P w H h a (.dK kvs) from rd_of ok e
theorem dk_of {kvs : List (Key × V)} (ok : HOk P w H h) (e : H a = some (.dK kvs)) : kvs.length ≤ sizeLine ∧ (a == sysModules) = false ∧ ∃ vs, KV kvs vs ∧ h.DictOf (mixKind P w) a vs := dk_rd ok (.inl e)
/-- a tracked tuple of ints and texts is a key -/
theorem key_of {ks : List Key} (ok : HOk P w H h) (e : H a = some (.tup (ks.map kV))) : (tupleKind (mixKind P w)).is h ks a := by
  obtain ⟨_, its, r, o, h1, h2, n, h3⟩ := (show ObjOk P w H h a (.tup (ks.map kV)) from ok a _ e)
  exact ⟨o, its.toArray, n, h1, h2, h3, by simpa using items_are r⟩
theorem dt_rd {kvs : List (List Key × V)} (ok : HOk P w H h) (e : Rd H a (.dT kvs)) : kvs.length ≤ sizeLine ∧ (a == sysModules) = false ∧
    ∃ xs, KT H kvs xs ∧ h.DictOfH (tupleKind (mixKind P w)) a xs := by
  obtain ⟨z, y, xs, r, o, es, ep, h1, h2, h3, h4, h5⟩ := (show ObjOk P w H h a (.dT kvs) from rd_of ok e)
  refine ⟨z, y, xs, r, o, es, ep, h1, h2, h3, h4, fun x hx => ?_, h5⟩
  have all : ∀ {l : List (List Key × V)} {m : List (List Key × Addr × Value)}, KT H l m → ∀ x ∈ m, (tupleKind (mixKind P w)).is h x.1 x.2.1 := by
    intro l m q
    induction q with
    | nil => intro x hx; exact nomatch hx
    | @cons p q ps qs hq t ih =>
      intro x hx
      rcases List.mem_cons.mp hx with e | hx
      · subst e
        exact key_of ok (by rw [← hq.1]; exact hq.2.1)
      · exact ih x hx
  exact all r x hx
theorem dt_of {kvs : List (List Key × V)} (ok : HOk P w H h) (e : H a = some (.dT kvs)) : kvs.length ≤ sizeLine ∧ (a == sysModules) = false ∧
    ∃ xs, KT H kvs xs ∧ h.DictOfH (tupleKind (mixKind P w)) a xs := dt_rd ok (.inl e)
end

/-- what the dict at a holds at the key y -/
def DGet (H : Hp) (a : Addr) (y : V) (r : Option V) : Prop :=
  (∃ kvs k, Rd H a (.dK kvs) ∧ y = kV k ∧ r = valV kvs k) ∨ ∃ kvs k b, Rd H a (.dT kvs) ∧ y = .ref b ∧ H b = some (.tup (k.map kV)) ∧ r = valV kvs k
/-- the heap behind a[y] = v -/
def DPut (H : Hp) (a : Addr) (y v : V) (H' : Hp) : Prop :=
  (∃ kvs k, H a = some (.dK kvs) ∧ y = kV k ∧ kvs.length < sizeLine ∧ H' = upd H a (.dK (putK kvs k v))) ∨
  ∃ kvs k b, H a = some (.dT kvs) ∧ y = .ref b ∧ H b = some (.tup (k.map kV)) ∧ kvs.length < sizeLine ∧ H' = upd H a (.dT (putK kvs k v))
theorem DGet.k {H : Hp} {a : Addr} {kvs : List (Key × V)} {k : Key} (e : H a = some (.dK kvs)) : DGet H a (kV k) (valV kvs k) := .inl ⟨kvs, k, .inl e, rfl, rfl⟩
theorem DPut.k {H : Hp} {a : Addr} {kvs : List (Key × V)} {k : Key} {v : V} (e : H a = some (.dK kvs)) (hl : kvs.length < sizeLine) : DPut H a (kV k) v (upd H a (.dK (putK kvs k v))) := .inl ⟨kvs, k, e, rfl, hl, rfl⟩
section
variable {X : Cx} {pins : List (Addr × Obj)} {σ : St} {H : Hp} {s : Shared} {a : Addr} {y v : V} {u r : Value} {o : Option V} {A : Around} {E : Value → Shared → Prop}

theorem Inv.big (I : Inv X pins σ H s) : sysModules < s.heap.objs.size := by
  have h : mainGlobals < s.heap.objs.size := (I.mod.glob.keeps I.bk).lt
  exact Nat.lt_trans (by decide) h

/-- d[y], there -/
theorem d_getItem {Q : Value → Shared → Prop} (hu : A.units + 1 < cLine) (I : Inv X pins σ H s) (g : DGet H a y (some v)) (ry : RelV y u) (h : ∀ w' s', Inv X pins σ H s' → RelV v w' → Q w' s') :
    wpAny (model X.prog X.w) A (getItem (.ref a) u) Q E s := by
  rcases g with ⟨kvs, k, e, ey, l⟩ | ⟨kvs, k, b, e, ey, eb, l⟩
  · subst ey
    obtain ⟨z, hd, vs, rel, dd⟩ := dk_rd I.hok e
    obtain ⟨w', hw, rw'⟩ := RelO.some_of (v := v) (o := valueAt vs k) (by rw [l]; exact rel.val k)
    exact wpAny_getItem_of (kV_is ry) dd.mapOf hw (h w' _ (I.tok _) rw')
  · subst ey
    cases (show u = Value.ref b from ry)
    obtain ⟨z, hd, xs, rel, dd⟩ := dt_rd I.hok e
    obtain ⟨w', hw, rw'⟩ := RelO.some_of (v := v) (o := (atKey xs k).map (·.2)) (by rw [l]; exact rel.val k)
    obtain ⟨p, hp, hp2⟩ := Option.map_eq_some_iff.mp hw
    refine wpAny_getItem_heap (tupleKind_room_in1 hu) (key_of I.hok eb) dd hp ?_
    rw [hp2]
    exact h w' _ (I.tok _) rw'
/-- a dict's object is replaced -/
theorem d_write {h' : Heap} {t' : Nat} {ob : HO} (I : Inv X pins σ H s) (mu : Mut (H a)) (hs : Heap.SameBut a s.heap h') (he : ∃ q, h'.get? a = some q) (new : ObjOk X.prog X.w (upd H a ob) h' a ob) :
    Inv X pins σ (upd H a ob) { s with heap := h', toks := t' } :=
  I.write (x := a) (e := a) mu (.inl rfl) (fun b q hb z => (hs.2 b hb).trans z) he new
theorem dk_new {P : Program} {w : World} {H' : Hp} {h' : Heap} {kvs : List (Key × V)} {vs : List (Key × Value)} (z : kvs.length ≤ sizeLine) (hd : (a == sysModules) = false) (rel : KV kvs vs) (dd : h'.DictOf (mixKind P w) a vs) :
    ObjOk P w H' h' a (.dK kvs) := ⟨z, hd, vs, rel, dd⟩
/-- d[y] = v -/
theorem d_setItem {H' : Hp} {Q : Unit → Shared → Prop} (hu : A.units + 1 < cLine) (I : Inv X pins σ H s) (g : DPut H a y v H') (ry : RelV y u) (rv : RelV v r) (h : ∀ s', Inv X pins σ H' s' → Q () s') :
    wpAny (model X.prog X.w) A (setItem (.ref a) u r) Q E s := by
  rcases g with ⟨kvs, k, e, ey, l, eH⟩ | ⟨kvs, k, b, e, ey, eb, l, eH⟩
  · subst ey eH
    obtain ⟨z, hd, vs, rel, dd⟩ := dk_of I.hok e
    have hz : vs.length ≤ sizeLine := by rw [← rel.length]; exact z
    have hl : (putK kvs k v).length ≤ sizeLine := by have := length_putK kvs k v; omega
    refine wpAny_setItem_pairs (hsz := hz) (kV_is ry) dd fun h' dd' hs => h _ ?_
    have he : ∃ q, h'.get? a = some q := let ⟨q, _, _, hq, _⟩ := dd'; ⟨q, hq⟩
    exact d_write I (by rw [e]; exact True.intro) hs he (dk_new hl hd (rel.put k rv) dd')
  · subst ey eH
    cases (show u = Value.ref b from ry)
    obtain ⟨z, hd, xs, rel, dd⟩ := dt_of I.hok e
    have hz : xs.length ≤ sizeLine := by rw [← Paired.length rel]; exact z
    have hl : (putK kvs k v).length ≤ sizeLine := by have := length_putK kvs k v; omega
    refine wpAny_setItem_heap (hsz := hz) (tupleKind_room_in1 hu) (key_of I.hok eb) dd fun h' dd' hs => h _ ?_
    obtain ⟨q, es, ep, hq, h2, h3, h4, _, h5⟩ := dd'
    refine d_write I (by rw [e]; exact True.intro) hs ⟨q, hq⟩ ⟨hl, hd, _, (rel.put k eb rv).keeps fun c ys ec => ?_, q, es, ep, hq, h2, h3, h4, h5⟩
    rw [upd_ne (ne_of ec e (fun z => nomatch z))]
    exact ec
end

section
variable {X : Cx} {pins : List (Addr × Obj)} {σ : St} {H : Hp} {s : Shared} {a : Addr} {kvs : List (Key × V)} {k : Key} {u : Value} {A : Around} {E : Value → Shared → Prop}
end


/-! ### readings and rules -/
/-- the element of a subscription, not a slice -/
def NoSl (i : Expr) : Prop := ∀ ov iv, subscripted i false ov iv = operate [ov, iv] (getItem ov iv)
theorem subD_of {prog : Program} {w : World} {A : Around} {E : Value → Shared → Prop} {s : Shared} {env : Env} {value slice : Expr} {pos : Pos} {T id : String} {Q : Value → Shared → Prop}
    (hl : typeLookup (.type T) "__getitem__" = pure (some (.builtin id))) (hs : NoSl slice)
    (h : wpAny (model prog w) A (eval value env) (fun o s₁ => wpAny (model prog w) A (eval slice env) (fun i s₂ => s₂.TypeIs o T ∧ wpAny (model prog w) A (getItem o i) Q E s₂) E s₁) E s) :
    wpAny (model prog w) A (eval (.Subscript value slice pos) env) Q E s := by
  refine Subscript_ (wpAny_mono h (fun o s₁ h₁ => wpAny_mono h₁ (fun i s₂ h₂ => ?_) fun _ _ x => x) fun _ _ x => x)
  obtain ⟨hT, h₂⟩ := h₂
  unfold subscriptTail
  refine wpAny_bind ?_
  rw [getitemInPython_of_ne hT.not_modules]
  refine wpAny_bind (wpAny_specialOf hT hl ?_)
  have fin : wpAny (model prog w) A (subscripted slice false o i) (fun r s₃ => wpAny (model prog w) A (letTemporaryGo value o r >>= fun _ => pure r) Q E s₃) E s₂ := by
    rw [hs o i]
    exact wpAny_operating (wpAny_mono h₂ (fun r s₃ h₃ => wpAny_bind (wpAny_letTemporaryGo (wpAny_pure h₃))) fun _ _ x => x)
  first
    | exact wpAny_pure (wpAny_bind fin)
    | exact wpAny_bind (wpAny_pure (wpAny_bind fin))
    | exact wpAny_bind fin

theorem dict_typeIs {X : Cx} {pins : List (Addr × Obj)} {σ : St} {H : Hp} {s : Shared} {a : Addr} {y : V} {o : Option V} (I : Inv X pins σ H s) (g : DGet H a y o) : s.TypeIs (.ref a) "dict" := by
  rcases g with ⟨kvs, k, e, _, _⟩ | ⟨kvs, k, b, e, _, _, _⟩
  · obtain ⟨_, _, vs, _, dd⟩ := dk_rd I.hok e
    exact dd.typeIs
  · obtain ⟨_, _, xs, _, dd⟩ := dt_rd I.hok e
    exact dd.typeIs
/-- d[y] -/
def tDGet (td ty : TE) : TE := fun σ H Q => td σ H fun x H1 => ty σ H1 fun y H2 => ∃ a v, x = .ref a ∧ DGet H2 a y (some v) ∧ Q v H2
/-- y in d, y not in d -/
def tDIn (ty td : TE) : TE := fun σ H Q => ty σ H fun y H1 => td σ H1 fun x H2 => ∃ a o, x = .ref a ∧ DGet H2 a y o ∧ Q (.bl o.isSome) H2
def tDNotIn (ty td : TE) : TE := fun σ H Q => ty σ H fun y H1 => td σ H1 fun x H2 => ∃ a o, x = .ref a ∧ DGet H2 a y o ∧ Q (.bl (!o.isSome)) H2
/-- d[y] = v -/
def sDPut (td ty tv : TE) : TS := fun D σ H => tv σ H fun v H1 => td σ H1 fun x H2 => ty σ H2 fun y H3 => ∃ a H4, x = .ref a ∧ DPut H3 a y v H4 ∧ D.nx σ H4
/-- d[y] op= v -/
def sDAug (td ty tv : TE) (rd : V → V → Hp → VK → Prop) : TS := fun D σ H => td σ H fun x H1 => ty σ H1 fun y H2 => ∃ a v, x = .ref a ∧ DGet H2 a y (some v) ∧
  tv σ H2 fun y2 H3 => rd v y2 H3 fun z H4 => ∃ H5, DPut H4 a y z H5 ∧ D.nx σ H5
/-- del d[y] -/
def sDDel (td ty : TE) : TS := fun D σ H => td σ H fun x H1 => ty σ H1 fun y H2 => ∃ a kvs k, x = .ref a ∧ H2 a = some (.dK kvs) ∧ y = kV k ∧ (valV kvs k).isSome = true ∧ D.nx σ (upd H2 a (.dK (dropK kvs k)))

section
variable {X : Cx} {o i e value : Expr} {pos pos' tpos : Pos} {td ty tv : TE}
theorem pe_dget (hu : X.A.units + 1 < cLine) (ho : PE X o td) (hi : PE X i ty) (hs : NoSl i) : PE X (.Subscript o i pos) (tDGet td ty) := by
  intro pins s σ H Q I h
  refine subD_of PySem.F.slot_dict_getitem.lookup hs (thn (ho pins s σ H _ I h) fun u s1 ⟨x, H1, I1, rx, q1⟩ => thn (hi pins s1 σ H1 _ I1 q1) fun iv s2 ⟨y, H2, I2, ry, a, v, ex, g, q2⟩ => ?_)
  subst ex
  obtain rfl : u = Value.ref a := rx
  exact ⟨dict_typeIs I2 g, d_getItem hu I2 g ry fun w' s3 I3 rw' => ⟨v, H2, I3, rw', q2⟩⟩
theorem ps_dput (hu : X.A.units + 1 < cLine) (ho : PE X o td) (hi : PE X i ty) (hv : PE X value tv) (hs : swapsWith value (some (.Subscript o i pos')) pos.line X.env = pure false) :
    PS X (.Assign [.Subscript o i pos'] value pos) (sDPut td ty tv) := by
  intro pins s σ H D I h
  refine wpAny_Assign_Subscript (thn (hv pins s σ H _ I h) fun r s1 ⟨v, H1, I1, rv, q1⟩ => thn (ho pins s1 σ H1 _ I1 q1) fun u s2 ⟨x, H2, I2, rx, q2⟩ => thn (hi pins s2 σ H2 _ I2 q2) fun iv s3 ⟨y, H3, I3, ry, a, H4, ex, g, q3⟩ => ?_) hs
  subst ex
  obtain rfl : u = Value.ref a := rx
  exact d_setItem hu I3 g ry rv fun s4 I4 => ⟨σ, H4, I4, q3⟩
end


/-! ### displays -/
theorem dk_empty {P : Program} {w : World} {H : Hp} (h : Heap) (hb : sysModules < h.objs.size) : ObjOk P w H (h.push { cls := .type "dict", data := .dict #[] }) h.objs.size (.dK []) :=
  ⟨Nat.zero_le _, beq_eq_false_iff_ne.mpr (Ne.symm (Nat.ne_of_lt hb)), [], .nil, Heap.DictOf.new h⟩
/-- {}, to be a dict of the kind that is wanted -/
def tDNewK : TE := fun _ H Q => ∀ p, H p = none → Q (.ref p) (upd H p (.dK []))
def tDNewT : TE := fun _ H Q => ∀ p, H p = none → Q (.ref p) (upd H p (.dT []))
section
variable {X : Cx} {pos : Pos}
theorem pe_dnewK : PE X (.Dict [] [] pos) tDNewK := fun pins s σ H Q I h =>
  wpAny_Dict_empty ⟨.ref s.heap.objs.size, _, I.laid (a := s.heap.objs.size) (o := .dK []) (t' := s.toks) (fun _ _ q => Heap.get?_push_of_some _ q) (Nat.le_refl _) (dk_empty s.heap I.big), rfl, h _ (I.hok.fresh (Nat.le_refl _))⟩
end

/-- the pairs of a display, from the left -/
def tPairs : List (TE × TE) → St → Hp → (List (V × V) → Hp → Prop) → Prop
  | [], _, H, Q => Q [] H
  | (tk, tv) :: r, σ, H, Q => tk σ H fun x H1 => tv σ H1 fun y H2 => tPairs r σ H2 fun ps H3 => Q ((x, y) :: ps) H3
abbrev VV : List (V × V) → List (Value × Value) → Prop := Paired fun p q => RelV p.1 q.1 ∧ RelV p.2 q.2
def PPs (X : Cx) (pos : Pos) (keys : List (Option Expr)) (values : List Expr) (trs : List (TE × TE)) : Prop :=
  ∀ (pins : List (Addr × Obj)) (s : Shared) (σ : St) (H : Hp) (Q : List (V × V) → Hp → Prop), Inv X pins σ H s → tPairs trs σ H Q →
    wpAny (model X.prog X.w) X.A (evalPairs (pairTrees keys values X.env pos)) (fun vs s' => ∃ ps H', Inv X pins σ H' s' ∧ VV ps vs ∧ Q ps H') X.xe s
def mergeK (kvs more : List (Key × V)) : List (Key × V) := more.foldl (fun acc kv => putK acc kv.1 kv.2) kvs
/-- {k: v, ..} with keys ints and texts; the new dict stands empty while the pairs are made -/
def tDisp (trs : List (TE × TE)) : TE := fun σ H Q => ∀ p, H p = none → tPairs trs σ (upd H p (.dK [])) fun ps H2 => H2 p = some (.dK []) ∧ ∃ kvs : List (Key × V), ps = kvs.map (fun kv => (kV kv.1, kv.2)) ∧ kvs.length ≤ 15 ∧ Q (.ref p) (upd H2 p (.dK (mergeK [] kvs)))
/-! ### methods -/
/-- a method call o.m(e) of a built-in, with one argument: what must be seen of the text -/
structure M1 (X : Cx) (o : Expr) (m : Str) (apos : Pos) (e : Expr) (cpos : Pos) : Prop where
  base : attributeBase o m X.env (eval o X.env) = eval o X.env
  few : ((backTo cpos (starEach [e] X.env)).all (fun x => !x.1) && (backToKw cpos (keywordEach [] X.env)).all (fun x => x.1.isSome)
    && decide (([e] : List Expr).length + ([] : List Keyword).length + (if ([] : List Keyword).isEmpty then 0 else 1) < 30)) = true
  line : (apos.endLine == cpos.line) = true
  trees : backTo cpos (starEach [e] X.env) = [(false, eval e X.env)]
structure M2 (X : Cx) (o : Expr) (m : Str) (apos : Pos) (e f : Expr) (cpos : Pos) : Prop where
  base : attributeBase o m X.env (eval o X.env) = eval o X.env
  few : ((backTo cpos (starEach [e, f] X.env)).all (fun x => !x.1) && (backToKw cpos (keywordEach [] X.env)).all (fun x => x.1.isSome)
    && decide (([e, f] : List Expr).length + ([] : List Keyword).length + (if ([] : List Keyword).isEmpty then 0 else 1) < 30)) = true
  line : (apos.endLine == cpos.line) = true
  trees : backTo cpos (starEach [e, f] X.env) = [(false, eval e X.env), (false, eval f X.env)]

/-- a is a dict, whatever its keys -/
def IsD (H : Hp) (a : Addr) : Prop := (∃ kvs, Rd H a (.dK kvs)) ∨ ∃ kvs, Rd H a (.dT kvs)
theorem isD_at {X : Cx} {pins : List (Addr × Obj)} {σ : St} {H : Hp} {s : Shared} {a : Addr} (I : Inv X pins σ H s) (d : IsD H a) :
    s.TypeIs (.ref a) "dict" ∧ (∀ b, Value.ref a = .ref b → ∃ ob, s.heap.get? b = some ob ∧ ob.dict = none) ∧ (a == sysModules) = false := by
  rcases d with ⟨kvs, e⟩ | ⟨kvs, e⟩
  · obtain ⟨_, hd, vs, _, dd⟩ := dk_rd I.hok e
    refine ⟨dd.typeIs, fun b q => ?_, hd⟩
    cases q
    obtain ⟨ob, _, _, h1, h2, _⟩ := dd
    exact ⟨ob, h1, h2.2.1⟩
  · obtain ⟨_, hd, xs, _, dd⟩ := dt_rd I.hok e
    refine ⟨dd.typeIs, fun b q => ?_, hd⟩
    cases q
    obtain ⟨ob, _, _, h1, h2, _⟩ := dd
    exact ⟨ob, h1, h2.2.1⟩

section
variable {X : Cx} {pins : List (Addr × Obj)} {σ : St} {H : Hp} {s : Shared} {a : Addr} {y d : V} {u r : Value} {o : Option V} {A : Around} {E : Value → Shared → Prop}
/-- d.get(y, x) -/
theorem d_get2 {Q : Value → Shared → Prop} (hu : A.units + 1 < cLine) (I : Inv X pins σ H s) (g : DGet H a y o) (ry : RelV y u) (rd : RelV d r) (h : ∀ w' s', Inv X pins σ H s' → RelV (o.getD d) w' → Q w' s') :
    wpAny (model X.prog X.w) A (call (.builtin "dict.get") [.ref a, u, r]) Q E s := by
  rcases g with ⟨kvs, k, e, ey, l⟩ | ⟨kvs, k, b, e, ey, eb, l⟩
  · subst ey
    obtain ⟨z, hd, vs, rel, dd⟩ := dk_rd I.hok e
    refine call_meetsIn PySem.F.slot_dict_get dd.typeIs PySem.F.entry_dict_get (PySem.F.args_dict_get_3 _ _ _) (meets_dict_get_default (mixKind X.prog X.w) a (kV_is ry) hd r) ⟨_, dd.mapOf, h _ _ (I.tok _) ?_⟩
    rw [l]
    exact (rel.val k).getD rd
  · subst ey
    cases (show u = Value.ref b from ry)
    obtain ⟨z, hd, xs, rel, dd⟩ := dt_rd I.hok e
    refine call_meetsIn PySem.F.slot_dict_get dd.typeIs PySem.F.entry_dict_get (PySem.F.args_dict_get_3 _ _ _) (meetsH_dict_get_default (tupleKind (mixKind X.prog X.w)) a b hd r) ⟨tupleKind_room_in1 hu, k, xs, key_of I.hok eb, dd, h _ _ (I.tok _) ?_⟩
    rw [l]
    exact (rel.val k).getD rd
end

def tDGet1 (td ty : TE) : TE := fun σ H Q => td σ H fun x H1 => ∃ a, x = .ref a ∧ IsD H1 a ∧ ty σ H1 fun y H2 => ∃ o, DGet H2 a y o ∧ Q (o.getD .non) H2
def tDGet2 (td ty tx : TE) : TE := fun σ H Q => td σ H fun x H1 => ∃ a, x = .ref a ∧ IsD H1 a ∧ ty σ H1 fun y H2 => tx σ H2 fun z H3 => ∃ o, DGet H3 a y o ∧ Q (o.getD z) H3
/-- d.pop(k): there; d.pop(k, x): there or not -/
def tDPop1 (td ty : TE) : TE := fun σ H Q => td σ H fun x H1 => ∃ a, x = .ref a ∧ IsD H1 a ∧ ty σ H1 fun y H2 => ∃ kvs k v, H2 a = some (.dK kvs) ∧ y = kV k ∧ valV kvs k = some v ∧ Q v (upd H2 a (.dK (dropK kvs k)))
def tDPop2 (td ty tx : TE) : TE := fun σ H Q => td σ H fun x H1 => ∃ a, x = .ref a ∧ IsD H1 a ∧ ty σ H1 fun y H2 => tx σ H2 fun z H3 => ∃ kvs k, H3 a = some (.dK kvs) ∧ y = kV k ∧
  (∀ v, valV kvs k = some v → Q v (upd H3 a (.dK (dropK kvs k)))) ∧ (valV kvs k = none → Q z H3)
section
variable {X : Cx} {o e f : Expr} {apos cpos : Pos} {td ty tx : TE}
theorem pe_dget2 (hu : X.A.units + 1 < cLine) (ho : PE X o td) (he : PE X e ty) (hf : PE X f tx) (m : M2 X o "get" apos e f cpos) : PE X (.Call (.Attribute o "get" apos) [e, f] [] cpos) (tDGet2 td ty tx) := by
  intro pins s σ H Q I h
  refine wpAny_Call_method m.base m.few m.line PySem.F.plainAttrs_dict PySem.F.slot_dict_get PySem.F.type_dict_get (thn (ho pins s σ H _ I h) fun u s1 ⟨x, H1, I1, rx, a, ex, d, q1⟩ => ?_)
  subst ex
  obtain rfl : u = Value.ref a := rx
  obtain ⟨t1, t2, _⟩ := isD_at I1 d
  refine ⟨t1, t2, ?_⟩
  rw [m.trees]
  refine Calls.callWith_builtin rfl (Calls.evalArgs_plain (Calls.spliced_cons (thn (he pins s1 σ H1 _ I1 q1) fun iv s2 ⟨y, H2, I2, ry, q2⟩ =>
    Calls.spliced_cons (thn (hf pins s2 σ H2 _ I2 q2) fun fv s3 ⟨z, H3, I3, rz, ov, g, q3⟩ => Calls.spliced_nil ?_))))
  exact d_get2 hu I3 g ry rz fun w' s4 I4 rw' => ⟨_, H3, I4, rw', q3⟩
end

/-! ### dict(d): a copy -/
section
variable {X : Cx} {pins : List (Addr × Obj)} {σ : St} {H : Hp} {s : Shared} {a : Addr} {kvs : List (Key × V)} {A : Around} {E : Value → Shared → Prop}
end


section
variable {X : Cx} {pins : List (Addr × Obj)} {σ : St} {H : Hp} {s : Shared} {a : Addr} {y : V} {u : Value} {A : Around} {E : Value → Shared → Prop}
end
end L2
namespace L2
open PySem PySem.Spec PyProof.Rows
/-! ### a dict's pairs: keys that differ -/
section
variable {κ : Type} [DecidableEq κ]
end
end L2
/-! ### dicts that are walked, and sorted -/
namespace L2
open PySem PySem.Spec PyProof.Rows
theorem key_rel {k : Key} {u : Value} (h : keyIs k u = true) : RelV (kV k) u := by
  rcases keyIs_shape h with ⟨i, t, rfl, rfl⟩ | ⟨x, t, rfl, rfl⟩
  · exact ⟨t, rfl⟩
  · exact ⟨t, rfl⟩
/-- a dict while it is walked: its record stays -/
abbrev FzD (P : Program) (w : World) (a : Addr) (kvs : List (Key × V)) (ep : Nat) : HO := .ext fun h => ∃ vs, KV kvs vs ∧ h.DictAt (mixKind P w) a vs ep ∧ (a == sysModules) = false
def Ikx (P : Program) (w : World) (a : Addr) (kvs : List (Key × V)) (ep : Nat) : It :=
  ⟨fun i H => H a = some (FzD P w a kvs ep) ∧ i < kvs.length, fun i H v H' => H' = H ∧ ∃ k, (kvs.map (·.1))[i]? = some k ∧ v = kV k, fun i H => H a = some (FzD P w a kvs ep) ∧ kvs.length ≤ i⟩
section
variable {X : Cx} {tg : Expr}
def iDk (P : Program) (w : World) (tl : TE) : TI := fun σ H R => tl σ H fun x H1 => ∃ a kvs, x = .ref a ∧ H1 a = some (.dK kvs) ∧ ∀ ep, R (Ikx P w a kvs ep) (upd H1 a (FzD P w a kvs ep))
/-- d[y] of a dict that is walked -/
def tDGetF (P : Program) (w : World) (td ty : TE) : TE := fun σ H Q => td σ H fun x H1 => ty σ H1 fun y H2 => ∃ a kvs ep k v, x = .ref a ∧ y = kV k ∧ H2 a = some (FzD P w a kvs ep) ∧ valV kvs k = some v ∧ Q v H2
theorem collect_dk {P : Program} {w : World} {A : Around} {E : Value → Shared → Prop} {s : Shared} {d : Addr} {vs : List (Key × Value)} {ep : Nat} {R : List Value → Shared → Prop} (hh : A.handled = none) (lo : (d == sysModules) = false) (da : s.heap.DictAt (mixKind P w) d vs ep) (hn : vs.length ≤ sizeLine)
    (h : ∀ (h' : Heap) (tk : Nat) (acc : Array Value), (∀ b o, s.heap.get? b = some o → h'.get? b = some o) → s.heap.objs.size < h'.objs.size → ItemsOf (fun i v => ∃ k x, vs[i]? = some (k, x) ∧ (mixKind P w).is k v = true) acc vs.length → R acc.toList { s with heap := h', toks := tk }) :
    wpAny (model P w) A (collect (.ref d)) R E s := by
  have nd : s.heap.objs.size ≠ d := Nat.ne_of_gt da.lt_size
  have at0 : (s.heap.push { cls := .type "list", data := .seq #[] }).get? s.heap.objs.size = some { cls := .type "list", data := .seq #[] } := Heap.get?_push_size _ rfl
  have walked := PySem.W.kdl_extend (A := A) (s := { s with heap := s.heap.push { cls := .type "list", data := .seq #[] } }) (res := .ref s.heap.objs.size)
    (R := fun q s1 => q = .ok (.ret (.ref s.heap.objs.size)) ∧ wpAny (model P w) A (load s.heap.objs.size >>= fun o => match o.data with | .seq xs _ => pure xs.toList | _ => unsupported "internal:collect") R E s1)
    (PySem.W.kdl_dict (knd := mixKind P w) (kvs := vs) (ep := ep) lo) hh (da.push _) s.heap.objs.size nd nd 0 at0 (fun h' tk acc c hk hS hi => ⟨rfl, ?_⟩) hn
  · unfold collect
    refine wpAny_bind (wpAny_runValue (code_by entry_proto_collect' PySem.F.plain_proto_collect (wpAny_bind (m := newList []) (wpAny_newList (wpAny_pure ⟨plainId_quiet PySem.F.plain_list_iadd _, code_by entry_list_iadd' PySem.F.plain_list_iadd ?_⟩) (Nat.zero_le _)))))
    refine wpAny_mono walked (fun fin s' x => ?_) (fun e s' x => by cases x.1)
    cases fin with
    | done f =>
      obtain ⟨e, x⟩ := x
      cases e
      exact x
    | again c =>
      refine ⟨x.1, codeAny_mono x.2 fun q s2 y => ?_⟩
      obtain ⟨rfl, y⟩ := y
      exact y
  · refine wpAny_bind (wpAny_load hS (wpAny_pure (h h' tk acc (fun b o e => hk b o (Nat.ne_of_lt (Heap.lt_size e)) (Heap.get?_push_of_some _ e)) (Heap.lt_size hS) hi)))
theorem vals_of : ∀ (ws : List Str) (us : List Value), us.length = ws.length → (∀ (j : Nat) u, us[j]? = some u → ∃ x, ws[j]? = some x ∧ RelV (.str x) u) → Vals (ws.map V.str) us
  | [], us, hl, _ => by
    obtain rfl := List.length_eq_zero_iff.mp hl
    exact .nil
  | x :: ws, [], hl, _ => by cases hl
  | x :: ws, u :: us, hl, h => by
    obtain ⟨y, e, r⟩ := h 0 u rfl
    obtain rfl := Option.some.inj e
    exact .cons r (vals_of ws us (Nat.succ.inj hl) fun j v e => by simpa using h (j + 1) v (by simpa using e))
theorem call_sortedD (hc : X.calm = true) : CallR X (.builtin "sorted") (fun xs H Q => ∃ (p : Addr) (kvs : List (Key × V)) (ws : List Str), xs = [.ref p] ∧ H p = some (.dK kvs) ∧ kvs.map (·.1) = ws.map Sum.inr ∧ ws.length < 64 ∧ ∀ (q : Addr) (ws' : List Str), H q = none → ws'.Perm ws → sortedS ws' = true → Q (.ref q) (upd H q (.lst (ws'.map V.str)))) := by
  intro pins s σ H xs us Q I r h
  obtain ⟨p, kvs, ws, rfl, hp, ek, h64, q⟩ := h
  obtain ⟨u, rfl, ru⟩ := vals1 r
  cases ru
  obtain ⟨z, lo, vs, rel, dd⟩ := dk_of I.hok hp
  obtain ⟨ep, da⟩ := dd.dictAt
  have hl : kvs.length = ws.length := by have := congrArg List.length ek; rw [List.length_map, List.length_map] at this; exact this
  have hv := KV.length rel
  refine Calls.call_function_entry kind_sorted plain_sorted entry_sorted (args_sorted1 _) ?_
  unfold Builtin.«sorted»
  refine wpAny_bind (m := checkCount _ _ _ _) (wpAny_pure (wpAny_bind (collect_dk (A := X.A.in1) (I.ok.hd hc) lo da (by omega) fun h' tk acc hk hz hacc => ?_)))
  have la : acc.toList.length = ws.length := by rw [Array.length_toList, hacc.1]; omega
  have hS : StrsAre acc.toList ws := strs_of (vals_of ws acc.toList la fun j u e => by
    obtain ⟨k, x, e1, e2⟩ := hacc.2 j u (by rw [← Array.getElem?_toList]; exact e)
    have e3 : (kvs.map (·.1))[j]? = some k := by rw [rel.keys, List.getElem?_map, e1]; rfl
    rw [ek, List.getElem?_map] at e3
    obtain ⟨y, ey, rfl⟩ := Option.map_eq_some_iff.mp e3
    exact ⟨y, ey, key_rel (show keyIs (Sum.inr y) u = true from e2)⟩)
  refine wpAny_bind (wpAny_newList ?_ (by rw [la]; omega))
  have hL : (h'.push (seqObj "list" acc.toList.toArray 0)).get? h'.objs.size = some (seqObj "list" acc.toList.toArray 0) := Heap.get?_push_size _ rfl
  have hz := Nat.le_of_lt hz
  refine wpAny_bind (wpAny_holding (wpAny_call_entry slot_list_sort ⟨_, hL, rfl⟩ entry_list_sort (list_sort_treeK strKind_oneLt hL hS.keysOf (fun a b rest e => keyKind_strs (by rw [← e]; exact hS)) (by omega) fun st' a1 a2 => ⟨_, rfl, ?_⟩) (args_list_sort _)))
  obtain ⟨ws', b1, b2, b3⟩ := sorted_out_str hS a1 a2
  obtain ⟨n, en⟩ := sortedHeap_at (out := (arrOf st').map (·.2)) hL
  refine wpAny_pure ⟨_, rfl, .ref h'.objs.size, _, I.laid (t' := tk) (o := .lst (ws'.map V.str)) (fun b o e => ?_) hz ⟨?_, _, n, of_strs b1, ?_⟩, rfl, q _ ws' (I.hok.fresh hz) b2 b3⟩
  · have lt := Heap.lt_size (hk b o e)
    rw [sortedHeap_old (Nat.ne_of_lt lt) (by rw [Heap.size_push]; exact Nat.lt_succ_of_lt lt)]
    exact Heap.get?_push_of_some _ (hk b o e)
  · rw [List.length_map, b2.length_eq]
    omega
  · rw [Array.toArray_toList]
    exact en
end
end L2

/-! ### a text's beginning, and where a text is found in it -/
namespace L2
open PySem PySem.Spec PyProof.Rows
section
variable {X : Cx}
def rStarts : V → List V → Hp → VK → Prop := fun x vs H Q => ∃ a b, x = .str a ∧ vs = [.str b] ∧ Q (.bl (Txt.startswith a b)) H
def rFind : V → List V → Hp → VK → Prop := fun x vs H Q => ∃ a b, x = .str a ∧ vs = [.str b] ∧ Q (.int (Txt.find a b)) H
def rIntT : List V → Hp → VK → Prop := fun xs H Q => ∃ x n, xs = [.str x] ∧ PySem.intText? x = some n ∧ x.length ≤ 640 ∧ Q (.int n) H
end
end L2
/-! ### a text parted -/
namespace L2
open PySem PySem.Spec PyProof.Rows
def part3 (x y : Str) : Str × Str × Str := match Builtin.Str.occurrences x y 0 x.length 1 with
  | i :: _ => (Builtin.Str.strSub x 0 i, y, Builtin.Str.strSub x (i + y.length) x.length)
  | [] => (x, Str.empty, Str.empty)
section
variable {X : Cx}
def rPart : V → List V → Hp → VK → Prop := fun v vs H Q => ∃ x y, v = .str x ∧ vs = [.str y] ∧ (y.length == 0) = false ∧ x.length ≤ sizeLine ∧ ∀ p, H p = none → Q (.ref p) (upd H p (.tup [.str (part3 x y).1, .str (part3 x y).2.1, .str (part3 x y).2.2]))
end
end L2
/-! ### what a list gone through from behind gives, all at once -/
namespace L2
open PySem PySem.Spec PyProof.Rows
end L2

/-! ### the texts of a list from behind, joined -/
namespace L2
open PySem PySem.Spec PyProof.Rows
section
variable {X : Cx}
def tJR (K : PySem.W.Frag) (to : TE) (ta : TA) : TE := fun σ H Q => to σ H fun x H1 => ∃ z, x = .str z ∧ ta σ H1 fun vs H2 => ∃ (l : Addr) (ws : List Str), vs = [.ref l] ∧ SqL K H2 l (ws.map V.str) ∧ (ws.map (·.length)).sum + ws.length * z.length ≤ 16777216 ∧ Q (.str (Txt.join z ws.reverse)) H2
end
end L2

/-! ### try: a statement of calls, except C as n: .. -/
namespace L2
open PySem PySem.Spec PyProof.Rows
/-- a statement that may raise, by what is wanted then -/
def PSx (X : Cx) (st : Stmt) (tx : St → Hp → VK → (Value → Hp → Prop) → Prop) : Prop :=
  ∀ (pins : List (Addr × Obj)) (s : Shared) (σ : St) (H : Hp) (Q : VK) (Ex : Value → Hp → Prop), Inv X pins σ H s → tx σ H Q Ex →
    wpAny (model X.prog X.w) X.A (exec st X.env) (fun fl s' => fl = .next ∧ ∃ v H1, Inv X pins σ H1 s' ∧ Q v H1) (fun ev s' => ∃ H1 s1, Inv X pins σ H1 s1 ∧ CXe X.prog X.w X.stack H1 s1 (fun cls _ H' => Ex cls H') ev s') s
end L2
/-! ### a list of written texts -/
namespace L2
open PySem PySem.Spec PyProof.Rows
/-- the texts of a list of constants -/
def strsOf : List Expr → Option (List Str)
  | [] => some []
  | .Constant (.str x) _ _ :: es => (strsOf es).map (x :: ·)
  | _ => none
def tStrs (ws : List Str) : TA := fun _ H Q => Q (ws.map V.str) H
theorem pa_strs {X : Cx} : ∀ {es : List Expr} {ws : List Str}, strsOf es = some ws → PA X es (tStrs ws)
  | [], ws, h => by
    cases h
    exact pa_nil
  | e :: es, ws, h => by
    unfold strsOf at h
    split at h
    · rename_i e1
      cases e1
    · rename_i x j p es' e1
      cases e1
      cases e2 : strsOf es with
      | none => rw [e2] at h; cases h
      | some us =>
        rw [e2] at h
        cases h
        exact pa_cons pe_str (pa_strs e2)
    · cases h
end L2

/-! ### classes that inherit; str(x) -/
namespace L2
open PySem PySem.Spec PyProof.Rows
section
variable {X : Cx}
/-- isinstance(x, C), C an own class -/
theorem call_isiO : CallR X (.builtin "isinstance") (fun xs H Q => ∃ x c t b, xs = [x, .ref c] ∧ TyOf X.K H x t ∧ PySem.W.kitOne X.K t (.ref c) = some b ∧ Q (.bl b) H) := by
  intro pins s σ H xs us Q I r h
  obtain ⟨x, c, t, b, rfl, ty, e, q⟩ := h
  obtain ⟨u, w', rfl, r1, r2⟩ := vals2 r
  cases r2
  exact isinst_ok I r1 ty e fun tk => ⟨.bl b, H, I.tok tk, rfl, q⟩
/-- a function read from its class -/
structure ClsC (K : PySem.W.Frag) (C : Addr) (m : Str) (f : Addr) : Prop where
  sg : PySem.W.specialIn K (.ref C) "__getattribute__" = some (some (.builtin "type.__getattribute__"))
  rd : PySem.W.readsIn K C (.type "type") = true
  fc : PySem.W.findCls K (.ref C) (.type "type") m = some (.val (.ref f))
  kp : PySem.W.keepIn K (.ref f) = true
variable {CX : CXT} {k k1 k2 : Nat} {f f1 f2 C C1 C2 : Addr} {fd fd1 fd2 : FuncData} {ps ps1 ps2 : List Str} {sp sp1 sp2 : Sp} {E : XK} {m : Str} {pos apos : Pos} {e o : Expr} {es : List Expr} {ta : TE} {t : TA}
/-- C.m(self, ..) -/
def tClsM (C : Addr) (sp : Sp) (E : XK) (ta : TE) (t : TA) : TE := fun σ H Q => ta σ H fun x H1 => x = .ref C ∧ t σ H1 fun vs H2 => sp vs H2 Q E
theorem pe_clsc {pl : Sem Bool} (he : PE X o ta) (c : ClsC X.K C m f) (F : FnOk X.prog X.w X.K X.mg X.base CX k f fd ps sp) (hr : Room k X.A) (hb : Binds X.K fd ps []) (hx : Passes CX X E) (ha : PA X (e :: es) t)
    (hst : starEach (e :: es) X.env = (false, eval e X.env) :: starEach es X.env := by rfl) (hpl : (backTo pos (starEach es X.env)).any (·.1) = false := by rfl)
    (ht : eval (.Call (.Attribute o m apos) (e :: es) [] pos) X.env = (do
      let ov ← eval o X.env
      standAt apos.atName
      let (f, first) ← holding [ov] (getMethod ov m pl)
      callWith pos f first (backTo pos (starEach (e :: es) X.env)) (backToKw pos (keywordEach [] X.env))) := by rfl) :
    PE X (.Call (.Attribute o m apos) (e :: es) [] pos) (tClsM C sp E ta t) := by
  intro pins s σ H Q I h
  refine PySem.W.methodCall_KW (pl := pl) (thn (he pins s σ H _ I h) fun u s1 ⟨x, H1, I1, rx, ex, q⟩ => ?_) ht
  subst ex
  obtain rfl : u = Value.ref C := rx
  refine PySem.W.method_cls I1.kIn c.sg (PySem.W.cls_value I1.kIn c.rd c.fc rfl ?_)
  refine PySem.W.callWith_K (first := []) (h₀ := X.base) I.ok.mod.kin c.kp (thn (ha pos pins _ σ H1 _ (I1.tok _) q) fun us s2 ⟨vs, H2, I3, r, q2⟩ => ⟨I3.kIn, ?_⟩) hst hpl
  exact run_fn (us := us) (vs := vs) (dvs := []) (ds := []) F hr hb .nil hx I3 r (by rw [List.append_nil]; exact q2)
/-- o.m(..), o of the one or of the other class -/
def tMeth2 (C1 C2 : Addr) (m : Str) (sp1 sp2 : Sp) (E : XK) (ta : TE) (t : TA) : TE := fun σ H Q => ta σ H fun x H1 =>
  (∃ a dx fs, x = .ref a ∧ H1 a = some (.ins C1 dx fs) ∧ fs.lookup m = none ∧ t σ H1 fun vs H2 => sp1 (x :: vs) H2 Q E) ∨ (∃ a dx fs, x = .ref a ∧ H1 a = some (.ins C2 dx fs) ∧ fs.lookup m = none ∧ t σ H1 fun vs H2 => sp2 (x :: vs) H2 Q E)
theorem pe_meth20 {pl : Sem Bool} (he : PE X o ta) (c1 : Cls X.K C1) (m1 : Meth X.K C1 m f1) (F1 : FnOk X.prog X.w X.K X.mg X.base CX k1 f1 fd1 ps1 sp1) (hr1 : Room k1 X.A) (b1 : Binds X.K fd1 ps1 [])
    (c2 : Cls X.K C2) (m2 : Meth X.K C2 m f2) (F2 : FnOk X.prog X.w X.K X.mg X.base CX k2 f2 fd2 ps2 sp2) (hr2 : Room k2 X.A) (b2 : Binds X.K fd2 ps2 []) (hx : Passes CX X E)
    (ht : eval (.Call (.Attribute o m apos) [] [] pos) X.env = (do
      let ov ← eval o X.env
      standAt apos.atName
      let (f, first) ← holding [ov] (getMethod ov m pl)
      callWith pos f first (backTo pos (starEach [] X.env)) (backToKw pos (keywordEach [] X.env))) := by rfl) :
    PE X (.Call (.Attribute o m apos) [] [] pos) (tMeth2 C1 C2 m sp1 sp2 E ta tNil) := by
  intro pins s σ H Q I h
  refine PySem.W.methodCall_KW (pl := pl) (thn (he pins s σ H _ I h) fun u s1 ⟨x, H1, I1, rx, hq⟩ => ?_) ht
  rcases hq with ⟨a, dx, fs, ex, ea, l, q⟩ | ⟨a, dx, fs, ex, ea, l, q⟩ <;> subst ex <;> obtain rfl : u = Value.ref a := rx
  · refine getmeth_ok I1 ea c1 m1 l ?_
    exact PySem.W.callWith_K0 (first := [.ref a]) I1.kIn m1.kp (run_fn (us := [.ref a]) (vs := [.ref a]) (dvs := []) (ds := []) F1 hr1 b1 .nil hx I1 (.cons rfl .nil) q)
  · refine getmeth_ok I1 ea c2 m2 l ?_
    exact PySem.W.callWith_K0 (first := [.ref a]) I1.kIn m2.kp (run_fn (us := [.ref a]) (vs := [.ref a]) (dvs := []) (ds := []) F2 hr2 b2 .nil hx I1 (.cons rfl .nil) q)
end
end L2
/-! ### f-strings, to the letter -/
namespace L2
open PySem PySem.Spec PyProof.Rows
abbrev TFx := Str → St → Hp → VK → Prop
section
variable {X : Cx}
/-- the parts of an f-string behind what is joined so far -/
def PFx (X : Cx) (es : List Expr) (t : TFx) : Prop :=
  ∀ (out : Str) (pins : List (Addr × Obj)) (s : Shared) (σ : St) (H : Hp) (Q : VK), Inv X pins σ H s → t out σ H Q → wpAny (model X.prog X.w) X.A (joinParts out (evalEach es X.env)) (EP X pins σ Q) X.xe s
def xNil : TFx := fun out _ H Q => out.length ≤ sizeLine ∧ Q (.str out) H
def xLit (c : Str) (t : TFx) : TFx := fun out σ H Q => (out ++ c).length ≤ sizeLine ∧ t (out ++ c) σ H Q
def xStr (te : TE) (t : TFx) : TFx := fun out σ H Q => te σ H fun v H1 => ∃ x, v = .str x ∧ x.length ≤ sizeLine ∧ (out ++ x).length ≤ sizeLine ∧ t (out ++ x) σ H1 Q
end
end L2
namespace L2
open PySem
theorem cxK {CX : CXT} {P : Program} {w : World} {K : PySem.W.Frag} {mg : Str → Option Value} {base : Heap} {N : List Str} {qual : Str} {scope : Scope} {f : Addr} {cd : Value} {A : Around} {outer : List Env} {s : Shared} {H : Hp} {E : XK} : (cxOf CX P w K mg base N qual scope f cd A outer s H E).K = K := rfl
theorem lcK {X : Cx} {scope : Scope} {ts : List Str} {js : List Nat} {C : Addr} {s2 : Shared} {H2 : Hp} {fp : List Addr} : (Cx.lc X scope ts js C s2 H2 fp).K = X.K := rfl
theorem wishK {X : Cx} {E : Value → Shared → Prop} : (X.wish E).K = X.K := rfl
end L2

/-! ### a text times a whole number -/
namespace L2
open PySem PySem.Spec PyProof.Rows
/-- a text, so many times -/
def repS (x : Str) (k : Int) : Str := ⟨((List.replicate k.toNat x.cps.toList).flatten).toArray⟩
theorem rep_fold (a : Array Nat) : ∀ (m : Nat) (b : Array Nat), ((List.replicate m a).foldl (· ++ ·) b).toList = b.toList ++ (List.replicate m a.toList).flatten
  | 0, b => by simp
  | m + 1, b => by
    rw [List.replicate_succ, List.foldl_cons, rep_fold a m (b ++ a), List.replicate_succ, List.flatten_cons, Array.toList_append, List.append_assoc]
theorem rep_cds (x : Str) (k : Int) : (repS x k).cps.toList = (List.replicate k.toNat x.cps.toList).flatten := by
  unfold repS
  rfl
section
variable {X : Cx}
theorem op_mul_str : OpR X (binaryOp .Mult) (fun x y H Q => ∃ i k, x = .str i ∧ y = .int k ∧ 1 ≤ k ∧ k ≤ 1000 ∧ 1 ≤ i.length ∧ i.length ≤ 1000 ∧ Q (.str (repS i k)) H) := by
  intro pins s σ H x y v u Q I rx ry h
  obtain ⟨i, k, rfl, rfl, k1, k2, i1, i2, q⟩ := h
  obtain ⟨t, rfl⟩ := rx
  obtain ⟨t', rfl⟩ := ry
  have hm : i.length * k.toNat ≤ sizeLine := Nat.le_trans (Nat.mul_le_mul i2 (show k.toNat ≤ 1000 by omega)) (by decide)
  refine P.mul_str (by rw [decide_eq_false (by omega), decide_eq_false (by omega)]; rfl) (fun _ _ => ?_) (fun _ _ => ?_) ?_
  · have : 1000 ≤ (2 ^ 63 - 1) / k := Int.le_ediv_of_mul_le (by omega) (by omega)
    omega
  · exact decide_eq_false (by omega)
  · rw [if_neg (by omega)]
    by_cases e : k = 1
    · subst e
      have er : repS i 1 = i := by
        cases i with | mk a => exact congrArg Str.mk (Array.ext' (by simp))
      rw [er] at q
      exact ⟨.str i, H, I.tok _, ⟨_, rfl⟩, q⟩
    · have l0 : (i.length == 0) = false := by rw [beq_eq_false_iff_ne]; omega
      rw [l0, Bool.or_false, if_neg (by simpa using e)]
      have er : (⟨(List.replicate k.toNat i.cps).foldl (· ++ ·) #[]⟩ : Str) = repS i k := by
        refine congrArg Str.mk (Array.ext' ?_)
        rw [rep_fold]
        rfl
      rw [er]
      exact ⟨by show ((List.replicate k.toNat i.cps.toList).flatten).toArray.size ≤ sizeLine; rw [List.size_toArray, len_rep, Array.length_toList, Nat.mul_comm]; exact hm, ⟨.str (repS i k), H, I.tok _, ⟨_, rfl⟩, q⟩⟩
end
end L2

namespace Lw
open PySem L2
def top (i : Nat) : Stmt := PySem.Challenge.pw_prunepath_k23_costs_of_a_grown_tree.main.body.getD i (.Pass ⟨0, 0, 0, 0⟩)
abbrev s_is_whole : Stmt := top 6
abbrev s_greatest_divisor : Stmt := top 8
abbrev s_ratio : Stmt := top 9
abbrev s_check_measure : Stmt := top 12
abbrev s_all_rows : Stmt := top 13
abbrev s_misses : Stmt := top 14
abbrev s_shares : Stmt := top 15
abbrev s_mess : Stmt := top 16
abbrev s_Node___init__ : Stmt := inClass (top 18) 0
abbrev s_Leaf_leaves : Stmt := inClass (top 19) 1
abbrev s_Leaf_deep : Stmt := inClass (top 19) 2
abbrev s_Fork_leaves : Stmt := inClass (top 20) 2
abbrev s_Fork_deep : Stmt := inClass (top 20) 3
abbrev s_Fork___init__ : Stmt := inClass (top 20) 0
abbrev s_costed : Stmt := top 22
abbrev s_law_cell : Stmt := top 24
abbrev s_law_pick : Stmt := top 25
abbrev s_law_lowest : Stmt := top 26
abbrev s_law_counts : Stmt := top 27
abbrev s_law_together : Stmt := top 28
abbrev s_law_mess : Stmt := top 29
abbrev s_law_leaf : Stmt := top 30
abbrev s_law_fork : Stmt := top 31
abbrev s_law_refused : Stmt := top 32
abbrev s_law : Stmt := top 33
set_option genInjectivity false in
set_option genSizeOf false in
structure Tx (K : PySem.W.Frag) (mg : Str → Option Value) where
  c_PruneError : Addr
  m_PruneError : mg "PruneError" = some (.ref c_PruneError)
  c_NoRatio : Addr
  m_NoRatio : mg "NoRatio" = some (.ref c_NoRatio)
  x_NoRatio : Exc K mg "NoRatio" c_NoRatio
  i_NoRatio : ExcI K c_NoRatio
  c_NoMeasure : Addr
  m_NoMeasure : mg "NoMeasure" = some (.ref c_NoMeasure)
  x_NoMeasure : Exc K mg "NoMeasure" c_NoMeasure
  i_NoMeasure : ExcI K c_NoMeasure
  c_Node : Addr
  m_Node : mg "Node" = some (.ref c_Node)
  C_Node : Cls K c_Node
  c_Leaf : Addr
  m_Leaf : mg "Leaf" = some (.ref c_Leaf)
  C_Leaf : Cls K c_Leaf
  c_Fork : Addr
  m_Fork : mg "Fork" = some (.ref c_Fork)
  C_Fork : Cls K c_Fork
  f_is_whole : Addr
  d_is_whole : FuncData
  F_is_whole : Fun K "is_whole" "is_whole" s_is_whole f_is_whole d_is_whole
  b_is_whole : Binds K d_is_whole ["value"] []
  m_is_whole : mg "is_whole" = some (.ref f_is_whole)
  f_greatest_divisor : Addr
  d_greatest_divisor : FuncData
  F_greatest_divisor : Fun K "greatest_divisor" "greatest_divisor" s_greatest_divisor f_greatest_divisor d_greatest_divisor
  b_greatest_divisor : Binds K d_greatest_divisor ["one", "other"] []
  m_greatest_divisor : mg "greatest_divisor" = some (.ref f_greatest_divisor)
  f_ratio : Addr
  d_ratio : FuncData
  F_ratio : Fun K "ratio" "ratio" s_ratio f_ratio d_ratio
  b_ratio : Binds K d_ratio ["top", "bottom"] []
  m_ratio : mg "ratio" = some (.ref f_ratio)
  f_check_measure : Addr
  d_check_measure : FuncData
  F_check_measure : Fun K "check_measure" "check_measure" s_check_measure f_check_measure d_check_measure
  b_check_measure : Binds K d_check_measure ["measure"] []
  m_check_measure : mg "check_measure" = some (.ref f_check_measure)
  f_all_rows : Addr
  d_all_rows : FuncData
  F_all_rows : Fun K "all_rows" "all_rows" s_all_rows f_all_rows d_all_rows
  b_all_rows : Binds K d_all_rows ["counted"] []
  m_all_rows : mg "all_rows" = some (.ref f_all_rows)
  f_misses : Addr
  d_misses : FuncData
  F_misses : Fun K "misses" "misses" s_misses f_misses d_misses
  b_misses : Binds K d_misses ["counted"] []
  m_misses : mg "misses" = some (.ref f_misses)
  f_shares : Addr
  d_shares : FuncData
  F_shares : Fun K "shares" "shares" s_shares f_shares d_shares
  b_shares : Binds K d_shares ["counted"] []
  m_shares : mg "shares" = some (.ref f_shares)
  f_mess : Addr
  d_mess : FuncData
  F_mess : Fun K "mess" "mess" s_mess f_mess d_mess
  b_mess : Binds K d_mess ["counted", "measure"] []
  m_mess : mg "mess" = some (.ref f_mess)
  f_Node___init__ : Addr
  d_Node___init__ : FuncData
  F_Node___init__ : Fun K "__init__" "Node.__init__" s_Node___init__ f_Node___init__ d_Node___init__
  b_Node___init__ : Binds K d_Node___init__ ["self", "counted"] []
  M_Node : Mk K c_Node f_Node___init__
  f_Leaf_leaves : Addr
  d_Leaf_leaves : FuncData
  F_Leaf_leaves : Fun K "leaves" "Leaf.leaves" s_Leaf_leaves f_Leaf_leaves d_Leaf_leaves
  b_Leaf_leaves : Binds K d_Leaf_leaves ["self"] []
  M_Leaf_leaves : Meth K c_Leaf "leaves" f_Leaf_leaves
  f_Leaf_deep : Addr
  d_Leaf_deep : FuncData
  F_Leaf_deep : Fun K "deep" "Leaf.deep" s_Leaf_deep f_Leaf_deep d_Leaf_deep
  b_Leaf_deep : Binds K d_Leaf_deep ["self"] []
  M_Leaf_deep : Meth K c_Leaf "deep" f_Leaf_deep
  f_Fork_leaves : Addr
  d_Fork_leaves : FuncData
  F_Fork_leaves : Fun K "leaves" "Fork.leaves" s_Fork_leaves f_Fork_leaves d_Fork_leaves
  b_Fork_leaves : Binds K d_Fork_leaves ["self"] []
  M_Fork_leaves : Meth K c_Fork "leaves" f_Fork_leaves
  f_Fork_deep : Addr
  d_Fork_deep : FuncData
  F_Fork_deep : Fun K "deep" "Fork.deep" s_Fork_deep f_Fork_deep d_Fork_deep
  b_Fork_deep : Binds K d_Fork_deep ["self"] []
  M_Fork_deep : Meth K c_Fork "deep" f_Fork_deep
  f_Fork___init__ : Addr
  d_Fork___init__ : FuncData
  F_Fork___init__ : Fun K "__init__" "Fork.__init__" s_Fork___init__ f_Fork___init__ d_Fork___init__
  b_Fork___init__ : Binds K d_Fork___init__ ["self", "counted", "question", "yes", "no"] []
  M_Fork : Mk K c_Fork f_Fork___init__
  f_costed : Addr
  d_costed : FuncData
  F_costed : Fun K "costed" "costed" s_costed f_costed d_costed
  b_costed : Binds K d_costed ["node", "measure"] []
  m_costed : mg "costed" = some (.ref f_costed)
  f_law_cell : Addr
  d_law_cell : FuncData
  F_law_cell : Fun K "_law_cell" "_law_cell" s_law_cell f_law_cell d_law_cell
  b_law_cell : Binds K d_law_cell ["_law_script", "_law_k"] []
  m_law_cell : mg "_law_cell" = some (.ref f_law_cell)
  f_law_pick : Addr
  d_law_pick : FuncData
  F_law_pick : Fun K "_law_pick" "_law_pick" s_law_pick f_law_pick d_law_pick
  b_law_pick : Binds K d_law_pick ["_law_cell_here", "_law_turn", "_law_many"] []
  m_law_pick : mg "_law_pick" = some (.ref f_law_pick)
  f_law_lowest : Addr
  d_law_lowest : FuncData
  F_law_lowest : Fun K "_law_lowest" "_law_lowest" s_law_lowest f_law_lowest d_law_lowest
  b_law_lowest : Binds K d_law_lowest ["_law_top", "_law_bottom"] []
  m_law_lowest : mg "_law_lowest" = some (.ref f_law_lowest)
  f_law_counts : Addr
  d_law_counts : FuncData
  F_law_counts : Fun K "_law_counts" "_law_counts" s_law_counts f_law_counts d_law_counts
  b_law_counts : Binds K d_law_counts ["_law_cell_here"] []
  m_law_counts : mg "_law_counts" = some (.ref f_law_counts)
  f_law_together : Addr
  d_law_together : FuncData
  F_law_together : Fun K "_law_together" "_law_together" s_law_together f_law_together d_law_together
  b_law_together : Binds K d_law_together ["_law_one", "_law_two"] []
  m_law_together : mg "_law_together" = some (.ref f_law_together)
  f_law_mess : Addr
  d_law_mess : FuncData
  F_law_mess : Fun K "_law_mess" "_law_mess" s_law_mess f_law_mess d_law_mess
  b_law_mess : Binds K d_law_mess ["_law_counted", "_law_measure"] []
  m_law_mess : mg "_law_mess" = some (.ref f_law_mess)
  f_law_leaf : Addr
  d_law_leaf : FuncData
  F_law_leaf : Fun K "_law_leaf" "_law_leaf" s_law_leaf f_law_leaf d_law_leaf
  b_law_leaf : Binds K d_law_leaf ["_law_cell_here"] []
  m_law_leaf : mg "_law_leaf" = some (.ref f_law_leaf)
  f_law_fork : Addr
  d_law_fork : FuncData
  F_law_fork : Fun K "_law_fork" "_law_fork" s_law_fork f_law_fork d_law_fork
  b_law_fork : Binds K d_law_fork ["_law_cell_here", "_law_one", "_law_two"] []
  m_law_fork : mg "_law_fork" = some (.ref f_law_fork)
  f_law_refused : Addr
  d_law_refused : FuncData
  F_law_refused : Fun K "_law_refused" "_law_refused" s_law_refused f_law_refused d_law_refused
  b_law_refused : Binds K d_law_refused ["_law_node", "_law_measure"] []
  m_law_refused : mg "_law_refused" = some (.ref f_law_refused)
  f_law : Addr
  d_law : FuncData
  F_law : Fun K "law" "law" s_law f_law d_law
  b_law : Binds K d_law ["_law_script"] []
  m_law : mg "law" = some (.ref f_law)
  M_Leaf : Mk K c_Leaf f_Node___init__
  cc_Node___init__ : ClsC K c_Node "__init__" f_Node___init__
  c_MEASURES : Addr
  m_MEASURES : mg "MEASURES" = some (.ref c_MEASURES)
  q_MEASURES : ∀ H, SqT K H c_MEASURES [.str "misses", .str "shares"]
  z_ValueError : mg "ValueError" = none
  z_abs : mg "abs" = none
  z_bool : mg "bool" = none
  z_enumerate : mg "enumerate" = none
  z_int : mg "int" = none
  z_isinstance : mg "isinstance" = none
  z_len : mg "len" = none
  z_list : mg "list" = none
  z_max : mg "max" = none
  z_sorted : mg "sorted" = none
  z_sum : mg "sum" = none
  t1 : PySem.W.exmOne K (.ref c_NoMeasure) (.ref c_PruneError) = some true
  t3 : PySem.W.kitOne K (.ref c_NoMeasure) (.type "ValueError") = some true
  t4 : PySem.W.exmOne K (.ref c_NoMeasure) (.ref c_NoMeasure) = some true
  nLc : PySem.W.findIn K (.ref c_Leaf) "counted" = some none
  nFcd : PySem.W.findIn K (.ref c_Fork) "counted" = some none
  nFqn : PySem.W.findIn K (.ref c_Fork) "question" = some none
  nFys : PySem.W.findIn K (.ref c_Fork) "yes" = some none
  nFno : PySem.W.findIn K (.ref c_Fork) "no" = some none
  nFlt : PySem.W.findIn K (.ref c_Fork) "leaf_count" = some none
  nFdh : PySem.W.findIn K (.ref c_Fork) "depth" = some none
  clL : PySem.W.findIn K (.ref c_Leaf) "__class__" = some (some (.builtin "object.__class__"))
  clF : PySem.W.findIn K (.ref c_Fork) "__class__" = some (some (.builtin "object.__class__"))
  ogt : PySem.W.specialIn K (.builtin "object.__class__") "__get__" = some (some (.builtin "getset_descriptor.__get__"))
  otk : PySem.W.takesIn K (.builtin "object.__class__") = some true
  omL : PySem.W.mroIn K c_Leaf (.type "object") = some true
  omF : PySem.W.mroIn K c_Fork (.type "object") = some true
  kLF : PySem.W.kitOne K (.ref c_Leaf) (.ref c_Fork) = some false
  kFF : PySem.W.kitOne K (.ref c_Fork) (.ref c_Fork) = some true
theorem sc_is_whole : FnScope ["value"] ["value"] (defScope s_is_whole) := ⟨rfl, rfl, rfl, by decide +kernel, rfl, by decide +kernel, by decide +kernel⟩
theorem sc_greatest_divisor : FnScope ["one", "other", "larger", "smaller", "rest"] ["one", "other"] (defScope s_greatest_divisor) := ⟨rfl, rfl, rfl, by decide +kernel, rfl, by decide +kernel, by decide +kernel⟩
theorem sc_ratio : FnScope ["top", "bottom", "divisor"] ["top", "bottom"] (defScope s_ratio) := ⟨rfl, rfl, rfl, by decide +kernel, rfl, by decide +kernel, by decide +kernel⟩
theorem sc_check_measure : FnScope ["measure"] ["measure"] (defScope s_check_measure) := ⟨rfl, rfl, rfl, by decide +kernel, rfl, by decide +kernel, by decide +kernel⟩
theorem sc_all_rows : FnScope ["counted"] ["counted"] (defScope s_all_rows) := ⟨rfl, rfl, rfl, by decide +kernel, rfl, by decide +kernel, by decide +kernel⟩
theorem sc_misses : FnScope ["counted"] ["counted"] (defScope s_misses) := ⟨rfl, rfl, rfl, by decide +kernel, rfl, by decide +kernel, by decide +kernel⟩
theorem sc_shares : FnScope ["counted", "rows", "squares"] ["counted"] (defScope s_shares) := ⟨rfl, rfl, rfl, by decide +kernel, rfl, by decide +kernel, by decide +kernel⟩
theorem sc_mess : FnScope ["counted", "measure"] ["counted", "measure"] (defScope s_mess) := ⟨rfl, rfl, rfl, by decide +kernel, rfl, by decide +kernel, by decide +kernel⟩
theorem sc_Node___init__ : FnScope ["self", "counted"] ["self", "counted"] (defScope s_Node___init__) := ⟨rfl, rfl, rfl, by decide +kernel, rfl, by decide +kernel, by decide +kernel⟩
theorem sc_Leaf_leaves : FnScope ["self"] ["self"] (defScope s_Leaf_leaves) := ⟨rfl, rfl, rfl, by decide +kernel, rfl, by decide +kernel, by decide +kernel⟩
theorem sc_Leaf_deep : FnScope ["self"] ["self"] (defScope s_Leaf_deep) := ⟨rfl, rfl, rfl, by decide +kernel, rfl, by decide +kernel, by decide +kernel⟩
theorem sc_Fork_leaves : FnScope ["self"] ["self"] (defScope s_Fork_leaves) := ⟨rfl, rfl, rfl, by decide +kernel, rfl, by decide +kernel, by decide +kernel⟩
theorem sc_Fork_deep : FnScope ["self"] ["self"] (defScope s_Fork_deep) := ⟨rfl, rfl, rfl, by decide +kernel, rfl, by decide +kernel, by decide +kernel⟩
theorem sc_Fork___init__ : FnScope ["self", "counted", "question", "yes", "no"] ["self", "counted", "question", "yes", "no"] (defScope s_Fork___init__) := ⟨rfl, rfl, rfl, by decide +kernel, rfl, by decide +kernel, by decide +kernel⟩
theorem sc_costed : FnScope ["node", "measure", "own"] ["node", "measure"] (defScope s_costed) := ⟨rfl, rfl, rfl, by decide +kernel, rfl, by decide +kernel, by decide +kernel⟩
theorem sc_law_cell : FnScope ["_law_script", "_law_k"] ["_law_script", "_law_k"] (defScope s_law_cell) := ⟨rfl, rfl, rfl, by decide +kernel, rfl, by decide +kernel, by decide +kernel⟩
theorem sc_law_pick : FnScope ["_law_cell_here", "_law_turn", "_law_many", "_law_mixed"] ["_law_cell_here", "_law_turn", "_law_many"] (defScope s_law_pick) := ⟨rfl, rfl, rfl, by decide +kernel, rfl, by decide +kernel, by decide +kernel⟩
theorem sc_law_lowest : FnScope ["_law_top", "_law_bottom", "_law_one", "_law_two", "_law_rest"] ["_law_top", "_law_bottom"] (defScope s_law_lowest) := ⟨rfl, rfl, rfl, by decide +kernel, rfl, by decide +kernel, by decide +kernel⟩
theorem sc_law_counts : FnScope ["_law_cell_here", "_law_made", "_law_first", "_law_k", "_law_letter", "_law_many"] ["_law_cell_here"] (defScope s_law_counts) := ⟨rfl, rfl, rfl, by decide +kernel, rfl, by decide +kernel, by decide +kernel⟩
theorem sc_law_together : FnScope ["_law_one", "_law_two", "_law_sums", "_law_name", "_law_many"] ["_law_one", "_law_two"] (defScope s_law_together) := ⟨rfl, rfl, rfl, by decide +kernel, rfl, by decide +kernel, by decide +kernel⟩
theorem sc_law_mess : FnScope ["_law_counted", "_law_measure", "_law_numbers", "_law_squares"] ["_law_counted", "_law_measure"] (defScope s_law_mess) := ⟨rfl, rfl, rfl, by decide +kernel, rfl, by decide +kernel, by decide +kernel⟩
theorem sc_law_leaf : FnScope ["_law_cell_here", "_law_counted", "_law_dues"] ["_law_cell_here"] (defScope s_law_leaf) := ⟨rfl, rfl, rfl, by decide +kernel, rfl, by decide +kernel, by decide +kernel⟩
theorem sc_law_fork : FnScope ["_law_cell_here", "_law_one", "_law_two", "_law_counted", "_law_question", "_law_node", "_law_dues", "_law_k", "_law_measure"] ["_law_cell_here", "_law_one", "_law_two"] (defScope s_law_fork) := ⟨rfl, rfl, rfl, by decide +kernel, rfl, by decide +kernel, by decide +kernel⟩
theorem sc_law_refused : FnScope ["_law_node", "_law_measure", "_law_by_name", "e"] ["_law_node", "_law_measure"] (defScope s_law_refused) := ⟨rfl, rfl, rfl, by decide +kernel, rfl, by decide +kernel, by decide +kernel⟩
theorem sc_law : FnScope ["_law_script", "_law_pile", "_law_cell_here", "_law_last", "_law_node", "_law_counted", "_law_dues", "_law_odd"] ["_law_script"] (defScope s_law) := ⟨rfl, rfl, rfl, by decide +kernel, rfl, by decide +kernel, by decide +kernel⟩

/-- a ratio's two numbers are not too long -/
structure Rz (n : Nat) (q : Rat) : Prop where
  zn : Bz n q.num
  zd : Bz n (q.den : Int)
/-- the tuple of a ratio -/
abbrev rt (q : Rat) : HO := .tup [.int q.num, .int (q.den : Int)]
/-- a new ratio -/
def Nw (H : Hp) (Q : VK) (q : Rat) : Prop := ∀ p, H p = none → Q (.ref p) (upd H p (rt q))
theorem cN (i : Int) {j : Int} (h0 : 0 < j) (h1 : j < 340282366920938463463374607431768211456) : CDivB i j := ⟨h0, (Bz.w (by omega) h1).log2⟩
theorem Nw.pos {H : Hp} {Q : VK} {t b : Int} (hb : 0 < b) (q : Nw H Q (Rat.divInt t b)) : ∀ p, H p = none → Q (.ref p) (upd H p (.tup [.int (t.fdiv (M.G t b)), .int (b.fdiv (M.G t b))])) := by
  have h := Int.le_of_lt (M.G_pos t b)
  rw [Int.fdiv_eq_ediv_of_nonneg t h, Int.fdiv_eq_ediv_of_nonneg b h, M.num_low hb, M.den_low hb]
  exact q
theorem Nw.neg {H : Hp} {Q : VK} {t b : Int} (hb : b < 0) (q : Nw H Q (Rat.divInt t b)) : ∀ p, H p = none → Q (.ref p) (upd H p (.tup [.int (t.fdiv (-M.G t b)), .int (b.fdiv (-M.G t b))])) := by
  rw [M.num_neg hb, M.den_neg hb]
  exact q
theorem cM {t b : Int} (hb : b ≠ 0) (bz : Bz 8000 b) (i : Int) : CDivM i (M.G t b) := ⟨by have := M.G_pos t b; omega, (bz.le (M.G_le hb)).log2⟩
theorem cM' {t b : Int} (hb : b ≠ 0) (bz : Bz 8000 b) (i : Int) : CDivM i (-M.G t b) := ⟨by have := M.G_pos t b; omega, (bz.le (by rw [Int.natAbs_neg]; exact M.G_le hb)).log2⟩
def sp_is_whole : Sp := fun vs H Q _ => ∃ i : Int, vs = [.int i] ∧ Q (.bl true) H
def sp_greatest_divisor : Sp := fun vs H Q _ => ∃ a b : Int, vs = [.int a, .int b] ∧ b ≠ 0 ∧ Q (.int (M.G a b)) H
def sp_ratio (C : Addr) : Sp := fun vs H Q E => ∃ t b : Int, vs = [.int t, .int b] ∧ Bz 8000 b ∧ ((b = 0 ∧ E (.ref C) none H) ∨ (b ≠ 0 ∧ Nw H Q (Rat.divInt t b)))
theorem cGe {t b : Int} (hb : 0 < b) (bz : Bz 8000 b) (i : Int) : CDivB i (M.G t b) := ⟨M.G_pos t b, (bz.le (M.G_le (by omega))).log2⟩
theorem Nw.low {H : Hp} {Q : VK} {t b : Int} (hb : 0 < b) (q : Nw H Q (Rat.divInt t b)) : ∀ p, H p = none → Q (.ref p) (upd H p (.tup [.int (t / M.G t b), .int (b / M.G t b)])) := by
  rw [M.num_low hb, M.den_low hb]
  exact q
/-! words, columns, rows -/
def fsT (l1 l2 : Addr) : List (Str × V) := [("kept_columns", .ref l1), ("kept_rows", .ref l2)]
/-- ints, truths, texts, None -/
def kd : V → Bool
  | .int _ | .bl _ | .str _ | .non => true
  | _ => false
def whV : V → Bool
  | .int _ => true
  | _ => false
def isWV : V → Bool
  | .str x => isW x
  | _ => false
def lenV : V → Prop
  | .str x => x.length ≤ 1000
  | _ => True
def fitsV (v : V) (s : Str) : Bool := if s = "number" then whV v else isWV v
def colD (c : Str × Str) : PyData := .tuple [.str c.1, .str c.2]
structure GoodC (cs : List (Str × Str)) : Prop where
  lo : 1 ≤ cs.length
  hi : cs.length ≤ 6
  nm : ∀ c ∈ cs, isW c.1 = true
  so : ∀ c ∈ cs, c.2 = "number" ∨ c.2 = "word"
  nd : (cs.map (·.1)).Nodup
def sp_is_whole_ : Sp := fun vs H Q _ => ∃ v, vs = [v] ∧ kd v = true ∧ Q (.bl (whV v)) H
def sp_is_word : Sp := fun vs H Q _ => ∃ v, vs = [v] ∧ kd v = true ∧ lenV v ∧ ∀ H', Same H H' → Q (.bl (isWV v)) H'
def sp_check_columns0 (K : PySem.W.Frag) : Sp := fun vs H Q _ => ∃ (a : Addr) (xs : List V) (cs : List (Str × Str)), vs = [.ref a] ∧ H a = some (.lst xs) ∧ TVs K H xs (cs.map colD) ∧ GoodC cs ∧ ∀ H', Same H H' → Q .non H'
def sp_fits : Sp := fun vs H Q _ => ∃ (v : V) (s : Str), vs = [v, .str s] ∧ kd v = true ∧ lenV v ∧ ∀ H', Same H H' → Q (.bl (fitsV v s)) H'
def sp_check_row0 (K : PySem.W.Frag) : Sp := fun vs H Q _ => ∃ (a b : Addr) (xs ys : List V) (cs : List (Str × Str)) (w : Str), vs = [.ref a, .ref b, .str w] ∧ H a = some (.lst xs) ∧ TVs K H xs (cs.map colD) ∧ H b = some (.lst ys) ∧ ys.length = cs.length ∧ cs.length ≤ 6 ∧ (∀ v ∈ ys, kd v = true ∧ lenV v) ∧
  (∀ (i : Nat) v c, ys[i]? = some v → cs[i]? = some c → fitsV v c.2 = true) ∧ isW w = true ∧ ∀ H', Same H H' → Q .non H'
theorem isW_len {x : Str} (h : isW x = true) : 1 ≤ x.length ∧ x.length ≤ 12 := by
  unfold isW at h
  simp only [Bool.and_eq_true, decide_eq_true_eq] at h
  omega
theorem isW_all {x : Str} (h : isW x = true) : ∀ c ∈ cds x, 97 ≤ c ∧ c ≤ 122 := by
  unfold isW at h
  simp only [Bool.and_eq_true, List.all_eq_true] at h
  intro c hc
  have := h.2 c hc
  unfold isL at this
  simp only [Bool.and_eq_true, decide_eq_true_eq] at this
  exact this
def kD : Key → PyData
  | .inl i => .int i
  | .inr x => .str x
def rowD (r : List Key × Str) : PyData := .tuple [.tuple (r.1.map kD), .str r.2]
def okK : Key → Prop
  | .inl _ => True
  | .inr x => isW x = true
structure RowOk (r : List Key × Str) : Prop where
  ks : ∀ k ∈ r.1, okK k
  an : isW r.2 = true
theorem shpW (n : Nat) {x : Str} (h : isW x = true) : Shp n (.str x) := .str n fun c hc => by have := isW_all h c hc; omega
def sp_init (C : Addr) (K : PySem.W.Frag) : Sp := fun vs H Q _ => ∃ (x dx a : Addr) (xs : List V) (cs : List (Str × Str)), vs = [.ref x, .ref a] ∧ H x = some (.ins C dx []) ∧ H a = some (.lst xs) ∧ TVs K H xs (cs.map colD) ∧ GoodC cs ∧
  ∀ H' l1 l2, H l1 = none → H l2 = none → l1 ≠ l2 → SameB x H H' → H' x = some (.ins C dx (fsT l1 l2)) → H' l1 = some (.lst xs) → H' l2 = some (.lst []) → Q .non H'
def sp_columns (C : Addr) : Sp := fun vs H Q _ => ∃ (x dx l1 l2 : Addr) (xs : List V), vs = [.ref x] ∧ H x = some (.ins C dx (fsT l1 l2)) ∧ H l1 = some (.lst xs) ∧ ∀ p, H p = none → Q (.ref p) (upd H p (.lst xs))
def sp_rows (C : Addr) : Sp := fun vs H Q _ => ∃ (x dx l1 l2 : Addr) (xs : List V), vs = [.ref x] ∧ H x = some (.ins C dx (fsT l1 l2)) ∧ H l2 = some (.lst xs) ∧ ∀ p, H p = none → Q (.ref p) (upd H p (.lst xs))
structure Fit (ks : List Key) (cs : List (Str × Str)) : Prop where
  len : ks.length = cs.length
  ok : ∀ k ∈ ks, okK k
  fit : ∀ (i : Nat) k c, ks[i]? = some k → cs[i]? = some c → fitsV (kV k) c.2 = true
def sp_put (C : Addr) (K : PySem.W.Frag) : Sp := fun vs H Q _ => ∃ (x dx l1 l2 b : Addr) (w : Str) (cxs rws : List V) (cs : List (Str × Str)) (ks : List Key), vs = [.ref x, .ref b, .str w] ∧ H x = some (.ins C dx (fsT l1 l2)) ∧ H l1 = some (.lst cxs) ∧ TVs K H cxs (cs.map colD) ∧ cs.length ≤ 6 ∧
  H l2 = some (.lst rws) ∧ rws.length ≤ 100 ∧ H b = some (.lst (ks.map kV)) ∧ Fit ks cs ∧ isW w = true ∧ ∀ H' q, SameB l2 H H' → H' l2 = some (.lst (rws ++ [.ref q])) → TV K H' (.ref q) (rowD (ks, w)) → Q (.int (rws.length + 1)) H'
/-! the law's own -/
def sp_law_cell (K : PySem.W.Frag) : Sp := fun vs H Q _ => ∃ (a : Addr) (ns : List Int) (k : Int), vs = [.ref a, .int k] ∧ SqL K H a (ns.map V.int) ∧ 0 ≤ k ∧ ∀ v : Int, Q (.int v) H
abbrev Bg (n : Int) : Prop := 0 ≤ n ∧ n < 2147483647
def sp_law_draw : Sp := fun vs H Q _ => ∃ (b : Addr) (n m : Int), vs = [.ref b, .int m] ∧ H b = some (.lst [.int n]) ∧ Bg n ∧ 0 < m ∧ ∀ n' d : Int, Bg n' → 0 ≤ d ∧ d < m → Q (.int d) (upd H b (.lst [.int n']))
structure Wds (ws : List Str) : Prop where
  nd : ws.Nodup
  ok : ∀ w ∈ ws, isW w = true
def sp_law_words : Sp := fun vs H Q _ => ∃ c m : Int, vs = [.int c, .int m] ∧ 1 ≤ m ∧ m ≤ 20 ∧ ∀ (ws : List Str) H' p, (ws.length : Int) = m → Wds ws → Same H H' → H p = none → H' p = some (.lst (ws.map V.str)) → Q (.ref p) H'
def sp_law_pool : Sp := fun vs H Q _ => ∃ c : Int, vs = [.int c] ∧ ∀ (ns : List Int) p, ns.length = 7 → H p = none → Q (.ref p) (upd H p (.lst (ns.map V.int)))
def sp_law_columns (K : PySem.W.Frag) : Sp := fun vs H Q _ => ∃ (b sa : Addr) (n m : Int) (ws : List Str), vs = [.ref b, .ref sa, .int m] ∧ H b = some (.lst [.int n]) ∧ Bg n ∧ H sa = some (.lst (ws.map V.str)) ∧ b ≠ sa ∧ Wds ws ∧ 1 ≤ m ∧ m ≤ 6 ∧ m ≤ (ws.length : Int) ∧
  ∀ H' n' p xs cs, Bg n' → SameB b H H' → H' b = some (.lst [.int n']) → H p = none → H' p = some (.lst xs) → TVs K H' xs (cs.map colD) → GoodC cs → Q (.ref p) H'
def sp_law_values (K : PySem.W.Frag) : Sp := fun vs H Q _ => ∃ (b ca pa sa : Addr) (n : Int) (xs : List V) (cs : List (Str × Str)) (ns : List Int) (ws : List Str), vs = [.ref b, .ref ca, .ref pa, .ref sa] ∧ H b = some (.lst [.int n]) ∧ Bg n ∧ H ca = some (.lst xs) ∧ TVs K H xs (cs.map colD) ∧ GoodC cs ∧
  H pa = some (.lst (ns.map V.int)) ∧ ns.length = 7 ∧ H sa = some (.lst (ws.map V.str)) ∧ Wds ws ∧ 4 ≤ ws.length ∧ b ≠ ca ∧ b ≠ pa ∧ b ≠ sa ∧ ∀ H' n' p ks, Bg n' → SameB b H H' → H' b = some (.lst [.int n']) → H p = none → H' p = some (.tup (ks.map kV)) → Fit ks cs → Q (.ref p) H'
def sp_law_whole : Sp := fun vs H Q _ => ∃ i : Int, vs = [.int i] ∧ Q (.bl true) H
def sp_law_told (C : Addr) (K : PySem.W.Frag) : Sp := fun vs H Q _ => ∃ (x dx l1 l2 k : Addr) (xs ys : List V) (rs : List (List Key × Str)), vs = [.ref x, .ref k] ∧ H x = some (.ins C dx (fsT l1 l2)) ∧ H l2 = some (.lst xs) ∧ H k = some (.lst ys) ∧ TVs K H xs (rs.map rowD) ∧ TVs K H ys (rs.map rowD) ∧ rs.length ≤ 100 ∧
  (∀ r ∈ rs, RowOk r) ∧ ∀ H', Same H H' → Q (.bl true) H'
def sp_law (K : PySem.W.Frag) : Sp := fun vs H Q _ => ∃ (a : Addr) (ns : List Int), vs = [.ref a] ∧ SqF K H a (ns.map V.int) ∧ ns.length ≤ 63 ∧ ∀ H', Q (.bl true) H'
def srt (d : Int) : Str := if d < 2 then "number" else "word"
theorem let_at {d : Int} (h0 : 0 ≤ d) (h : d < 26) : atI ("abcdefghijklmnopqrstuvwxyz" : Str).cps.toList d = some (97 + d.toNat) := by
  have hk : ∀ k : Nat, k < 26 → (letters.cps.toList)[k]? = some (97 + k) := by decide +kernel
  have ek : d = ((d.toNat : Nat) : Int) := by omega
  have q : atI letters.cps.toList ((d.toNat : Nat) : Int) = some (97 + d.toNat) := atI_nat (hk _ (by omega))
  rw [← ek] at q
  exact q
/-- the word with another letter at sp -/
def nmj (w : Str) (sp j : Nat) : Str := tx ((cds w).take sp ++ [97 + j] ++ (cds w).drop (sp + 1))
/-- its beginnings -/
def pre (w : Str) (j : Nat) : Str := tx ((cds w).take (j + 1))
theorem isW_of {w : Str} (h : ∀ x ∈ cds w, 97 ≤ x ∧ x ≤ 122) (h1 : 1 ≤ w.length) (h2 : w.length ≤ 12) : isW w = true := by
  unfold isW
  rw [decide_eq_true h1, decide_eq_true h2]
  simp only [Bool.true_and, List.all_eq_true]
  intro c hc
  have := h c hc
  unfold isL
  rw [decide_eq_true this.1, decide_eq_true this.2]
  rfl
theorem lenA (x y : Str) : (x ++ y).length = x.length + y.length := by rw [← cds_len, ← cds_len, ← cds_len, cds_app, List.length_append]
/-! counts -/
def cD (c : Str × Int) : PyData := .tuple [.str c.1, .int c.2]
/-- counts that are handed in -/
structure Cts (cs : List (Str × Int)) : Prop where
  len : cs.length ≤ 60
  wd : ∀ c ∈ cs, isW c.1 = true
  one : ∀ c ∈ cs, 1 ≤ c.2
theorem shpC {c : Str × Int} (h : isW c.1 = true) : Shp 1 (cD c) := .tup fun d hd => by
  rcases hd with _ | ⟨_, _ | ⟨_, hd⟩⟩
  · exact shpW 0 h
  · exact .int 0 _
  · cases hd
theorem Cts.shp {cs : List (Str × Int)} (h : Cts cs) : Shp 64 (.list (cs.map cD)) := Shp.mono (Shp.lst fun d hd => by obtain ⟨c, hc, rfl⟩ := List.mem_map.mp hd; exact shpC (h.wd c hc)) (by decide)
/-- one step of looking for the commonest -/
def cmS (z : V × Int) (c : Str × Int) : V × Int := if z.2 < c.2 then (.str c.1, c.2) else z
def cmn (cs : List (Str × Int)) : V × Int := cs.foldl cmS (.non, 0)
/-- the same from behind -/
def rvc : List (Str × Int) → V × Int
  | [] => (.non, 0)
  | c :: cs => if (rvc cs).2 ≤ c.2 then (.str c.1, c.2) else rvc cs
abbrev sumC (cs : List (Str × Int)) : Int := (cs.map (·.2)).sum
theorem sumC_cons (c : Str × Int) (cs : List (Str × Int)) : sumC (c :: cs) = sumC cs + c.2 := by
  show ((c :: cs).map (·.2)).sum = _
  rw [List.map_cons, List.sum_cons, Int.add_comm]
def Cn (K : PySem.W.Frag) (H : Hp) (a : Addr) (cs : List (Str × Int)) : Prop := ∃ xs, H a = some (.lst xs) ∧ TVs K H xs (cs.map cD)
theorem Cn.same {K : PySem.W.Frag} {H H' : Hp} {a : Addr} {cs : List (Str × Int)} (h : Cn K H a cs) (s : Same H H') : Cn K H' a cs := let ⟨xs, h1, h2⟩ := h; ⟨xs, s _ _ h1, h2.mono s.t⟩
def sp_commonest (K : PySem.W.Frag) : Sp := fun vs H Q _ => ∃ (a : Addr) (cs : List (Str × Int)), vs = [.ref a] ∧ Cn K H a cs ∧ Q (cmn cs).1 H
def sp_all_rows (K : PySem.W.Frag) : Sp := fun vs H Q _ => ∃ (a : Addr) (cs : List (Str × Int)), vs = [.ref a] ∧ Cn K H a cs ∧ cs.length ≤ 60 ∧ ∀ H', Same H H' → Q (.int (sumC cs)) H'
def sp_misses (K : PySem.W.Frag) : Sp := fun vs H Q _ => ∃ (a : Addr) (cs : List (Str × Int)), vs = [.ref a] ∧ Cn K H a cs ∧ cs.length ≤ 60 ∧ ∀ H', Same H H' → Q (.int (sumC cs - mxD 0 (cs.map (·.2)))) H'
/-! mess -/
/-- counts whose numbers are not too long -/
structure Ctz (cs : List (Str × Int)) : Prop extends Cts cs where
  up : ∀ c ∈ cs, c.2 < 1000000000000000000000000000000000000
theorem sum_bd : ∀ {cs : List (Str × Int)}, (∀ c ∈ cs, 1 ≤ c.2) → (∀ c ∈ cs, c.2 < 1000000000000000000000000000000000000) → (cs.length : Int) ≤ sumC cs ∧ sumC cs ≤ 1000000000000000000000000000000000000 * (cs.length : Int)
  | [], _, _ => ⟨by decide, by decide⟩
  | c :: cs, h1, h2 => by
    have a := h1 c List.mem_cons_self
    have b := h2 c List.mem_cons_self
    have z := sum_bd (cs := cs) (fun x hx => h1 x (List.mem_cons_of_mem _ hx)) (fun x hx => h2 x (List.mem_cons_of_mem _ hx))
    rw [sumC_cons, List.length_cons]
    omega
theorem Ctz.sum {cs : List (Str × Int)} (h : Ctz cs) : (cs.length : Int) ≤ sumC cs ∧ sumC cs ≤ 60000000000000000000000000000000000000 := by
  have z := sum_bd h.one h.up
  have := h.len
  omega
abbrev sqC (cs : List (Str × Int)) : Int := (cs.map fun c => c.2 * c.2).sum
/-- the mess by a measure -/
def messR (cs : List (Str × Int)) (m : Str) : Rat := if m = "misses" then Rat.divInt (sumC cs - mxD 0 (cs.map (·.2))) 1 else if sumC cs = 0 then Rat.divInt 0 1 else Rat.divInt (sumC cs * sumC cs - sqC cs) (sumC cs)
def isM (m : Str) : Prop := m = "misses" ∨ m = "shares"
theorem isM_in (m : Str) (h : isM m) : inV (.str m) [.str "misses", .str "shares"] = true := by
  rcases h with rfl | rfl <;> decide +kernel
theorem isM_out (m : Str) (h : ¬ isM m) : inV (.str m) [.str "misses", .str "shares"] = false := by
  have e : inV (.str m) ((["misses", "shares"] : List Str).map V.str) = decide (m ∈ (["misses", "shares"] : List Str)) := inV_str
  show inV (.str m) ((["misses", "shares"] : List Str).map V.str) = false
  rw [e]
  refine decide_eq_false fun z => h ?_
  rcases List.mem_cons.mp z with z | z
  · exact .inl z
  · exact .inr (List.mem_singleton.mp z)
/-- a text that a refusal shows -/
structure Sh (m : Str) : Prop where
  ok : okS m
  len : m.length ≤ 1000
def sp_check_measure (C : Addr) : Sp := fun vs H Q E => ∃ m : Str, vs = [.str m] ∧ Sh m ∧ ((isM m ∧ Q .non H) ∨ (¬ isM m ∧ E (.ref C) none H))
/-- a new ratio, with other new objects -/
def Nw2 (H : Hp) (Q : VK) (q : Rat) : Prop := ∀ p H', H p = none → Same H H' → H' p = some (rt q) → Q (.ref p) H'
def sp_shares (K : PySem.W.Frag) : Sp := fun vs H Q _ => ∃ (a : Addr) (cs : List (Str × Int)), vs = [.ref a] ∧ Cn K H a cs ∧ Ctz cs ∧ Nw2 H Q (messR cs "shares")
def sp_mess (K : PySem.W.Frag) (C : Addr) : Sp := fun vs H Q E => ∃ (a : Addr) (cs : List (Str × Int)) (m : Str), vs = [.ref a, .str m] ∧ Cn K H a cs ∧ Ctz cs ∧ Sh m ∧ ((isM m ∧ Nw2 H Q (messR cs m)) ∨ (¬ isM m ∧ E (.ref C) none H))
theorem Nw2.of {H H' : Hp} {Q : VK} {q : Rat} (h : Nw2 H Q q) (s : Same H H') : Nw2 H' Q q := fun p H2 hp s2 e => h p H2 (by
  cases z : H p with
  | none => rfl
  | some o => rw [s _ _ z] at hp; cases hp) (s.trans s2) e
theorem Nw2.nw {H : Hp} {Q : VK} {q : Rat} (h : Nw2 H Q q) : Nw H Q q := fun p hp => h p _ hp (same_new hp _) upd_same
/-- a question: its word, its column, its cut -/
structure Qs where
  kd : Str
  at' : Nat
  c : Key
def qV (q : Qs) : List V := [.str q.kd, .int (q.at' : Nat), kV q.c]
inductive NT where
  | lf (cs : List (Str × Int))
  | fk (cs : List (Str × Int)) (q : Qs) (y n : NT)
def NT.lv : NT → Nat
  | .lf _ => 1
  | .fk _ _ y n => y.lv + n.lv
def NT.dp : NT → Nat
  | .lf _ => 0
  | .fk _ _ y n => 1 + max y.dp n.dp
def NT.sz : NT → Nat
  | .lf _ => 1
  | .fk _ _ y n => 1 + y.sz + n.sz
/-- the fields of a fork -/
def ffs (l qa : Addr) (v1 v2 : V) (a b : Int) : List (Str × V) := [("counted", .ref l), ("question", .ref qa), ("yes", v1), ("no", v2), ("leaf_count", .int a), ("depth", .int b)]
/-- the program's trees: objects of the one or the other class -/
inductive ND (CL CF : Addr) (K : PySem.W.Frag) (H : Hp) : V → NT → Prop
  | lf {x dx l : Addr} {cs : List (Str × Int)} : H x = some (.ins CL dx [("counted", .ref l)]) → Cn K H l cs → ND CL CF K H (.ref x) (.lf cs)
  | fk {x dx l qa : Addr} {cs : List (Str × Int)} {q : Qs} {v1 v2 : V} {y n : NT} : H x = some (.ins CF dx (ffs l qa v1 v2 ((y.lv + n.lv : Nat) : Int) ((1 + max y.dp n.dp : Nat) : Int))) → Cn K H l cs → H qa = some (.tup (qV q)) → ND CL CF K H v1 y → ND CL CF K H v2 n → ND CL CF K H (.ref x) (.fk cs q y n)
theorem ND.same {CL CF : Addr} {K : PySem.W.Frag} {H H' : Hp} {v : V} {t : NT} (h : ND CL CF K H v t) (s : Same H H') : ND CL CF K H' v t := by
  induction h with
  | lf h1 h2 => exact .lf (s _ _ h1) (h2.same s)
  | fk h1 h2 h3 _ _ i1 i2 => exact .fk (s _ _ h1) (h2.same s) (s _ _ h3) i1 i2
theorem _root_.L2.SameB.ti {b C dx : Addr} {H H' : Hp} {fs : List (Str × V)} (s : SameB b H H') (h : H b = some (.ins C dx fs)) : SameT H H' := fun a xs q => s a _ (ne_of q h (by intro z; cases z)) q
theorem Cn.sbx {K : PySem.W.Frag} {H H' : Hp} {x a C dx : Addr} {fs : List (Str × V)} {cs : List (Str × Int)} (h : Cn K H a cs) (s : SameB x H H') (hx : H x = some (.ins C dx fs)) : Cn K H' a cs := by
  obtain ⟨xs, h1, h2⟩ := h
  exact ⟨xs, s _ _ (ne_of h1 hx (by intro z; cases z)) h1, h2.mono (s.ti hx)⟩
theorem ND.sbx {CL CF : Addr} {K : PySem.W.Frag} {H H' : Hp} {x dx : Addr} {fs : List (Str × V)} {v : V} {t : NT} (h : ND CL CF K H v t) (s : SameB x H H') (hx : H x = some (.ins CF dx fs)) (ne : CL ≠ CF) (lt : fs.length < 6) : ND CL CF K H' v t := by
  induction h with
  | lf h1 h2 =>
    refine .lf (s _ _ (ne_of h1 hx ?_) h1) (h2.sbx s hx)
    intro z
    injection z with z _ _
    exact ne z
  | fk h1 h2 h3 _ _ i1 i2 =>
    refine .fk (s _ _ (ne_of h1 hx ?_) h1) (h2.sbx s hx) (s _ _ (ne_of h3 hx (by intro z; cases z)) h3) i1 i2
    intro z
    injection z with _ _ z
    rw [← z] at lt
    exact absurd lt (by show ¬ 6 < 6; decide)
def sp_init_node (CL CF : Addr) : Sp := fun vs H Q _ => ∃ (x a C dx : Addr) (xs : List V), vs = [.ref x, .ref a] ∧ H x = some (.ins C dx []) ∧ (C = CL ∨ C = CF) ∧ H a = some (.lst xs) ∧ ∀ l, H l = none → Q .non (upd (upd H l (.lst xs)) x (.ins C dx [("counted", .ref l)]))
def sp_lleaves (CL : Addr) (n : Int) : Sp := fun vs H Q _ => ∃ (x dx : Addr) (fs : List (Str × V)), vs = [.ref x] ∧ H x = some (.ins CL dx fs) ∧ Q (.int n) H
def sp_ffield (CF : Addr) (f : Str) : Sp := fun vs H Q _ => ∃ (x dx : Addr) (fs : List (Str × V)) (v : V), vs = [.ref x] ∧ H x = some (.ins CF dx fs) ∧ fs.lookup f = some v ∧ Q v H
def sp_init_fork (CL CF : Addr) (K : PySem.W.Frag) : Sp := fun vs H Q _ => ∃ (x a qa dx : Addr) (v1 v2 : V) (cs : List (Str × Int)) (q : Qs) (y n : NT), vs = [.ref x, .ref a, .ref qa, v1, v2] ∧ H x = some (.ins CF dx []) ∧ Cn K H a cs ∧ H qa = some (.tup (qV q)) ∧ ND CL CF K H v1 y ∧ ND CL CF K H v2 n ∧
  ∀ H', SameB x H H' → ND CL CF K H' (.ref x) (.fk cs q y n) → Q .non H'
theorem lne {K : PySem.W.Frag} {CL CF : Addr} (h1 : PySem.W.kitOne K (.ref CL) (.ref CF) = some false) (h2 : PySem.W.kitOne K (.ref CF) (.ref CF) = some true) : CL ≠ CF := fun z => by
  rw [z, h2] at h1
  cases h1
section
variable {CL CF : Addr} {K : PySem.W.Frag} {H : Hp} {v : V} {t : NT} {Q : VK} {E : XK} {σ : St}
theorem nd_leaves (h : ND CL CF K H v t) (q : Q (.int (t.lv : Nat)) H) : (∃ a dx fs, v = .ref a ∧ H a = some (.ins CL dx fs) ∧ fs.lookup ("leaves" : Str) = none ∧ tNil σ H fun vs H2 => sp_lleaves CL 1 (v :: vs) H2 Q E) ∨ (∃ a dx fs, v = .ref a ∧ H a = some (.ins CF dx fs) ∧ fs.lookup ("leaves" : Str) = none ∧ tNil σ H fun vs H2 => sp_ffield CF "leaf_count" (v :: vs) H2 Q E) := by
  cases h with
  | lf h1 h2 => exact .inl ⟨_, _, _, rfl, h1, rfl, _, _, _, rfl, h1, q⟩
  | fk h1 h2 h3 h4 h5 => exact .inr ⟨_, _, _, rfl, h1, rfl, _, _, _, _, rfl, h1, rfl, q⟩
theorem nd_deep (h : ND CL CF K H v t) (q : Q (.int (t.dp : Nat)) H) : (∃ a dx fs, v = .ref a ∧ H a = some (.ins CL dx fs) ∧ fs.lookup ("deep" : Str) = none ∧ tNil σ H fun vs H2 => sp_lleaves CL 0 (v :: vs) H2 Q E) ∨ (∃ a dx fs, v = .ref a ∧ H a = some (.ins CF dx fs) ∧ fs.lookup ("deep" : Str) = none ∧ tNil σ H fun vs H2 => sp_ffield CF "depth" (v :: vs) H2 Q E) := by
  cases h with
  | lf h1 h2 => exact .inl ⟨_, _, _, rfl, h1, rfl, _, _, _, rfl, h1, q⟩
  | fk h1 h2 h3 h4 h5 => exact .inr ⟨_, _, _, rfl, h1, rfl, _, _, _, _, rfl, h1, rfl, q⟩
end
def addW (acc : List Str) (w : Str) : List Str := if w ∈ acc then acc else acc ++ [w]
def dkv (L : List Str) (f : Str → Int) : List (Key × V) := L.map fun w => (Sum.inr w, V.int (f w))
theorem val_dkv (f : Str → Int) (w : Str) : ∀ L : List Str, valV (dkv L f) (.inr w) = if w ∈ L then some (.int (f w)) else none
  | [] => rfl
  | u :: L => by
    show valV ((Sum.inr u, V.int (f u)) :: dkv L f) (.inr w) = _
    by_cases e : u = w
    · subst e
      rw [valV_pos rfl, if_pos List.mem_cons_self]
    · rw [valV_neg (by intro z; injection z with z; exact e z), val_dkv f w L]
      by_cases m : w ∈ L
      · rw [if_pos m, if_pos (List.mem_cons_of_mem _ m)]
      · rw [if_neg m, if_neg (fun z => (List.mem_cons.mp z).elim (fun q => e q.symm) m)]
theorem dkv_keys (L : List Str) (f : Str → Int) : (dkv L f).map (·.1) = L.map Sum.inr := by
  unfold dkv
  rw [List.map_map]
  rfl
theorem addW_mem {acc : List Str} {w u : Str} : u ∈ addW acc w ↔ u ∈ acc ∨ u = w := by
  unfold addW
  split
  · rename_i h
    exact ⟨.inl, fun z => z.elim id fun e => e ▸ h⟩
  · rw [List.mem_append, List.mem_singleton]
theorem put_dkv {L : List Str} {f : Str → Int} {w : Str} (v : Int) (nd : L.Nodup) : putK (dkv L f) (.inr w) (.int v) = dkv (addW L w) (fun u => if u = w then v else f u) := by
  have hv := val_dkv f w L
  unfold addW
  by_cases m : w ∈ L
  · rw [if_pos m]
    unfold putK
    rw [valV_any, hv, if_pos m]
    rw [if_pos (by rfl)]
    unfold dkv
    rw [List.map_map]
    refine List.map_congr_left fun u hu => ?_
    show (if (Sum.inr u : Key) = Sum.inr w then ((Sum.inr u : Key), V.int v) else (Sum.inr u, V.int (f u))) = (Sum.inr u, V.int (if u = w then v else f u))
    by_cases e : u = w
    · rw [if_pos (by rw [e]), if_pos e]
    · rw [if_neg (fun z => e (by injection z)), if_neg e]
  · rw [if_neg m, putK_new _ (by rw [hv, if_neg m])]
    unfold dkv
    rw [List.map_append]
    congr 1
    · refine List.map_congr_left fun u hu => ?_
      show (Sum.inr u, V.int (f u)) = (Sum.inr u, V.int (if u = w then v else f u))
      rw [if_neg (fun e : u = w => m (by rw [← e]; exact hu))]
    · show _ = [((Sum.inr w : Key), V.int (if w = w then v else f w))]
      rw [if_pos rfl]
theorem _root_.L2.SameB.tr {b : Addr} {H H1 H2 : Hp} (s : SameB b H H1) (u : SameB b H1 H2) : SameB b H H2 := fun c o n e => u _ _ n (s _ _ n e)
theorem sb_at {b : Addr} {H : Hp} {o : HO} : SameB b H (upd H b o) := fun c u n e => by rw [upd_ne n]; exact e
def sp_init_fork2 (CL CF : Addr) (K : PySem.W.Frag) : Sp := fun vs H Q _ => ∃ (x a qa dx : Addr) (v1 v2 : V) (xs : List V) (y n : NT), vs = [.ref x, .ref a, .ref qa, v1, v2] ∧ H x = some (.ins CF dx []) ∧ H a = some (.lst xs) ∧ ND CL CF K H v1 y ∧ ND CL CF K H v2 n ∧
  ∀ H' l, SameB x H H' → H l = none → H' x = some (.ins CF dx (ffs l qa v1 v2 ((y.lv + n.lv : Nat) : Int) ((1 + max y.dp n.dp : Nat) : Int))) → H' l = some (.lst xs) → Q .non H'
/-- the heap without the pile's own list -/
def del (H : Hp) (z : Addr) : Hp := fun a => if a = z then none else H a
theorem del_at {H : Hp} {z a : Addr} {o : HO} (h : H a = some o) (n : a ≠ z) : del H z a = some o := by unfold del; rw [if_neg n]; exact h
theorem del_same (H : Hp) (z : Addr) : Same (del H z) H := fun a o h => by
  unfold del at h
  split at h
  · cases h
  · exact h
theorem del_ne {H : Hp} {z a : Addr} {o : HO} (h : del H z a = some o) : a ≠ z := fun e => by
  unfold del at h
  rw [if_pos e] at h
  cases h
theorem del_mono {H H' : Hp} (z : Addr) (s : Same H H') : Same (del H z) (del H' z) := fun a o h => del_at (s _ _ (del_same H z a o h)) (del_ne h)
theorem del_upd {H H' : Hp} {z : Addr} (o : HO) (s : Same (del H z) (del H' z)) : Same (del H z) (del (upd H' z o) z) := fun a u h => by
  have n := del_ne h
  refine del_at ?_ n
  rw [upd_ne n]
  exact del_same H' z _ _ (s a u h)
theorem del_t {H : Hp} {z : Addr} {xs : List V} (h : H z = some (.lst xs)) : SameT H (del H z) := fun a ys e => del_at e (ne_of e h (by intro z; cases z))
theorem Cn.del {K : PySem.W.Frag} {H : Hp} {z a : Addr} {xs : List V} {cs : List (Str × Int)} (h : Cn K H a cs) (hz : H z = some (.lst xs)) (n : a ≠ z) : Cn K (del H z) a cs := by
  obtain ⟨ys, h1, h2⟩ := h
  exact ⟨ys, del_at h1 n, h2.mono (del_t hz)⟩
theorem pop_at (ys : List V) (x1 x2 : V) : (ys ++ [x1, x2])[(ys ++ [x1, x2]).length - 1]? = some x2 := by
  rw [List.length_append, List.getElem?_append_right (by simp)]
  have e : ys.length + [x1, x2].length - 1 - ys.length = 1 := by show ys.length + 2 - 1 - ys.length = 1; omega
  rw [e]
  rfl
theorem pop_rest (ys : List V) (x1 x2 : V) : (ys ++ [x1, x2]).dropLast = ys ++ [x1] := by
  rw [List.dropLast_append_of_ne_nil (by simp)]
  rfl
theorem last_ix (n : Nat) : ixN (n + 1) (-1) = some n := by
  unfold ixN
  rw [if_neg (by decide), if_pos (by omega)]
  congr 1
  omega
theorem last_at (ys : List V) (x : V) : atI (ys ++ [x]) (-1) = some x := by
  unfold atI
  rw [List.length_append]
  show (ixN (ys.length + 1) (-1)).bind _ = _
  rw [last_ix]
  show (ys ++ [x])[ys.length]? = some x
  rw [List.getElem?_append_right (Nat.le_refl _), Nat.sub_self]
  rfl
theorem set_last (ys : List V) (x v : V) : (ys ++ [x]).set ys.length v = ys ++ [v] := by
  rw [List.set_append_right _ _ (Nat.le_refl _), Nat.sub_self]
  rfl
theorem noMixC : ∀ a b : List (Str × Int), SeqAt.noMixAll (a.map cD) (b.map cD) = true
  | [], [] => by simp [SeqAt.noMixAll]
  | [], _ :: _ => by simp [SeqAt.noMixAll]
  | _ :: _, [] => by simp [SeqAt.noMixAll]
  | x :: a, y :: b => by
    rw [List.map_cons, List.map_cons, SeqAt.noMixAll, noMixC a b]
    simp [cD, SeqAt.noMix, SeqAt.noMixAll]
theorem cs_eqv (a : List (Str × Int)) : PyData.eqv (.list (a.map cD)) (.list (a.map cD)) = true := by
  have nm : SeqAt.noMix (.list (a.map cD)) (.list (a.map cD)) = true := by
    rw [SeqAt.noMix]
    exact noMixC a a
  rw [← SeqAt.same_eq_eqv _ _ nm, PyProof.Rows.same_iff]
/-- a word that holds of a lesser number -/
structure Fal (Pv : Nat → St → Hp → Prop) (m : Nat) (σ : St) (H : Hp) : Prop where
  o : ∃ m', m' < m ∧ Pv m' σ H
/-- while, by a word that tells a number that falls -/
theorem while_ix {c : TT} {tb : TS} {D : Ends} {σ : St} {H : Hp} (Pv : Nat → St → Hp → Prop) (m : Nat) (h0 : Pv m σ H)
    (hs : ∀ m σ H, Pv m σ H → c σ H fun b H1 => if b = true then tb { D with nx := Fal Pv m, ct := Fal Pv m, bk := D.nx } σ H1 else D.nx σ H1)
    (mono : ∀ σ H Q Q', (∀ b H1, Q b H1 → Q' b H1) → c σ H Q → c σ H Q') : tWhile c tb D σ H :=
  ⟨Pv, ⟨m, h0⟩, fun m σ H p => mono σ H _ _ (fun b H1 q => by
    cases b with
    | true => exact ⟨_, fun _ _ z => z.o, q⟩
    | false => exact q) (hs m σ H p)⟩
theorem sb_of {b : Addr} {H H' : Hp} (s : Same H H') : SameB b H H' := fun _ _ _ e => s _ _ e
/-! costs of a grown tree -/
def sp_pick : Sp := fun vs H Q _ => ∃ c k m : Int, vs = [.int c, .int k, .int m] ∧ 0 ≤ k ∧ k ≤ 60 ∧ 0 < m ∧ m ≤ 1000 ∧ ∀ v : Int, 0 ≤ v → v < m → Q (.int v) H
def sp_lowest23 : Sp := fun vs H Q _ => ∃ t b : Int, vs = [.int t, .int b] ∧ 0 < b ∧ Bz 8000 b ∧ Nw H Q (Rat.divInt t b)
theorem rt_one (n : Int) : rt (Rat.divInt n 1) = .tup [.int n, .int 1] := by
  have g1 := M.G_pos n 1
  have g2 : (M.G n 1).natAbs ≤ (1 : Int).natAbs := M.G_le (by decide)
  have g3 : (1 : Int).natAbs = 1 := rfl
  have g : M.G n 1 = 1 := by omega
  have a := M.num_low (t := n) (b := 1) (by decide)
  have b := M.den_low (t := n) (b := 1) (by decide)
  rw [g, Int.ediv_one] at a b
  show HO.tup [.int (Rat.divInt n 1).num, .int ((Rat.divInt n 1).den : Int)] = _
  rw [← a, ← b]
/-- small counts, for so many leaves -/
structure Ck (k : Nat) (cs : List (Str × Int)) : Prop where
  len : cs.length ≤ 3 * k
  wd : ∀ c ∈ cs, isW c.1 = true
  one : ∀ c ∈ cs, 1 ≤ c.2
  sm : sumC cs ≤ 6 * (k : Int)
theorem sumC_le : ∀ {cs : List (Str × Int)}, (∀ c ∈ cs, 1 ≤ c.2) → 0 ≤ sumC cs ∧ ∀ c ∈ cs, c.2 ≤ sumC cs
  | [], _ => ⟨Int.le_refl _, fun c hc => by cases hc⟩
  | d :: cs, h => by
    have h1 := h d List.mem_cons_self
    obtain ⟨i1, i2⟩ := sumC_le (cs := cs) fun c hc => h c (List.mem_cons_of_mem _ hc)
    rw [sumC_cons]
    refine ⟨by omega, fun c hc => ?_⟩
    rcases List.mem_cons.mp hc with e | hc
    · rw [e]; omega
    · have := i2 c hc; omega
theorem Ck.ctz {k : Nat} {cs : List (Str × Int)} (h : Ck k cs) (hk : k ≤ 20) : Ctz cs := by
  have l := h.len
  have s := h.sm
  refine ⟨⟨by omega, h.wd, h.one⟩, fun c hc => ?_⟩
  have := (sumC_le h.one).2 c hc
  omega
theorem Ck.up {k m : Nat} {cs : List (Str × Int)} (h : Ck k cs) (l : k ≤ m) : Ck m cs := ⟨by have := h.len; omega, h.wd, h.one, by have := h.sm; omega⟩
def sp_counts23 (K : PySem.W.Frag) : Sp := fun vs H Q _ => ∃ c : Int, vs = [.int c] ∧ ∀ H' p cs, Same H H' → H p = none → Cn K H' p cs → Ck 1 cs → Q (.ref p) H'
def sp_together23 (K : PySem.W.Frag) : Sp := fun vs H Q _ => ∃ (a b : Addr) (cs ds : List (Str × Int)) (k l : Nat), vs = [.ref a, .ref b] ∧ Cn K H a cs ∧ Cn K H b ds ∧ Ck k cs ∧ Ck l ds ∧ k + l ≤ 20 ∧ ∀ H' p es, Same H H' → H p = none → Cn K H' p es → Ck (k + l) es → Q (.ref p) H'
def sp_mess23 (K : PySem.W.Frag) : Sp := fun vs H Q _ => ∃ (a : Addr) (cs : List (Str × Int)) (m : Str), vs = [.ref a, .str m] ∧ Cn K H a cs ∧ Ctz cs ∧ isM m ∧ Nw2 H Q (messR cs m)
/-- a tree's costs -/
inductive CQ where
  | en (q : Rat)
  | fk (q : Rat) (y n : CQ)
def CQ.dp : CQ → Nat
  | .en _ => 0
  | .fk _ y n => 1 + max y.dp n.dp
def rtD (q : Rat) : PyData := .tuple [.int q.num, .int (q.den : Int)]
def cqD : CQ → PyData
  | .en q => .tuple [.str "end", rtD q]
  | .fk q y n => .tuple [.str "fork", rtD q, cqD y, cqD n]
inductive CV (K : PySem.W.Frag) (H : Hp) : V → CQ → Prop
  | en {p r : Addr} {q : Rat} : H p = some (.tup [.str "end", .ref r]) → H r = some (rt q) → CV K H (.ref p) (.en q)
  | fk {p r : Addr} {q : Rat} {v1 v2 : V} {y n : CQ} : H p = some (.tup [.str "fork", .ref r, v1, v2]) → H r = some (rt q) → CV K H v1 y → CV K H v2 n → CV K H (.ref p) (.fk q y n)
theorem CV.mono {K : PySem.W.Frag} {H H' : Hp} {v : V} {c : CQ} (h : CV K H v c) (s : SameT H H') : CV K H' v c := by
  induction h with
  | en h1 h2 => exact .en (s _ _ h1) (s _ _ h2)
  | fk h1 h2 _ _ i1 i2 => exact .fk (s _ _ h1) (s _ _ h2) i1 i2
theorem CV.same {K : PySem.W.Frag} {H H' : Hp} {v : V} {c : CQ} (h : CV K H v c) (s : Same H H') : CV K H' v c := h.mono s.t
theorem dvR {K : PySem.W.Frag} {H : Hp} {r : Addr} {q : Rat} (h : H r = some (rt q)) : DV K H (.ref r) (rtD q) := .tup (SqT.of h) (.cons (.int _) (.cons (.int _) .nil))
theorem CV.dv {K : PySem.W.Frag} {H : Hp} {v : V} {c : CQ} (h : CV K H v c) : DV K H v (cqD c) := by
  induction h with
  | en h1 h2 => exact .tup (SqT.of h1) (.cons (.str _) (.cons (dvR h2) .nil))
  | fk h1 h2 _ _ i1 i2 => exact .tup (SqT.of h1) (.cons (.str _) (.cons (dvR h2) (.cons i1 (.cons i2 .nil))))
theorem noMixQ : ∀ c : CQ, SeqAt.noMix (cqD c) (cqD c) = true
  | .en q => by simp [cqD, rtD, SeqAt.noMix, SeqAt.noMixAll]
  | .fk q y n => by
    rw [cqD]
    simp [rtD, SeqAt.noMix, SeqAt.noMixAll, noMixQ y, noMixQ n]
theorem cq_eqv (c : CQ) : PyData.eqv (cqD c) (cqD c) = true := by rw [← SeqAt.same_eq_eqv _ _ (noMixQ c), PyProof.Rows.same_iff]
theorem shpRt (n : Nat) (q : Rat) : Shp (n + 1) (rtD q) := .tup fun d hd => by
  rcases hd with _ | ⟨_, _ | ⟨_, hd⟩⟩
  · exact .int n _
  · exact .int n _
  · cases hd
theorem shpC' : ∀ c : CQ, Shp (c.dp + 2) (cqD c)
  | .en q => .tup fun d hd => by
    rcases hd with _ | ⟨_, _ | ⟨_, hd⟩⟩
    · exact .str _ (by decide +kernel)
    · exact shpRt 0 q
    · cases hd
  | .fk q y n => by
    have hy := shpC' y
    have hn := shpC' n
    refine Shp.tup (n := (1 + max y.dp n.dp) + 1) fun d hd => ?_
    rcases hd with _ | ⟨_, _ | ⟨_, _ | ⟨_, _ | ⟨_, hd⟩⟩⟩⟩
    · exact .str _ (by decide +kernel)
    · exact shpRt _ q
    · exact hy.mono (by omega)
    · exact hn.mono (by omega)
    · cases hd
/-- the costs of a tree by a measure -/
def NT.co (m : Str) : NT → CQ
  | .lf cs => .en (messR cs m)
  | .fk cs _ y n => .fk (messR cs m) (y.co m) (n.co m)
theorem NT.co_dp (m : Str) : ∀ t : NT, (t.co m).dp = t.dp
  | .lf _ => rfl
  | .fk _ _ y n => by show 1 + max (y.co m).dp (n.co m).dp = 1 + max y.dp n.dp; rw [y.co_dp m, n.co_dp m]
def NT.ct : NT → List (Str × Int)
  | .lf cs => cs
  | .fk cs _ _ _ => cs
inductive Nz : NT → Prop
  | lf {cs : List (Str × Int)} : Ctz cs → Nz (.lf cs)
  | fk {cs : List (Str × Int)} {q : Qs} {y n : NT} : Ctz cs → Nz y → Nz n → Nz (.fk cs q y n)
theorem NT.dp_lv : ∀ t : NT, t.dp < t.lv
  | .lf _ => Nat.lt_succ_self 0
  | .fk _ _ y n => by
    have := y.dp_lv
    have := n.dp_lv
    show 1 + max y.dp n.dp < y.lv + n.lv
    omega
/-- what stands in a pile: an object, its counts, its costs by both measures -/
inductive EV (CL CF : Addr) (K : PySem.W.Frag) (H : Hp) : V → NT → Prop
  | mk {p c dl : Addr} {u u1 u2 : V} {t : NT} : H p = some (.tup [u, .ref c, .ref dl]) → ND CL CF K H u t → Cn K H c t.ct → H dl = some (.lst [u1, u2]) → CV K H u1 (t.co "shares") → CV K H u2 (t.co "misses") → EV CL CF K H (.ref p) t
theorem EV.same {CL CF : Addr} {K : PySem.W.Frag} {H H' : Hp} {v : V} {t : NT} (h : EV CL CF K H v t) (s : Same H H') : EV CL CF K H' v t := by
  cases h with
  | mk h1 h2 h3 h4 h5 h6 => exact .mk (s _ _ h1) (h2.same s) (h3.same s) (s _ _ h4) (h5.same s) (h6.same s)
structure Tg (t : NT) : Prop where
  z : Nz t
  c : Ck t.lv t.ct
def sp_costed (CL CF : Addr) (K : PySem.W.Frag) (C : Addr) (d : Nat) : Sp := fun vs H Q E => ∃ (v : V) (m : Str) (t : NT), vs = [v, .str m] ∧ ND CL CF K H v t ∧ Nz t ∧ Sh m ∧ t.dp ≤ d ∧ ((isM m ∧ ∀ H' u, Same H H' → CV K H' u (t.co m) → Q u H') ∨ (¬ isM m ∧ E (.ref C) none H))
def sp_leaf23 (CL CF : Addr) (K : PySem.W.Frag) : Sp := fun vs H Q _ => ∃ (c : Int) (z : Addr) (zs : List V), vs = [.int c] ∧ H z = some (.lst zs) ∧ ∀ H' v t, Same H H' → EV CL CF K (del H' z) v t → Tg t → t.lv = 1 → Q v H'
def sp_fork23 (CL CF : Addr) (K : PySem.W.Frag) : Sp := fun vs H Q _ => ∃ (c : Int) (z : Addr) (zs : List V) (v1 v2 : V) (t1 t2 : NT), vs = [.int c, v1, v2] ∧ H z = some (.lst zs) ∧ EV CL CF K (del H z) v1 t1 ∧ EV CL CF K (del H z) v2 t2 ∧ Tg t1 ∧ Tg t2 ∧ t1.lv + t2.lv ≤ 20 ∧ ∀ H' v t, Same H H' → EV CL CF K (del H' z) v t → Tg t → t.lv = t1.lv + t2.lv → Q v H'
def sp_refused23 (CL CF : Addr) (K : PySem.W.Frag) : Sp := fun vs H Q _ => ∃ (v : V) (m : Str) (t : NT), vs = [v, .str m] ∧ ND CL CF K H v t ∧ Nz t ∧ Sh m ∧ t.dp ≤ 20 ∧ ¬ isM m ∧ ∀ H', Same H H' → Q (.bl true) H'
theorem sum_in {f : Str → Int} {w : Str} {v : Int} : ∀ {L : List Str}, L.Nodup → w ∈ L → (L.map fun u => if u = w then v else f u).sum = (L.map f).sum + v - f w
  | a :: L, nd, h => by
    obtain ⟨n1, n2⟩ := List.nodup_cons.mp nd
    rw [List.map_cons, List.map_cons, List.sum_cons, List.sum_cons]
    by_cases e : a = w
    · have z : (L.map fun u => if u = w then v else f u) = L.map f := List.map_congr_left fun u hu => if_neg fun x => n1 (by rw [e, ← x]; exact hu)
      rw [z, if_pos e, e]
      omega
    · have hm : w ∈ L := (List.mem_cons.mp h).resolve_left (Ne.symm e)
      rw [if_neg e, sum_in n2 hm]
      omega
theorem sum_put {L : List Str} {f : Str → Int} {w : Str} {v : Int} (nd : L.Nodup) : ((addW L w).map fun u => if u = w then v else f u).sum = (L.map f).sum + v - (if w ∈ L then f w else 0) := by
  by_cases m : w ∈ L
  · have ea : addW L w = L := if_pos m
    rw [ea, if_pos m]
    exact sum_in nd m
  · have ea : addW L w = L ++ [w] := if_neg m
    have z : (L.map fun u => if u = w then v else f u) = L.map f := List.map_congr_left fun u hu => if_neg fun x => m (by rw [← x]; exact hu)
    rw [ea, if_neg m, List.map_append, List.sum_append, z]
    show (L.map f).sum + ((if w = w then v else f w) + 0) = _
    rw [if_pos rfl]
    omega
theorem addW_nodup {L : List Str} {w : Str} (nd : L.Nodup) : (addW L w).Nodup := by
  unfold addW
  split
  · exact nd
  · rename_i h
    exact List.nodup_append.mpr ⟨nd, List.nodup_cons.mpr ⟨fun z => (by cases z), List.nodup_nil⟩, fun a ha b hb e => h (by rw [List.mem_singleton.mp hb] at e; rw [← e]; exact ha)⟩
theorem addW_len (L : List Str) (w : Str) : (addW L w).length ≤ L.length + 1 := by
  unfold addW
  split
  · omega
  · rw [List.length_append]; exact Nat.le_refl _
/-- what a dict of counts holds -/
structure Dq (cs : List (Str × Int)) (L : List Str) (f : Str → Int) : Prop where
  nd : L.Nodup
  len : L.length ≤ cs.length
  ok : ∀ w ∈ L, isW w = true ∧ 1 ≤ f w
  sm : (L.map f).sum = sumC cs
theorem sumC_app (a b : List (Str × Int)) : sumC (a ++ b) = sumC a + sumC b := by
  show ((a ++ b).map (·.2)).sum = _
  rw [List.map_append, List.sum_append]
theorem Dq.put {cs : List (Str × Int)} {L : List Str} {f : Str → Int} {c : Str × Int} (h : Dq cs L f) (hw : isW c.1 = true) (h1 : 1 ≤ c.2) : Dq (cs ++ [c]) (addW L c.1) (fun u => if u = c.1 then (if c.1 ∈ L then f c.1 else 0) + c.2 else f u) := by
  refine ⟨addW_nodup h.nd, ?_, fun w hm => ?_, ?_⟩
  · have := addW_len L c.1
    have := h.len
    rw [List.length_append]
    show _ ≤ _ + 1
    omega
  · rcases addW_mem.mp hm with hm | hm
    · by_cases e : w = c.1
      · rw [if_pos e]
        refine ⟨(h.ok w hm).1, ?_⟩
        rw [if_pos (by rw [← e]; exact hm)]
        have := (h.ok w hm).2
        rw [e] at this
        omega
      · rw [if_neg e]
        exact h.ok w hm
    · rw [if_pos hm, hm]
      refine ⟨hw, ?_⟩
      split
      · rename_i m
        have := (h.ok _ m).2
        omega
      · omega
  · rw [sum_put h.nd, h.sm, sumC_app, show sumC [c] = c.2 from Int.add_zero c.2]
    omega
theorem perm_sumI {l1 l2 : List Int} (h : l1.Perm l2) : l1.sum = l2.sum := by
  induction h with
  | nil => rfl
  | cons x _ ih => rw [List.sum_cons, List.sum_cons, ih]
  | swap x y l => rw [List.sum_cons, List.sum_cons, List.sum_cons, List.sum_cons]; omega
  | trans _ _ i1 i2 => exact i1.trans i2
theorem Dq.out {cs : List (Str × Int)} {L M : List Str} {f : Str → Int} {k : Nat} (h : Dq cs L f) (p : M.Perm L) (hl : cs.length ≤ 3 * k) (hs : sumC cs ≤ 6 * (k : Int)) : Ck k (M.map fun w => (w, f w)) := by
  refine ⟨?_, fun c hc => ?_, fun c hc => ?_, ?_⟩
  · rw [List.length_map, p.length_eq]
    have := h.len
    omega
  · obtain ⟨w, hw, rfl⟩ := List.mem_map.mp hc
    exact (h.ok w (p.mem_iff.mp hw)).1
  · obtain ⟨w, hw, rfl⟩ := List.mem_map.mp hc
    exact (h.ok w (p.mem_iff.mp hw)).2
  · show ((M.map fun w => (w, f w)).map (·.2)).sum ≤ _
    rw [List.map_map]
    have e : (M.map f).sum = (L.map f).sum := perm_sumI (p.map f)
    show (M.map f).sum ≤ _
    rw [e, h.sm]
    exact hs
theorem rep_word {a b : Str} {c d : Nat} {k : Int} (ha : cds a = [c]) (hb : cds b = [d]) (hc : 97 ≤ c ∧ c ≤ 122) (hd : 97 ≤ d ∧ d ≤ 122) (k1 : 1 ≤ k) (k2 : k ≤ 11) : isW (a ++ repS b k) = true := by
  have e : cds (a ++ repS b k) = c :: (List.replicate k.toNat [d]).flatten := by
    rw [cds_app, ha]
    show [c] ++ (repS b k).cps.toList = _
    rw [rep_cds]
    show [c] ++ (List.replicate k.toNat (cds b)).flatten = _
    rw [hb]
    rfl
  have l : (a ++ repS b k).length = 1 + k.toNat := by
    have := congrArg List.length e
    rw [cds_len] at this
    rw [this, List.length_cons, len_rep]
    show k.toNat * 1 + 1 = _
    omega
  refine isW_of (fun x hx => ?_) (by omega) (by omega)
  rw [e] at hx
  rcases List.mem_cons.mp hx with z | z
  · rw [z]; exact hc
  · obtain ⟨m, hm, hx⟩ := List.mem_flatten.mp z
    rw [List.eq_of_mem_replicate hm] at hx
    rw [List.mem_singleton.mp hx]
    exact hd
/-- the measures, in the law's order -/
def msr : Nat → Str
  | 0 => "shares"
  | _ => "misses"
theorem msr_at {i : Nat} {x : V} (h : ([.str "shares", .str "misses"] : List V)[i]? = some x) : x = .str (msr i) ∧ i < 2 := by
  rcases i with _ | _ | i
  · exact ⟨(Option.some.inj h).symm, by decide⟩
  · exact ⟨(Option.some.inj h).symm, by decide⟩
  · cases h
theorem msr_is (i : Nat) : isM (msr i) := by
  cases i with
  | zero => exact .inr rfl
  | succ i => exact .inl rfl
/-- costs by the measures so far -/
def Dus (K : PySem.W.Frag) (H : Hp) (f : Str → CQ) (ys : List V) (i : Nat) : Prop := ys.length = i ∧ ∀ (j : Nat) u, ys[j]? = some u → CV K H u (f (msr j))
theorem Dus.mono {K : PySem.W.Frag} {H H' : Hp} {f : Str → CQ} {ys : List V} {i : Nat} (h : Dus K H f ys i) (s : SameT H H') : Dus K H' f ys i := ⟨h.1, fun j u e => (h.2 j u e).mono s⟩
theorem Dus.snoc {K : PySem.W.Frag} {H : Hp} {f : Str → CQ} {ys : List V} {i : Nat} {u : V} (h : Dus K H f ys i) (c : CV K H u (f (msr i))) : Dus K H f (ys ++ [u]) (i + 1) := by
  refine ⟨by rw [List.length_append, h.1]; rfl, fun j w e => ?_⟩
  by_cases l : j < ys.length
  · rw [List.getElem?_append_left l] at e
    exact h.2 j w e
  · have hj : j = ys.length := by have := (List.getElem?_eq_some_iff.mp e).1; rw [List.length_append] at this; have : j < ys.length + 1 := this; omega
    rw [hj, List.getElem?_append_right (Nat.le_refl _), Nat.sub_self] at e
    have e : some u = some w := e
    rw [← Option.some.inj e, hj, h.1]
    exact c
theorem Dus.two {K : PySem.W.Frag} {H : Hp} {f : Str → CQ} {ys : List V} (h : Dus K H f ys 2) : ∃ u1 u2, ys = [u1, u2] ∧ CV K H u1 (f "shares") ∧ CV K H u2 (f "misses") := by
  obtain ⟨l, h⟩ := h
  match ys, l with
  | [u1, u2], _ => exact ⟨u1, u2, rfl, h 0 u1 rfl, h 1 u2 rfl⟩
/-- one of two -/
def pk2 (i : Int) (a b : V) : V := if i = 0 then a else b
theorem pk2_at {i : Int} {a b : V} (h : i = 0 ∨ i = 1) : atI [a, b] i = some (pk2 i a b) := by
  rcases h with rfl | rfl <;> rfl
theorem cut_7 (ns : List Int) : ∃ ms : List Int, cutV (ns.map V.int) (some 2) (some 9) = ms.map V.int ∧ ms.length ≤ 7 := by
  have a1 : HT.sIx ns.length ns.length (some 9) = min 9 ns.length := by simp [HT.sIx]
  have a2 : HT.sIx ns.length 0 (some 2) = min 2 ns.length := by simp [HT.sIx]
  refine ⟨(ns.drop (HT.sIx ns.length 0 (some 2))).take (HT.sIx ns.length ns.length (some 9) - HT.sIx ns.length 0 (some 2)), ?_, ?_⟩
  · unfold cutV
    rw [List.length_map, List.map_take, List.map_drop]
  · rw [List.length_take, List.length_drop, a1, a2]
    omega
/-- what the pile holds -/
inductive EVs (CL CF : Addr) (K : PySem.W.Frag) (H : Hp) : List V → List NT → Prop
  | nil : EVs CL CF K H [] []
  | snoc {v : V} {t : NT} {vs : List V} {ts : List NT} : EVs CL CF K H vs ts → EV CL CF K H v t → Tg t → EVs CL CF K H (vs ++ [v]) (ts ++ [t])
def lvs (ts : List NT) : Nat := (ts.map NT.lv).sum
theorem lvs_snoc (ts : List NT) (t : NT) : lvs (ts ++ [t]) = lvs ts + t.lv := by
  unfold lvs
  rw [List.map_append, List.sum_append]
  rfl
section
variable {CL CF : Addr} {K : PySem.W.Frag} {H H' : Hp}
theorem EVs.same {vs : List V} {ts : List NT} (h : EVs CL CF K H vs ts) (s : Same H H') : EVs CL CF K H' vs ts := by
  induction h with
  | nil => exact .nil
  | snoc _ e g ih => exact .snoc ih (e.same s) g
theorem EVs.length {vs : List V} {ts : List NT} (h : EVs CL CF K H vs ts) : vs.length = ts.length := by
  induction h with
  | nil => rfl
  | snoc _ _ _ ih => rw [List.length_append, List.length_append, ih]; rfl
theorem EVs.le {vs : List V} {ts : List NT} (h : EVs CL CF K H vs ts) : vs.length ≤ lvs ts := by
  induction h with
  | nil => exact Nat.zero_le _
  | @snoc v t vs ts _ _ _ ih =>
    have := t.dp_lv
    rw [List.length_append, lvs_snoc]
    show vs.length + 1 ≤ _
    omega
theorem EVs.last {vs : List V} {ts : List NT} (h : EVs CL CF K H vs ts) (n : 1 ≤ vs.length) : ∃ us rs v t, vs = us ++ [v] ∧ ts = rs ++ [t] ∧ EVs CL CF K H us rs ∧ EV CL CF K H v t ∧ Tg t := by
  cases h with
  | nil => exact absurd n (by decide)
  | snoc h1 h2 h3 => exact ⟨_, _, _, _, rfl, rfl, h1, h2, h3⟩
theorem EVs.two {vs : List V} {ts : List NT} (h : EVs CL CF K H vs ts) (n : 2 ≤ vs.length) : ∃ us rs v w t u, vs = us ++ [v, w] ∧ ts = rs ++ [t] ++ [u] ∧ EVs CL CF K H us rs ∧ EV CL CF K H v t ∧ Tg t ∧ EV CL CF K H w u ∧ Tg u := by
  obtain ⟨us, rs, w, u, rfl, rfl, h1, h2, h3⟩ := h.last (by omega)
  rw [List.length_append] at n
  have n : 2 ≤ us.length + 1 := n
  obtain ⟨us, rs, v, t, rfl, rfl, k1, k2, k3⟩ := h1.last (by omega)
  exact ⟨us, rs, v, w, t, u, by rw [List.append_assoc]; rfl, rfl, k1, k2, k3, h2, h3⟩
end
def oddL : List Str := ["", "share", "Shares", "missess", "shares ", "miss", "none", "cost", "gini"]
theorem odd_ok : ∀ w ∈ oddL, Sh w ∧ ¬ isM w := by
  have a : ∀ w : Str, (∀ c ∈ w.cps.toList, c < 16 ^ 8) → w.length ≤ 1000 → ¬ w = "misses" → ¬ w = "shares" → Sh w ∧ ¬ isM w := fun w h1 h2 h3 h4 => ⟨⟨h1, h2⟩, fun z => z.elim h3 h4⟩
  intro w hw
  unfold oddL at hw
  simp only [List.mem_cons, List.not_mem_nil, or_false] at hw
  rcases hw with rfl | rfl | rfl | rfl | rfl | rfl | rfl | rfl | rfl <;> exact a _ (by decide +kernel) (by decide +kernel) (by decide +kernel) (by decide +kernel)
/-- a pile, and what was joined -/
theorem evs_up {CL CF : Addr} {K : PySem.W.Frag} {H H' : Hp} {z : Addr} {xs ys : List V} {ts : List NT} (h : EVs CL CF K (del H z) xs ts) (s : Same H H') : EVs CL CF K (del (upd H' z (.lst ys)) z) xs ts := h.same (del_upd _ (del_mono z s))
theorem ev_up {CL CF : Addr} {K : PySem.W.Frag} {H H' : Hp} {z : Addr} {ys : List V} {v : V} {t : NT} (h : EV CL CF K (del H z) v t) (s : Same H H') : EV CL CF K (del (upd H' z (.lst ys)) z) v t := h.same (del_upd _ (del_mono z s))
theorem odd_at {i : Int} (h0 : 0 ≤ i) (h9 : i < 9) : atI (oddL.map V.str) i = some (.str (oddL.getD i.toNat "")) := by
  have l : oddL.length = 9 := rfl
  have e : atI (oddL.map V.str) ((i.toNat : Nat) : Int) = some (.str (oddL.getD i.toNat "")) := atI_nat (by
    rw [List.getElem?_map, List.getD_eq_getElem?_getD, List.getElem?_eq_getElem (show i.toNat < oddL.length by omega)]
    rfl)
  rw [show ((i.toNat : Nat) : Int) = i by omega] at e
  exact e
theorem odd_in {i : Int} (h0 : 0 ≤ i) (h9 : i < 9) : Sh (oddL.getD i.toNat "") ∧ ¬ isM (oddL.getD i.toNat "") := odd_ok _ (getD_mem ("" : Str) (by have l : oddL.length = 9 := rfl; omega))
theorem sh_s : Sh "shares" := ⟨by have : ∀ c ∈ ("shares" : Str).cps.toList, c < 16 ^ 8 := by decide +kernel
                                  exact this, by decide +kernel⟩
theorem sh_m : Sh "misses" := ⟨by have : ∀ c ∈ ("misses" : Str).cps.toList, c < 16 ^ 8 := by decide +kernel
                                  exact this, by decide +kernel⟩
theorem co_shp (m : Str) {t : NT} (h : t.dp ≤ 20) : Shp 64 (cqD (t.co m)) := (shpC' (t.co m)).mono (by rw [NT.co_dp]; omega)

local macro_rules | `(tactic| walk_at "ne") => `(tactic| first | assumption | exact Ne.symm (by assumption) | exact L2.ne_of (by assumption) (by assumption) (by intro z; cases z) | exact L2.ne_fresh (by assumption) (by walk_at "hp") | exact Ne.symm (L2.ne_fresh (by assumption) (by walk_at "hp")))
local macro_rules | `(tactic| walk_at "sf") => `(tactic| first | assumption | ((with_reducible refine L2.SqF.nw (by assumption) ?_); walk_at "sf") | ((with_reducible refine L2.SqF.lst (by walk_at "hp") ?_); walk_at "sf") | ((refine L2.SqF.sm (by assumption) ?_); walk_at "sf") | ((refine L2.SqF.sb (by assumption) (by walk_at "hp") ?_); walk_at "sf") | ((refine L2.SqF.sbi (by assumption) (by walk_at "hp") ?_); walk_at "sf"))
local macro_rules | `(tactic| walk_at "hp") => `(tactic| first | assumption | exact L2.upd_same | ((with_reducible refine L2.kp ?_ (by assumption)); walk_at "hp") | ((with_reducible refine L2.upd_at ?_ ?_); walk_at "ne"; walk_at "hp") | ((refine L2.Same.at' (by assumption) ?_); walk_at "hp") | ((refine L2.SameB.at' (by assumption) ?_ ?_); walk_at "hp"; walk_at "ne") | ((refine L2.SameT.at' (by assumption) ?_); walk_at "hp"))
local macro_rules | `(tactic| walk_at "ty") => `(tactic| first | exact .int _ | exact .bl _ | exact .str _ | exact .non | exact .tup (by walk_at "hp") | exact .lst (by walk_at "hp"))
local macro_rules | `(tactic| walk_at "b0") => `(tactic| first | assumption | exact Bz.w (by omega) (by omega) | exact Bz.mul (by walk_at "b0") (by walk_at "b0") | exact Bz.add' (by walk_at "b0") (by walk_at "b0") | exact Bz.sub' (by walk_at "b0") (by walk_at "b0") | exact Bz.neg (by walk_at "b0"))
local macro_rules | `(tactic| walk_at "bz") => `(tactic| first | walk_at "b0" | exact Bz.mono (by walk_at "b0") (by decide))
local macro_rules | `(tactic| walk_at "ss") => `(tactic| first | exact True.intro | (refine And.intro rfl ?_; walk_at "ss"))
local macro_rules | `(tactic| walk_at "sd") => `(tactic| first | assumption | ((with_reducible show @Eq _ _ _); first | (with_reducible exact rfl) | walk_at "hp" | exact L2.isi_same | exact L2.isi_ib | exact L2.isi_bi | exact L2.atI_mapD (PySem.Str.empty : PySem.Str) (by omega) (by omega) | exact L2.atI_mapD (0 : Int) (by omega) (by omega) | ((with_reducible show PySem.W.kitOne _ _ _ = some _); with_unfolding_all exact rfl) | omega) | ((with_reducible show L2.SqL _ _ _ _); first | (apply L2.SqL.of; walk_at "hp") | (apply L2.SqF.sq; walk_at "sf")) | ((with_reducible show L2.SqT _ _ _ _); exact L2.SqT.of (by walk_at "hp")) | ((with_reducible show L2.SqL _ _ _ _ ∨ L2.SqT _ _ _ _); first | exact Or.inl (L2.SqL.of (by walk_at "hp")) | exact Or.inr (L2.SqT.of (by walk_at "hp")) | exact Or.inl (by assumption) | exact Or.inr (by assumption)) | ((with_reducible show L2.TyOf _ _ _ _); walk_at "ty") | ((with_reducible show L2.tyV _ _ _ _); first | exact rfl | exact Or.inl ⟨rfl, _, L2.SqL.of (by walk_at "hp")⟩) | ((with_reducible show _ ≤ PySem.sizeLine); first | exact L2.sz | exact L2.szB (by omega) | omega) | ((with_reducible show _ < PySem.sizeLine); first | exact L2.small1000 (by omega) | omega) | ((with_reducible show L2.CPow _ _); exact ⟨by decide, by decide, by decide⟩) | ((with_reducible show L2.CDivB _ _); exact Lw.cN _ (by decide) (by decide)) | ((with_reducible show PySem.IntMulOk _ _); exact Bz.mulOk (by walk_at "b0") (by walk_at "b0")) | ((with_reducible show Bz _ _); walk_at "bz") | ((with_reducible show L2.SubS _ _); walk_at "ss") | ((with_reducible show L2.TVs _ _ _ _); exact L2.TVs.mono (L2.Same.t (by assumption)) (by assumption)) | ((with_reducible show @Ne L2.V _ _); walk_at "ne") | ((with_reducible show @Ne PySem.Addr _ _); walk_at "ne") | ((with_reducible show List.length _ < 1000); exact of_decide_eq_true rfl) | exact Exists.intro _ (L2.SqL.of (by walk_at "hp")) | exact Exists.intro _ (L2.SqT.of (by walk_at "hp")) | omega)
local macro_rules | `(tactic| walk_at "nw") => `(tactic| ((fail_if_success (refine ⟨(fun _ _ _ _ => True : Nat → Nat → L2.St → L2.Hp → Prop), ?_⟩)); (fail_if_success (refine ⟨(fun _ _ _ => True : Nat → L2.St → L2.Hp → Prop), ?_⟩)); (fail_if_success (refine ⟨(fun _ _ _ => True : Nat → List L2.V → L2.Hp → Prop), ?_⟩)); (fail_if_success (refine ⟨(fun _ _ => True : L2.St → L2.Hp → Prop), ?_⟩)); (fail_if_success (refine ⟨(PySem.PyData.none : PySem.PyData), ?_⟩))))
local macro_rules | `(tactic| walk_at "r1") => `(tactic| first | (apply And.intro; · ((with_reducible show @Eq _ _ _); exact rfl)) | (apply And.intro; · walk_at "sd") | (walk_at "nw"; apply Exists.intro) | refine L2.iteT ?_ | refine L2.iteF ?_ | refine L2.iteNotT ?_ | refine L2.iteNotF ?_ | refine L2.iteNN ?_ | (refine L2.iteY (by omega) ?_) | (refine L2.iteN (by omega) ?_) | (refine L2.iteYn (by omega) ?_) | (refine L2.iteNS (by omega) ?_) | (refine Or.inl (And.intro (L2.SqL.of (by walk_at "hp")) ?_)) | (intro p hp) | (intro p))
local macro_rules | `(tactic| walk_at "rd") => `(tactic| repeat walk_at "r1")
local macro_rules | `(tactic| walk_at "cf") => `(tactic| (intro σ H Q q; repeat (first | exact q | (apply And.intro; · ((with_reducible show @Eq _ _ _); exact rfl)) | (apply And.intro; · first | ((with_reducible show L2.CPow _ _); exact ⟨by decide, by decide, by decide⟩) | ((with_reducible show PySem.IntMulOk _ _); exact Bz.mulOk (bzl (by decide)) (bzl (by decide)))) | apply Exists.intro)))
local macro_rules | `(tactic| walk_at "sm") => `(tactic| first | assumption | exact L2.Same.refl _ | exact L2.Same.new (by walk_at "sm") (by assumption) _ | exact L2.Same.trans (by assumption) (by walk_at "sm"))
local macro_rules | `(tactic| walk_at "kx") => `(tactic| try dsimp (config := { beta := false, proj := false, zeta := false, eta := false, iota := false }) only [L2.cxK, L2.lcK, L2.wishK])

section
variable {P : Program} {w : World} {K : PySem.W.Frag} {mg : Str → Option Value} {base : Heap}

theorem ok_is_whole (T : Tx K mg) : FnOk P w K mg base (CXe P w) 1 T.f_is_whole T.d_is_whole ["value"] sp_is_whole := by
  have sc := sc_is_whole
  refine T.F_is_whole.okx sc (fun vs H Q E h => ?_) (fun cdv A outer s H vs Q E hr h => ?_)
  · obtain ⟨i, rfl, q⟩ := h
    rfl
  obtain ⟨i, rfl, q⟩ := h
  have hu := hr.units0
  have hu2 := hr.units
  have hu1 := Nat.lt_of_le_of_lt (Nat.add_le_add_left (show 1 ≤ 64 by decide) _) hu2
  refine ⟨_, (@pss_one _ _ _ (@ps_ret _ _ _ _ (pe_and (pe_callB call_isi rfl T.z_isinstance bt_isinstance (pa_cons (pv 0) (pa_cons (pe_bltn (v := .ty "int") rfl T.z_int bt_int rfl) pa_nil))) (pe_one (pe_not (pe_callB call_isi rfl T.z_isinstance bt_isinstance (pa_cons (pv 0) (pa_cons (pe_bltn (v := .ty "bool") rfl T.z_bool bt_bool rfl) pa_nil)))))))), ?_⟩
  walk_at "kx"
  walk_at "rd"
  exact q

theorem ok_greatest_divisor (T : Tx K mg) : FnOk P w K mg base (CXe P w) 1 T.f_greatest_divisor T.d_greatest_divisor ["one", "other"] sp_greatest_divisor := by
  have sc := sc_greatest_divisor
  refine T.F_greatest_divisor.okx sc (fun vs H Q E h => ?_) (fun cdv A outer s H vs Q E hr h => ?_)
  · obtain ⟨a, b, rfl, hb, q⟩ := h
    rfl
  obtain ⟨a, b, rfl, hb, q⟩ := h
  have hu := hr.units0
  have hu2 := hr.units
  have hu1 := Nat.lt_of_le_of_lt (Nat.add_le_add_left (show 1 ≤ 64 by decide) _) hu2
  refine ⟨_, (@pss_cons _ _ _ _ _ (@ps_set _ _ 2 _ _ _ _ sc.nd rfl (by first | exact Or.inl rfl | exact Or.inr rfl) (pe_callB call_abs rfl T.z_abs bt_abs (pa_cons (pv 0) pa_nil)) (by rfl) (by first | exact .inl rfl | exact .inr rfl | assumption))
      (@pss_cons _ _ _ _ _ (@ps_set _ _ 3 _ _ _ _ sc.nd rfl (by first | exact Or.inl rfl | exact Or.inr rfl) (pe_callB call_abs rfl T.z_abs bt_abs (pa_cons (pv 1) pa_nil)) (by rfl) (by first | exact .inl rfl | exact .inr rfl | assumption))
      (@pss_cons _ _ _ _ _ (ps_while powx (@pt_cmpR _ _ _ _ _ _ _ _ op_neI (pv 3) pe_int (nomark _)) (@pss_cons _ _ _ _ _ (@ps_set _ _ 4 _ _ _ _ sc.nd rfl (by first | exact Or.inl rfl | exact Or.inr rfl) (@pe_op _ _ _ _ _ _ _ _ op_mod (pv 2) (pv 3)) (by rfl) (by first | exact .inl rfl | exact .inr rfl | assumption))
      (@pss_cons _ _ _ _ _ (@ps_set _ _ 2 _ _ _ _ sc.nd rfl (by first | exact Or.inl rfl | exact Or.inr rfl) (pv 3) (by rfl) (by first | exact .inl rfl | exact .inr rfl | assumption))
      (@pss_one _ _ _ (@ps_set _ _ 3 _ _ _ _ sc.nd rfl (by first | exact Or.inl rfl | exact Or.inr rfl) (pv 4) (by rfl) (by first | exact .inl rfl | exact .inr rfl | assumption))))))
      (@pss_one _ _ _ (@ps_ret _ _ _ _ (pv 2)))))), ?_⟩
  walk_at "kx"
  walk_at "rd"
  refine while_by (fun σ H' => H' = H ∧ ∃ (x y : Int) (r : Option V), σ = [some (.int a), some (.int b), some (.int x), some (.int y), r] ∧ M.Inv a b x y)
    (fun σ _ => match σ with | [_, _, _, some (.int y), _] => y.toNat | _ => 0) ⟨rfl, _, _, _, rfl, M.Inv.start2 a b⟩ ?_ ?_
  · rintro σ' H' ⟨rfl, x, y, r, rfl, iv⟩
    have h1 := iv.y0
    walk_at "rd"
    refine ite3n (fun c => ?_) (fun c => ?_)
    · have hy : 0 < y := by omega
      walk_at "rd"
      exact ⟨⟨rfl, _, _, _, rfl, iv.turn hy⟩, M.less hy⟩
    · walk_at "rd"
      rw [iv.out c hb]
      exact q
  · rintro σ' H' Q1 Q2 hq ⟨v, e, i, j, ei, ej, k, ek, y⟩
    exact ⟨v, e, i, j, ei, ej, k, ek, hq _ _ y⟩

theorem ok_ratio (T : Tx K mg) : FnOk P w K mg base (CXe P w) 2 T.f_ratio T.d_ratio ["top", "bottom"] (sp_ratio T.c_NoRatio) := by
  have sc := sc_ratio
  refine T.F_ratio.okx sc (fun vs H Q E h => ?_) (fun cdv A outer s H vs Q E hr h => ?_)
  · obtain ⟨t, b, rfl, bz, q⟩ := h
    rfl
  obtain ⟨t, b, rfl, bz, q⟩ := h
  have hu := hr.units0
  have hu2 := hr.units
  have hu1 := Nat.lt_of_le_of_lt (Nat.add_le_add_left (show 1 ≤ 64 by decide) _) hu2
  refine ⟨_, (@pss_cons _ _ _ _ _ (@ps_if _ _ _ _ _ _ _ _ (PW.pt (pw_or (pt_not (pt_val (pe_call (ok_is_whole T) (hr.mono (by decide)) rfl T.m_is_whole T.F_is_whole.kp T.b_is_whole .nil (pass_e fun _ _ z => z) (pa_cons (pv 0) pa_nil)))) (pw_or1 (pt_not (pt_val (pe_call (ok_is_whole T) (hr.mono (by decide)) rfl T.m_is_whole T.F_is_whole.kp T.b_is_whole .nil (pass_e fun _ _ z => z) (pa_cons (pv 1) pa_nil))))))) (@pss_one _ _ _ (ps_raise T.x_NoRatio rfl (pa_cons pe_str pa_nil se_c))) pss_nil)
      (@pss_cons _ _ _ _ _ (@ps_if _ _ _ _ _ _ _ _ (@pt_cmpR _ _ _ _ _ _ _ _ op_eqI (pv 1) pe_int (nomark _)) (@pss_one _ _ _ (ps_raise T.x_NoRatio rfl (pa_cons pe_str pa_nil se_c))) pss_nil)
      (@pss_cons _ _ _ _ _ (@ps_set _ _ 2 _ _ _ _ sc.nd rfl (by first | exact Or.inl rfl | exact Or.inr rfl) (pe_call (ok_greatest_divisor T) (hr.mono (by decide)) rfl T.m_greatest_divisor T.F_greatest_divisor.kp T.b_greatest_divisor .nil (pass_e fun _ _ z => z) (pa_cons (pv 0) (pa_cons (pv 1) pa_nil))) (by rfl) (by first | exact .inl rfl | exact .inr rfl | assumption))
      (@pss_cons _ _ _ _ _ (@ps_if _ _ _ _ _ _ _ _ (@pt_cmpR _ _ _ _ _ _ _ _ op_lt (pv 1) pe_int (nomark _)) (@pss_one _ _ _ (@ps_set _ _ 2 _ _ _ _ sc.nd rfl (by first | exact Or.inl rfl | exact Or.inr rfl) (pe_un un_neg (pv 2)) (by rfl) (by first | exact .inl rfl | exact .inr rfl | assumption))) pss_nil)
      (@pss_one _ _ _ (@ps_ret _ _ _ _ (pe_tup (pa_cons (@pe_op _ _ _ _ _ _ _ _ op_fdivM (pv 0) (pv 2)) (pa_cons (@pe_op _ _ _ _ _ _ _ _ op_fdivM (pv 1) (pv 2)) pa_nil))))))))), ?_⟩
  walk_at "kx"
  rcases q with ⟨hb, q⟩ | ⟨hb, q⟩
  · subst hb
    walk_at "rd"
    exact q
  · walk_at "rd"
    refine ite3 (fun c => ?_) (fun c => ?_)
    · have cm := cM' (t := t) hb bz t
      have cm2 := cM' (t := t) hb bz b
      walk_at "rd"
      exact q.neg c _ (by assumption)
    · have cm := cM (t := t) hb bz t
      have cm2 := cM (t := t) hb bz b
      walk_at "rd"
      exact q.pos (by omega) _ (by assumption)

theorem ok_check_measure (T : Tx K mg) : FnOk P w K mg base (CXe P w) 1 T.f_check_measure T.d_check_measure ["measure"] (sp_check_measure T.c_NoMeasure) := by
  have sc := sc_check_measure
  refine T.F_check_measure.okx sc (fun vs H Q E h => ?_) (fun cdv A outer s H vs Q E hr h => ?_)
  · obtain ⟨m, rfl, sh, q⟩ := h
    rfl
  obtain ⟨m, rfl, sh, q⟩ := h
  have hu := hr.units0
  have hu2 := hr.units
  have hu1 := Nat.lt_of_le_of_lt (Nat.add_le_add_left (show 1 ≤ 64 by decide) _) hu2
  refine ⟨_, (@pss_one _ _ _ (@ps_if _ _ _ _ _ _ _ _ (@pt_cmpR _ _ _ _ _ _ _ _ op_notIn_seq (pv 0) (pe_glob (v := .ref T.c_MEASURES) rfl T.m_MEASURES rfl) (by with_unfolding_all rfl)) (@pss_one _ _ _ (ps_raise T.x_NoMeasure rfl (pa_cons (pe_fstr (pfs_lit (k := 100) (by decide +kernel) (pfs_r (pv 0) pfs_nil))) pa_nil))) pss_nil)), ?_⟩
  walk_at "kx"
  have s1 := sh.ok
  have s2 := sh.len
  rcases q with ⟨hm, q⟩ | ⟨hm, q⟩
  · have e := isM_in m hm
    walk_at "rd"
    refine ⟨.inr (T.q_MEASURES _), rfl, rfl, ?_⟩
    walk_at "rd"
    rw [e]
    walk_at "rd"
    exact q
  · have e := isM_out m hm
    walk_at "rd"
    refine ⟨.inr (T.q_MEASURES _), rfl, rfl, ?_⟩
    walk_at "rd"
    rw [e]
    walk_at "rd"
    exact q

theorem ok_all_rows (T : Tx K mg) : FnOk P w K mg base (CXe P w) 1 T.f_all_rows T.d_all_rows ["counted"] (sp_all_rows K) := by
  have sc := sc_all_rows
  refine T.F_all_rows.okx sc (fun vs H Q E h => ?_) (fun cdv A outer s H vs Q E hr h => ?_)
  · obtain ⟨a, cs, rfl, ⟨xs, ha, ht⟩, hn, q⟩ := h
    rfl
  obtain ⟨a, cs, rfl, ⟨xs, ha, ht⟩, hn, q⟩ := h
  have hu := hr.units0
  have hu2 := hr.units
  have hu1 := Nat.lt_of_le_of_lt (Nat.add_le_add_left (show 1 ≤ 64 by decide) _) hu2
  refine ⟨_, (@pss_one _ _ _ (@ps_ret _ _ _ _ (pe_callB (call_sum rfl) rfl T.z_sum bt_sum (pa_cons (pe_lc (ts := ["answer", "many"]) (js := []) (LcOk.of rfl) rfl (pi_list (pv 0)) (fun _ _ _ _ => (pg_tup rfl (pgs_cons (pg_name (i := 0) (nodup_of rfl) rfl (Or.inl rfl)) (pgs_cons (pg_name (i := 1) (nodup_of rfl) rfl (Or.inl rfl)) pgs_nil)))) (fun _ _ _ _ => pf_nil) (fun _ _ _ _ => (pv 1))) pa_nil)))), ?_⟩
  walk_at "kx"
  have hlen : xs.length = cs.length := by have := ht.length; rw [List.length_map] at this; exact this
  walk_at "rd"
  refine lc_list (K := K) (a := a) (xs := xs) (fun i ys H2 => Iv (H2 = H ∧ ys = ((cs.take i).map (·.2)).map V.int)) ⟨⟨rfl, rfl⟩⟩ (fun i ys H2 hi z => ⟨by rw [z.o.1]; exact SqL.of ha, by rw [z.o.2, List.length_map, List.length_map, List.length_take]; exact small1000 (by omega)⟩) ?_ ?_
  · rintro i x ys H2 hi ⟨⟨rfl, rfl⟩⟩
    have il := (List.getElem?_eq_some_iff.mp hi).1
    obtain ⟨d, hd, tv⟩ := ht.get hi
    rw [List.getElem?_map] at hd
    obtain ⟨c, hc, rfl⟩ := Option.map_eq_some_iff.mp hd
    obtain ⟨p, u, v, rfl, hp, t1, t2⟩ := tv.pair
    obtain rfl := t1.strs
    obtain rfl := t2.ints
    walk_at "rd"
    refine ⟨⟨rfl, ?_⟩⟩
    rw [List.take_add_one, hc, List.map_append, List.map_append]
    rfl
  · rintro ys H2 ⟨⟨rfl, rfl⟩⟩ p hp
    rw [hlen, List.take_length]
    walk_at "rd"
    exact q _ (by walk_at "sm")

theorem ok_misses (T : Tx K mg) : FnOk P w K mg base (CXe P w) 2 T.f_misses T.d_misses ["counted"] (sp_misses K) := by
  have sc := sc_misses
  refine T.F_misses.okx sc (fun vs H Q E h => ?_) (fun cdv A outer s H vs Q E hr h => ?_)
  · obtain ⟨a, cs, rfl, cn, hn, q⟩ := h
    rfl
  obtain ⟨a, cs, rfl, cn, hn, q⟩ := h
  have hu := hr.units0
  have hu2 := hr.units
  have hu1 := Nat.lt_of_le_of_lt (Nat.add_le_add_left (show 1 ≤ 64 by decide) _) hu2
  refine ⟨_, (@pss_one _ _ _ (@ps_ret _ _ _ _ (@pe_op _ _ _ _ _ _ _ _ op_sub (pe_call (ok_all_rows T) (hr.mono (by decide)) rfl T.m_all_rows T.F_all_rows.kp T.b_all_rows .nil (pass_e fun _ _ z => z) (pa_cons (pv 0) pa_nil)) (pe_callKw (call_max_dflt rfl) rfl T.z_max bt_max (pa_cons (pe_lc (ts := ["answer", "many"]) (js := []) (LcOk.of rfl) rfl (pi_list (pv 0)) (fun _ _ _ _ => (pg_tup rfl (pgs_cons (pg_name (i := 0) (nodup_of rfl) rfl (Or.inl rfl)) (pgs_cons (pg_name (i := 1) (nodup_of rfl) rfl (Or.inl rfl)) pgs_nil)))) (fun _ _ _ _ => pf_nil) (fun _ _ _ _ => (pv 1))) pa_nil) pe_int)))), ?_⟩
  walk_at "kx"
  walk_at "rd"
  rename_i H1 S1
  obtain ⟨xs, ha, ht⟩ := cn.same S1
  have hlen : xs.length = cs.length := by have := ht.length; rw [List.length_map] at this; exact this
  walk_at "rd"
  refine lc_list (K := K) (a := a) (xs := xs) (fun i ys H2 => Iv (H2 = H1 ∧ ys = ((cs.take i).map (·.2)).map V.int)) ⟨⟨rfl, rfl⟩⟩ (fun i ys H2 hi z => ⟨by rw [z.o.1]; exact SqL.of ha, by rw [z.o.2, List.length_map, List.length_map, List.length_take]; exact small1000 (by omega)⟩) ?_ ?_
  · rintro i x ys H2 hi ⟨⟨rfl, rfl⟩⟩
    have il := (List.getElem?_eq_some_iff.mp hi).1
    obtain ⟨d, hd, tv⟩ := ht.get hi
    rw [List.getElem?_map] at hd
    obtain ⟨c, hc, rfl⟩ := Option.map_eq_some_iff.mp hd
    obtain ⟨p, u, v, rfl, hp, t1, t2⟩ := tv.pair
    obtain rfl := t1.strs
    obtain rfl := t2.ints
    walk_at "rd"
    refine ⟨⟨rfl, ?_⟩⟩
    rw [List.take_add_one, hc, List.map_append, List.map_append]
    rfl
  · rintro ys H2 ⟨⟨rfl, rfl⟩⟩ p hp
    rw [hlen, List.take_length]
    walk_at "rd"
    exact q _ (by walk_at "sm")

theorem ok_shares (T : Tx K mg) : FnOk P w K mg base (CXe P w) 3 T.f_shares T.d_shares ["counted"] (sp_shares K) := by
  have sc := sc_shares
  refine T.F_shares.okx sc (fun vs H Q E h => ?_) (fun cdv A outer s H vs Q E hr h => ?_)
  · obtain ⟨a, cs, rfl, cn, cz, q⟩ := h
    rfl
  obtain ⟨a, cs, rfl, cn, cz, q⟩ := h
  have hu := hr.units0
  have hu2 := hr.units
  have hu1 := Nat.lt_of_le_of_lt (Nat.add_le_add_left (show 1 ≤ 64 by decide) _) hu2
  refine ⟨_, (@pss_cons _ _ _ _ _ (@ps_set _ _ 1 _ _ _ _ sc.nd rfl (by first | exact Or.inl rfl | exact Or.inr rfl) (pe_call (ok_all_rows T) (hr.mono (by decide)) rfl T.m_all_rows T.F_all_rows.kp T.b_all_rows .nil (pass_e fun _ _ z => z) (pa_cons (pv 0) pa_nil)) (by rfl) (by first | exact .inl rfl | exact .inr rfl | assumption))
      (@pss_cons _ _ _ _ _ (@ps_if _ _ _ _ _ _ _ _ (@pt_cmpR _ _ _ _ _ _ _ _ op_eqI (pv 1) pe_int (nomark _)) (@pss_one _ _ _ (@ps_ret _ _ _ _ (pe_call (ok_ratio T) (hr.mono (by decide)) rfl T.m_ratio T.F_ratio.kp T.b_ratio .nil (pass_e fun _ _ z => z) (pa_cons pe_int (pa_cons pe_int pa_nil))))) pss_nil)
      (@pss_cons _ _ _ _ _ (@ps_set _ _ 2 _ _ _ _ sc.nd rfl (by first | exact Or.inl rfl | exact Or.inr rfl) (pe_callB (call_sum rfl) rfl T.z_sum bt_sum (pa_cons (pe_lc (ts := ["answer", "many"]) (js := []) (LcOk.of rfl) rfl (pi_list (pv 0)) (fun _ _ _ _ => (pg_tup rfl (pgs_cons (pg_name (i := 0) (nodup_of rfl) rfl (Or.inl rfl)) (pgs_cons (pg_name (i := 1) (nodup_of rfl) rfl (Or.inl rfl)) pgs_nil)))) (fun _ _ _ _ => pf_nil) (fun _ _ _ _ => (@pe_op _ _ _ _ _ _ _ _ op_mulB (pv 1) (pv 1)))) pa_nil)) (by rfl) (by first | exact .inl rfl | exact .inr rfl | assumption))
      (@pss_one _ _ _ (@ps_ret _ _ _ _ (pe_call (ok_ratio T) (hr.mono (by decide)) rfl T.m_ratio T.F_ratio.kp T.b_ratio .nil (pass_e fun _ _ z => z) (pa_cons (@pe_op _ _ _ _ _ _ _ _ op_sub (@pe_op _ _ _ _ _ _ _ _ op_mulB (pv 1) (pv 1)) (pv 2)) (pa_cons (pv 1) pa_nil)))))))), ?_⟩
  walk_at "kx"
  have n60 := cz.len
  have sb := cz.sum
  have u : messR cs "shares" = if sumC cs = 0 then Rat.divInt 0 1 else Rat.divInt (sumC cs * sumC cs - sqC cs) (sumC cs) := if_neg (by decide +kernel)
  rw [u] at q
  have z1 : Bz 8000 1 := (Bz.w (x := 1) (by decide) (by decide)).mono (by decide)
  have zs : Bz 128 (sumC cs) := Bz.w (by omega) (by omega)
  have z8 : Bz 8000 (sumC cs) := zs.mono (by decide)
  walk_at "rd"
  rename_i H1 S1
  refine ite3 (fun h0 => ?_) (fun h0 => ?_)
  · rw [if_pos h0] at q
    walk_at "rd"
    exact .inr ⟨by decide, (q.of S1).nw⟩
  · rw [if_neg h0] at q
    obtain ⟨xs, ha, ht⟩ := cn.same S1
    have hlen : xs.length = cs.length := by have := ht.length; rw [List.length_map] at this; exact this
    walk_at "rd"
    refine lc_list (K := K) (a := a) (xs := xs) (fun i ys H2 => Iv (H2 = H1 ∧ ys = ((cs.take i).map fun c => c.2 * c.2).map V.int)) ⟨⟨rfl, rfl⟩⟩ (fun i ys H2 hi z => ⟨by rw [z.o.1]; exact SqL.of ha, by rw [z.o.2, List.length_map, List.length_map, List.length_take]; exact small1000 (by omega)⟩) ?_ ?_
    · rintro i x ys H2 hi ⟨⟨rfl, rfl⟩⟩
      have il := (List.getElem?_eq_some_iff.mp hi).1
      obtain ⟨d, hd, tv⟩ := ht.get hi
      rw [List.getElem?_map] at hd
      obtain ⟨c, hc, rfl⟩ := Option.map_eq_some_iff.mp hd
      obtain ⟨p, u, v, rfl, hp, t1, t2⟩ := tv.pair
      obtain rfl := t1.strs
      obtain rfl := t2.ints
      have c1 := cz.one c (List.mem_of_getElem? hc)
      have c2 := cz.up c (List.mem_of_getElem? hc)
      have zc : Bz 128 c.2 := Bz.w (by omega) (by omega)
      walk_at "rd"
      refine ⟨⟨rfl, ?_⟩⟩
      rw [List.take_add_one, hc, List.map_append, List.map_append]
      rfl
    · rintro ys H2 ⟨⟨rfl, rfl⟩⟩ p hp
      rw [hlen, List.take_length]
      walk_at "rd"
      refine .inr ⟨h0, ?_⟩
      exact ((q.of S1).of (same_new hp _)).nw

theorem ok_mess (T : Tx K mg) : FnOk P w K mg base (CXe P w) 4 T.f_mess T.d_mess ["counted", "measure"] (sp_mess K T.c_NoMeasure) := by
  have sc := sc_mess
  refine T.F_mess.okx sc (fun vs H Q E h => ?_) (fun cdv A outer s H vs Q E hr h => ?_)
  · obtain ⟨a, cs, m, rfl, cn, cz, sh, q⟩ := h
    rfl
  obtain ⟨a, cs, m, rfl, cn, cz, sh, q⟩ := h
  have hu := hr.units0
  have hu2 := hr.units
  have hu1 := Nat.lt_of_le_of_lt (Nat.add_le_add_left (show 1 ≤ 64 by decide) _) hu2
  refine ⟨_, (@pss_cons _ _ _ _ _ (ps_expr (pe_call (ok_check_measure T) (hr.mono (by decide)) rfl T.m_check_measure T.F_check_measure.kp T.b_check_measure .nil (pass_e fun _ _ z => z) (pa_cons (pv 1) pa_nil)))
      (@pss_cons _ _ _ _ _ (@ps_if _ _ _ _ _ _ _ _ (@pt_cmpR _ _ _ _ _ _ _ _ op_eqS (pv 1) pe_str (nomark _)) (@pss_one _ _ _ (@ps_ret _ _ _ _ (pe_call (ok_ratio T) (hr.mono (by decide)) rfl T.m_ratio T.F_ratio.kp T.b_ratio .nil (pass_e fun _ _ z => z) (pa_cons (pe_call (ok_misses T) (hr.mono (by decide)) rfl T.m_misses T.F_misses.kp T.b_misses .nil (pass_e fun _ _ z => z) (pa_cons (pv 0) pa_nil)) (pa_cons pe_int pa_nil))))) pss_nil)
      (@pss_one _ _ _ (@ps_ret _ _ _ _ (pe_call (ok_shares T) (hr.mono (by decide)) rfl T.m_shares T.F_shares.kp T.b_shares .nil (pass_e fun _ _ z => z) (pa_cons (pv 0) pa_nil)))))), ?_⟩
  walk_at "kx"
  have n60 := cz.len
  have z1 : Bz 8000 1 := (Bz.w (x := 1) (by decide) (by decide)).mono (by decide)
  rcases q with ⟨hm, q⟩ | ⟨hm, q⟩
  · walk_at "rd"
    refine .inl ⟨hm, ?_⟩
    walk_at "rd"
    refine ite3 (fun h => ?_) (fun h => ?_)
    · have u : messR cs m = Rat.divInt (sumC cs - mxD 0 (cs.map (·.2))) 1 := if_pos h
      rw [u] at q
      walk_at "rd"
      rename_i H1 S1
      exact .inr ⟨by decide, (q.of S1).nw⟩
    · have e : m = "shares" := hm.resolve_left h
      subst e
      walk_at "rd"
      exact q _ _ (by assumption) (by assumption) (by assumption)
  · walk_at "rd"
    refine .inr ⟨hm, ?_⟩
    walk_at "rd"
    exact q

theorem ok_Node___init__ (T : Tx K mg) : FnOk P w K mg base (CXe P w) 1 T.f_Node___init__ T.d_Node___init__ ["self", "counted"] (sp_init_node T.c_Leaf T.c_Fork) := by
  have sc := sc_Node___init__
  refine T.F_Node___init__.okx sc (fun vs H Q E h => ?_) (fun cdv A outer s H vs Q E hr h => ?_)
  · obtain ⟨x, a, C, dx, xs, rfl, hx, hC, ha, q⟩ := h
    rfl
  obtain ⟨x, a, C, dx, xs, rfl, hx, hC, ha, q⟩ := h
  have hu := hr.units0
  have hu2 := hr.units
  have hu1 := Nat.lt_of_le_of_lt (Nat.add_le_add_left (show 1 ≤ 64 by decide) _) hu2
  refine ⟨_, (@pss_one _ _ _ (ps_fld (pv 0) (pe_callTy call_list_of rfl T.z_list bt_list (pa_cons (pv 1) pa_nil)) rfl)), ?_⟩
  walk_at "kx"
  have C1 := T.C_Leaf
  have C2 := T.C_Fork
  have N0 : NoAttr K T.c_Leaf "counted" := T.nLc
  have N1 : NoAttr K T.c_Fork "counted" := T.nFcd
  have N2 : NoAttr K T.c_Fork "question" := T.nFqn
  have N3 : NoAttr K T.c_Fork "yes" := T.nFys
  have N4 : NoAttr K T.c_Fork "no" := T.nFno
  have N5 : NoAttr K T.c_Fork "leaf_count" := T.nFlt
  have N6 : NoAttr K T.c_Fork "depth" := T.nFdh
  rcases hC with rfl | rfl
  · walk_at "rd"
    rename_i l hl
    exact q l hl
  · walk_at "rd"
    rename_i l hl
    exact q l hl

theorem ok_Leaf_leaves (T : Tx K mg) : FnOk P w K mg base (CXe P w) 1 T.f_Leaf_leaves T.d_Leaf_leaves ["self"] (sp_lleaves T.c_Leaf 1) := by
  have sc := sc_Leaf_leaves
  refine T.F_Leaf_leaves.okx sc (fun vs H Q E h => ?_) (fun cdv A outer s H vs Q E hr h => ?_)
  · obtain ⟨x, dx, fs, rfl, hx, q⟩ := h
    rfl
  obtain ⟨x, dx, fs, rfl, hx, q⟩ := h
  have hu := hr.units0
  have hu2 := hr.units
  have hu1 := Nat.lt_of_le_of_lt (Nat.add_le_add_left (show 1 ≤ 64 by decide) _) hu2
  refine ⟨_, (@pss_one _ _ _ (@ps_ret _ _ _ _ pe_int)), ?_⟩
  walk_at "kx"
  walk_at "rd"
  exact q

theorem ok_Leaf_deep (T : Tx K mg) : FnOk P w K mg base (CXe P w) 1 T.f_Leaf_deep T.d_Leaf_deep ["self"] (sp_lleaves T.c_Leaf 0) := by
  have sc := sc_Leaf_deep
  refine T.F_Leaf_deep.okx sc (fun vs H Q E h => ?_) (fun cdv A outer s H vs Q E hr h => ?_)
  · obtain ⟨x, dx, fs, rfl, hx, q⟩ := h
    rfl
  obtain ⟨x, dx, fs, rfl, hx, q⟩ := h
  have hu := hr.units0
  have hu2 := hr.units
  have hu1 := Nat.lt_of_le_of_lt (Nat.add_le_add_left (show 1 ≤ 64 by decide) _) hu2
  refine ⟨_, (@pss_one _ _ _ (@ps_ret _ _ _ _ pe_int)), ?_⟩
  walk_at "kx"
  walk_at "rd"
  exact q

theorem ok_Fork_leaves (T : Tx K mg) : FnOk P w K mg base (CXe P w) 1 T.f_Fork_leaves T.d_Fork_leaves ["self"] (sp_ffield T.c_Fork "leaf_count") := by
  have sc := sc_Fork_leaves
  refine T.F_Fork_leaves.okx sc (fun vs H Q E h => ?_) (fun cdv A outer s H vs Q E hr h => ?_)
  · obtain ⟨x, dx, fs, v, rfl, hx, hv, q⟩ := h
    rfl
  obtain ⟨x, dx, fs, v, rfl, hx, hv, q⟩ := h
  have hu := hr.units0
  have hu2 := hr.units
  have hu1 := Nat.lt_of_le_of_lt (Nat.add_le_add_left (show 1 ≤ 64 by decide) _) hu2
  refine ⟨_, (@pss_one _ _ _ (@ps_ret _ _ _ _ (pe_fld (pv 0) rfl))), ?_⟩
  walk_at "kx"
  have C1 := T.C_Leaf
  have C2 := T.C_Fork
  have N0 : NoAttr K T.c_Leaf "counted" := T.nLc
  have N1 : NoAttr K T.c_Fork "counted" := T.nFcd
  have N2 : NoAttr K T.c_Fork "question" := T.nFqn
  have N3 : NoAttr K T.c_Fork "yes" := T.nFys
  have N4 : NoAttr K T.c_Fork "no" := T.nFno
  have N5 : NoAttr K T.c_Fork "leaf_count" := T.nFlt
  have N6 : NoAttr K T.c_Fork "depth" := T.nFdh
  walk_at "rd"
  exact q

theorem ok_Fork_deep (T : Tx K mg) : FnOk P w K mg base (CXe P w) 1 T.f_Fork_deep T.d_Fork_deep ["self"] (sp_ffield T.c_Fork "depth") := by
  have sc := sc_Fork_deep
  refine T.F_Fork_deep.okx sc (fun vs H Q E h => ?_) (fun cdv A outer s H vs Q E hr h => ?_)
  · obtain ⟨x, dx, fs, v, rfl, hx, hv, q⟩ := h
    rfl
  obtain ⟨x, dx, fs, v, rfl, hx, hv, q⟩ := h
  have hu := hr.units0
  have hu2 := hr.units
  have hu1 := Nat.lt_of_le_of_lt (Nat.add_le_add_left (show 1 ≤ 64 by decide) _) hu2
  refine ⟨_, (@pss_one _ _ _ (@ps_ret _ _ _ _ (pe_fld (pv 0) rfl))), ?_⟩
  walk_at "kx"
  have C1 := T.C_Leaf
  have C2 := T.C_Fork
  have N0 : NoAttr K T.c_Leaf "counted" := T.nLc
  have N1 : NoAttr K T.c_Fork "counted" := T.nFcd
  have N2 : NoAttr K T.c_Fork "question" := T.nFqn
  have N3 : NoAttr K T.c_Fork "yes" := T.nFys
  have N4 : NoAttr K T.c_Fork "no" := T.nFno
  have N5 : NoAttr K T.c_Fork "leaf_count" := T.nFlt
  have N6 : NoAttr K T.c_Fork "depth" := T.nFdh
  walk_at "rd"
  exact q

theorem ok_Fork___init__ (T : Tx K mg) : FnOk P w K mg base (CXe P w) 3 T.f_Fork___init__ T.d_Fork___init__ ["self", "counted", "question", "yes", "no"] (sp_init_fork2 T.c_Leaf T.c_Fork K) := by
  have sc := sc_Fork___init__
  refine T.F_Fork___init__.okx sc (fun vs H Q E h => ?_) (fun cdv A outer s H vs Q E hr h => ?_)
  · obtain ⟨x, a, qa, dx, v1, v2, xs, y, n, rfl, hx, ha, n1, n2, q⟩ := h
    rfl
  obtain ⟨x, a, qa, dx, v1, v2, xs, y, n, rfl, hx, ha, n1, n2, q⟩ := h
  have hu := hr.units0
  have hu2 := hr.units
  have hu1 := Nat.lt_of_le_of_lt (Nat.add_le_add_left (show 1 ≤ 64 by decide) _) hu2
  refine ⟨_, (@pss_cons _ _ _ _ _ (ps_expr (pe_clsc (pe_glob (v := .ref T.c_Node) rfl T.m_Node rfl) T.cc_Node___init__ (ok_Node___init__ T) (hr.mono (by decide)) T.b_Node___init__ (pass_e fun _ _ z => z) (pa_cons (pv 0) (pa_cons (pv 1) pa_nil))))
      (@pss_cons _ _ _ _ _ (ps_fld (pv 0) (pv 2) rfl)
      (@pss_cons _ _ _ _ _ (ps_fld (pv 0) (pv 3) rfl)
      (@pss_cons _ _ _ _ _ (@ps_mid _ _ _ (ps_fld (pv 0) (pv 4) rfl))
      (@pss_cons _ _ _ _ _ (ps_fld (pv 0) (@pe_op _ _ _ _ _ _ _ _ op_add (pe_meth20 (pv 3) T.C_Leaf T.M_Leaf_leaves (ok_Leaf_leaves T) (hr.mono (by decide)) T.b_Leaf_leaves T.C_Fork T.M_Fork_leaves (ok_Fork_leaves T) (hr.mono (by decide)) T.b_Fork_leaves (pass_e fun _ _ z => z)) (pe_meth20 (pv 4) T.C_Leaf T.M_Leaf_leaves (ok_Leaf_leaves T) (hr.mono (by decide)) T.b_Leaf_leaves T.C_Fork T.M_Fork_leaves (ok_Fork_leaves T) (hr.mono (by decide)) T.b_Fork_leaves (pass_e fun _ _ z => z))) rfl)
      (@pss_one _ _ _ (ps_fld (pv 0) (@pe_op _ _ _ _ _ _ _ _ op_add pe_int (pe_callB (call_max2 rfl) rfl T.z_max bt_max (pa_cons (pe_meth20 (pv 3) T.C_Leaf T.M_Leaf_deep (ok_Leaf_deep T) (hr.mono (by decide)) T.b_Leaf_deep T.C_Fork T.M_Fork_deep (ok_Fork_deep T) (hr.mono (by decide)) T.b_Fork_deep (pass_e fun _ _ z => z)) (pa_cons (pe_meth20 (pv 4) T.C_Leaf T.M_Leaf_deep (ok_Leaf_deep T) (hr.mono (by decide)) T.b_Leaf_deep T.C_Fork T.M_Fork_deep (ok_Fork_deep T) (hr.mono (by decide)) T.b_Fork_deep (pass_e fun _ _ z => z)) pa_nil)))) rfl))))))), ?_⟩
  walk_at "kx"
  have C1 := T.C_Leaf
  have C2 := T.C_Fork
  have N0 : NoAttr K T.c_Leaf "counted" := T.nLc
  have N1 : NoAttr K T.c_Fork "counted" := T.nFcd
  have N2 : NoAttr K T.c_Fork "question" := T.nFqn
  have N3 : NoAttr K T.c_Fork "yes" := T.nFys
  have N4 : NoAttr K T.c_Fork "no" := T.nFno
  have N5 : NoAttr K T.c_Fork "leaf_count" := T.nFlt
  have N6 : NoAttr K T.c_Fork "depth" := T.nFdh
  have cne := lne T.kLF T.kFF
  walk_at "rd"
  refine ⟨.inr rfl, ha, fun l hl => ?_⟩
  have nlx : l ≠ x := Ne.symm (ne_of_none hx hl)
  walk_at "rd"
  refine ⟨fun σ' H1 => Iv (σ' = [some (.ref x), some (.ref a), some (.ref qa), some v1, some v2] ∧ SameB x H H1 ∧ H1 l = some (.lst xs) ∧ H1 x = some (.ins T.c_Fork dx [("counted", .ref l), ("question", .ref qa), ("yes", v1), ("no", v2)])), ?_, ?_⟩
  · walk_at "rd"
    refine ⟨⟨rfl, fun b o nb e => ?_, ?_, ?_⟩⟩
    · rw [upd_ne nb, upd_ne nb, upd_ne nb, upd_ne nb]
      exact kp e hl
    · rw [upd_ne nlx, upd_ne nlx, upd_ne nlx, upd_ne nlx]
      exact upd_same
    · rw [upd_same]
      rfl
  rintro σ' H1 ⟨⟨rfl, S1, hl1, hx1⟩⟩
  have m1 := n1.sbx S1 hx cne (by decide)
  have m2 := n2.sbx S1 hx cne (by decide)
  walk_at "rd"
  refine nd_leaves m1 ?_
  walk_at "rd"
  refine nd_leaves m2 ?_
  walk_at "rd"
  have S2 : SameB x H1 (upd H1 x (.ins T.c_Fork dx [("counted", .ref l), ("question", .ref qa), ("yes", v1), ("no", v2), ("leaf_count", .int ((y.lv : Nat) + (n.lv : Nat)))])) := fun b o nb e => by rw [upd_ne nb]; exact e
  have k1 := m1.sbx S2 hx1 cne (show 4 < 6 by decide)
  have k2 := m2.sbx S2 hx1 cne (show 4 < 6 by decide)
  refine nd_deep k1 ?_
  walk_at "rd"
  refine nd_deep k2 ?_
  walk_at "rd"
  have e1 : ((y.lv + n.lv : Nat) : Int) = (y.lv : Nat) + (n.lv : Nat) := by omega
  have e2 : ((1 + max y.dp n.dp : Nat) : Int) = 1 + (if ((n.dp : Nat) : Int) > (y.dp : Nat) then ((n.dp : Nat) : Int) else (y.dp : Nat)) := by split <;> omega
  generalize hf : (HO.ins T.c_Fork dx (putF "depth" _ _)) = fo
  generalize (HO.ins T.c_Fork dx (putF "leaf_count" _ _)) = mo
  have S4 : SameB x H1 (upd (upd H1 x mo) x fo) := fun b o nb e => by rw [upd_ne nb, upd_ne nb]; exact e
  refine q _ l (fun b o nb e => S4 _ _ nb (S1 _ _ nb e)) hl ?_ (S4 _ _ nlx hl1)
  rw [upd_same, ← hf, e1, e2]
  rfl

theorem ok_costed0 (T : Tx K mg) : FnOk P w K mg base (CXe P w) (0 + 5) T.f_costed T.d_costed ["node", "measure"] (sp_costed T.c_Leaf T.c_Fork K T.c_NoMeasure 0) := by
  have sc := sc_costed
  refine T.F_costed.okx sc (fun vs H Q E h => ?_) (fun cdv A outer s H vs Q E hr h => ?_)
  · obtain ⟨v, m, t, rfl, nd, nz, sh, td, q⟩ := h
    rfl
  obtain ⟨v, m, t, rfl, nd, nz, sh, td, q⟩ := h
  have hu := hr.units0
  have hu2 := hr.units
  have hu1 := Nat.lt_of_le_of_lt (Nat.add_le_add_left (show 1 ≤ 64 by decide) _) hu2
  refine ⟨_, (@pss_cons _ _ _ _ _ (@ps_set _ _ 2 _ _ _ _ sc.nd rfl (by first | exact Or.inl rfl | exact Or.inr rfl) (pe_call (ok_mess T) (hr.mono (by decide)) rfl T.m_mess T.F_mess.kp T.b_mess .nil (pass_e fun _ _ z => z) (pa_cons (pe_fld (pv 0) rfl) (pa_cons (pv 1) pa_nil))) (by rfl) (by first | exact .inl rfl | exact .inr rfl | assumption))
      (@pss_cons _ _ _ _ _ (@ps_if _ _ _ _ _ _ _ _ (pt_val (pe_callB call_isiO rfl T.z_isinstance bt_isinstance (pa_cons (pv 0) (pa_cons (pe_glob (v := .ref T.c_Fork) rfl T.m_Fork rfl) pa_nil)))) (@pss_one _ _ _ ps_never) pss_nil)
      (@pss_one _ _ _ (@ps_ret _ _ _ _ (pe_tup (pa_cons pe_str (pa_cons (pv 2) pa_nil) se_c)))))), ?_⟩
  walk_at "kx"
  have C1 := T.C_Leaf
  have C2 := T.C_Fork
  have N0 : NoAttr K T.c_Leaf "counted" := T.nLc
  have N1 : NoAttr K T.c_Fork "counted" := T.nFcd
  have N2 : NoAttr K T.c_Fork "question" := T.nFqn
  have N3 : NoAttr K T.c_Fork "yes" := T.nFys
  have N4 : NoAttr K T.c_Fork "no" := T.nFno
  have N5 : NoAttr K T.c_Fork "leaf_count" := T.nFlt
  have N6 : NoAttr K T.c_Fork "depth" := T.nFdh
  have t1 : ∀ {H : Hp} {a dx fs}, H a = some (.ins T.c_Leaf dx fs) → TyOf K H (.ref a) (.ref T.c_Leaf) := fun h => .ins h C1 T.clL T.ogt T.otk T.omL
  have t2 : ∀ {H : Hp} {a dx fs}, H a = some (.ins T.c_Fork dx fs) → TyOf K H (.ref a) (.ref T.c_Fork) := fun h => .ins h C2 T.clF T.ogt T.otk T.omF
  have k1 := T.kLF
  have k2 := T.kFF
  cases nd with
  | @lf x dx l cs hx cn =>
    cases nz with
    | lf cz =>
      walk_at "rd"
      rcases q with ⟨hm, q⟩ | ⟨hm, q⟩
      · refine .inl ⟨hm, fun r H1 hr0 S1 hr => ?_⟩
        have ty := t1 (S1 _ _ hx)
        walk_at "rd"
        rename_i pp hpp
        exact q _ _ (S1.new hpp _) (.en upd_same (kp hr hpp))
      · exact .inr ⟨hm, q⟩
  | fk h1 => exact absurd td (by show ¬ 1 + max _ _ ≤ 0; omega)

theorem ok_costedS (T : Tx K mg) (d : Nat) (ih : FnOk P w K mg base (CXe P w) (d + 5) T.f_costed T.d_costed ["node", "measure"] (sp_costed T.c_Leaf T.c_Fork K T.c_NoMeasure d)) : FnOk P w K mg base (CXe P w) (d + 1 + 5) T.f_costed T.d_costed ["node", "measure"] (sp_costed T.c_Leaf T.c_Fork K T.c_NoMeasure (d + 1)) := by
  have sc := sc_costed
  refine T.F_costed.okx sc (fun vs H Q E h => ?_) (fun cdv A outer s H vs Q E hr h => ?_)
  · obtain ⟨v, m, t, rfl, nd, nz, sh, td, q⟩ := h
    rfl
  obtain ⟨v, m, t, rfl, nd, nz, sh, td, q⟩ := h
  have hu := hr.units0
  have hu2 := hr.units
  have hu1 := Nat.lt_of_le_of_lt (Nat.add_le_add_left (show 1 ≤ 64 by decide) _) hu2
  refine ⟨_, (@pss_cons _ _ _ _ _ (@ps_set _ _ 2 _ _ _ _ sc.nd rfl (by first | exact Or.inl rfl | exact Or.inr rfl) (pe_call (ok_mess T) (hr.mono (by omega)) rfl T.m_mess T.F_mess.kp T.b_mess .nil (pass_e fun _ _ z => z) (pa_cons (pe_fld (pv 0) rfl) (pa_cons (pv 1) pa_nil))) (by rfl) (by first | exact .inl rfl | exact .inr rfl | assumption))
      (@pss_cons _ _ _ _ _ (@ps_if _ _ _ _ _ _ _ _ (pt_val (pe_callB call_isiO rfl T.z_isinstance bt_isinstance (pa_cons (pv 0) (pa_cons (pe_glob (v := .ref T.c_Fork) rfl T.m_Fork rfl) pa_nil)))) (@pss_one _ _ _ (@ps_ret _ _ _ _ (pe_tup (pa_cons pe_str (pa_cons (pv 2) (pa_cons (pe_call ih (hr.mono (by omega)) rfl T.m_costed T.F_costed.kp T.b_costed .nil (pass_e fun _ _ z => z) (pa_cons (pe_fld (pv 0) rfl) (pa_cons (pv 1) pa_nil))) (pa_cons (pe_call ih (hr.mono (by omega)) rfl T.m_costed T.F_costed.kp T.b_costed .nil (pass_e fun _ _ z => z) (pa_cons (pe_fld (pv 0) rfl) (pa_cons (pv 1) pa_nil))) pa_nil))) se_c)))) pss_nil)
      (@pss_one _ _ _ (@ps_ret _ _ _ _ (pe_tup (pa_cons pe_str (pa_cons (pv 2) pa_nil) se_c)))))), ?_⟩
  walk_at "kx"
  have C1 := T.C_Leaf
  have C2 := T.C_Fork
  have N0 : NoAttr K T.c_Leaf "counted" := T.nLc
  have N1 : NoAttr K T.c_Fork "counted" := T.nFcd
  have N2 : NoAttr K T.c_Fork "question" := T.nFqn
  have N3 : NoAttr K T.c_Fork "yes" := T.nFys
  have N4 : NoAttr K T.c_Fork "no" := T.nFno
  have N5 : NoAttr K T.c_Fork "leaf_count" := T.nFlt
  have N6 : NoAttr K T.c_Fork "depth" := T.nFdh
  have t1 : ∀ {H : Hp} {a dx fs}, H a = some (.ins T.c_Leaf dx fs) → TyOf K H (.ref a) (.ref T.c_Leaf) := fun h => .ins h C1 T.clL T.ogt T.otk T.omL
  have t2 : ∀ {H : Hp} {a dx fs}, H a = some (.ins T.c_Fork dx fs) → TyOf K H (.ref a) (.ref T.c_Fork) := fun h => .ins h C2 T.clF T.ogt T.otk T.omF
  have k1 := T.kLF
  have k2 := T.kFF
  cases nd with
  | @lf x dx l cs hx cn =>
    cases nz with
    | lf cz =>
      walk_at "rd"
      rcases q with ⟨hm, q⟩ | ⟨hm, q⟩
      · refine .inl ⟨hm, fun r H1 hr0 S1 hr => ?_⟩
        have ty := t1 (S1 _ _ hx)
        walk_at "rd"
        rename_i pp hpp
        exact q _ _ (S1.new hpp _) (.en upd_same (kp hr hpp))
      · exact .inr ⟨hm, q⟩
  | @fk x dx l qa cs qq v1 v2 y n hx cn hq n1 n2 =>
    cases nz with
    | fk cz zy zn =>
      have dd : 1 + max y.dp n.dp ≤ d + 1 := td
      walk_at "rd"
      rcases q with ⟨hm, q⟩ | ⟨hm, q⟩
      · refine .inl ⟨hm, fun r H1 hr0 S1 hr => ?_⟩
        have hx1 := S1 _ _ hx
        have ty := t2 hx1
        walk_at "rd"
        refine ⟨n1.same S1, zy, sh, by omega, .inl ⟨hm, fun H2 u2 S2 c2 => ?_⟩⟩
        have hx2 := S2 _ _ hx1
        walk_at "rd"
        refine ⟨(n2.same S1).same S2, zn, sh, by omega, .inl ⟨hm, fun H3 u3 S3 c3 => ?_⟩⟩
        walk_at "rd"
        rename_i pp hpp
        have SN := same_new hpp (H := H3) (.tup [.str "fork", .ref r, u2, u3])
        exact q _ _ (((S1.trans S2).trans S3).trans SN) (.fk upd_same (SN _ _ (S3 _ _ (S2 _ _ hr))) ((c2.same S3).same SN) (c3.same SN))
      · exact .inr ⟨hm, q⟩

theorem ok_costedA (T : Tx K mg) : ∀ d : Nat, FnOk P w K mg base (CXe P w) (d + 5) T.f_costed T.d_costed ["node", "measure"] (sp_costed T.c_Leaf T.c_Fork K T.c_NoMeasure d) := by
  intro d
  induction d with
  | zero => exact ok_costed0 T
  | succ d ih => exact ok_costedS T d ih
theorem ok_costed (T : Tx K mg) : FnOk P w K mg base (CXe P w) (32 + 5) T.f_costed T.d_costed ["node", "measure"] (sp_costed T.c_Leaf T.c_Fork K T.c_NoMeasure 32) := by exact ok_costedA T 32

theorem ok_law_cell (T : Tx K mg) : FnOk P w K mg base (CXe P w) 1 T.f_law_cell T.d_law_cell ["_law_script", "_law_k"] (sp_law_cell K) := by
  have sc := sc_law_cell
  refine T.F_law_cell.okx sc (fun vs H Q E h => ?_) (fun cdv A outer s H vs Q E hr h => ?_)
  · obtain ⟨a, ns, k, rfl, hS, hk, q⟩ := h
    rfl
  obtain ⟨a, ns, k, rfl, hS, hk, q⟩ := h
  have hu := hr.units0
  have hu2 := hr.units
  have hu1 := Nat.lt_of_le_of_lt (Nat.add_le_add_left (show 1 ≤ 64 by decide) _) hu2
  refine ⟨_, (@pss_cons _ _ _ _ _ (@ps_if _ _ _ _ _ _ _ _ (@pt_cmpR _ _ _ _ _ _ _ _ op_lt (pv 1) (pe_callB call_len_seq rfl T.z_len bt_len (pa_cons (pv 0) pa_nil)) (nomark _)) (@pss_one _ _ _ (@ps_ret _ _ _ _ (@pe_ix _ _ _ _ _ _ _ ix_list (pv 0) (pv 1) (fun _ _ => rfl)))) pss_nil)
      (@pss_one _ _ _ (@ps_ret _ _ _ _ pe_int))), ?_⟩
  walk_at "kx"
  have hl2 : (ns.map V.int).length = ns.length := List.length_map _
  walk_at "rd"
  refine ite3 (fun h => ?_) (fun h => ?_)
  · obtain ⟨v, hv⟩ := at_ints (ns := ns) (k := k) hk (by omega)
    walk_at "rd"
    exact q v
  · exact q 0

theorem ok_law_pick (T : Tx K mg) : FnOk P w K mg base (CXe P w) 1 T.f_law_pick T.d_law_pick ["_law_cell_here", "_law_turn", "_law_many"] sp_pick := by
  have sc := sc_law_pick
  refine T.F_law_pick.okx sc (fun vs H Q E h => ?_) (fun cdv A outer s H vs Q E hr h => ?_)
  · obtain ⟨c, k, m, rfl, k0, k1, m0, m1, q⟩ := h
    rfl
  obtain ⟨c, k, m, rfl, k0, k1, m0, m1, q⟩ := h
  have hu := hr.units0
  have hu2 := hr.units
  have hu1 := Nat.lt_of_le_of_lt (Nat.add_le_add_left (show 1 ≤ 64 by decide) _) hu2
  refine ⟨_, (@pss_cons _ _ _ _ _ (@ps_set _ _ 3 _ _ _ _ sc.nd rfl (by first | exact Or.inl rfl | exact Or.inr rfl) (@pe_op _ _ _ _ _ _ _ _ op_mod (@pe_op _ _ _ _ _ _ _ _ op_mulB (@pe_op _ _ _ _ _ _ _ _ op_add (@pe_op _ _ _ _ _ _ _ _ op_mod (pv 0) pe_int) pe_int) (@pe_op _ _ _ _ _ _ _ _ op_add pe_int (@pe_op _ _ _ _ _ _ _ _ op_mulB pe_int (pv 1)))) pe_int) (by rfl) (by first | exact .inl rfl | exact .inr rfl | assumption))
      (@pss_one _ _ _ (@ps_ret _ _ _ _ (@pe_op _ _ _ _ _ _ _ _ op_mod (@pe_op _ _ _ _ _ _ _ _ op_fdivB (@pe_op _ _ _ _ _ _ _ _ op_mod (@pe_op _ _ _ _ _ _ _ _ op_mulB (pv 3) pe_int) pe_int) pe_int) (pv 2))))), ?_⟩
  walk_at "kx"
  walk_at "rd"
  exact q _ (Int.emod_nonneg _ (by omega)) (Int.emod_lt_of_pos _ m0)

theorem ok_law_lowest (T : Tx K mg) : FnOk P w K mg base (CXe P w) 1 T.f_law_lowest T.d_law_lowest ["_law_top", "_law_bottom"] sp_lowest23 := by
  have sc := sc_law_lowest
  refine T.F_law_lowest.okx sc (fun vs H Q E h => ?_) (fun cdv A outer s H vs Q E hr h => ?_)
  · obtain ⟨t, b, rfl, hb, bz, q⟩ := h
    rfl
  obtain ⟨t, b, rfl, hb, bz, q⟩ := h
  have hu := hr.units0
  have hu2 := hr.units
  have hu1 := Nat.lt_of_le_of_lt (Nat.add_le_add_left (show 1 ≤ 64 by decide) _) hu2
  refine ⟨_, (@pss_cons _ _ _ _ _ (@ps_set _ _ 2 _ _ _ _ sc.nd rfl (by first | exact Or.inl rfl | exact Or.inr rfl) (pe_callB call_abs rfl T.z_abs bt_abs (pa_cons (pv 0) pa_nil)) (by rfl) (by first | exact .inl rfl | exact .inr rfl | assumption))
      (@pss_cons _ _ _ _ _ (@ps_set _ _ 3 _ _ _ _ sc.nd rfl (by first | exact Or.inl rfl | exact Or.inr rfl) (pv 1) (by rfl) (by first | exact .inl rfl | exact .inr rfl | assumption))
      (@pss_cons _ _ _ _ _ (ps_while powx (@pt_cmpR _ _ _ _ _ _ _ _ op_gt (pv 3) pe_int (nomark _)) (@pss_cons _ _ _ _ _ (@ps_set _ _ 4 _ _ _ _ sc.nd rfl (by first | exact Or.inl rfl | exact Or.inr rfl) (@pe_op _ _ _ _ _ _ _ _ op_mod (pv 2) (pv 3)) (by rfl) (by first | exact .inl rfl | exact .inr rfl | assumption))
      (@pss_cons _ _ _ _ _ (@ps_set _ _ 2 _ _ _ _ sc.nd rfl (by first | exact Or.inl rfl | exact Or.inr rfl) (pv 3) (by rfl) (by first | exact .inl rfl | exact .inr rfl | assumption))
      (@pss_one _ _ _ (@ps_set _ _ 3 _ _ _ _ sc.nd rfl (by first | exact Or.inl rfl | exact Or.inr rfl) (pv 4) (by rfl) (by first | exact .inl rfl | exact .inr rfl | assumption))))))
      (@pss_one _ _ _ (@ps_ret _ _ _ _ (pe_tup (pa_cons (@pe_op _ _ _ _ _ _ _ _ op_fdivB (pv 0) (pv 2)) (pa_cons (@pe_op _ _ _ _ _ _ _ _ op_fdivB (pv 1) (pv 2)) pa_nil)))))))), ?_⟩
  walk_at "kx"
  walk_at "rd"
  refine while_by (fun σ H' => Iv (H' = H ∧ ∃ (x y : Int) (r : Option V), σ = [some (.int t), some (.int b), some (.int x), some (.int y), r] ∧ M.Inv t b x y))
    (fun σ _ => match σ with | [_, _, _, some (.int y), _] => y.toNat | _ => 0) ⟨⟨rfl, _, _, _, rfl, M.Inv.start t b (by omega)⟩⟩ ?_ ?_
  · rintro σ' H' ⟨⟨rfl, x, y, r, rfl, iv⟩⟩
    have h1 := iv.y0
    walk_at "rd"
    refine ite3 (fun hy => ?_) (fun c => ?_)
    · walk_at "rd"
      exact ⟨⟨⟨rfl, _, _, _, rfl, iv.turn hy⟩⟩, M.less hy⟩
    · have e := iv.out (by omega) (by omega)
      subst e
      have c1 := cGe (t := t) hb bz t
      have c2 := cGe (t := t) hb bz b
      walk_at "rd"
      exact q.low hb _ (by assumption)
  · rintro σ' H' Q1 Q2 hq ⟨v, e, i, j, ei, ej, k, ek, y⟩
    exact ⟨v, e, i, j, ei, ej, k, ek, hq _ _ y⟩

theorem ok_law_counts (T : Tx K mg) : FnOk P w K mg base (CXe P w) 2 T.f_law_counts T.d_law_counts ["_law_cell_here"] (sp_counts23 K) := by
  have sc := sc_law_counts
  refine T.F_law_counts.okx sc (fun vs H Q E h => ?_) (fun cdv A outer s H vs Q E hr h => ?_)
  · obtain ⟨c, rfl, q⟩ := h
    rfl
  obtain ⟨c, rfl, q⟩ := h
  have hu := hr.units0
  have hu2 := hr.units
  have hu1 := Nat.lt_of_le_of_lt (Nat.add_le_add_left (show 1 ≤ 64 by decide) _) hu2
  refine ⟨_, (@pss_cons _ _ _ _ _ (@ps_set _ _ 1 _ _ _ _ sc.nd rfl (by first | exact Or.inl rfl | exact Or.inr rfl) (@pe_lst _ _ _ _ pa_nil) (by rfl) (by first | exact .inl rfl | exact .inr rfl | assumption))
      (@pss_cons _ _ _ _ _ (@ps_set _ _ 2 _ _ _ _ sc.nd rfl (by first | exact Or.inl rfl | exact Or.inr rfl) (@pe_ix _ _ _ _ _ _ _ ix_str pe_str (pe_call (ok_law_pick T) (hr.mono (by decide)) rfl T.m_law_pick T.F_law_pick.kp T.b_law_pick .nil (pass_e fun _ _ z => z) (pa_cons (pv 0) (pa_cons pe_int (pa_cons pe_int pa_nil)))) (fun _ _ => rfl)) (by rfl) (by first | exact .inl rfl | exact .inr rfl | assumption))
      (@pss_cons _ _ _ _ _ (ps_for powx rfl (pi_enum rfl T.z_enumerate (pa_cons (@pe_lst _ _ _ _ (pa_cons pe_str (pa_cons pe_str (pa_cons pe_str pa_nil se_c) se_c) se_c)) pa_nil)) (pg_tup rfl (pgs_cons (pg_name (i := 3) sc.nd rfl (by first | exact Or.inl rfl | exact Or.inr rfl)) (pgs_cons (pg_name (i := 4) sc.nd rfl (by first | exact Or.inl rfl | exact Or.inr rfl)) pgs_nil)))
      (@pss_cons _ _ _ _ _ (@ps_set _ _ 5 _ _ _ _ sc.nd rfl (by first | exact Or.inl rfl | exact Or.inr rfl) (pe_call (ok_law_pick T) (hr.mono (by decide)) rfl T.m_law_pick T.F_law_pick.kp T.b_law_pick .nil (pass_e fun _ _ z => z) (pa_cons (pv 0) (pa_cons (@pe_op _ _ _ _ _ _ _ _ op_add pe_int (pv 3)) (pa_cons pe_int pa_nil)))) (by rfl) (by first | exact .inl rfl | exact .inr rfl | assumption))
      (@pss_one _ _ _ (@ps_if _ _ _ _ _ _ _ _ (PW.pt (pw_or (@pt_cmpR _ _ _ _ _ _ _ _ op_eqI (pv 5) pe_int (nomark _)) (pw_or1 (@pt_cmpR _ _ _ _ _ _ _ _ op_eqI (pv 5) pe_int (nomark _))))) (@pss_one _ _ _ (ps_expr (pe_bm PySem.F.plainAttrs_list PySem.F.slot_list_append PySem.F.type_list_append mt_append (pv 1) (pa_cons (pe_tup (pa_cons (@pe_op _ _ _ _ _ _ _ _ op_add_str (pv 2) (@pe_op _ _ _ _ _ _ _ _ op_mul_str (pv 4) (@pe_op _ _ _ _ _ _ _ _ op_add pe_int (pe_call (ok_law_pick T) (hr.mono (by decide)) rfl T.m_law_pick T.F_law_pick.kp T.b_law_pick .nil (pass_e fun _ _ z => z) (pa_cons (pv 0) (pa_cons pe_int (pa_cons pe_int pa_nil))))))) (pa_cons (pv 5) pa_nil))) pa_nil)))) pss_nil))))
      (@pss_one _ _ _ (@ps_ret _ _ _ _ (pv 1)))))), ?_⟩
  walk_at "kx"
  walk_at "rd"
  rename_i z hz d d0 d26
  have la := let_at d0 d26
  refine ⟨la, ?_⟩
  walk_at "rd"
  rename_i ls hls
  have nl : z ≠ ls := ne_of_none upd_same hls
  have cf : cds (⟨#[97 + d.toNat]⟩ : Str) = [97 + d.toNat] := rfl
  have lf : (⟨#[97 + d.toNat]⟩ : Str).length = 1 := rfl
  refine for_enum (K := K) (a := ls) (xs := [.str "a", .str "k", .str "z"]) (fun i σ H' => Iv (∃ (xs : List V) (cs : List (Str × Int)) (o3 o4 o5 : Option V), σ = [some (.int c), some (.ref z), some (.str ⟨#[97 + d.toNat]⟩), o3, o4, o5] ∧ Same H H' ∧ H' ls = some (.lst [.str "a", .str "k", .str "z"]) ∧ H' z = some (.lst xs) ∧ TVs K H' xs (cs.map cD) ∧ cs.length ≤ i ∧ (∀ c ∈ cs, isW c.1 = true) ∧ (∀ c ∈ cs, 1 ≤ c.2) ∧ sumC cs ≤ 2 * (i : Int))) ⟨⟨[], [], _, _, _, rfl, (same_new hz _).new hls _, upd_same, kp upd_same hls, .nil, Nat.le_refl _, (fun c hc => by cases hc), (fun c hc => by cases hc), Int.le_refl _⟩⟩ (fun i σ H' _ y => by obtain ⟨⟨_, _, _, _, _, _, _, h, _⟩⟩ := y; exact SqL.of h) ?_ ?_
  · rintro i x σ H' T hi ⟨⟨xs, cs, o3, o4, o5, rfl, S, hl1, hz1, tv, lc, okw, ok1, sm⟩⟩ hT
    have i3 : i < 3 := (List.getElem?_eq_some_iff.mp hi).1
    obtain ⟨e, f, rfl, we, e1⟩ : ∃ (w : Str) (e : Nat), x = .str w ∧ cds w = [e] ∧ 97 ≤ e ∧ e ≤ 122 := by
      rcases i with _ | _ | _ | i
      · exact ⟨"a", 97, (Option.some.inj hi).symm, by decide +kernel, by decide, by decide⟩
      · exact ⟨"k", 107, (Option.some.inj hi).symm, by decide +kernel, by decide, by decide⟩
      · exact ⟨"z", 122, (Option.some.inj hi).symm, by decide +kernel, by decide, by decide⟩
      · omega
    have le : e.length = 1 := by rw [← cds_len, we]; rfl
    have xl : xs.length < sizeLine := by have := tv.length; rw [List.length_map] at this; exact small1000 (by omega)
    have S' := S.new hT (.tup [.int (i : Int), .str e])
    have hl2 := kp hl1 hT (u := .tup [.int (i : Int), .str e])
    have hz2 := kp hz1 hT (u := .tup [.int (i : Int), .str e])
    have tv2 := tv.mono ((SameT.refl H').new hT (.tup [.int (i : Int), .str e]))
    have hT2 := upd_same (H := H') (a := T) (o := .tup [.int (i : Int), .str e])
    generalize upd H' T (.tup [.int (i : Int), .str e]) = H1 at S' hl2 hz2 tv2 hT2 ⊢
    clear hl1 hz1 tv S hT
    walk_at "rd"
    rename_i m m0 m4
    have nz1 : T ≠ z := ne_of hT2 hz2 (by intro z; cases z)
    have fin : ∀ (pp : Addr) (v : Int), 0 ≤ v → v < 11 → 1 ≤ m → m ≤ 2 → H1 pp = none → Iv (∃ (xs' : List V) (cs : List (Str × Int)) (o3 o4 o5 : Option V), [some (.int c), some (.ref z), some (.str ⟨#[97 + d.toNat]⟩), some (.int (i : Int)), some (.str e), some (.int m)] = [some (.int c), some (.ref z), some (.str ⟨#[97 + d.toNat]⟩), o3, o4, o5] ∧ Same H (upd (upd H1 pp (.tup [.str ((⟨#[97 + d.toNat]⟩ : Str) ++ repS e (1 + v)), .int m])) z (.lst (xs ++ [.ref pp]))) ∧ upd (upd H1 pp (.tup [.str ((⟨#[97 + d.toNat]⟩ : Str) ++ repS e (1 + v)), .int m])) z (.lst (xs ++ [.ref pp])) ls = some (.lst [.str "a", .str "k", .str "z"]) ∧ upd (upd H1 pp (.tup [.str ((⟨#[97 + d.toNat]⟩ : Str) ++ repS e (1 + v)), .int m])) z (.lst (xs ++ [.ref pp])) z = some (.lst xs') ∧ TVs K (upd (upd H1 pp (.tup [.str ((⟨#[97 + d.toNat]⟩ : Str) ++ repS e (1 + v)), .int m])) z (.lst (xs ++ [.ref pp]))) xs' (cs.map cD) ∧ cs.length ≤ i + 1 ∧ (∀ c ∈ cs, isW c.1 = true) ∧ (∀ c ∈ cs, 1 ≤ c.2) ∧ sumC cs ≤ 2 * ((i + 1 : Nat) : Int)) := fun pp v v0 v1 m1 m2 hp => by
      have hw := rep_word (k := 1 + v) cf we ⟨by omega, by omega⟩ e1 (by omega) (by omega)
      have npz : pp ≠ z := Ne.symm (ne_of_none hz2 hp)
      have st : SameT H1 (upd (upd H1 pp (.tup [.str ((⟨#[97 + d.toNat]⟩ : Str) ++ repS e (1 + v)), .int m])) z (.lst (xs ++ [.ref pp]))) := ((SameT.refl H1).new hp _).trans ((SameT.refl _).lst (kp hz2 hp) _)
      refine ⟨xs ++ [.ref pp], cs ++ [((⟨#[97 + d.toNat]⟩ : Str) ++ repS e (1 + v), m)], _, _, _, rfl, (S'.new hp _).upd hz _, ?_, upd_same, ?_, ?_, fun x hx => ?_, fun x hx => ?_, ?_⟩
      · rw [upd_ne (Ne.symm nl)]
        exact kp hl2 hp
      · rw [List.map_append]
        exact (tv2.mono st).append (.cons (.tup (xs := [.str ((⟨#[97 + d.toNat]⟩ : Str) ++ repS e (1 + v)), .int m]) ((upd_ne npz).trans upd_same) (.cons (.str _) (.cons (.int _) .nil))) .nil)
      · rw [List.length_append]
        show _ + 1 ≤ _
        omega
      · rcases List.mem_append.mp hx with h | h
        · exact okw x h
        · rw [List.mem_singleton.mp h]; exact hw
      · rcases List.mem_append.mp hx with h | h
        · exact ok1 x h
        · rw [List.mem_singleton.mp h]; exact m1
      · rw [sumC_app]
        show sumC cs + (m + 0) ≤ _
        omega
    have lz : ∀ v : Int, 0 ≤ v → v < 11 → (⟨#[97 + d.toNat]⟩ : Str).length + (repS e (1 + v)).length ≤ sizeLine := fun v v0 v1 => szB (by
      have hw := isW_len (rep_word (k := 1 + v) cf we ⟨by omega, by omega⟩ e1 (by omega) (by omega))
      rw [lenA] at hw
      omega)
    refine ite3 (fun c1 => ?_) (fun c1 => ?_)
    · walk_at "rd"
      rename_i v v0 v1
      refine ⟨lz v v0 v1, ?_⟩
      walk_at "rd"
      rename_i pp hpp
      exact fin pp v v0 v1 (by omega) (by omega) hpp
    · walk_at "rd"
      refine ite3 (fun c1 => ?_) (fun c1 => ?_)
      · walk_at "rd"
        rename_i v v0 v1
        refine ⟨lz v v0 v1, ?_⟩
        walk_at "rd"
        rename_i pp hpp
        exact fin pp v v0 v1 (by omega) (by omega) hpp
      · walk_at "rd"
        exact ⟨⟨xs, cs, _, _, _, rfl, S', hl2, hz2, tv2, by omega, okw, ok1, by omega⟩⟩
  · rintro σ H' ⟨⟨xs, cs, o3, o4, o5, rfl, S, hl1, hz1, tv, lc, okw, ok1, sm⟩⟩
    walk_at "rd"
    exact q _ z cs S hz ⟨xs, hz1, tv⟩ ⟨lc, okw, ok1, by have : sumC cs ≤ 2 * ((3 : Nat) : Int) := sm; omega⟩

theorem ok_law_together (T : Tx K mg) : FnOk P w K mg base (CXe P w) 1 T.f_law_together T.d_law_together ["_law_one", "_law_two"] (sp_together23 K) := by
  have sc := sc_law_together
  refine T.F_law_together.okx sc (fun vs H Q E h => ?_) (fun cdv A outer s H vs Q E hr h => ?_)
  · obtain ⟨a, b, cs, ds, k, l, rfl, ⟨xs, ha, ta⟩, ⟨ys, hb, tb⟩, ck, dk, kl, q⟩ := h
    rfl
  obtain ⟨a, b, cs, ds, k, l, rfl, ⟨xs, ha, ta⟩, ⟨ys, hb, tb⟩, ck, dk, kl, q⟩ := h
  have hu := hr.units0
  have hu2 := hr.units
  have hu1 := Nat.lt_of_le_of_lt (Nat.add_le_add_left (show 1 ≤ 64 by decide) _) hu2
  refine ⟨_, (@pss_cons _ _ _ _ _ (@ps_set _ _ 2 _ _ _ _ sc.nd rfl (by first | exact Or.inl rfl | exact Or.inr rfl) pe_dnewK (by rfl) (by first | exact .inl rfl | exact .inr rfl | assumption))
      (@pss_cons _ _ _ _ _ (ps_for powx rfl (pi_list (@pe_op _ _ _ _ _ _ _ _ op_cat (pv 0) (pv 1))) (pg_tup rfl (pgs_cons (pg_name (i := 3) sc.nd rfl (by first | exact Or.inl rfl | exact Or.inr rfl)) (pgs_cons (pg_name (i := 4) sc.nd rfl (by first | exact Or.inl rfl | exact Or.inr rfl)) pgs_nil)))
      (@pss_one _ _ _ (ps_dput hu1 (pv 2) (pv 3) (@pe_op _ _ _ _ _ _ _ _ op_add (pe_dget2 hu1 (pv 2) (pv 3) pe_int ⟨rfl, rfl, rfl, rfl⟩) (pv 4)) rfl)))
      (@pss_one _ _ _ (@ps_ret _ _ _ _ (pe_lc (ts := ["_law_name"]) (js := [2]) (LcOk.of rfl) rfl (pi_list (pe_callB (call_sortedD rfl) rfl T.z_sorted bt_sorted (pa_cons (pv 2) pa_nil))) (fun _ _ _ _ => (pg_name (i := 0) (nodup_of rfl) rfl (Or.inl rfl))) (fun _ _ _ _ => pf_nil) (fun _ _ _ _ => (pe_tup (pa_cons (pv 0) (pa_cons (pe_dget hu1 (pv 1) (pv 0) (fun _ _ => rfl)) pa_nil))))))))), ?_⟩
  walk_at "kx"
  have la : xs.length = cs.length := by have := ta.length; rw [List.length_map] at this; exact this
  have lb : ys.length = ds.length := by have := tb.length; rw [List.length_map] at this; exact this
  have l1 := ck.len
  have l2 := dk.len
  have tt : TVs K H (xs ++ ys) ((cs ++ ds).map cD) := by rw [List.map_append]; exact ta.append tb
  have ll : (xs ++ ys).length = (cs ++ ds).length := by rw [List.length_append, List.length_append, la, lb]
  have l3 : (cs ++ ds).length ≤ 3 * (k + l) := by rw [List.length_append]; omega
  have okc : ∀ c ∈ cs ++ ds, isW c.1 = true ∧ 1 ≤ c.2 := fun c hc => (List.mem_append.mp hc).elim (fun h => ⟨ck.wd c h, ck.one c h⟩) (fun h => ⟨dk.wd c h, dk.one c h⟩)
  have sm : sumC (cs ++ ds) ≤ 6 * ((k + l : Nat) : Int) := by rw [sumC_app]; have := ck.sm; have := dk.sm; omega
  generalize cs ++ ds = es at tt ll l3 okc sm
  walk_at "rd"
  rename_i z hz ls hls
  refine for_list (K := K) (a := ls) (xs := xs ++ ys) (fun i σ H' => Iv (∃ (L : List Str) (f : Str → Int) (o3 o4 : Option V), σ = [some (.ref a), some (.ref b), some (.ref z), o3, o4] ∧ Same H H' ∧ H' ls = some (.lst (xs ++ ys)) ∧ H' z = some (.dK (dkv L f)) ∧ Dq (es.take i) L f)) ⟨⟨[], fun _ => 0, _, _, rfl, (same_new hz _).new hls _, upd_same, kp upd_same hls, ⟨List.nodup_nil, Nat.le_refl _, (fun w hw => by cases hw), rfl⟩⟩⟩ (fun i σ H' _ y => by obtain ⟨⟨_, _, _, _, _, _, h, _⟩⟩ := y; exact SqL.of h) ?_ ?_
  · rintro i x σ H' hi ⟨⟨L, f, o3, o4, rfl, S, hl1, hd, dq⟩⟩
    obtain ⟨dt, hdt, tv⟩ := (tt.mono S.t).get hi
    rw [List.getElem?_map] at hdt
    obtain ⟨c, hcc, rfl⟩ := Option.map_eq_some_iff.mp hdt
    obtain ⟨pc, u1, u2, rfl, hpc, t1, t2⟩ := tv.pair
    obtain rfl := t1.strs
    obtain rfl := t2.ints
    have il := (List.getElem?_eq_some_iff.mp hcc).1
    obtain ⟨ok1, ok2⟩ := okc c (List.mem_of_getElem? hcc)
    have g1 : IsD H' z := .inl ⟨_, .inl hd⟩
    have g2 : DGet H' z (.str c.1) (valV (dkv L f) (.inr c.1)) := DGet.k (k := .inr c.1) hd
    have gv : (valV (dkv L f) (.inr c.1)).getD (.int 0) = .int (if c.1 ∈ L then f c.1 else 0) := by rw [val_dkv]; split <;> rfl
    have ln : (dkv L f).length < sizeLine := by
      unfold dkv
      rw [List.length_map]
      have := dq.len
      rw [List.length_take] at this
      exact small1000 (by omega)
    have g3 : DPut H' z (.str c.1) (.int ((if c.1 ∈ L then f c.1 else 0) + c.2)) (upd H' z (.dK (putK (dkv L f) (.inr c.1) (.int ((if c.1 ∈ L then f c.1 else 0) + c.2))))) := DPut.k (k := .inr c.1) hd ln
    walk_at "rd"
    refine ⟨⟨addW L c.1, fun u => if u = c.1 then (if c.1 ∈ L then f c.1 else 0) + c.2 else f u, _, _, rfl, S.upd hz _, ?_, ?_, ?_⟩⟩
    · rw [upd_ne (ne_of hl1 hd (by intro z; cases z))]
      exact hl1
    · rw [upd_same, put_dkv _ dq.nd]
    · rw [List.take_add_one, hcc]
      exact dq.put ok1 ok2
  · rintro σ H' ⟨⟨L, f, o3, o4, rfl, S, hl1, hd, dq⟩⟩
    rw [ll, List.take_length] at dq
    have ld := dq.len
    walk_at "rd"
    refine ⟨dkv_keys _ _, by omega, fun qa ws hqa pm so => ?_⟩
    have lw := pm.length_eq
    have lws : (ws.map V.str).length = ws.length := List.length_map _
    have hd1 := kp (u := .lst (ws.map V.str)) hd hqa
    walk_at "rd"
    refine lc_list (K := K) (a := qa) (xs := ws.map V.str) (fun i ys H2 => Iv (Same (upd H' qa (.lst (ws.map V.str))) H2 ∧ TVs K H2 ys (((ws.take i).map fun w => (w, f w)).map cD))) ⟨⟨Same.refl _, .nil⟩⟩ (fun i ys H2 hi y => ⟨SqL.of (y.o.1 _ _ upd_same), by have := y.o.2.length; rw [List.length_map, List.length_map, List.length_take] at this; exact small1000 (by omega)⟩) ?_ ?_
    · rintro i x ys H2 hi ⟨⟨S2, tv⟩⟩
      rw [List.getElem?_map] at hi
      obtain ⟨w', hw', rfl⟩ := Option.map_eq_some_iff.mp hi
      have wm : w' ∈ L := pm.mem_iff.mp (List.mem_of_getElem? hw')
      have il := (List.getElem?_eq_some_iff.mp hw').1
      have g2 : DGet H2 z (.str w') (some (.int (f w'))) := by
        have := DGet.k (k := .inr w') (S2 _ _ hd1)
        rw [val_dkv, if_pos wm] at this
        exact this
      walk_at "rd"
      rename_i p hp
      have T3 := (same_new hp (H := H2) (.tup [.str w', .int (f w')])).t
      refine ⟨⟨S2.new hp _, ?_⟩⟩
      rw [List.take_add_one, hw', List.map_append, List.map_append]
      exact (tv.mono T3).append (.cons (.tup (xs := [.str w', .int (f w')]) upd_same (.cons (.str _) (.cons (.int _) .nil))) .nil)
    · rintro ys H2 ⟨⟨S2, tv⟩⟩ p hp
      rw [lws, List.take_length] at tv
      have S3 : Same H (upd H' qa (.lst (ws.map V.str))) := S.new hqa _
      exact q _ p _ ((S3.trans S2).new hp _) ((S3.trans S2).free hp) ⟨ys, upd_same, tv.mono (same_new hp (.lst ys)).t⟩ (dq.out pm l3 sm)

theorem ok_law_mess (T : Tx K mg) : FnOk P w K mg base (CXe P w) 2 T.f_law_mess T.d_law_mess ["_law_counted", "_law_measure"] (sp_mess23 K) := by
  have sc := sc_law_mess
  refine T.F_law_mess.okx sc (fun vs H Q E h => ?_) (fun cdv A outer s H vs Q E hr h => ?_)
  · obtain ⟨a, cs, m, rfl, ⟨xs, ha, ht⟩, cz, hm, q⟩ := h
    rfl
  obtain ⟨a, cs, m, rfl, ⟨xs, ha, ht⟩, cz, hm, q⟩ := h
  have hu := hr.units0
  have hu2 := hr.units
  have hu1 := Nat.lt_of_le_of_lt (Nat.add_le_add_left (show 1 ≤ 64 by decide) _) hu2
  refine ⟨_, (@pss_cons _ _ _ _ _ (by first | exact ps_setLC (i := 2) sc.nd rfl (by first | exact Or.inl rfl | exact Or.inr rfl) (ts := ["_law_name", "_law_many"]) (js := []) (LcOk.of rfl) rfl (pi_list (pv 0)) (fun _ _ _ _ => (pg_tup rfl (pgs_cons (pg_name (i := 0) (nodup_of rfl) rfl (Or.inl rfl)) (pgs_cons (pg_name (i := 1) (nodup_of rfl) rfl (Or.inl rfl)) pgs_nil)))) (fun _ _ _ _ => pf_nil) (fun _ _ _ _ => (pv 1)) | exact ps_set (i := 2) sc.nd rfl (by first | exact Or.inl rfl | exact Or.inr rfl) (pe_lc (ts := ["_law_name", "_law_many"]) (js := []) (LcOk.of rfl) rfl (pi_list (pv 0)) (fun _ _ _ _ => (pg_tup rfl (pgs_cons (pg_name (i := 0) (nodup_of rfl) rfl (Or.inl rfl)) (pgs_cons (pg_name (i := 1) (nodup_of rfl) rfl (Or.inl rfl)) pgs_nil)))) (fun _ _ _ _ => pf_nil) (fun _ _ _ _ => (pv 1))))
      (@pss_cons _ _ _ _ _ (@ps_if _ _ _ _ _ _ _ _ (@pt_cmpR _ _ _ _ _ _ _ _ op_eqI (pe_callB call_len_seq rfl T.z_len bt_len (pa_cons (pv 2) pa_nil)) pe_int (nomark _)) (@pss_one _ _ _ (@ps_ret _ _ _ _ (pe_tup (pa_cons pe_int (pa_cons pe_int pa_nil))))) pss_nil)
      (@pss_cons _ _ _ _ _ (@ps_if _ _ _ _ _ _ _ _ (@pt_cmpR _ _ _ _ _ _ _ _ op_eqS (pv 1) pe_str (nomark _)) (@pss_one _ _ _ (@ps_ret _ _ _ _ (pe_tup (pa_cons (@pe_op _ _ _ _ _ _ _ _ op_sub (pe_callB (call_sum rfl) rfl T.z_sum bt_sum (pa_cons (pv 2) pa_nil)) (pe_callB (call_max1 rfl) rfl T.z_max bt_max (pa_cons (pv 2) pa_nil))) (pa_cons pe_int pa_nil))))) pss_nil)
      (@pss_cons _ _ _ _ _ (@ps_set _ _ 3 _ _ _ _ sc.nd rfl (by first | exact Or.inl rfl | exact Or.inr rfl) (pe_callB (call_sum rfl) rfl T.z_sum bt_sum (pa_cons (pe_lc (ts := ["_law_many"]) (js := []) (LcOk.of rfl) rfl (pi_list (pv 2)) (fun _ _ _ _ => (pg_name (i := 0) (nodup_of rfl) rfl (Or.inl rfl))) (fun _ _ _ _ => pf_nil) (fun _ _ _ _ => (@pe_op _ _ _ _ _ _ _ _ op_mulB (pv 0) (pv 0)))) pa_nil)) (by rfl) (by first | exact .inl rfl | exact .inr rfl | assumption))
      (@pss_one _ _ _ (@ps_ret _ _ _ _ (pe_call (ok_law_lowest T) (hr.mono (by decide)) rfl T.m_law_lowest T.F_law_lowest.kp T.b_law_lowest .nil (pass_e fun _ _ z => z) (pa_cons (@pe_op _ _ _ _ _ _ _ _ op_sub (@pe_op _ _ _ _ _ _ _ _ op_mulB (pe_callB (call_sum rfl) rfl T.z_sum bt_sum (pa_cons (pv 2) pa_nil)) (pe_callB (call_sum rfl) rfl T.z_sum bt_sum (pa_cons (pv 2) pa_nil))) (pv 3)) (pa_cons (pe_callB (call_sum rfl) rfl T.z_sum bt_sum (pa_cons (pv 2) pa_nil)) pa_nil))))))))), ?_⟩
  walk_at "kx"
  have n60 := cz.len
  have sb := cz.sum
  have hlen : xs.length = cs.length := by have := ht.length; rw [List.length_map] at this; exact this
  walk_at "rd"
  refine lc_list (K := K) (a := a) (xs := xs) (fun i ys H2 => Iv (H2 = H ∧ ys = ((cs.take i).map (·.2)).map V.int)) ⟨⟨rfl, rfl⟩⟩ (fun i ys H2 hi z => ⟨by rw [z.o.1]; exact SqL.of ha, by rw [z.o.2, List.length_map, List.length_map, List.length_take]; exact small1000 (by omega)⟩) ?_ ?_
  · rintro i x ys H2 hi ⟨⟨rfl, rfl⟩⟩
    have il := (List.getElem?_eq_some_iff.mp hi).1
    obtain ⟨d, hd, tv⟩ := ht.get hi
    rw [List.getElem?_map] at hd
    obtain ⟨c, hc, rfl⟩ := Option.map_eq_some_iff.mp hd
    obtain ⟨p, u, v, rfl, hp, t1, t2⟩ := tv.pair
    obtain rfl := t1.strs
    obtain rfl := t2.ints
    walk_at "rd"
    refine ⟨⟨rfl, ?_⟩⟩
    rw [List.take_add_one, hc, List.map_append, List.map_append]
    rfl
  · rintro ys H2 ⟨⟨rfl, rfl⟩⟩ p hp
    rw [hlen, List.take_length]
    have lm : ((cs.map (·.2)).map V.int).length = cs.length := by rw [List.length_map, List.length_map]
    have Sp := same_new hp (H := H2) (.lst ((cs.map (·.2)).map V.int))
    have hp1 := upd_same (H := H2) (a := p) (o := .lst ((cs.map (·.2)).map V.int))
    have q1 := q.of Sp
    generalize upd H2 p (.lst ((cs.map (·.2)).map V.int)) = H3 at Sp hp1 q1 ⊢
    walk_at "rd"
    refine ite3 (fun c => ?_) (fun c => ?_)
    · have e : cs = [] := List.length_eq_zero_iff.mp (by omega)
      have er : rt (messR cs m) = .tup [.int 0, .int 1] := by
        have em : messR [] m = Rat.divInt 0 1 := by rcases hm with rfl | rfl <;> rfl
        rw [e, em, rt_one]
      walk_at "rd"
      rename_i pp hpp
      have z := q1.nw pp hpp
      rw [er] at z
      exact z
    · have ne : cs.map (·.2) ≠ [] := fun z => c (by have := congrArg List.length z; rw [List.length_map] at this; have : cs.length = 0 := this; omega)
      walk_at "rd"
      refine ite3 (fun c2 => ?_) (fun c2 => ?_)
      · have er : rt (messR cs m) = .tup [.int (sumC cs - mxD 0 (cs.map (·.2))), .int 1] := by
          rw [show messR cs m = Rat.divInt (sumC cs - mxD 0 (cs.map (·.2))) 1 from if_pos c2, rt_one]
        walk_at "rd"
        rename_i pp hpp
        have z := q1.nw pp hpp
        rw [er] at z
        exact z
      · have s0 : ¬ sumC cs = 0 := by omega
        have er : messR cs m = Rat.divInt (sumC cs * sumC cs - sqC cs) (sumC cs) := (if_neg c2).trans (if_neg s0)
        rw [er] at q1
        have zs : Bz 128 (sumC cs) := Bz.w (by omega) (by omega)
        have z8 : Bz 8000 (sumC cs) := zs.mono (by decide)
        walk_at "rd"
        refine lc_list (K := K) (a := p) (xs := (cs.map (·.2)).map V.int) (fun i ys H4 => Iv (H4 = H3 ∧ ys = ((cs.take i).map fun c => c.2 * c.2).map V.int)) ⟨⟨rfl, rfl⟩⟩ (fun i ys H4 hi z => ⟨by rw [z.o.1]; exact SqL.of hp1, by rw [z.o.2, List.length_map, List.length_map, List.length_take]; exact small1000 (by omega)⟩) ?_ ?_
        · rintro i x ys H4 hi ⟨⟨rfl, rfl⟩⟩
          rw [List.getElem?_map, List.getElem?_map] at hi
          obtain ⟨n, hn, rfl⟩ := Option.map_eq_some_iff.mp hi
          obtain ⟨cc, hcc, rfl⟩ := Option.map_eq_some_iff.mp hn
          have il := (List.getElem?_eq_some_iff.mp hcc).1
          have il2 : i + 1 ≤ ((cs.map (·.2)).map V.int).length := by omega
          have c1 := cz.one cc (List.mem_of_getElem? hcc)
          have c2 := cz.up cc (List.mem_of_getElem? hcc)
          have zc : Bz 128 cc.2 := Bz.w (by omega) (by omega)
          walk_at "rd"
          refine ⟨⟨rfl, ?_⟩⟩
          rw [List.take_add_one, hcc, List.map_append, List.map_append]
          rfl
        · rintro ys H4 ⟨⟨rfl, rfl⟩⟩ p2 hp2
          rw [lm, List.take_length]
          walk_at "rd"
          exact ⟨by show 0 < sumC cs; omega, z8, (q1.of (same_new hp2 _)).nw⟩

theorem ok_law_leaf (T : Tx K mg) : FnOk P w K mg base (CXe P w) 3 T.f_law_leaf T.d_law_leaf ["_law_cell_here"] (sp_leaf23 T.c_Leaf T.c_Fork K) := by
  have sc := sc_law_leaf
  refine T.F_law_leaf.okx sc (fun vs H Q E h => ?_) (fun cdv A outer s H vs Q E hr h => ?_)
  · obtain ⟨c, z, zs, rfl, hz, q⟩ := h
    rfl
  obtain ⟨c, z, zs, rfl, hz, q⟩ := h
  have hu := hr.units0
  have hu2 := hr.units
  have hu1 := Nat.lt_of_le_of_lt (Nat.add_le_add_left (show 1 ≤ 64 by decide) _) hu2
  refine ⟨_, (@pss_cons _ _ _ _ _ (@ps_mid _ _ _ (@ps_set _ _ 1 _ _ _ _ sc.nd rfl (by first | exact Or.inl rfl | exact Or.inr rfl) (pe_call (ok_law_counts T) (hr.mono (by decide)) rfl T.m_law_counts T.F_law_counts.kp T.b_law_counts .nil (pass_e fun _ _ z => z) (pa_cons (pv 0) pa_nil)) (by rfl) (by first | exact .inl rfl | exact .inr rfl | assumption)))
      (@pss_cons _ _ _ _ _ (@ps_mid _ _ _ (by first | exact ps_setLC (i := 2) sc.nd rfl (by first | exact Or.inl rfl | exact Or.inr rfl) (ts := ["_law_measure"]) (js := [1]) (LcOk.of rfl) rfl (pi_list (@pe_lst _ _ _ _ (pa_cons pe_str (pa_cons pe_str pa_nil se_c) se_c))) (fun _ _ _ _ => (pg_name (i := 0) (nodup_of rfl) rfl (Or.inl rfl))) (fun _ _ _ _ => pf_nil) (fun _ _ _ _ => (pe_tup (pa_cons pe_str (pa_cons (pe_call (ok_law_mess T) (hr.mono (by decide)) rfl T.m_law_mess T.F_law_mess.kp T.b_law_mess .nil passN (pa_cons (pv 1) (pa_cons (pv 0) pa_nil))) pa_nil) se_c))) | exact ps_set (i := 2) sc.nd rfl (by first | exact Or.inl rfl | exact Or.inr rfl) (pe_lc (ts := ["_law_measure"]) (js := [1]) (LcOk.of rfl) rfl (pi_list (@pe_lst _ _ _ _ (pa_cons pe_str (pa_cons pe_str pa_nil se_c) se_c))) (fun _ _ _ _ => (pg_name (i := 0) (nodup_of rfl) rfl (Or.inl rfl))) (fun _ _ _ _ => pf_nil) (fun _ _ _ _ => (pe_tup (pa_cons pe_str (pa_cons (pe_call (ok_law_mess T) (hr.mono (by decide)) rfl T.m_law_mess T.F_law_mess.kp T.b_law_mess .nil passN (pa_cons (pv 1) (pa_cons (pv 0) pa_nil))) pa_nil) se_c))))))
      (@pss_one _ _ _ (@ps_ret _ _ _ _ (pe_tup (pa_cons (pe_make T.M_Leaf (ok_Node___init__ T) (hr.mono (by decide)) rfl T.m_Leaf T.b_Node___init__ .nil (pass_e fun _ _ z => z) (pa_cons (pe_callTy call_list_of rfl T.z_list bt_list (pa_cons (pv 1) pa_nil)) pa_nil)) (pa_cons (pv 1) (pa_cons (pv 2) pa_nil)))))))), ?_⟩
  walk_at "kx"
  have C1 := T.C_Leaf
  have C2 := T.C_Fork
  have N0 : NoAttr K T.c_Leaf "counted" := T.nLc
  have N1 : NoAttr K T.c_Fork "counted" := T.nFcd
  have N2 : NoAttr K T.c_Fork "question" := T.nFqn
  have N3 : NoAttr K T.c_Fork "yes" := T.nFys
  have N4 : NoAttr K T.c_Fork "no" := T.nFno
  have N5 : NoAttr K T.c_Fork "leaf_count" := T.nFlt
  have N6 : NoAttr K T.c_Fork "depth" := T.nFdh
  refine ⟨fun σ' H1 => Iv (∃ (ca : Addr) (cs : List (Str × Int)), σ' = [some (.int c), some (.ref ca), none] ∧ Same H H1 ∧ H ca = none ∧ Cn K H1 ca cs ∧ Ck 1 cs), ?_, ?_⟩
  · walk_at "rd"
    rename_i H1 ca cs S1 hca cn ck
    exact ⟨⟨ca, cs, rfl, S1, hca, cn, ck⟩⟩
  rintro σ' H1 ⟨⟨ca, cs, rfl, S1, hca, cn, ck⟩⟩
  have cz := ck.ctz (show 1 ≤ 20 by decide)
  refine ⟨fun σ' H2 => Iv (∃ (dl : Addr) (u1 u2 : V), σ' = [some (.int c), some (.ref ca), some (.ref dl)] ∧ Same H1 H2 ∧ H1 dl = none ∧ H2 dl = some (.lst [u1, u2]) ∧ CV K H2 u1 (.en (messR cs "shares")) ∧ CV K H2 u2 (.en (messR cs "misses"))), ?_, ?_⟩
  · walk_at "rd"
    rename_i ml hml A1 A2 A3 A4
    have SM := same_new hml (H := H1) (.lst [.str "shares", .str "misses"])
    refine lc_list (K := K) (a := ml) (xs := [.str "shares", .str "misses"]) (fun i ys H' => Iv (Same (upd H1 ml (.lst [.str "shares", .str "misses"])) H' ∧ Dus K H' (fun m => .en (messR cs m)) ys i)) ⟨⟨Same.refl _, rfl, fun j u e => by cases e⟩⟩ (fun i ys H' hi z => ⟨SqL.of (z.o.1 _ _ upd_same), by rw [z.o.2.1]; exact small1000 (by have : i ≤ 2 := hi; omega)⟩) ?_ ?_
    · rintro i x ys H' hi ⟨⟨S, du⟩⟩
      obtain ⟨rfl, i2⟩ := msr_at hi
      have il : i + 1 ≤ ([.str "shares", .str "misses"] : List V).length := by show i + 1 ≤ 2; omega
      have hmi := msr_is i
      have cni := cn.same (SM.trans S)
      walk_at "rd"
      rename_i r H3 hr0 S3 hr pp hpp
      have SN := same_new hpp (H := H3) (.tup [.str "end", .ref r])
      exact ⟨⟨(S.trans S3).trans SN, (du.mono (S3.trans SN).t).snoc (.en upd_same (kp hr hpp))⟩⟩
    · rintro ys H' ⟨⟨S, du⟩⟩ dl hdl
      obtain ⟨u1, u2, rfl, c1, c2⟩ := du.two
      walk_at "rd"
      have SN := same_new hdl (H := H') (.lst [u1, u2])
      exact ⟨⟨dl, u1, u2, rfl, (SM.trans S).trans SN, (SM.trans S).free hdl, upd_same, c1.same SN, c2.same SN⟩⟩
  rintro σ' H2 ⟨⟨dl, u1, u2, rfl, S2, hdl0, hdl, c1, c2⟩⟩
  have S02 := S1.trans S2
  have hz2 := S02 _ _ hz
  have nca : ca ≠ z := Ne.symm (ne_of_none hz hca)
  have ndl : dl ≠ z := Ne.symm (ne_of_none (S1 _ _ hz) hdl0)
  have cn2 := cn.same S2
  obtain ⟨xs, hl, tl⟩ := id cn2
  walk_at "rd"
  rename_i l1 hl1 x dx hx hdx ndx
  have hx0 := (upd_none hx).2
  have hx' : upd (upd H2 l1 (.lst xs)) dx (.own x) x = none := by rw [upd_ne (Ne.symm ndx)]; exact hx
  refine ⟨.inl rfl, kp (kp upd_same hdx) hx', fun l hl2 => ⟨rfl, ?_⟩⟩
  have nlx : l ≠ x := Ne.symm (ne_of_none upd_same hl2)
  have S := ((((same_new hl1 (H := H2) (.lst xs)).new hdx (.own x)).new hx' (.ins T.c_Leaf dx [])).new hl2 (.lst xs)).upd hx0 (.ins T.c_Leaf dx [("counted", .ref l)])
  have nxz : x ≠ z := Ne.symm (ne_of_none hz2 hx0)
  have nlz : l ≠ z := Ne.symm (ne_of_none ((((same_new hl1 (H := H2) (.lst xs)).new hdx (.own x)).new hx' (.ins T.c_Leaf dx [])) _ _ hz2) hl2)
  have k1 := upd_same (H := upd (upd (upd (upd H2 l1 (.lst xs)) dx (.own x)) x (.ins T.c_Leaf dx [])) l (.lst xs)) (a := x) (o := .ins T.c_Leaf dx [("counted", .ref l)])
  have k2 : upd (upd (upd (upd (upd H2 l1 (.lst xs)) dx (.own x)) x (.ins T.c_Leaf dx [])) l (.lst xs)) x (.ins T.c_Leaf dx [("counted", .ref l)]) l = some (.lst xs) := by rw [upd_ne nlx]; exact upd_same
  generalize upd (upd (upd (upd (upd H2 l1 (.lst xs)) dx (.own x)) x (.ins T.c_Leaf dx [])) l (.lst xs)) x (.ins T.c_Leaf dx [("counted", .ref l)]) = H5 at S k1 k2 ⊢
  walk_at "rd"
  rename_i pp hpp
  have SN := same_new hpp (H := H5) (.tup [.ref x, .ref ca, .ref dl])
  have S26 := S.trans SN
  have hz6 := S26 _ _ hz2
  have npz : pp ≠ z := Ne.symm (ne_of_none (S _ _ hz2) hpp)
  have dt := del_t hz6
  have cnx : Cn K (upd H5 pp (.tup [.ref x, .ref ca, .ref dl])) l cs := ⟨xs, SN _ _ k2, (tl.mono S.t).mono SN.t⟩
  exact q _ _ (.lf cs) (S02.trans S26) (.mk (del_at upd_same npz) (.lf (del_at (SN _ _ k1) nxz) (cnx.del hz6 nlz)) ((cn2.same S26).del hz6 nca) (del_at (S26 _ _ hdl) ndl) ((c1.same S26).mono dt) ((c2.same S26).mono dt)) ⟨.lf cz, ck⟩ rfl

theorem ok_law_fork (T : Tx K mg) : FnOk P w K mg base (CXe P w) 5 T.f_law_fork T.d_law_fork ["_law_cell_here", "_law_one", "_law_two"] (sp_fork23 T.c_Leaf T.c_Fork K) := by
  have sc := sc_law_fork
  refine T.F_law_fork.okx sc (fun vs H Q E h => ?_) (fun cdv A outer s H vs Q E hr h => ?_)
  · obtain ⟨c, z, zs, v1, v2, t1, t2, rfl, hz, e1, e2, g1, g2, kl, q⟩ := h
    rfl
  obtain ⟨c, z, zs, v1, v2, t1, t2, rfl, hz, e1, e2, g1, g2, kl, q⟩ := h
  have hu := hr.units0
  have hu2 := hr.units
  have hu1 := Nat.lt_of_le_of_lt (Nat.add_le_add_left (show 1 ≤ 64 by decide) _) hu2
  refine ⟨_, (@pss_cons _ _ _ _ _ (@ps_mid _ _ _ (@ps_set _ _ 3 _ _ _ _ sc.nd rfl (by first | exact Or.inl rfl | exact Or.inr rfl) (pe_call (ok_law_together T) (hr.mono (by decide)) rfl T.m_law_together T.F_law_together.kp T.b_law_together .nil (pass_e fun _ _ z => z) (pa_cons (@pe_ix _ _ _ _ _ _ _ ix_tup (pv 1) pe_int (fun _ _ => rfl)) (pa_cons (@pe_ix _ _ _ _ _ _ _ ix_tup (pv 2) pe_int (fun _ _ => rfl)) pa_nil))) (by rfl) (by first | exact .inl rfl | exact .inr rfl | assumption)))
      (@pss_cons _ _ _ _ _ (@ps_mid _ _ _ (@ps_if _ _ _ _ _ _ _ _ (@pt_cmpR _ _ _ _ _ _ _ _ op_eqI (pe_call (ok_law_pick T) (hr.mono (by decide)) rfl T.m_law_pick T.F_law_pick.kp T.b_law_pick .nil (pass_e fun _ _ z => z) (pa_cons (pv 0) (pa_cons pe_int (pa_cons pe_int pa_nil)))) pe_int (nomark _)) (@pss_one _ _ _ (@ps_set _ _ 3 _ _ _ _ sc.nd rfl (by first | exact Or.inl rfl | exact Or.inr rfl) (pe_call (ok_law_counts T) (hr.mono (by decide)) rfl T.m_law_counts T.F_law_counts.kp T.b_law_counts .nil (pass_e fun _ _ z => z) (pa_cons (@pe_op _ _ _ _ _ _ _ _ op_fdivB (pv 0) pe_int) pa_nil)) (by rfl) (by first | exact .inl rfl | exact .inr rfl | assumption))) pss_nil))
      (@pss_cons _ _ _ _ _ (@ps_mid _ _ _ (@ps_set _ _ 4 _ _ _ _ sc.nd rfl (by first | exact Or.inl rfl | exact Or.inr rfl) (@pe_ix _ _ _ _ _ _ _ ix_list (@pe_lst _ _ _ _ (pa_cons (pe_tup (pa_cons pe_str (pa_cons (@pe_op _ _ _ _ _ _ _ _ op_mod (pv 0) pe_int) (pa_cons (@pe_op _ _ _ _ _ _ _ _ op_mod (pv 0) (pe_fold (.int 1000000000000000000000000000000) (@pe_op _ _ _ _ _ _ _ _ op_pow pe_int pe_int) (by walk_at "cf"))) pa_nil)) se_c)) (pa_cons (pe_tup (pa_cons pe_str (pa_cons pe_int (pa_cons pe_str pa_nil se_c)) se_c)) pa_nil))) (@pe_op _ _ _ _ _ _ _ _ op_mod (@pe_op _ _ _ _ _ _ _ _ op_fdivB (pv 0) pe_int) pe_int) (fun _ _ => rfl)) (by rfl) (by first | exact .inl rfl | exact .inr rfl | assumption)))
      (@pss_cons _ _ _ _ _ (@ps_mid _ _ _ (@ps_set _ _ 5 _ _ _ _ sc.nd rfl (by first | exact Or.inl rfl | exact Or.inr rfl) (pe_make T.M_Fork (ok_Fork___init__ T) (hr.mono (by decide)) rfl T.m_Fork T.b_Fork___init__ .nil (pass_e fun _ _ z => z) (pa_cons (pe_callTy call_list_of rfl T.z_list bt_list (pa_cons (pv 3) pa_nil)) (pa_cons (pv 4) (pa_cons (@pe_ix _ _ _ _ _ _ _ ix_tup (pv 1) pe_int (fun _ _ => rfl)) (pa_cons (@pe_ix _ _ _ _ _ _ _ ix_tup (pv 2) pe_int (fun _ _ => rfl)) pa_nil))))) (by rfl) (by first | exact .inl rfl | exact .inr rfl | assumption)))
      (@pss_cons _ _ _ _ _ (@ps_mid _ _ _ (@ps_set _ _ 6 _ _ _ _ sc.nd rfl (by first | exact Or.inl rfl | exact Or.inr rfl) (@pe_lst _ _ _ _ pa_nil) (by rfl) (by first | exact .inl rfl | exact .inr rfl | assumption)))
      (@pss_cons _ _ _ _ _ (ps_for powx rfl (pi_enum rfl T.z_enumerate (pa_cons (@pe_lst _ _ _ _ (pa_cons pe_str (pa_cons pe_str pa_nil se_c) se_c)) pa_nil)) (pg_tup rfl (pgs_cons (pg_name (i := 7) sc.nd rfl (by first | exact Or.inl rfl | exact Or.inr rfl)) (pgs_cons (pg_name (i := 8) sc.nd rfl (by first | exact Or.inl rfl | exact Or.inr rfl)) pgs_nil)))
      (@pss_one _ _ _ (ps_expr (pe_bm PySem.F.plainAttrs_list PySem.F.slot_list_append PySem.F.type_list_append mt_append (pv 6) (pa_cons (pe_tup (pa_cons pe_str (pa_cons (pe_call (ok_law_mess T) (hr.mono (by decide)) rfl T.m_law_mess T.F_law_mess.kp T.b_law_mess .nil (pass_e fun _ _ z => z) (pa_cons (pv 3) (pa_cons (pv 8) pa_nil))) (pa_cons (@pe_ix _ _ _ _ _ _ _ ix_list (@pe_ix _ _ _ _ _ _ _ ix_tup (pv 1) pe_int (fun _ _ => rfl)) (pv 7) (fun _ _ => rfl)) (pa_cons (@pe_ix _ _ _ _ _ _ _ ix_list (@pe_ix _ _ _ _ _ _ _ ix_tup (pv 2) pe_int (fun _ _ => rfl)) (pv 7) (fun _ _ => rfl)) pa_nil))) se_c)) pa_nil)))))
      (@pss_one _ _ _ (@ps_ret _ _ _ _ (pe_tup (pa_cons (pv 5) (pa_cons (pv 3) (pa_cons (pv 6) pa_nil)))))))))))), ?_⟩
  walk_at "kx"
  have C1 := T.C_Leaf
  have C2 := T.C_Fork
  have N0 : NoAttr K T.c_Leaf "counted" := T.nLc
  have N1 : NoAttr K T.c_Fork "counted" := T.nFcd
  have N2 : NoAttr K T.c_Fork "question" := T.nFqn
  have N3 : NoAttr K T.c_Fork "yes" := T.nFys
  have N4 : NoAttr K T.c_Fork "no" := T.nFno
  have N5 : NoAttr K T.c_Fork "leaf_count" := T.nFlt
  have N6 : NoAttr K T.c_Fork "depth" := T.nFdh
  cases e1 with
  | @mk p1 ca1 dl1 u1 a1 b1 _ hp1' m1 cn1' hd1' cs1' cm1' =>
    cases e2 with
    | @mk p2 ca2 dl2 u2 a2 b2 _ hp2' m2 cn2' hd2' cs2' cm2' =>
      have DS := del_same H z
      have hp1 := DS _ _ hp1'
      have hp2 := DS _ _ hp2'
      have hd1 := DS _ _ hd1'
      have hd2 := DS _ _ hd2'
      have n1 := m1.same DS
      have n2 := m2.same DS
      have cn1 := cn1'.same DS
      have cn2 := cn2'.same DS
      have cs1 := cs1'.same DS
      have cs2 := cs2'.same DS
      have cm1 := cm1'.same DS
      have cm2 := cm2'.same DS
      clear hp1' hp2' hd1' hd2' cn1' cn2' cs1' cs2' cm1' cm2'
      refine ⟨fun σ' H1 => Iv (∃ (ca : Addr) (cs : List (Str × Int)), σ' = [some (.int c), some (.ref p1), some (.ref p2), some (.ref ca), none, none, none, none, none] ∧ Same H H1 ∧ H ca = none ∧ Cn K H1 ca cs ∧ Ck (t1.lv + t2.lv) cs), ?_, ?_⟩
      · walk_at "rd"
        refine ⟨g1.c, g2.c, kl, fun H1 ca cs S1 hca cn ck => ?_⟩
        walk_at "rd"
        exact ⟨⟨ca, cs, rfl, S1, hca, cn, ck⟩⟩
      rintro σ' H1' ⟨⟨ca', cs', rfl, S1', hca', cn', ck'⟩⟩
      have hl := t1.dp_lv
      refine ⟨fun σ' H1 => Iv (∃ (ca : Addr) (cs : List (Str × Int)), σ' = [some (.int c), some (.ref p1), some (.ref p2), some (.ref ca), none, none, none, none, none] ∧ Same H H1 ∧ H ca = none ∧ Cn K H1 ca cs ∧ Ck (t1.lv + t2.lv) cs), ?_, ?_⟩
      · walk_at "rd"
        rename_i v0 v0a v0b
        refine ite3 (fun _ => ?_) (fun _ => ?_)
        · walk_at "rd"
          rename_i H1 ca cs S1 hca cn ck
          exact ⟨⟨ca, cs, rfl, S1'.trans S1, S1'.free hca, cn, ck.up (by omega)⟩⟩
        · walk_at "rd"
          exact ⟨⟨ca', cs', rfl, S1', hca', cn', ck'⟩⟩
      clear hca' cn' ck' S1'
      rintro σ' H1 ⟨⟨ca, cs, rfl, S1, hca, cn, ck⟩⟩
      have cz := ck.ctz kl
      refine ⟨fun σ' H2 => Iv (∃ (qa : Addr) (qq : Qs), σ' = [some (.int c), some (.ref p1), some (.ref p2), some (.ref ca), some (.ref qa), none, none, none, none] ∧ Same H1 H2 ∧ H2 qa = some (.tup (qV qq))), ?_, ?_⟩
      · walk_at "rd"
        rename_i q1 hq1 q2 hq2 lq hlq
        have SQ := ((same_new hq1 (H := H1) (.tup [.str "most", .int (c % 3), .int (c % 1000000000000000000000000000000)])).new hq2 (.tup [.str "is", .int 0, .str "word"])).new hlq (.lst [.ref q1, .ref q2])
        have k1 : upd (upd (upd H1 q1 (.tup [.str "most", .int (c % 3), .int (c % 1000000000000000000000000000000)])) q2 (.tup [.str "is", .int 0, .str "word"])) lq (.lst [.ref q1, .ref q2]) q1 = _ := kp (kp upd_same hq2) hlq
        have k2 : upd (upd (upd H1 q1 (.tup [.str "most", .int (c % 3), .int (c % 1000000000000000000000000000000)])) q2 (.tup [.str "is", .int 0, .str "word"])) lq (.lst [.ref q1, .ref q2]) q2 = _ := kp upd_same hlq
        generalize upd (upd (upd H1 q1 (.tup [.str "most", .int (c % 3), .int (c % 1000000000000000000000000000000)])) q2 (.tup [.str "is", .int 0, .str "word"])) lq (.lst [.ref q1, .ref q2]) = H2 at SQ k1 k2 ⊢
        have e : c / 3 % 2 = 0 ∨ c / 3 % 2 = 1 := by omega
        refine ⟨pk2_at e, ?_⟩
        obtain ⟨qx, qq, aq, hqx⟩ : ∃ (qx : Addr) (qq : Qs), pk2 (c / 3 % 2) (V.ref q1) (V.ref q2) = .ref qx ∧ H2 qx = some (.tup (qV qq)) := by
          rcases e with e | e
          · refine ⟨q1, ⟨"most", (c % 3).toNat, .inl (c % 1000000000000000000000000000000)⟩, if_pos e, ?_⟩
            unfold qV
            rw [show (((c % 3).toNat : Nat) : Int) = c % 3 by omega]
            exact k1
          · exact ⟨q2, ⟨"is", 0, .inr "word"⟩, if_neg (by omega), k2⟩
        rw [aq]
        walk_at "rd"
        exact ⟨⟨qx, qq, rfl, SQ, hqx⟩⟩
      rintro σ' H2 ⟨⟨qa, qq, rfl, S2, hq⟩⟩
      have S02 := S1.trans S2
      refine ⟨fun σ' H3 => Iv (∃ (x dx l : Addr) (xs : List V), σ' = [some (.int c), some (.ref p1), some (.ref p2), some (.ref ca), some (.ref qa), some (.ref x), none, none, none] ∧ Same H2 H3 ∧ H2 x = none ∧ H2 l = none ∧ H3 x = some (.ins T.c_Fork dx (ffs l qa u1 u2 ((t1.lv + t2.lv : Nat) : Int) ((1 + max t1.dp t2.dp : Nat) : Int))) ∧ H3 l = some (.lst xs) ∧ TVs K H2 xs (cs.map cD)), ?_, ?_⟩
      · obtain ⟨xs, hca2, tl⟩ := cn.same S2
        have hp12 := S02 _ _ hp1
        have hp22 := S02 _ _ hp2
        walk_at "rd"
        rename_i l1 hl1 x dx hx hdx ndx
        have hx0 := (upd_none hx).2
        have hx' : upd (upd H2 l1 (.lst xs)) dx (.own x) x = none := by rw [upd_ne (Ne.symm ndx)]; exact hx
        have S4 := ((same_new hl1 (H := H2) (.lst xs)).new hdx (.own x)).new hx' (.ins T.c_Fork dx [])
        refine ⟨(n1.same S02).same S4, (n2.same S02).same S4, fun H5 l S5 hl0 hx5 hl5 => ⟨rfl, ?_⟩⟩
        walk_at "rd"
        exact ⟨⟨x, dx, l, xs, rfl, fun b o e => S5 _ _ (ne_of_none e hx0) (S4 _ _ e), hx0, S4.free hl0, hx5, hl5, tl⟩⟩
      rintro σ' H3 ⟨⟨x, dx, l, xs, rfl, S3, hx0, hl0, hx, hl3, tl⟩⟩
      have S03 := S02.trans S3
      have nd3 : ND T.c_Leaf T.c_Fork K (del H3 z) (.ref x) (.fk cs qq t1 t2) := by
        have hz2 := S02 _ _ hz
        have hz3 := S03 _ _ hz
        have nxz : x ≠ z := Ne.symm (ne_of_none hz2 hx0)
        have nlz : l ≠ z := Ne.symm (ne_of_none hz2 hl0)
        exact .fk (del_at hx nxz) ⟨xs, del_at hl3 nlz, (tl.mono S3.t).mono (del_t hz3)⟩ (del_at (S3 _ _ hq) (ne_of hq hz2 (by intro z; cases z))) (m1.same (del_mono z S03)) (m2.same (del_mono z S03))
      have hz3 := S03 _ _ hz
      have cn3 : Cn K H3 ca cs := cn.same (S2.trans S3)
      have nca : ca ≠ z := Ne.symm (ne_of_none hz hca)
      have hp13 := S03 _ _ hp1
      have hp23 := S03 _ _ hp2
      have hd13 := S03 _ _ hd1
      have hd23 := S03 _ _ hd2
      refine ⟨fun σ' H4 => Iv (∃ dl : Addr, σ' = [some (.int c), some (.ref p1), some (.ref p2), some (.ref ca), some (.ref qa), some (.ref x), some (.ref dl), none, none] ∧ H4 = upd H3 dl (.lst []) ∧ H3 dl = none), ?_, ?_⟩
      · walk_at "rd"
        rename_i dl hdl
        exact ⟨⟨dl, rfl, rfl, hdl⟩⟩
      rintro σ' H4 ⟨⟨dl, rfl, rfl, hdl0⟩⟩
      walk_at "rd"
      rename_i ml hml
      have ndm : dl ≠ ml := ne_of_none upd_same hml
      refine for_enum (K := K) (a := ml) (xs := [.str "shares", .str "misses"]) (fun i σ H' => Iv (∃ (ys : List V) (o7 o8 : Option V), σ = [some (.int c), some (.ref p1), some (.ref p2), some (.ref ca), some (.ref qa), some (.ref x), some (.ref dl), o7, o8] ∧ Same H3 H' ∧ H' ml = some (.lst [.str "shares", .str "misses"]) ∧ H' dl = some (.lst ys) ∧ Dus K H' (fun m => .fk (messR cs m) (t1.co m) (t2.co m)) ys i)) ⟨⟨[], _, _, rfl, (same_new hdl0 _).new hml _, upd_same, kp upd_same hml, rfl, fun j u e => by cases e⟩⟩ (fun i σ H' _ y => by obtain ⟨⟨_, _, _, _, _, h, _⟩⟩ := y; exact SqL.of h) ?_ ?_
      · rintro i xx σ H' Tt hi ⟨⟨ys, o7, o8, rfl, S, hm1, hdl1, du⟩⟩ hT
        obtain ⟨rfl, i2⟩ := msr_at hi
        have hmi := msr_is i
        obtain ⟨w1, aw1, cw1⟩ : ∃ w, atI [a1, b1] (i : Int) = some w ∧ CV K H w (t1.co (msr i)) := by
          rcases i with _ | _ | i
          · exact ⟨a1, rfl, cs1⟩
          · exact ⟨b1, rfl, cm1⟩
          · omega
        obtain ⟨w2, aw2, cw2⟩ : ∃ w, atI [a2, b2] (i : Int) = some w ∧ CV K H w (t2.co (msr i)) := by
          rcases i with _ | _ | i
          · exact ⟨a2, rfl, cs2⟩
          · exact ⟨b2, rfl, cm2⟩
          · omega
        have S' := S.new hT (.tup [.int (i : Int), .str (msr i)])
        have hm2 := kp hm1 hT (u := .tup [.int (i : Int), .str (msr i)])
        have hdl2 := kp hdl1 hT (u := .tup [.int (i : Int), .str (msr i)])
        have du2 := du.mono ((SameT.refl H').new hT (.tup [.int (i : Int), .str (msr i)]))
        have hT2 := upd_same (H := H') (a := Tt) (o := .tup [.int (i : Int), .str (msr i)])
        have ly : ys.length < sizeLine := by rw [du.1]; exact small1000 (by omega)
        generalize upd H' Tt (.tup [.int (i : Int), .str (msr i)]) = H5 at S' hm2 hdl2 du2 hT2 ⊢
        clear S hm1 hdl1 du hT
        have cni := cn3.same S'
        have h1 := S' _ _ hp13
        have h2 := S' _ _ hp23
        have h3 := S' _ _ hd13
        have h4 := S' _ _ hd23
        walk_at "rd"
        rename_i r Hm hr0 Sm hr pp hpp
        have hdm := kp (Sm _ _ hdl2) hpp (u := .tup [.str "fork", .ref r, w1, w2])
        have st := ((SameT.refl Hm).new hpp (.tup [.str "fork", .ref r, w1, w2])).trans ((SameT.refl _).lst hdm (.lst (ys ++ [.ref pp])))
        have npd : pp ≠ dl := Ne.symm (ne_of_none (Sm _ _ hdl2) hpp)
        have SA := ((S03.trans S').trans Sm).t
        exact ⟨⟨ys ++ [.ref pp], _, _, rfl, ((S'.trans Sm).new hpp _).upd hdl0 _, by rw [upd_ne (Ne.symm ndm)]; exact kp (Sm _ _ hm2) hpp, upd_same, (du2.mono (Sm.t.trans st)).snoc (.fk ((upd_ne npd).trans upd_same) (st _ _ hr) (cw1.mono (SA.trans st)) (cw2.mono (SA.trans st)))⟩⟩
      · rintro σ H' ⟨⟨ys, o7, o8, rfl, S, hm1, hdl1, du⟩⟩
        obtain ⟨d1, d2, rfl, k1, k2⟩ := du.two
        walk_at "rd"
        rename_i pp hpp
        have SN := same_new hpp (H := H') (.tup [.ref x, .ref ca, .ref dl])
        have S6 := S.trans SN
        have hz6 := S6 _ _ hz3
        have npz : pp ≠ z := Ne.symm (ne_of_none (S _ _ hz3) hpp)
        have ndz : dl ≠ z := Ne.symm (ne_of_none hz3 hdl0)
        have dt := del_t hz6
        exact q _ _ (.fk cs qq t1 t2) (S03.trans S6) (.mk (del_at upd_same npz) (nd3.same (del_mono z S6)) ((cn3.same S6).del hz6 nca) (del_at (SN _ _ hdl1) ndz) ((k1.same SN).mono dt) ((k2.same SN).mono dt)) ⟨.fk cz g1.z g2.z, ck⟩ rfl

theorem ok_law_refused (T : Tx K mg) : FnOk P w K mg base (CXe P w) 38 T.f_law_refused T.d_law_refused ["_law_node", "_law_measure"] (sp_refused23 T.c_Leaf T.c_Fork K) := by
  have sc := sc_law_refused
  refine T.F_law_refused.okx sc (fun vs H Q E h => ?_) (fun cdv A outer s H vs Q E hr h => ?_)
  · obtain ⟨v, m, t, rfl, nd, nz, sh, td, hm, q⟩ := h
    rfl
  obtain ⟨v, m, t, rfl, nd, nz, sh, td, hm, q⟩ := h
  have hu := hr.units0
  have hu2 := hr.units
  have hu1 := Nat.lt_of_le_of_lt (Nat.add_le_add_left (show 1 ≤ 64 by decide) _) hu2
  refine ⟨_, (@pss_cons _ _ _ _ _ (@ps_set _ _ 2 _ _ _ _ sc.nd rfl (by first | exact Or.inl rfl | exact Or.inr rfl) pe_bl (by rfl) (by first | exact .inl rfl | exact .inr rfl | assumption))
      (@pss_cons _ _ _ _ _ (ps_try (pex_call (ok_costed T) (hr.mono (by decide)) rfl T.m_costed T.F_costed.kp T.b_costed .nil (pa_cons (pv 0) (pa_cons (pv 1) pa_nil))) rfl rfl rfl T.m_NoMeasure (fun _ => (@pss_one _ _ _ (@ps_set _ _ 2 _ _ _ _ sc.nd rfl (by first | exact Or.inl rfl | exact Or.inr rfl) pe_bl (by rfl) (by first | exact .inl rfl | exact .inr rfl | assumption)))))
      (@pss_cons _ _ _ _ _ (ps_tryAs (pex_call (ok_costed T) (hr.mono (by decide)) rfl T.m_costed T.F_costed.kp T.b_costed .nil (pa_cons (pv 0) (pa_cons (pv 1) pa_nil))) rfl rfl rfl T.m_PruneError sc.nd (i := 3) rfl rfl (fun _ => (@pss_one _ _ _ (@ps_ret _ _ _ _ (pe_and (pv 2) (pe_one (pe_callB call_isiE rfl T.z_isinstance bt_isinstance (pa_cons (pv 3) (pa_cons (pe_bltn (v := .ty "ValueError") rfl T.z_ValueError bt_ValueError rfl) pa_nil)))))))))
      (@pss_one _ _ _ (@ps_ret _ _ _ _ pe_bl))))), ?_⟩
  walk_at "kx"
  have t1 := T.t1
  have t4 := T.t4
  have i1 := T.i_NoMeasure
  have t3 := isiTy T.t3
  walk_at "rd"
  refine .inr ⟨hm, ?_⟩
  walk_at "rd"
  refine .inr ⟨hm, ?_⟩
  walk_at "rd"
  exact q _ (by walk_at "sm")

theorem ok_law (T : Tx K mg) : FnOk P w K mg base (CXe P w) 39 T.f_law T.d_law ["_law_script"] (sp_law K) := by
  have sc := sc_law
  refine T.F_law.okx sc (fun vs H Q E h => ?_) (fun cdv A outer s H vs Q E hr h => ?_)
  · obtain ⟨a, n0, rfl, hS, hl, q⟩ := h
    rfl
  obtain ⟨a, n0, rfl, hS, hl, q⟩ := h
  have hu := hr.units0
  have hu2 := hr.units
  have hu1 := Nat.lt_of_le_of_lt (Nat.add_le_add_left (show 1 ≤ 64 by decide) _) hu2
  refine ⟨_, (@pss_cons _ _ _ _ _ (@ps_set _ _ 1 _ _ _ _ sc.nd rfl (by first | exact Or.inl rfl | exact Or.inr rfl) (@pe_lst _ _ _ _ pa_nil) (by rfl) (by first | exact .inl rfl | exact .inr rfl | assumption))
      (@pss_cons _ _ _ _ _ (ps_for powx rfl (pi_list (@pe_op _ _ _ _ _ _ _ _ op_cat (@pe_lst _ _ _ _ (pa_cons (pe_call (ok_law_cell T) (hr.mono (by decide)) rfl T.m_law_cell T.F_law_cell.kp T.b_law_cell .nil (pass_e fun _ _ z => z) (pa_cons (pv 0) (pa_cons pe_int pa_nil))) pa_nil)) (pe_slice sl_list (pv 0) (po_some pe_int) (po_some pe_int)))) (pg_name (i := 2) sc.nd rfl (by first | exact Or.inl rfl | exact Or.inr rfl))
      (@pss_cons _ _ _ _ _ (@ps_mid _ _ _ (ps_expr (pe_bm PySem.F.plainAttrs_list PySem.F.slot_list_append PySem.F.type_list_append mt_append (pv 1) (pa_cons (pe_call (ok_law_leaf T) (hr.mono (by decide)) rfl T.m_law_leaf T.F_law_leaf.kp T.b_law_leaf .nil (pass_e fun _ _ z => z) (pa_cons (pv 2) pa_nil)) pa_nil))))
      (@pss_one _ _ _ (@ps_mid _ _ _ (@ps_if _ _ _ _ _ _ _ _ (PW.pt (pw_and (@pt_cmpR _ _ _ _ _ _ _ _ op_eqI (@pe_op _ _ _ _ _ _ _ _ op_mod (pv 2) pe_int) pe_int (nomark _)) (pw_and1 (@pt_cmpR _ _ _ _ _ _ _ _ op_gt (pe_callB call_len_seq rfl T.z_len bt_len (pa_cons (pv 1) pa_nil)) pe_int (nomark _))))) (@pss_cons _ _ _ _ _ (@ps_mid _ _ _ (@ps_set _ _ 3 _ _ _ _ sc.nd rfl (by first | exact Or.inl rfl | exact Or.inr rfl) (pe_bm0 PySem.F.plainAttrs_list PySem.F.slot_list_pop PySem.F.type_list_pop mt_pop (pv 1)) (by rfl) (by first | exact .inl rfl | exact .inr rfl | assumption)))
      (@pss_one _ _ _ (ps_asg (pe_call (ok_law_fork T) (hr.mono (by decide)) rfl T.m_law_fork T.F_law_fork.kp T.b_law_fork .nil (pass_e fun _ _ z => z) (pa_cons (@pe_op _ _ _ _ _ _ _ _ op_fdivB (pv 2) pe_int) (pa_cons (@pe_ix _ _ _ _ _ _ _ ix_list (pv 1) (pe_un un_neg pe_int) (fun _ _ => rfl)) (pa_cons (pv 3) pa_nil)))) (pg_sub (pv 1) (pe_un un_neg pe_int) set_list)))) pss_nil)))))
      (@pss_cons _ _ _ _ _ (ps_while powx (@pt_cmpR _ _ _ _ _ _ _ _ op_gt (pe_callB call_len_seq rfl T.z_len bt_len (pa_cons (pv 1) pa_nil)) pe_int (nomark _)) (@pss_cons _ _ _ _ _ (@ps_mid _ _ _ (@ps_set _ _ 3 _ _ _ _ sc.nd rfl (by first | exact Or.inl rfl | exact Or.inr rfl) (pe_bm0 PySem.F.plainAttrs_list PySem.F.slot_list_pop PySem.F.type_list_pop mt_pop (pv 1)) (by rfl) (by first | exact .inl rfl | exact .inr rfl | assumption)))
      (@pss_one _ _ _ (ps_asg (pe_call (ok_law_fork T) (hr.mono (by decide)) rfl T.m_law_fork T.F_law_fork.kp T.b_law_fork .nil (pass_e fun _ _ z => z) (pa_cons (@pe_op _ _ _ _ _ _ _ _ op_add (pe_call (ok_law_cell T) (hr.mono (by decide)) rfl T.m_law_cell T.F_law_cell.kp T.b_law_cell .nil (pass_e fun _ _ z => z) (pa_cons (pv 0) (pa_cons pe_int pa_nil))) (pe_callB call_len_seq rfl T.z_len bt_len (pa_cons (pv 1) pa_nil))) (pa_cons (@pe_ix _ _ _ _ _ _ _ ix_list (pv 1) (pe_un un_neg pe_int) (fun _ _ => rfl)) (pa_cons (pv 3) pa_nil)))) (pg_sub (pv 1) (pe_un un_neg pe_int) set_list)))))
      (@pss_cons _ _ _ _ _ (@ps_mid _ _ _ (@ps_if _ _ _ _ _ _ _ _ (@pt_cmpR _ _ _ _ _ _ _ _ op_eqI (pe_call (ok_law_pick T) (hr.mono (by decide)) rfl T.m_law_pick T.F_law_pick.kp T.b_law_pick .nil (pass_e fun _ _ z => z) (pa_cons (pe_call (ok_law_cell T) (hr.mono (by decide)) rfl T.m_law_cell T.F_law_cell.kp T.b_law_cell .nil (pass_e fun _ _ z => z) (pa_cons (pv 0) (pa_cons pe_int pa_nil))) (pa_cons pe_int (pa_cons pe_int pa_nil)))) pe_int (nomark _)) (@pss_one _ _ _ (ps_asg (pe_call (ok_law_fork T) (hr.mono (by decide)) rfl T.m_law_fork T.F_law_fork.kp T.b_law_fork .nil (pass_e fun _ _ z => z) (pa_cons (@pe_op _ _ _ _ _ _ _ _ op_add (pe_call (ok_law_cell T) (hr.mono (by decide)) rfl T.m_law_cell T.F_law_cell.kp T.b_law_cell .nil (pass_e fun _ _ z => z) (pa_cons (pv 0) (pa_cons pe_int pa_nil))) pe_int) (pa_cons (@pe_ix _ _ _ _ _ _ _ ix_list (pv 1) pe_int (fun _ _ => rfl)) (pa_cons (@pe_ix _ _ _ _ _ _ _ ix_list (pv 1) pe_int (fun _ _ => rfl)) pa_nil)))) (pg_sub (pv 1) pe_int set_list))) pss_nil))
      (@pss_cons _ _ _ _ _ (@ps_mid _ _ _ (ps_asg (@pe_ix _ _ _ _ _ _ _ ix_list (pv 1) pe_int (fun _ _ => rfl)) (pg_tup rfl (pgs_cons (pg_name (i := 4) sc.nd rfl (by first | exact Or.inl rfl | exact Or.inr rfl)) (pgs_cons (pg_name (i := 5) sc.nd rfl (by first | exact Or.inl rfl | exact Or.inr rfl)) (pgs_cons (pg_name (i := 6) sc.nd rfl (by first | exact Or.inl rfl | exact Or.inr rfl)) pgs_nil))))))
      (@pss_cons _ _ _ _ _ (@ps_mid _ _ _ (@ps_set _ _ 7 _ _ _ _ sc.nd rfl (by first | exact Or.inl rfl | exact Or.inr rfl) (@pe_ix _ _ _ _ _ _ _ ix_list (@pe_lst _ _ _ _ (@pa_strs _ _ ["", "share", "Shares", "missess", "shares ", "miss", "none", "cost", "gini"] (by decide +kernel))) (@pe_op _ _ _ _ _ _ _ _ op_mod (pe_call (ok_law_cell T) (hr.mono (by decide)) rfl T.m_law_cell T.F_law_cell.kp T.b_law_cell .nil (pass_e fun _ _ z => z) (pa_cons (pv 0) (pa_cons pe_int pa_nil))) pe_int) (fun _ _ => rfl)) (by rfl) (by first | exact .inl rfl | exact .inr rfl | assumption)))
      (@pss_cons _ _ _ _ _ (@ps_if _ _ _ _ _ _ _ _ (pt_not (pt_val (pe_call (ok_law_refused T) (hr.mono (by decide)) rfl T.m_law_refused T.F_law_refused.kp T.b_law_refused .nil (pass_e fun _ _ z => z) (pa_cons (pv 4) (pa_cons (pv 7) pa_nil))))) (@pss_one _ _ _ (@ps_ret _ _ _ _ pe_bl)) pss_nil)
      (@pss_cons _ _ _ _ _ (@ps_if _ _ _ _ _ _ _ _ (PW.pt (pw_or (@pt_cmpR _ _ _ _ _ _ _ _ (op_neD hu2) (pe_call (ok_costed T) (hr.mono (by decide)) rfl T.m_costed T.F_costed.kp T.b_costed .nil (pass_e fun _ _ z => z) (pa_cons (pv 4) (pa_cons pe_str pa_nil se_c))) (@pe_ix _ _ _ _ _ _ _ ix_list (pv 6) pe_int (fun _ _ => rfl)) (nomark _)) (pw_or1 (@pt_cmpR _ _ _ _ _ _ _ _ (op_neD hu2) (pe_call (ok_costed T) (hr.mono (by decide)) rfl T.m_costed T.F_costed.kp T.b_costed .nil (pass_e fun _ _ z => z) (pa_cons (pv 4) (pa_cons pe_str pa_nil se_c))) (@pe_ix _ _ _ _ _ _ _ ix_list (pv 6) pe_int (fun _ _ => rfl)) (nomark _))))) (@pss_one _ _ _ (@ps_ret _ _ _ _ pe_bl)) pss_nil)
      (@pss_one _ _ _ (@ps_ret _ _ _ _ (pe_cmpR (op_eqD hu2) (pe_fld (pv 4) rfl) (pv 5) (nomark _)))))))))))), ?_⟩
  walk_at "kx"
  have C1 := T.C_Leaf
  have C2 := T.C_Fork
  have N0 : NoAttr K T.c_Leaf "counted" := T.nLc
  have N1 : NoAttr K T.c_Fork "counted" := T.nFcd
  have N2 : NoAttr K T.c_Fork "question" := T.nFqn
  have N3 : NoAttr K T.c_Fork "yes" := T.nFys
  have N4 : NoAttr K T.c_Fork "no" := T.nFno
  have N5 : NoAttr K T.c_Fork "leaf_count" := T.nFlt
  have N6 : NoAttr K T.c_Fork "depth" := T.nFdh
  obtain ⟨ms, em, lm⟩ := cut_7 n0
  walk_at "rd"
  rename_i z hz c1 l0 hl0
  refine ⟨((hS.new hz).new hl0).sq, fun l1 hl1 => ?_⟩
  rw [em]
  walk_at "rd"
  refine ⟨szB (by rw [List.length_map]; show 1 + ms.length ≤ _; omega), fun ls hls => ?_⟩
  have hS6 := (((hS.new (u := .lst []) hz).new (u := .lst [.int c1]) hl0).new (u := .lst (ms.map V.int)) hl1).new (u := .lst ([.int c1] ++ ms.map V.int)) hls
  have hz6 : upd (upd (upd (upd H z (.lst [])) l0 (.lst [.int c1])) l1 (.lst (ms.map V.int))) ls (.lst ([.int c1] ++ ms.map V.int)) z = some (.lst []) := kp (kp (kp upd_same hl0) hl1) hls
  have hl6 := upd_same (H := upd (upd (upd H z (.lst [])) l0 (.lst [.int c1])) l1 (.lst (ms.map V.int))) (a := ls) (o := .lst ([.int c1] ++ ms.map V.int))
  have nlz : ls ≠ z := Ne.symm (ne_of_none (kp (kp upd_same hl0) hl1) hls)
  generalize upd (upd (upd (upd H z (.lst [])) l0 (.lst [.int c1])) l1 (.lst (ms.map V.int))) ls (.lst ([.int c1] ++ ms.map V.int)) = H6 at hS6 hz6 hl6 ⊢
  clear hS hls hl1 hl0
  refine ⟨ls, rfl, ⟨_, SqL.of hl6⟩, ?_⟩
  have ll : ([V.int c1] ++ ms.map V.int).length = 1 + ms.length := by rw [List.length_append, List.length_map]; rfl
  refine for_list (K := K) (a := ls) (xs := [.int c1] ++ ms.map V.int) (fun i σ' H' => Iv (∃ (xs : List V) (ts : List NT) (o2 o3 : Option V), σ' = [some (.ref a), some (.ref z), o2, o3, none, none, none, none] ∧ SameB z H6 H' ∧ H' z = some (.lst xs) ∧ EVs T.c_Leaf T.c_Fork K (del H' z) xs ts ∧ lvs ts ≤ i ∧ (1 ≤ i → 1 ≤ xs.length))) ⟨⟨[], [], _, _, rfl, SameB.refl z H6, hz6, .nil, Nat.le_refl _, fun h => absurd h (by decide)⟩⟩ (fun i σ H' _ y => by obtain ⟨⟨_, _, _, _, _, s, _⟩⟩ := y; exact SqL.of (s _ _ nlz hl6)) ?_ ?_
  · rintro i x σ H' hx ⟨⟨xs, ts, o2, o3, rfl, sb, hz1, evs, lv, _⟩⟩
    have il := (List.getElem?_eq_some_iff.mp hx).1
    rw [ll] at il
    obtain ⟨c, rfl⟩ : ∃ c : Int, x = .int c := by
      have hm := List.mem_of_getElem? hx
      rw [show [V.int c1] ++ ms.map V.int = (c1 :: ms).map V.int from rfl] at hm
      obtain ⟨c, _, e⟩ := List.mem_map.mp hm
      exact ⟨c, e.symm⟩
    have lx := evs.le
    refine ⟨fun σ' H' => Iv (∃ (xs : List V) (ts : List NT), σ' = [some (.ref a), some (.ref z), some (.int c), o3, none, none, none, none] ∧ SameB z H6 H' ∧ H' z = some (.lst xs) ∧ EVs T.c_Leaf T.c_Fork K (del H' z) xs ts ∧ lvs ts ≤ i + 1 ∧ 1 ≤ xs.length), ?_, ?_⟩
    · have lxs : xs.length < sizeLine := small1000 (by omega)
      walk_at "rd"
      rename_i H1 v t S ev tg l1
      exact ⟨⟨xs ++ [v], ts ++ [t], rfl, (sb.tr (sb_of S)).tr sb_at, upd_same, .snoc (evs_up evs S) (ev_up ev (Same.refl _)) tg, by rw [lvs_snoc]; omega, by rw [List.length_append]; show 1 ≤ _ + 1; omega⟩⟩
    clear hz1 evs lv lx sb
    rintro σ' H' ⟨⟨xs, ts, rfl, sb, hz1, evs, lv, x1⟩⟩
    have lx := evs.le
    have zl : Bz 10 ((xs.length : Nat) : Int) := by
      show ((xs.length : Nat) : Int).natAbs < 2 ^ 10
      omega
    refine ⟨fun σ' H' => Iv (∃ (xs : List V) (ts : List NT) (o3 : Option V), σ' = [some (.ref a), some (.ref z), some (.int c), o3, none, none, none, none] ∧ SameB z H6 H' ∧ H' z = some (.lst xs) ∧ EVs T.c_Leaf T.c_Fork K (del H' z) xs ts ∧ lvs ts ≤ i + 1 ∧ 1 ≤ xs.length), ?_, ?_⟩
    · walk_at "rd"
      refine ite3 (fun c3 => ?_) (fun c3 => ?_)
      · walk_at "rd"
        refine ite3 (fun c2 => ?_) (fun c2 => ?_)
        · skip
          obtain ⟨us, rs, v, w, t, u, rfl, rfl, e0, ev, gv, ew, gw⟩ := evs.two (by omega)
          have ea := pop_at us v w
          have eb := pop_rest us v w
          have ec := last_at us v
          have ed : ixN (us ++ [v]).length (-1) = some us.length := by rw [List.length_append]; exact last_ix us.length
          rw [lvs_snoc, lvs_snoc] at lv
          have h1 := evs_up (ys := us ++ [v]) e0 (Same.refl _)
          have h2 := ev_up (ys := us ++ [v]) ev (Same.refl _)
          have h3 := ev_up (ys := us ++ [v]) ew (Same.refl _)
          have sb1 : SameB z H6 (upd H' z (.lst (us ++ [v]))) := sb.tr sb_at
          have hz2 := upd_same (H := H') (a := z) (o := .lst (us ++ [v]))
          refine ⟨fun σ' H1 => Iv (H1 = upd H' z (.lst (us ++ [v])) ∧ σ' = [some (.ref a), some (.ref z), some (.int c), some w, none, none, none, none]), ?_, ?_⟩
          · walk_at "rd"
            rw [eb]
            exact ⟨⟨rfl, rfl⟩⟩
          rintro σ' H1 ⟨⟨rfl, rfl⟩⟩
          generalize upd H' z (.lst (us ++ [v])) = H1 at h1 h2 h3 sb1 hz2 ⊢
          clear ea eb c2 hz1 sb evs ev ew e0
          have k20 : t.lv + u.lv ≤ 20 := by omega
          have hSx := SqF.sb sb1 hz6 hS6
          walk_at "rd"
          rename_i H2 vv tt S2 evv gg l2
          rw [set_last]
          exact ⟨⟨us ++ [vv], rs ++ [tt], _, rfl, (sb1.tr (sb_of S2)).tr sb_at, upd_same, .snoc (evs_up h1 S2) (ev_up evv (Same.refl _)) gg, by rw [lvs_snoc]; omega, by rw [List.length_append]; show 1 ≤ _ + 1; omega⟩⟩
        · walk_at "rd"
          exact ⟨⟨xs, ts, _, rfl, sb, hz1, evs, lv, x1⟩⟩
      · walk_at "rd"
        exact ⟨⟨xs, ts, _, rfl, sb, hz1, evs, lv, x1⟩⟩
    rintro σ' H' ⟨⟨xs, ts, o3, rfl, sb, hz1, evs, lv, x1⟩⟩
    exact ⟨⟨xs, ts, _, _, rfl, sb, hz1, evs, lv, fun _ => x1⟩⟩
  · rintro σ H' ⟨⟨xs, ts, o2, o3, rfl, sb, hz1, evs, lv, x1⟩⟩
    have x1 := x1 (by rw [ll]; omega)
    rw [ll] at lv
    refine while_ix (fun m σ' H' => Iv (∃ (xs : List V) (ts : List NT) (o3 : Option V), σ' = [some (.ref a), some (.ref z), o2, o3, none, none, none, none] ∧ SameB z H6 H' ∧ H' z = some (.lst xs) ∧ EVs T.c_Leaf T.c_Fork K (del H' z) xs ts ∧ lvs ts ≤ 8 ∧ 1 ≤ xs.length ∧ xs.length = m)) _ ⟨⟨xs, ts, _, rfl, sb, hz1, evs, by omega, x1, rfl⟩⟩ ?_ ?_
    · clear hz1 evs lv sb x1
      rintro m σ' H' ⟨⟨xs, ts, o3, rfl, sb, hz1, evs, lv, x1, lx⟩⟩
      have le := evs.le
      have zl : Bz 10 ((xs.length : Nat) : Int) := by
        show ((xs.length : Nat) : Int).natAbs < 2 ^ 10
        omega
      walk_at "rd"
      refine ite3 (fun c2 => ?_) (fun c2 => ?_)
      · skip
        obtain ⟨us, rs, v, w, t, u, rfl, rfl, e0, ev, gv, ew, gw⟩ := evs.two (by omega)
        have ea := pop_at us v w
        have eb := pop_rest us v w
        have ec := last_at us v
        have ed : ixN (us ++ [v]).length (-1) = some us.length := by rw [List.length_append]; exact last_ix us.length
        rw [lvs_snoc, lvs_snoc] at lv
        have h1 := evs_up (ys := us ++ [v]) e0 (Same.refl _)
        have h2 := ev_up (ys := us ++ [v]) ev (Same.refl _)
        have h3 := ev_up (ys := us ++ [v]) ew (Same.refl _)
        have sb1 : SameB z H6 (upd H' z (.lst (us ++ [v]))) := sb.tr sb_at
        have hz2 := upd_same (H := H') (a := z) (o := .lst (us ++ [v]))
        refine ⟨fun σ' H1 => Iv (H1 = upd H' z (.lst (us ++ [v])) ∧ σ' = [some (.ref a), some (.ref z), o2, some w, none, none, none, none]), ?_, ?_⟩
        · walk_at "rd"
          rw [eb]
          exact ⟨⟨rfl, rfl⟩⟩
        rintro σ' H1 ⟨⟨rfl, rfl⟩⟩
        generalize upd H' z (.lst (us ++ [v])) = H1 at h1 h2 h3 sb1 hz2 ⊢
        clear ea eb c2 hz1 sb evs ev ew e0
        have k20 : t.lv + u.lv ≤ 20 := by omega
        have hSx := SqF.sb sb1 hz6 hS6
        walk_at "rd"
        rename_i cc H2 vv tt S2 evv gg l2
        rw [set_last]
        exact ⟨⟨us.length + 1, by rw [← lx, List.length_append]; show us.length + 1 < us.length + 2; omega, ⟨⟨us ++ [vv], rs ++ [tt], _, rfl, (sb1.tr (sb_of S2)).tr sb_at, upd_same, .snoc (evs_up h1 S2) (ev_up evv (Same.refl _)) gg, by rw [lvs_snoc]; omega, by rw [List.length_append]; show 1 ≤ _ + 1; omega, by rw [List.length_append]; rfl⟩⟩⟩⟩
      · obtain ⟨us, rs, v, t, rfl, rfl, e0, ev, tg⟩ := evs.last x1
        have lu : us.length = 0 := by rw [List.length_append] at c2; have : ¬ (1 : Int) < ((us.length + 1 : Nat) : Int) := c2; omega
        obtain rfl := List.length_eq_zero_iff.mp lu
        obtain rfl := List.length_eq_zero_iff.mp e0.length.symm
        have lt8 : t.lv ≤ 8 := by rw [lvs_snoc] at lv; omega
        have hSx := SqF.sb sb hz6 hS6
        have k20 : t.lv + t.lv ≤ 20 := by omega
        have hz1 : H' z = some (.lst [v]) := hz1
        have a0 : atI [v] 0 = some v := rfl
        have a1 : ixN [v].length 0 = some 0 := rfl
        clear evs zl x1 lx le lv c2 e0
        refine ⟨fun σ' H' => Iv (∃ (v : V) (t : NT), σ' = [some (.ref a), some (.ref z), o2, o3, none, none, none, none] ∧ SameB z H6 H' ∧ H' z = some (.lst [v]) ∧ EV T.c_Leaf T.c_Fork K (del H' z) v t ∧ Tg t ∧ t.lv ≤ 16), ?_, ?_⟩
        · walk_at "rd"
          rename_i cc pv pv0 pv1
          refine ite3 (fun _ => ?_) (fun _ => ?_)
          · walk_at "rd"
            rename_i c9 H2 vv tt S2 evv gg l2
            exact ⟨⟨vv, tt, rfl, (sb.tr (sb_of S2)).tr sb_at, upd_same, ev_up evv (Same.refl _), gg, by omega⟩⟩
          · walk_at "rd"
            exact ⟨⟨v, t, rfl, sb, hz1, ev, tg, by omega⟩⟩
        clear hz1 ev tg lt8 k20 hSx sb a0 a1
        rintro σ' H' ⟨⟨v, t, rfl, sb, hz1, ev, tg, lt⟩⟩
        have hSx := SqF.sb sb hz6 hS6
        have ev := ev.same (del_same H' z)
        have a0 : atI [v] 0 = some v := rfl
        have dl16 := t.dp_lv
        cases ev with
        | @mk pp ca dl u d1 d2 _ hp nd cn hdl k1 k2 =>
          refine ⟨fun σ' H1 => Iv (H1 = H' ∧ σ' = [some (.ref a), some (.ref z), o2, o3, some u, some (.ref ca), some (.ref dl), none]), ?_, ?_⟩
          · walk_at "rd"
            exact ⟨⟨rfl, rfl⟩⟩
          rintro σ' H1 ⟨⟨rfl, rfl⟩⟩
          refine ⟨fun σ' H2 => Iv (∃ m : Str, σ' = [some (.ref a), some (.ref z), o2, o3, some u, some (.ref ca), some (.ref dl), some (.str m)] ∧ Same H1 H2 ∧ Sh m ∧ ¬ isM m), ?_, ?_⟩
          · walk_at "rd"
            rename_i ol hol c0
            refine ⟨(odd_at (i := c0 % 9) (by omega) (by omega) : atI (oddL.map V.str) _ = _), ?_⟩
            obtain ⟨o1, o2'⟩ := odd_in (i := c0 % 9) (by omega) (by omega)
            walk_at "rd"
            exact ⟨⟨_, rfl, same_new hol _, o1, o2'⟩⟩
          rintro σ' H2 ⟨⟨m, rfl, S2, sh, hm⟩⟩
          have nd2 := nd.same S2
          have nz := tg.z
          walk_at "rd"
          rename_i H3 S3
          have S13 := S2.trans S3
          have hd3 := S13 _ _ hdl
          refine ⟨nd2.same S3, nz, sh_s, by omega, .inl ⟨.inr rfl, fun H4 w4 S4 c4 => ?_⟩⟩
          have S14 := S13.trans S4
          have hd4 := S14 _ _ hdl
          have b0 : atI [d1, d2] 0 = some d1 := rfl
          have b1 : atI [d1, d2] 1 = some d2 := rfl
          walk_at "rd"
          refine ⟨cqD (t.co "shares"), cqD (t.co "shares"), c4.dv, (k1.same S14).dv, (co_shp _ (by omega)).shaped, (co_shp _ (by omega)).shaped, ?_⟩
          rw [cq_eqv]
          walk_at "rd"
          refine ⟨nd.same S14, nz, sh_m, by omega, .inl ⟨.inl rfl, fun H5 w5 S5 c5 => ?_⟩⟩
          have S15 := S14.trans S5
          have hd5 := S15 _ _ hdl
          walk_at "rd"
          refine ⟨cqD (t.co "misses"), cqD (t.co "misses"), c5.dv, (k2.same S15).dv, (co_shp _ (by omega)).shaped, (co_shp _ (by omega)).shaped, ?_⟩
          rw [cq_eqv]
          have nd5 := nd.same S15
          obtain ⟨ys, y1, y2⟩ := cn.same S15
          cases nd5 with
          | @lf x dx l cs hx cnx =>
            obtain ⟨xs', x1', x2'⟩ := cnx
            walk_at "rd"
            refine ⟨.list (cs.map cD), .list (cs.map cD), .lst (SqL.of x1') x2'.dv, .lst (SqL.of y1) y2.dv, (tg.c.ctz (by omega)).shp.shaped, (tg.c.ctz (by omega)).shp.shaped, ?_⟩
            rw [cs_eqv]
            exact q _
          | @fk x dx l qa cs qq v1 v2 y n hx cnx hq n1 n2 =>
            obtain ⟨xs', x1', x2'⟩ := cnx
            walk_at "rd"
            refine ⟨.list (cs.map cD), .list (cs.map cD), .lst (SqL.of x1') x2'.dv, .lst (SqL.of y1) y2.dv, (tg.c.ctz (by omega)).shp.shaped, (tg.c.ctz (by omega)).shp.shaped, ?_⟩
            rw [cs_eqv]
            exact q _
    · rintro σ' H' Q1 Q2 hq ⟨v, e, p, ys, ev, hs, i, j, ei, ej, k, ek, y⟩
      exact ⟨v, e, p, ys, ev, hs, i, j, ei, ej, k, ek, hq _ _ y⟩

end

theorem fin {K : PySem.W.Frag} {h : Heap} {mg : Str → Option Value} {fa f0 f1 f2 f3 f4 f5 f6 f7 f8 f9 f10 f11 f12 f13 f14 f15 f16 f17 f18 f19 f20 f21 f22 f23 f24 c_PruneError c_NoRatio c_NoMeasure c_Node c_Leaf c_Fork c_MEASURES : Addr} (X : K.In h) (G : h.Ns mainGlobals mg) (hfa : mg "law" = some (.ref fa))
    {od0 an0 od1 an1 od2 an2 od3 an3 od4 an4 od5 an5 od6 an6 od7 an7 od8 an8 od9 an9 od10 an10 od11 an11 od12 an12 od13 an13 od14 an14 od15 an15 od16 an16 od17 an17 od18 an18 od19 an19 od20 an20 od21 an21 od22 an22 od23 an23 od24 an24 : Option Addr} {sl0 sl1 sl2 sl3 sl4 sl5 sl6 sl7 sl8 sl9 sl10 sl11 sl12 sl13 sl14 sl15 sl16 sl17 sl18 sl19 sl20 sl21 sl22 sl23 sl24 : Array (Option Value)} {oc0 kV0 dc0 pm0 cd0 ct0 oc1 kV1 dc1 pm1 cd1 ct1 oc2 kV2 dc2 pm2 cd2 ct2 oc3 kV3 dc3 pm3 cd3 ct3 oc4 kV4 dc4 pm4 cd4 ct4 oc5 kV5 dc5 pm5 cd5 ct5 oc6 kV6 dc6 pm6 cd6 ct6 oc7 kV7 dc7 pm7 cd7 ct7 oc8 kV8 dc8 pm8 cd8 ct8 oc9 kV9 dc9 pm9 cd9 ct9 oc10 kV10 dc10 pm10 cd10 ct10 oc11 kV11 dc11 pm11 cd11 ct11 oc12 kV12 dc12 pm12 cd12 ct12 oc13 kV13 dc13 pm13 cd13 ct13 oc14 kV14 dc14 pm14 cd14 ct14 oc15 kV15 dc15 pm15 cd15 ct15 oc16 kV16 dc16 pm16 cd16 ct16 oc17 kV17 dc17 pm17 cd17 ct17 oc18 kV18 dc18 pm18 cd18 ct18 oc19 kV19 dc19 pm19 cd19 ct19 oc20 kV20 dc20 pm20 cd20 ct20 oc21 kV21 dc21 pm21 cd21 ct21 oc22 kV22 dc22 pm22 cd22 ct22 oc23 kV23 dc23 pm23 cd23 ct23 oc24 kV24 dc24 pm24 cd24 ct24 : Value}
    {o_MEASURES : Obj}
    (a_PruneError : PySem.W.nsIn K mainGlobals "PruneError" = some (some (.ref c_PruneError)))
    (a_NoRatio : PySem.W.nsIn K mainGlobals "NoRatio" = some (some (.ref c_NoRatio)))
    (e_NoRatio : PySem.W.excIn K c_NoRatio [.type "ValueError", .type "Exception", .type "BaseException", .type "object"] "ValueError.__new__" = true)
    (ga_NoRatio : PySem.W.findIn K (.ref c_NoRatio) "__getattribute__" = some (some (.builtin "BaseException.__getattribute__")))
    (gt_NoRatio : PySem.W.findIn K (.ref c_NoRatio) "__getattr__" = some none)
    (cl_NoRatio : PySem.W.findIn K (.ref c_NoRatio) "__class__" = some (some (.builtin "object.__class__")))
    (mb_NoRatio : PySem.W.mroIn K c_NoRatio (.type "BaseException") = some true)
    (mo_NoRatio : PySem.W.mroIn K c_NoRatio (.type "object") = some true)
    (a_NoMeasure : PySem.W.nsIn K mainGlobals "NoMeasure" = some (some (.ref c_NoMeasure)))
    (e_NoMeasure : PySem.W.excIn K c_NoMeasure [.type "ValueError", .type "Exception", .type "BaseException", .type "object"] "ValueError.__new__" = true)
    (ga_NoMeasure : PySem.W.findIn K (.ref c_NoMeasure) "__getattribute__" = some (some (.builtin "BaseException.__getattribute__")))
    (gt_NoMeasure : PySem.W.findIn K (.ref c_NoMeasure) "__getattr__" = some none)
    (cl_NoMeasure : PySem.W.findIn K (.ref c_NoMeasure) "__class__" = some (some (.builtin "object.__class__")))
    (mb_NoMeasure : PySem.W.mroIn K c_NoMeasure (.type "BaseException") = some true)
    (mo_NoMeasure : PySem.W.mroIn K c_NoMeasure (.type "object") = some true)
    (a_Node : PySem.W.nsIn K mainGlobals "Node" = some (some (.ref c_Node)))
    (pg_Node : PySem.W.plainGet K c_Node Str.empty = true)
    (hd_Node : PySem.W.hasDictIn K c_Node = true)
    (po_Node : PySem.W.plainOver K c_Node = true)
    (sa_Node : PySem.W.findIn K (.ref c_Node) "__setattr__" = some (some (.builtin "object.__setattr__")))
    (a_Leaf : PySem.W.nsIn K mainGlobals "Leaf" = some (some (.ref c_Leaf)))
    (pg_Leaf : PySem.W.plainGet K c_Leaf Str.empty = true)
    (hd_Leaf : PySem.W.hasDictIn K c_Leaf = true)
    (po_Leaf : PySem.W.plainOver K c_Leaf = true)
    (sa_Leaf : PySem.W.findIn K (.ref c_Leaf) "__setattr__" = some (some (.builtin "object.__setattr__")))
    (a_Fork : PySem.W.nsIn K mainGlobals "Fork" = some (some (.ref c_Fork)))
    (pg_Fork : PySem.W.plainGet K c_Fork Str.empty = true)
    (hd_Fork : PySem.W.hasDictIn K c_Fork = true)
    (po_Fork : PySem.W.plainOver K c_Fork = true)
    (sa_Fork : PySem.W.findIn K (.ref c_Fork) "__setattr__" = some (some (.builtin "object.__setattr__")))
    (a0 : PySem.W.nsIn K mainGlobals "is_whole" = some (some (.ref f0)))
    (l0 : K.lookup f0 = some ⟨oc0, od0, .func (PySem.W.fnOf "is_whole" "is_whole" (defArgs s_is_whole) (defBody s_is_whole) (defScope s_is_whole) .none kV0 dc0 pm0 an0 cd0 ct0), sl0⟩)
    (k_c0 : PySem.W.codeIn K cd0 "is_whole" = true)
    (k_k0 : PySem.W.keepIn K (.ref f0) = true)
    (a1 : PySem.W.nsIn K mainGlobals "greatest_divisor" = some (some (.ref f1)))
    (l1 : K.lookup f1 = some ⟨oc1, od1, .func (PySem.W.fnOf "greatest_divisor" "greatest_divisor" (defArgs s_greatest_divisor) (defBody s_greatest_divisor) (defScope s_greatest_divisor) .none kV1 dc1 pm1 an1 cd1 ct1), sl1⟩)
    (k_c1 : PySem.W.codeIn K cd1 "greatest_divisor" = true)
    (k_k1 : PySem.W.keepIn K (.ref f1) = true)
    (a2 : PySem.W.nsIn K mainGlobals "ratio" = some (some (.ref f2)))
    (l2 : K.lookup f2 = some ⟨oc2, od2, .func (PySem.W.fnOf "ratio" "ratio" (defArgs s_ratio) (defBody s_ratio) (defScope s_ratio) .none kV2 dc2 pm2 an2 cd2 ct2), sl2⟩)
    (k_c2 : PySem.W.codeIn K cd2 "ratio" = true)
    (k_k2 : PySem.W.keepIn K (.ref f2) = true)
    (a3 : PySem.W.nsIn K mainGlobals "check_measure" = some (some (.ref f3)))
    (l3 : K.lookup f3 = some ⟨oc3, od3, .func (PySem.W.fnOf "check_measure" "check_measure" (defArgs s_check_measure) (defBody s_check_measure) (defScope s_check_measure) .none kV3 dc3 pm3 an3 cd3 ct3), sl3⟩)
    (k_c3 : PySem.W.codeIn K cd3 "check_measure" = true)
    (k_k3 : PySem.W.keepIn K (.ref f3) = true)
    (a4 : PySem.W.nsIn K mainGlobals "all_rows" = some (some (.ref f4)))
    (l4 : K.lookup f4 = some ⟨oc4, od4, .func (PySem.W.fnOf "all_rows" "all_rows" (defArgs s_all_rows) (defBody s_all_rows) (defScope s_all_rows) .none kV4 dc4 pm4 an4 cd4 ct4), sl4⟩)
    (k_c4 : PySem.W.codeIn K cd4 "all_rows" = true)
    (k_k4 : PySem.W.keepIn K (.ref f4) = true)
    (a5 : PySem.W.nsIn K mainGlobals "misses" = some (some (.ref f5)))
    (l5 : K.lookup f5 = some ⟨oc5, od5, .func (PySem.W.fnOf "misses" "misses" (defArgs s_misses) (defBody s_misses) (defScope s_misses) .none kV5 dc5 pm5 an5 cd5 ct5), sl5⟩)
    (k_c5 : PySem.W.codeIn K cd5 "misses" = true)
    (k_k5 : PySem.W.keepIn K (.ref f5) = true)
    (a6 : PySem.W.nsIn K mainGlobals "shares" = some (some (.ref f6)))
    (l6 : K.lookup f6 = some ⟨oc6, od6, .func (PySem.W.fnOf "shares" "shares" (defArgs s_shares) (defBody s_shares) (defScope s_shares) .none kV6 dc6 pm6 an6 cd6 ct6), sl6⟩)
    (k_c6 : PySem.W.codeIn K cd6 "shares" = true)
    (k_k6 : PySem.W.keepIn K (.ref f6) = true)
    (a7 : PySem.W.nsIn K mainGlobals "mess" = some (some (.ref f7)))
    (l7 : K.lookup f7 = some ⟨oc7, od7, .func (PySem.W.fnOf "mess" "mess" (defArgs s_mess) (defBody s_mess) (defScope s_mess) .none kV7 dc7 pm7 an7 cd7 ct7), sl7⟩)
    (k_c7 : PySem.W.codeIn K cd7 "mess" = true)
    (k_k7 : PySem.W.keepIn K (.ref f7) = true)
    (a8 : PySem.W.findIn K (.ref c_Node) "__init__" = some (some (.ref f8)))
    (i8 : PySem.W.isFn K (.ref f8) = true)
    (mk_Node : PySem.W.makesIn K c_Node = true)
    (kc_Node : PySem.W.keepIn K (.ref c_Node) = true)
    (l8 : K.lookup f8 = some ⟨oc8, od8, .func (PySem.W.fnOf "__init__" "Node.__init__" (defArgs s_Node___init__) (defBody s_Node___init__) (defScope s_Node___init__) .none kV8 dc8 pm8 an8 cd8 ct8), sl8⟩)
    (k_c8 : PySem.W.codeIn K cd8 "Node.__init__" = true)
    (k_k8 : PySem.W.keepIn K (.ref f8) = true)
    (a9 : PySem.W.findIn K (.ref c_Leaf) "leaves" = some (some (.ref f9)))
    (i9 : PySem.W.isFn K (.ref f9) = true)
    (l9 : K.lookup f9 = some ⟨oc9, od9, .func (PySem.W.fnOf "leaves" "Leaf.leaves" (defArgs s_Leaf_leaves) (defBody s_Leaf_leaves) (defScope s_Leaf_leaves) .none kV9 dc9 pm9 an9 cd9 ct9), sl9⟩)
    (k_c9 : PySem.W.codeIn K cd9 "Leaf.leaves" = true)
    (k_k9 : PySem.W.keepIn K (.ref f9) = true)
    (a10 : PySem.W.findIn K (.ref c_Leaf) "deep" = some (some (.ref f10)))
    (i10 : PySem.W.isFn K (.ref f10) = true)
    (l10 : K.lookup f10 = some ⟨oc10, od10, .func (PySem.W.fnOf "deep" "Leaf.deep" (defArgs s_Leaf_deep) (defBody s_Leaf_deep) (defScope s_Leaf_deep) .none kV10 dc10 pm10 an10 cd10 ct10), sl10⟩)
    (k_c10 : PySem.W.codeIn K cd10 "Leaf.deep" = true)
    (k_k10 : PySem.W.keepIn K (.ref f10) = true)
    (a11 : PySem.W.findIn K (.ref c_Fork) "leaves" = some (some (.ref f11)))
    (i11 : PySem.W.isFn K (.ref f11) = true)
    (l11 : K.lookup f11 = some ⟨oc11, od11, .func (PySem.W.fnOf "leaves" "Fork.leaves" (defArgs s_Fork_leaves) (defBody s_Fork_leaves) (defScope s_Fork_leaves) .none kV11 dc11 pm11 an11 cd11 ct11), sl11⟩)
    (k_c11 : PySem.W.codeIn K cd11 "Fork.leaves" = true)
    (k_k11 : PySem.W.keepIn K (.ref f11) = true)
    (a12 : PySem.W.findIn K (.ref c_Fork) "deep" = some (some (.ref f12)))
    (i12 : PySem.W.isFn K (.ref f12) = true)
    (l12 : K.lookup f12 = some ⟨oc12, od12, .func (PySem.W.fnOf "deep" "Fork.deep" (defArgs s_Fork_deep) (defBody s_Fork_deep) (defScope s_Fork_deep) .none kV12 dc12 pm12 an12 cd12 ct12), sl12⟩)
    (k_c12 : PySem.W.codeIn K cd12 "Fork.deep" = true)
    (k_k12 : PySem.W.keepIn K (.ref f12) = true)
    (a13 : PySem.W.findIn K (.ref c_Fork) "__init__" = some (some (.ref f13)))
    (i13 : PySem.W.isFn K (.ref f13) = true)
    (mk_Fork : PySem.W.makesIn K c_Fork = true)
    (kc_Fork : PySem.W.keepIn K (.ref c_Fork) = true)
    (l13 : K.lookup f13 = some ⟨oc13, od13, .func (PySem.W.fnOf "__init__" "Fork.__init__" (defArgs s_Fork___init__) (defBody s_Fork___init__) (defScope s_Fork___init__) .none kV13 dc13 pm13 an13 cd13 ct13), sl13⟩)
    (k_c13 : PySem.W.codeIn K cd13 "Fork.__init__" = true)
    (k_k13 : PySem.W.keepIn K (.ref f13) = true)
    (a14 : PySem.W.nsIn K mainGlobals "costed" = some (some (.ref f14)))
    (l14 : K.lookup f14 = some ⟨oc14, od14, .func (PySem.W.fnOf "costed" "costed" (defArgs s_costed) (defBody s_costed) (defScope s_costed) .none kV14 dc14 pm14 an14 cd14 ct14), sl14⟩)
    (k_c14 : PySem.W.codeIn K cd14 "costed" = true)
    (k_k14 : PySem.W.keepIn K (.ref f14) = true)
    (a15 : PySem.W.nsIn K mainGlobals "_law_cell" = some (some (.ref f15)))
    (l15 : K.lookup f15 = some ⟨oc15, od15, .func (PySem.W.fnOf "_law_cell" "_law_cell" (defArgs s_law_cell) (defBody s_law_cell) (defScope s_law_cell) .none kV15 dc15 pm15 an15 cd15 ct15), sl15⟩)
    (k_c15 : PySem.W.codeIn K cd15 "_law_cell" = true)
    (k_k15 : PySem.W.keepIn K (.ref f15) = true)
    (a16 : PySem.W.nsIn K mainGlobals "_law_pick" = some (some (.ref f16)))
    (l16 : K.lookup f16 = some ⟨oc16, od16, .func (PySem.W.fnOf "_law_pick" "_law_pick" (defArgs s_law_pick) (defBody s_law_pick) (defScope s_law_pick) .none kV16 dc16 pm16 an16 cd16 ct16), sl16⟩)
    (k_c16 : PySem.W.codeIn K cd16 "_law_pick" = true)
    (k_k16 : PySem.W.keepIn K (.ref f16) = true)
    (a17 : PySem.W.nsIn K mainGlobals "_law_lowest" = some (some (.ref f17)))
    (l17 : K.lookup f17 = some ⟨oc17, od17, .func (PySem.W.fnOf "_law_lowest" "_law_lowest" (defArgs s_law_lowest) (defBody s_law_lowest) (defScope s_law_lowest) .none kV17 dc17 pm17 an17 cd17 ct17), sl17⟩)
    (k_c17 : PySem.W.codeIn K cd17 "_law_lowest" = true)
    (k_k17 : PySem.W.keepIn K (.ref f17) = true)
    (a18 : PySem.W.nsIn K mainGlobals "_law_counts" = some (some (.ref f18)))
    (l18 : K.lookup f18 = some ⟨oc18, od18, .func (PySem.W.fnOf "_law_counts" "_law_counts" (defArgs s_law_counts) (defBody s_law_counts) (defScope s_law_counts) .none kV18 dc18 pm18 an18 cd18 ct18), sl18⟩)
    (k_c18 : PySem.W.codeIn K cd18 "_law_counts" = true)
    (k_k18 : PySem.W.keepIn K (.ref f18) = true)
    (a19 : PySem.W.nsIn K mainGlobals "_law_together" = some (some (.ref f19)))
    (l19 : K.lookup f19 = some ⟨oc19, od19, .func (PySem.W.fnOf "_law_together" "_law_together" (defArgs s_law_together) (defBody s_law_together) (defScope s_law_together) .none kV19 dc19 pm19 an19 cd19 ct19), sl19⟩)
    (k_c19 : PySem.W.codeIn K cd19 "_law_together" = true)
    (k_k19 : PySem.W.keepIn K (.ref f19) = true)
    (a20 : PySem.W.nsIn K mainGlobals "_law_mess" = some (some (.ref f20)))
    (l20 : K.lookup f20 = some ⟨oc20, od20, .func (PySem.W.fnOf "_law_mess" "_law_mess" (defArgs s_law_mess) (defBody s_law_mess) (defScope s_law_mess) .none kV20 dc20 pm20 an20 cd20 ct20), sl20⟩)
    (k_c20 : PySem.W.codeIn K cd20 "_law_mess" = true)
    (k_k20 : PySem.W.keepIn K (.ref f20) = true)
    (a21 : PySem.W.nsIn K mainGlobals "_law_leaf" = some (some (.ref f21)))
    (l21 : K.lookup f21 = some ⟨oc21, od21, .func (PySem.W.fnOf "_law_leaf" "_law_leaf" (defArgs s_law_leaf) (defBody s_law_leaf) (defScope s_law_leaf) .none kV21 dc21 pm21 an21 cd21 ct21), sl21⟩)
    (k_c21 : PySem.W.codeIn K cd21 "_law_leaf" = true)
    (k_k21 : PySem.W.keepIn K (.ref f21) = true)
    (a22 : PySem.W.nsIn K mainGlobals "_law_fork" = some (some (.ref f22)))
    (l22 : K.lookup f22 = some ⟨oc22, od22, .func (PySem.W.fnOf "_law_fork" "_law_fork" (defArgs s_law_fork) (defBody s_law_fork) (defScope s_law_fork) .none kV22 dc22 pm22 an22 cd22 ct22), sl22⟩)
    (k_c22 : PySem.W.codeIn K cd22 "_law_fork" = true)
    (k_k22 : PySem.W.keepIn K (.ref f22) = true)
    (a23 : PySem.W.nsIn K mainGlobals "_law_refused" = some (some (.ref f23)))
    (l23 : K.lookup f23 = some ⟨oc23, od23, .func (PySem.W.fnOf "_law_refused" "_law_refused" (defArgs s_law_refused) (defBody s_law_refused) (defScope s_law_refused) .none kV23 dc23 pm23 an23 cd23 ct23), sl23⟩)
    (k_c23 : PySem.W.codeIn K cd23 "_law_refused" = true)
    (k_k23 : PySem.W.keepIn K (.ref f23) = true)
    (a24 : PySem.W.nsIn K mainGlobals "law" = some (some (.ref f24)))
    (l24 : K.lookup f24 = some ⟨oc24, od24, .func (PySem.W.fnOf "law" "law" (defArgs s_law) (defBody s_law) (defScope s_law) .none kV24 dc24 pm24 an24 cd24 ct24), sl24⟩)
    (k_c24 : PySem.W.codeIn K cd24 "law" = true)
    (k_k24 : PySem.W.keepIn K (.ref f24) = true)
    (ia_Leaf_init : PySem.W.findIn K (.ref c_Leaf) "__init__" = some (some (.ref f8)))
    (ii_Leaf_init : PySem.W.isFn K (.ref f8) = true)
    (imk_Leaf : PySem.W.makesIn K c_Leaf = true)
    (ikc_Leaf : PySem.W.keepIn K (.ref c_Leaf) = true)
    (sg_Node_init : PySem.W.specialIn K (.ref c_Node) "__getattribute__" = some (some (.builtin "type.__getattribute__")))
    (rd_Node_init : PySem.W.readsIn K c_Node (.type "type") = true)
    (fc_Node_init : PySem.W.findCls K (.ref c_Node) (.type "type") "__init__" = some (.val (.ref f8)))
    (a_MEASURES : PySem.W.nsIn K mainGlobals "MEASURES" = some (some (.ref c_MEASURES)))
    (l_MEASURES : K.lookup c_MEASURES = some o_MEASURES)
    (q_MEASURES : ∀ H, SqT K H c_MEASURES [.str "misses", .str "shares"])
    (z_ValueError : PySem.W.nsIn K mainGlobals "ValueError" = some none)
    (z_abs : PySem.W.nsIn K mainGlobals "abs" = some none)
    (z_bool : PySem.W.nsIn K mainGlobals "bool" = some none)
    (z_enumerate : PySem.W.nsIn K mainGlobals "enumerate" = some none)
    (z_int : PySem.W.nsIn K mainGlobals "int" = some none)
    (z_isinstance : PySem.W.nsIn K mainGlobals "isinstance" = some none)
    (z_len : PySem.W.nsIn K mainGlobals "len" = some none)
    (z_list : PySem.W.nsIn K mainGlobals "list" = some none)
    (z_max : PySem.W.nsIn K mainGlobals "max" = some none)
    (z_sorted : PySem.W.nsIn K mainGlobals "sorted" = some none)
    (z_sum : PySem.W.nsIn K mainGlobals "sum" = some none)
    (ht1 : PySem.W.exmOne K (.ref c_NoMeasure) (.ref c_PruneError) = some true)
    (ht3 : PySem.W.kitOne K (.ref c_NoMeasure) (.type "ValueError") = some true)
    (ht4 : PySem.W.exmOne K (.ref c_NoMeasure) (.ref c_NoMeasure) = some true)
    (hnLc : PySem.W.findIn K (.ref c_Leaf) "counted" = some none)
    (hnFcd : PySem.W.findIn K (.ref c_Fork) "counted" = some none)
    (hnFqn : PySem.W.findIn K (.ref c_Fork) "question" = some none)
    (hnFys : PySem.W.findIn K (.ref c_Fork) "yes" = some none)
    (hnFno : PySem.W.findIn K (.ref c_Fork) "no" = some none)
    (hnFlt : PySem.W.findIn K (.ref c_Fork) "leaf_count" = some none)
    (hnFdh : PySem.W.findIn K (.ref c_Fork) "depth" = some none)
    (hclL : PySem.W.findIn K (.ref c_Leaf) "__class__" = some (some (.builtin "object.__class__")))
    (hclF : PySem.W.findIn K (.ref c_Fork) "__class__" = some (some (.builtin "object.__class__")))
    (hogt : PySem.W.specialIn K (.builtin "object.__class__") "__get__" = some (some (.builtin "getset_descriptor.__get__")))
    (hotk : PySem.W.takesIn K (.builtin "object.__class__") = some true)
    (homL : PySem.W.mroIn K c_Leaf (.type "object") = some true)
    (homF : PySem.W.mroIn K c_Fork (.type "object") = some true)
    (hkLF : PySem.W.kitOne K (.ref c_Leaf) (.ref c_Fork) = some false)
    (hkFF : PySem.W.kitOne K (.ref c_Fork) (.ref c_Fork) = some true)
    : ∃ T : Tx K mg, T.f_law = fa ∧ ∀ (s : Shared) (u : Value), BindsTo s T.d_law ⟨[u], []⟩ [("_law_script", u)] := by
  have e := hfa.symm.trans (PySem.W.mg_of X G a24)
  cases e
  have F0 := fun_mk (st := s_is_whole) l0 k_c0 k_k0
  have b0 := F0.binds (ps := ["value"]) fun _ _ _ _ _ _ us hl => match us, hl with | [_], _ => rfl
  have F1 := fun_mk (st := s_greatest_divisor) l1 k_c1 k_k1
  have b1 := F1.binds (ps := ["one", "other"]) fun _ _ _ _ _ _ us hl => match us, hl with | [_, _], _ => rfl
  have F2 := fun_mk (st := s_ratio) l2 k_c2 k_k2
  have b2 := F2.binds (ps := ["top", "bottom"]) fun _ _ _ _ _ _ us hl => match us, hl with | [_, _], _ => rfl
  have F3 := fun_mk (st := s_check_measure) l3 k_c3 k_k3
  have b3 := F3.binds (ps := ["measure"]) fun _ _ _ _ _ _ us hl => match us, hl with | [_], _ => rfl
  have F4 := fun_mk (st := s_all_rows) l4 k_c4 k_k4
  have b4 := F4.binds (ps := ["counted"]) fun _ _ _ _ _ _ us hl => match us, hl with | [_], _ => rfl
  have F5 := fun_mk (st := s_misses) l5 k_c5 k_k5
  have b5 := F5.binds (ps := ["counted"]) fun _ _ _ _ _ _ us hl => match us, hl with | [_], _ => rfl
  have F6 := fun_mk (st := s_shares) l6 k_c6 k_k6
  have b6 := F6.binds (ps := ["counted"]) fun _ _ _ _ _ _ us hl => match us, hl with | [_], _ => rfl
  have F7 := fun_mk (st := s_mess) l7 k_c7 k_k7
  have b7 := F7.binds (ps := ["counted", "measure"]) fun _ _ _ _ _ _ us hl => match us, hl with | [_, _], _ => rfl
  have F8 := fun_mk (st := s_Node___init__) l8 k_c8 k_k8
  have b8 := F8.binds (ps := ["self", "counted"]) fun _ _ _ _ _ _ us hl => match us, hl with | [_, _], _ => rfl
  have F9 := fun_mk (st := s_Leaf_leaves) l9 k_c9 k_k9
  have b9 := F9.binds (ps := ["self"]) fun _ _ _ _ _ _ us hl => match us, hl with | [_], _ => rfl
  have F10 := fun_mk (st := s_Leaf_deep) l10 k_c10 k_k10
  have b10 := F10.binds (ps := ["self"]) fun _ _ _ _ _ _ us hl => match us, hl with | [_], _ => rfl
  have F11 := fun_mk (st := s_Fork_leaves) l11 k_c11 k_k11
  have b11 := F11.binds (ps := ["self"]) fun _ _ _ _ _ _ us hl => match us, hl with | [_], _ => rfl
  have F12 := fun_mk (st := s_Fork_deep) l12 k_c12 k_k12
  have b12 := F12.binds (ps := ["self"]) fun _ _ _ _ _ _ us hl => match us, hl with | [_], _ => rfl
  have F13 := fun_mk (st := s_Fork___init__) l13 k_c13 k_k13
  have b13 := F13.binds (ps := ["self", "counted", "question", "yes", "no"]) fun _ _ _ _ _ _ us hl => match us, hl with | [_, _, _, _, _], _ => rfl
  have F14 := fun_mk (st := s_costed) l14 k_c14 k_k14
  have b14 := F14.binds (ps := ["node", "measure"]) fun _ _ _ _ _ _ us hl => match us, hl with | [_, _], _ => rfl
  have F15 := fun_mk (st := s_law_cell) l15 k_c15 k_k15
  have b15 := F15.binds (ps := ["_law_script", "_law_k"]) fun _ _ _ _ _ _ us hl => match us, hl with | [_, _], _ => rfl
  have F16 := fun_mk (st := s_law_pick) l16 k_c16 k_k16
  have b16 := F16.binds (ps := ["_law_cell_here", "_law_turn", "_law_many"]) fun _ _ _ _ _ _ us hl => match us, hl with | [_, _, _], _ => rfl
  have F17 := fun_mk (st := s_law_lowest) l17 k_c17 k_k17
  have b17 := F17.binds (ps := ["_law_top", "_law_bottom"]) fun _ _ _ _ _ _ us hl => match us, hl with | [_, _], _ => rfl
  have F18 := fun_mk (st := s_law_counts) l18 k_c18 k_k18
  have b18 := F18.binds (ps := ["_law_cell_here"]) fun _ _ _ _ _ _ us hl => match us, hl with | [_], _ => rfl
  have F19 := fun_mk (st := s_law_together) l19 k_c19 k_k19
  have b19 := F19.binds (ps := ["_law_one", "_law_two"]) fun _ _ _ _ _ _ us hl => match us, hl with | [_, _], _ => rfl
  have F20 := fun_mk (st := s_law_mess) l20 k_c20 k_k20
  have b20 := F20.binds (ps := ["_law_counted", "_law_measure"]) fun _ _ _ _ _ _ us hl => match us, hl with | [_, _], _ => rfl
  have F21 := fun_mk (st := s_law_leaf) l21 k_c21 k_k21
  have b21 := F21.binds (ps := ["_law_cell_here"]) fun _ _ _ _ _ _ us hl => match us, hl with | [_], _ => rfl
  have F22 := fun_mk (st := s_law_fork) l22 k_c22 k_k22
  have b22 := F22.binds (ps := ["_law_cell_here", "_law_one", "_law_two"]) fun _ _ _ _ _ _ us hl => match us, hl with | [_, _, _], _ => rfl
  have F23 := fun_mk (st := s_law_refused) l23 k_c23 k_k23
  have b23 := F23.binds (ps := ["_law_node", "_law_measure"]) fun _ _ _ _ _ _ us hl => match us, hl with | [_, _], _ => rfl
  have F24 := fun_mk (st := s_law) l24 k_c24 k_k24
  have b24 := F24.binds (ps := ["_law_script"]) fun _ _ _ _ _ _ us hl => match us, hl with | [_], _ => rfl
  exact ⟨⟨c_PruneError, PySem.W.mg_of X G a_PruneError, c_NoRatio, PySem.W.mg_of X G a_NoRatio, ⟨PySem.W.mg_of X G a_NoRatio, e_NoRatio⟩, ⟨ga_NoRatio, gt_NoRatio, cl_NoRatio, mb_NoRatio, mo_NoRatio⟩, c_NoMeasure, PySem.W.mg_of X G a_NoMeasure, ⟨PySem.W.mg_of X G a_NoMeasure, e_NoMeasure⟩, ⟨ga_NoMeasure, gt_NoMeasure, cl_NoMeasure, mb_NoMeasure, mo_NoMeasure⟩, c_Node, PySem.W.mg_of X G a_Node, ⟨pg_Node, hd_Node, po_Node, sa_Node⟩, c_Leaf, PySem.W.mg_of X G a_Leaf, ⟨pg_Leaf, hd_Leaf, po_Leaf, sa_Leaf⟩, c_Fork, PySem.W.mg_of X G a_Fork, ⟨pg_Fork, hd_Fork, po_Fork, sa_Fork⟩, _, _, F0, b0, PySem.W.mg_of X G a0, _, _, F1, b1, PySem.W.mg_of X G a1, _, _, F2, b2, PySem.W.mg_of X G a2, _, _, F3, b3, PySem.W.mg_of X G a3, _, _, F4, b4, PySem.W.mg_of X G a4, _, _, F5, b5, PySem.W.mg_of X G a5, _, _, F6, b6, PySem.W.mg_of X G a6, _, _, F7, b7, PySem.W.mg_of X G a7, _, _, F8, b8, ⟨mk_Node, a8, i8, kc_Node⟩, _, _, F9, b9, ⟨a9, i9, k_k9⟩, _, _, F10, b10, ⟨a10, i10, k_k10⟩, _, _, F11, b11, ⟨a11, i11, k_k11⟩, _, _, F12, b12, ⟨a12, i12, k_k12⟩, _, _, F13, b13, ⟨mk_Fork, a13, i13, kc_Fork⟩, _, _, F14, b14, PySem.W.mg_of X G a14, _, _, F15, b15, PySem.W.mg_of X G a15, _, _, F16, b16, PySem.W.mg_of X G a16, _, _, F17, b17, PySem.W.mg_of X G a17, _, _, F18, b18, PySem.W.mg_of X G a18, _, _, F19, b19, PySem.W.mg_of X G a19, _, _, F20, b20, PySem.W.mg_of X G a20, _, _, F21, b21, PySem.W.mg_of X G a21, _, _, F22, b22, PySem.W.mg_of X G a22, _, _, F23, b23, PySem.W.mg_of X G a23, _, _, F24, b24, PySem.W.mg_of X G a24, ⟨imk_Leaf, ia_Leaf_init, ii_Leaf_init, ikc_Leaf⟩, ⟨sg_Node_init, rd_Node_init, fc_Node_init, k_k8⟩, c_MEASURES, PySem.W.mg_of X G a_MEASURES, q_MEASURES, PySem.W.mg_none_of X G z_ValueError, PySem.W.mg_none_of X G z_abs, PySem.W.mg_none_of X G z_bool, PySem.W.mg_none_of X G z_enumerate, PySem.W.mg_none_of X G z_int, PySem.W.mg_none_of X G z_isinstance, PySem.W.mg_none_of X G z_len, PySem.W.mg_none_of X G z_list, PySem.W.mg_none_of X G z_max, PySem.W.mg_none_of X G z_sorted, PySem.W.mg_none_of X G z_sum, ht1, ht3, ht4, hnLc, hnFcd, hnFqn, hnFys, hnFno, hnFlt, hnFdh, hclL, hclF, hogt, hotk, homL, homF, hkLF, hkFF⟩, rfl, fun s u => .of_eq rfl⟩

end Lw
open PySem PySem.W PyProof.Rows
set_option maxRecDepth 100000 in
set_option maxHeartbeats 0 in
theorem PySem.Challenge.cw_prunepath_k23_costs_of_a_grown_tree_holds : PySem.Challenge.rw_prunepath_k23_costs_of_a_grown_tree.Holds := by
  w_on; o_law; k_head; (case hw => w_witness2)
  k_fill
  refine L2.walk_ofX (l := PySem.Challenge.rw_prunepath_k23_costs_of_a_grown_tree) (n := 63) (k := 39) (x := "_law_script") (sp := Lw.sp_law) rfl (by decide) rfl ⟨rfl, by decide, by decide, rfl⟩ (fun w h Y => PySem.W.kIn_of Y) ?F ?S
  case F =>
    intro w mg fa h KX G hmg
    have T : ∃ T : Lw.Tx (L2.KOf KX) mg, T.f_law = fa ∧ ∀ (s : Shared) (u : Value), BindsTo s T.d_law ⟨[u], []⟩ [("_law_script", u)] := by
      dsimp only [L2.KOf]
      refine' Lw.fin KX G hmg ?ga_PruneError ?ga_NoRatio ?ge_NoRatio ?gga_NoRatio ?ggt_NoRatio ?gcl_NoRatio ?gmb_NoRatio ?gmo_NoRatio ?ga_NoMeasure ?ge_NoMeasure ?gga_NoMeasure ?ggt_NoMeasure ?gcl_NoMeasure ?gmb_NoMeasure ?gmo_NoMeasure ?ga_Node ?gpg_Node ?ghd_Node ?gpo_Node ?gsa_Node ?ga_Leaf ?gpg_Leaf ?ghd_Leaf ?gpo_Leaf ?gsa_Leaf ?ga_Fork ?gpg_Fork ?ghd_Fork ?gpo_Fork ?gsa_Fork ?ga0 ?gl0 ?gk_c0 ?gk_k0 ?ga1 ?gl1 ?gk_c1 ?gk_k1 ?ga2 ?gl2 ?gk_c2 ?gk_k2 ?ga3 ?gl3 ?gk_c3 ?gk_k3 ?ga4 ?gl4 ?gk_c4 ?gk_k4 ?ga5 ?gl5 ?gk_c5 ?gk_k5 ?ga6 ?gl6 ?gk_c6 ?gk_k6 ?ga7 ?gl7 ?gk_c7 ?gk_k7 ?ga8 ?gi8 ?gmk_Node ?gkc_Node ?gl8 ?gk_c8 ?gk_k8 ?ga9 ?gi9 ?gl9 ?gk_c9 ?gk_k9 ?ga10 ?gi10 ?gl10 ?gk_c10 ?gk_k10 ?ga11 ?gi11 ?gl11 ?gk_c11 ?gk_k11 ?ga12 ?gi12 ?gl12 ?gk_c12 ?gk_k12 ?ga13 ?gi13 ?gmk_Fork ?gkc_Fork ?gl13 ?gk_c13 ?gk_k13 ?ga14 ?gl14 ?gk_c14 ?gk_k14 ?ga15 ?gl15 ?gk_c15 ?gk_k15 ?ga16 ?gl16 ?gk_c16 ?gk_k16 ?ga17 ?gl17 ?gk_c17 ?gk_k17 ?ga18 ?gl18 ?gk_c18 ?gk_k18 ?ga19 ?gl19 ?gk_c19 ?gk_k19 ?ga20 ?gl20 ?gk_c20 ?gk_k20 ?ga21 ?gl21 ?gk_c21 ?gk_k21 ?ga22 ?gl22 ?gk_c22 ?gk_k22 ?ga23 ?gl23 ?gk_c23 ?gk_k23 ?ga24 ?gl24 ?gk_c24 ?gk_k24 ?gia_Leaf_init ?gii_Leaf_init ?gimk_Leaf ?gikc_Leaf ?gsg_Node_init ?grd_Node_init ?gfc_Node_init ?ga_MEASURES ?gl_MEASURES ?gq_MEASURES ?gz_ValueError ?gz_abs ?gz_bool ?gz_enumerate ?gz_int ?gz_isinstance ?gz_len ?gz_list ?gz_max ?gz_sorted ?gz_sum ?ght1 ?ght3 ?ght4 ?ghnLc ?ghnFcd ?ghnFqn ?ghnFys ?ghnFno ?ghnFlt ?ghnFdh ?ghclL ?ghclF ?ghogt ?ghotk ?ghomL ?ghomF ?ghkLF ?ghkFF
      (case ga_PruneError => first | k_is | k_exc | kit_is | kts_exm)
      (case ga_NoRatio => first | k_is | k_exc | kit_is | kts_exm)
      (case ge_NoRatio => first | k_is | k_exc | kit_is | kts_exm)
      (case gga_NoRatio => first | k_is | k_exc | kit_is | kts_exm)
      (case ggt_NoRatio => first | k_is | k_exc | kit_is | kts_exm)
      (case gcl_NoRatio => first | k_is | k_exc | kit_is | kts_exm)
      (case gmb_NoRatio => first | k_is | k_exc | kit_is | kts_exm)
      (case gmo_NoRatio => first | k_is | k_exc | kit_is | kts_exm)
      (case ga_NoMeasure => first | k_is | k_exc | kit_is | kts_exm)
      (case ge_NoMeasure => first | k_is | k_exc | kit_is | kts_exm)
      (case gga_NoMeasure => first | k_is | k_exc | kit_is | kts_exm)
      (case ggt_NoMeasure => first | k_is | k_exc | kit_is | kts_exm)
      (case gcl_NoMeasure => first | k_is | k_exc | kit_is | kts_exm)
      (case gmb_NoMeasure => first | k_is | k_exc | kit_is | kts_exm)
      (case gmo_NoMeasure => first | k_is | k_exc | kit_is | kts_exm)
      (case ga_Node => first | k_is | k_exc | kit_is | kts_exm)
      (case gpg_Node => first | k_is | k_exc | kit_is | kts_exm)
      (case ghd_Node => first | k_is | k_exc | kit_is | kts_exm)
      (case gpo_Node => first | k_is | k_exc | kit_is | kts_exm)
      (case gsa_Node => first | k_is | k_exc | kit_is | kts_exm)
      (case ga_Leaf => first | k_is | k_exc | kit_is | kts_exm)
      (case gpg_Leaf => first | k_is | k_exc | kit_is | kts_exm)
      (case ghd_Leaf => first | k_is | k_exc | kit_is | kts_exm)
      (case gpo_Leaf => first | k_is | k_exc | kit_is | kts_exm)
      (case gsa_Leaf => first | k_is | k_exc | kit_is | kts_exm)
      (case ga_Fork => first | k_is | k_exc | kit_is | kts_exm)
      (case gpg_Fork => first | k_is | k_exc | kit_is | kts_exm)
      (case ghd_Fork => first | k_is | k_exc | kit_is | kts_exm)
      (case gpo_Fork => first | k_is | k_exc | kit_is | kts_exm)
      (case gsa_Fork => first | k_is | k_exc | kit_is | kts_exm)
      (case ga0 => first | k_is | k_exc | kit_is | kts_exm)
      (case gl0 => first | k_is | k_exc | kit_is | kts_exm)
      (case gk_c0 => first | k_is | k_exc | kit_is | kts_exm)
      (case gk_k0 => first | k_is | k_exc | kit_is | kts_exm)
      (case ga1 => first | k_is | k_exc | kit_is | kts_exm)
      (case gl1 => first | k_is | k_exc | kit_is | kts_exm)
      (case gk_c1 => first | k_is | k_exc | kit_is | kts_exm)
      (case gk_k1 => first | k_is | k_exc | kit_is | kts_exm)
      (case ga2 => first | k_is | k_exc | kit_is | kts_exm)
      (case gl2 => first | k_is | k_exc | kit_is | kts_exm)
      (case gk_c2 => first | k_is | k_exc | kit_is | kts_exm)
      (case gk_k2 => first | k_is | k_exc | kit_is | kts_exm)
      (case ga3 => first | k_is | k_exc | kit_is | kts_exm)
      (case gl3 => first | k_is | k_exc | kit_is | kts_exm)
      (case gk_c3 => first | k_is | k_exc | kit_is | kts_exm)
      (case gk_k3 => first | k_is | k_exc | kit_is | kts_exm)
      (case ga4 => first | k_is | k_exc | kit_is | kts_exm)
      (case gl4 => first | k_is | k_exc | kit_is | kts_exm)
      (case gk_c4 => first | k_is | k_exc | kit_is | kts_exm)
      (case gk_k4 => first | k_is | k_exc | kit_is | kts_exm)
      (case ga5 => first | k_is | k_exc | kit_is | kts_exm)
      (case gl5 => first | k_is | k_exc | kit_is | kts_exm)
      (case gk_c5 => first | k_is | k_exc | kit_is | kts_exm)
      (case gk_k5 => first | k_is | k_exc | kit_is | kts_exm)
      (case ga6 => first | k_is | k_exc | kit_is | kts_exm)
      (case gl6 => first | k_is | k_exc | kit_is | kts_exm)
      (case gk_c6 => first | k_is | k_exc | kit_is | kts_exm)
      (case gk_k6 => first | k_is | k_exc | kit_is | kts_exm)
      (case ga7 => first | k_is | k_exc | kit_is | kts_exm)
      (case gl7 => first | k_is | k_exc | kit_is | kts_exm)
      (case gk_c7 => first | k_is | k_exc | kit_is | kts_exm)
      (case gk_k7 => first | k_is | k_exc | kit_is | kts_exm)
      (case ga8 => first | k_is | k_exc | kit_is | kts_exm)
      (case gi8 => first | k_is | k_exc | kit_is | kts_exm)
      (case gmk_Node => first | k_is | k_exc | kit_is | kts_exm)
      (case gkc_Node => first | k_is | k_exc | kit_is | kts_exm)
      (case gl8 => first | k_is | k_exc | kit_is | kts_exm)
      (case gk_c8 => first | k_is | k_exc | kit_is | kts_exm)
      (case gk_k8 => first | k_is | k_exc | kit_is | kts_exm)
      (case ga9 => first | k_is | k_exc | kit_is | kts_exm)
      (case gi9 => first | k_is | k_exc | kit_is | kts_exm)
      (case gl9 => first | k_is | k_exc | kit_is | kts_exm)
      (case gk_c9 => first | k_is | k_exc | kit_is | kts_exm)
      (case gk_k9 => first | k_is | k_exc | kit_is | kts_exm)
      (case ga10 => first | k_is | k_exc | kit_is | kts_exm)
      (case gi10 => first | k_is | k_exc | kit_is | kts_exm)
      (case gl10 => first | k_is | k_exc | kit_is | kts_exm)
      (case gk_c10 => first | k_is | k_exc | kit_is | kts_exm)
      (case gk_k10 => first | k_is | k_exc | kit_is | kts_exm)
      (case ga11 => first | k_is | k_exc | kit_is | kts_exm)
      (case gi11 => first | k_is | k_exc | kit_is | kts_exm)
      (case gl11 => first | k_is | k_exc | kit_is | kts_exm)
      (case gk_c11 => first | k_is | k_exc | kit_is | kts_exm)
      (case gk_k11 => first | k_is | k_exc | kit_is | kts_exm)
      (case ga12 => first | k_is | k_exc | kit_is | kts_exm)
      (case gi12 => first | k_is | k_exc | kit_is | kts_exm)
      (case gl12 => first | k_is | k_exc | kit_is | kts_exm)
      (case gk_c12 => first | k_is | k_exc | kit_is | kts_exm)
      (case gk_k12 => first | k_is | k_exc | kit_is | kts_exm)
      (case ga13 => first | k_is | k_exc | kit_is | kts_exm)
      (case gi13 => first | k_is | k_exc | kit_is | kts_exm)
      (case gmk_Fork => first | k_is | k_exc | kit_is | kts_exm)
      (case gkc_Fork => first | k_is | k_exc | kit_is | kts_exm)
      (case gl13 => first | k_is | k_exc | kit_is | kts_exm)
      (case gk_c13 => first | k_is | k_exc | kit_is | kts_exm)
      (case gk_k13 => first | k_is | k_exc | kit_is | kts_exm)
      (case ga14 => first | k_is | k_exc | kit_is | kts_exm)
      (case gl14 => first | k_is | k_exc | kit_is | kts_exm)
      (case gk_c14 => first | k_is | k_exc | kit_is | kts_exm)
      (case gk_k14 => first | k_is | k_exc | kit_is | kts_exm)
      (case ga15 => first | k_is | k_exc | kit_is | kts_exm)
      (case gl15 => first | k_is | k_exc | kit_is | kts_exm)
      (case gk_c15 => first | k_is | k_exc | kit_is | kts_exm)
      (case gk_k15 => first | k_is | k_exc | kit_is | kts_exm)
      (case ga16 => first | k_is | k_exc | kit_is | kts_exm)
      (case gl16 => first | k_is | k_exc | kit_is | kts_exm)
      (case gk_c16 => first | k_is | k_exc | kit_is | kts_exm)
      (case gk_k16 => first | k_is | k_exc | kit_is | kts_exm)
      (case ga17 => first | k_is | k_exc | kit_is | kts_exm)
      (case gl17 => first | k_is | k_exc | kit_is | kts_exm)
      (case gk_c17 => first | k_is | k_exc | kit_is | kts_exm)
      (case gk_k17 => first | k_is | k_exc | kit_is | kts_exm)
      (case ga18 => first | k_is | k_exc | kit_is | kts_exm)
      (case gl18 => first | k_is | k_exc | kit_is | kts_exm)
      (case gk_c18 => first | k_is | k_exc | kit_is | kts_exm)
      (case gk_k18 => first | k_is | k_exc | kit_is | kts_exm)
      (case ga19 => first | k_is | k_exc | kit_is | kts_exm)
      (case gl19 => first | k_is | k_exc | kit_is | kts_exm)
      (case gk_c19 => first | k_is | k_exc | kit_is | kts_exm)
      (case gk_k19 => first | k_is | k_exc | kit_is | kts_exm)
      (case ga20 => first | k_is | k_exc | kit_is | kts_exm)
      (case gl20 => first | k_is | k_exc | kit_is | kts_exm)
      (case gk_c20 => first | k_is | k_exc | kit_is | kts_exm)
      (case gk_k20 => first | k_is | k_exc | kit_is | kts_exm)
      (case ga21 => first | k_is | k_exc | kit_is | kts_exm)
      (case gl21 => first | k_is | k_exc | kit_is | kts_exm)
      (case gk_c21 => first | k_is | k_exc | kit_is | kts_exm)
      (case gk_k21 => first | k_is | k_exc | kit_is | kts_exm)
      (case ga22 => first | k_is | k_exc | kit_is | kts_exm)
      (case gl22 => first | k_is | k_exc | kit_is | kts_exm)
      (case gk_c22 => first | k_is | k_exc | kit_is | kts_exm)
      (case gk_k22 => first | k_is | k_exc | kit_is | kts_exm)
      (case ga23 => first | k_is | k_exc | kit_is | kts_exm)
      (case gl23 => first | k_is | k_exc | kit_is | kts_exm)
      (case gk_c23 => first | k_is | k_exc | kit_is | kts_exm)
      (case gk_k23 => first | k_is | k_exc | kit_is | kts_exm)
      (case ga24 => first | k_is | k_exc | kit_is | kts_exm)
      (case gl24 => first | k_is | k_exc | kit_is | kts_exm)
      (case gk_c24 => first | k_is | k_exc | kit_is | kts_exm)
      (case gk_k24 => first | k_is | k_exc | kit_is | kts_exm)
      (case gia_Leaf_init => first | k_is | k_exc | kit_is | kts_exm)
      (case gii_Leaf_init => first | k_is | k_exc | kit_is | kts_exm)
      (case gimk_Leaf => first | k_is | k_exc | kit_is | kts_exm)
      (case gikc_Leaf => first | k_is | k_exc | kit_is | kts_exm)
      (case gsg_Node_init => first | k_is | k_exc | kit_is | kts_exm)
      (case grd_Node_init => first | k_is | k_exc | kit_is | kts_exm)
      (case gfc_Node_init => first | k_is | k_exc | kit_is | kts_exm)
      (case ga_MEASURES => first | k_is | k_exc | kit_is | kts_exm)
      (case gl_MEASURES => first | k_is | k_exc | kit_is | kts_exm)
      (case gq_MEASURES => exact fun H => .inr ⟨_, _, _, (by k_is), rfl, rfl, by decide, (.cons ⟨_, rfl⟩ (.cons ⟨_, rfl⟩ .nil))⟩)
      (case gz_ValueError => first | k_is | k_exc | kit_is | kts_exm)
      (case gz_abs => first | k_is | k_exc | kit_is | kts_exm)
      (case gz_bool => first | k_is | k_exc | kit_is | kts_exm)
      (case gz_enumerate => first | k_is | k_exc | kit_is | kts_exm)
      (case gz_int => first | k_is | k_exc | kit_is | kts_exm)
      (case gz_isinstance => first | k_is | k_exc | kit_is | kts_exm)
      (case gz_len => first | k_is | k_exc | kit_is | kts_exm)
      (case gz_list => first | k_is | k_exc | kit_is | kts_exm)
      (case gz_max => first | k_is | k_exc | kit_is | kts_exm)
      (case gz_sorted => first | k_is | k_exc | kit_is | kts_exm)
      (case gz_sum => first | k_is | k_exc | kit_is | kts_exm)
      (case ght1 => first | k_is | k_exc | kit_is | kts_exm)
      (case ght3 => first | k_is | k_exc | kit_is | kts_exm)
      (case ght4 => first | k_is | k_exc | kit_is | kts_exm)
      (case ghnLc => first | k_is | k_exc | kit_is | kts_exm)
      (case ghnFcd => first | k_is | k_exc | kit_is | kts_exm)
      (case ghnFqn => first | k_is | k_exc | kit_is | kts_exm)
      (case ghnFys => first | k_is | k_exc | kit_is | kts_exm)
      (case ghnFno => first | k_is | k_exc | kit_is | kts_exm)
      (case ghnFlt => first | k_is | k_exc | kit_is | kts_exm)
      (case ghnFdh => first | k_is | k_exc | kit_is | kts_exm)
      (case ghclL => first | k_is | k_exc | kit_is | kts_exm)
      (case ghclF => first | k_is | k_exc | kit_is | kts_exm)
      (case ghogt => first | k_is | k_exc | kit_is | kts_exm)
      (case ghotk => first | k_is | k_exc | kit_is | kts_exm)
      (case ghomL => first | k_is | k_exc | kit_is | kts_exm)
      (case ghomF => first | k_is | k_exc | kit_is | kts_exm)
      (case ghkLF => first | k_is | k_exc | kit_is | kts_exm)
      (case ghkFF => first | k_is | k_exc | kit_is | kts_exm)
    obtain ⟨T, rfl, hb⟩ := T
    exact ⟨T.d_law, hb, fun base kb nb => Lw.ok_law T⟩
  case S => exact fun K H a ns hl hO hS => ⟨a, ns, rfl, L2.SqF.of_only hO hS, hl, fun _ => rfl⟩
