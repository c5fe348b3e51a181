import PyProof.Rows.All
import Wide.All
import OpenK.AllK
import Wide.FinOn
import Lean
import PyProof.EqAt
import PyProof.EqKinds
import PyProof.TupleCall
import KE.KRevSl
import KE.KDictSum
import KE.BitLaws
import KE.KIntText
import KE.IntTextLaws
import KE.KSortTup
import PyProof.DictItems
import PyProof.DictItemsLoops
import PyProof.DictWalks
import PySem.Challenge.RW_prunepath_k38_ladders
set_option Elab.async false
set_option linter.all false
set_option maxRecDepth 100000
/-! THE HAND LAYER, for ints, bools, texts, own classes, LISTS and tuples (index, slices, in, append, pop ..), calls, loops. Paste it whole ahead of your own text; what your proof does not reach may be deleted. -/
namespace L2
open PySem PySem.Spec PyProof.Rows

/-- a key: an int or a str -/
abbrev Key := Sum Int Str
def keyIs : Key → Value → Bool
  | .inl k, v => Value.isInt k v
  | .inr x, v => Value.isStrOf x v
def keyH (w : World) : Key → Int
  | .inl k => hashInt k
  | .inr x => hashStr w x
theorem keyIs_shape : ∀ {k : Key} {v : Value}, keyIs k v = true → (∃ i t, k = Sum.inl i ∧ v = Value.int i t) ∨ (∃ x t, k = Sum.inr x ∧ v = Value.str x t)
  | .inl i, v, h => by
    obtain ⟨t, e⟩ := Value.isInt_shape (k := i) (v := v) h
    exact .inl ⟨i, t, rfl, e⟩
  | .inr x, v, h => by
    obtain ⟨t, e⟩ := Value.isStrOf_shape (x := x) (v := v) h
    exact .inr ⟨x, t, rfl, e⟩
theorem keyIs_int (i : Int) (t : Tok) : keyIs (.inl i) (.int i t) = true := by simp [keyIs, Value.isInt]
theorem keyIs_str (x : Str) (t : Tok) : keyIs (.inr x) (.str x t) = true := by simp [keyIs, Value.isStrOf]
theorem key_ll (a b : Int) : decide ((Sum.inl a : Key) = Sum.inl b) = (a == b) := by
  by_cases e : a = b
  · subst e; simp
  · have h : ¬ (Sum.inl a : Key) = Sum.inl b := fun q => e (Sum.inl.inj q)
    rw [decide_eq_false h]
    exact (beq_eq_false_iff_ne.mpr e).symm
theorem key_rr (a b : Str) : decide ((Sum.inr a : Key) = Sum.inr b) = decide (a = b) := by
  by_cases e : a = b
  · subst e; simp
  · have h : ¬ (Sum.inr a : Key) = Sum.inr b := fun q => e (Sum.inr.inj q)
    rw [decide_eq_false h, decide_eq_false e]
theorem key_lr (a : Int) (b : Str) : decide ((Sum.inl a : Key) = Sum.inr b) = false := decide_eq_false (fun q => nomatch q)
theorem key_rl (a : Str) (b : Int) : decide ((Sum.inr a : Key) = Sum.inl b) = false := decide_eq_false (fun q => nomatch q)

def mixKind (prog : Program) (w : World) : PySem.KeyKind prog w Key where
  is := keyIs
  hash := keyH w
  inj := fun v a b ha hb => by
    rcases keyIs_shape ha with ⟨i, t, rfl, rfl⟩ | ⟨x, t, rfl, rfl⟩
    · rcases keyIs_shape hb with ⟨j, u, rfl, e⟩ | ⟨y, u, rfl, e⟩
      · injection e with e1 _; rw [e1]
      · exact nomatch e
    · rcases keyIs_shape hb with ⟨j, u, rfl, e⟩ | ⟨y, u, rfl, e⟩
      · exact nomatch e
      · injection e with e1 _; rw [e1]
  byValue := fun k v h => by
    rcases keyIs_shape h with ⟨i, t, rfl, rfl⟩ | ⟨x, t, rfl, rfl⟩ <;> rfl
  pyHash := fun hv h => by
    rcases keyIs_shape hv with ⟨i, t, rfl, rfl⟩ | ⟨x, t, rfl, rfl⟩
    · exact wpAny_pyHash_int h
    · exact wpAny_pyHash_str h
  eqBool := fun hu hv h => by
    rcases keyIs_shape hu with ⟨i, t, rfl, rfl⟩ | ⟨x, t, rfl, rfl⟩
    · rcases keyIs_shape hv with ⟨j, u, rfl, rfl⟩ | ⟨y, u, rfl, rfl⟩
      · rw [key_ll] at h; exact wpAny_eqBool_int h
      · rw [key_lr] at h; exact SeqAt.EqAt.int_str i t y u _ _ _ _ h
    · rcases keyIs_shape hv with ⟨j, u, rfl, rfl⟩ | ⟨y, u, rfl, rfl⟩
      · rw [key_rl] at h; exact SeqAt.EqAt.str_int x t j u _ _ _ _ h
      · rw [key_rr] at h; exact wpAny_eqBool_str h
  «strs» := fun k x t v h => by
    rcases keyIs_shape h with ⟨i, u, rfl, e⟩ | ⟨y, u, rfl, e⟩
    · exact nomatch e
    · injection e with e1 _
      subst e1
      cases v <;> rfl

theorem mixKind_int (prog : Program) (w : World) (i : Int) (t : Tok) : (mixKind prog w).is (.inl i) (.int i t) = true := keyIs_int i t
theorem mixKind_str (prog : Program) (w : World) (x : Str) (t : Tok) : (mixKind prog w).is (.inr x) (.str x t) = true := keyIs_str x t
end L2

namespace L2
open PySem PySem.Spec PyProof.Rows

/-- a value, without the heap -/
inductive V where
  | non | bl (b : Bool) | int (i : Int) | str (x : Str) | byt (b : Array UInt8) | flt (b : UInt64) | ref (a : Addr) | ty (n : String)
  deriving DecidableEq

def RelV : V → Value → Prop
  | .non, u => u = Value.none
  | .bl b, u => u = Value.bool b
  | .int i, u => ∃ t, u = Value.int i t
  | .str x, u => ∃ t, u = Value.str x t
  | .byt b, u => ∃ t, u = Value.bytes b t
  | .flt b, u => ∃ t, u = Value.float b t
  | .ref a, u => u = Value.ref a
  | .ty n, u => u = Value.type n

abbrev Vals : List V → List Value → Prop := Paired RelV
theorem Vals.length {xs : List V} {us : List Value} (r : Vals xs us) : xs.length = us.length := Paired.length r
theorem Vals.get : ∀ {xs : List V} {us : List Value} {i : Nat} {x : V}, Vals xs us → xs[i]? = some x → ∃ u, us[i]? = some u ∧ RelV x u
  | _, _, _, _, .nil, e => by simp at e
  | _, _, 0, _, .cons r _, e => by simp at e; subst e; exact ⟨_, rfl, r⟩
  | _, _, i + 1, x, .cons _ t, e => by
    obtain ⟨u, h1, h2⟩ := Vals.get (i := i) (x := x) t (by simpa using e)
    exact ⟨u, by simpa using h1, h2⟩
theorem Vals.append : ∀ {xs ys : List V} {us ws : List Value}, Vals xs us → Vals ys ws → Vals (xs ++ ys) (us ++ ws)
  | _, _, _, _, .nil, s => s
  | _, _, _, _, .cons r t, s => .cons r (Vals.append t s)
theorem Vals.take : ∀ {xs : List V} {us : List Value} (n : Nat), Vals xs us → Vals (xs.take n) (us.take n)
  | _, _, 0, _ => .nil
  | _, _, _ + 1, .nil => .nil
  | _, _, n + 1, .cons r t => .cons r (Vals.take n t)
theorem Vals.drop : ∀ {xs : List V} {us : List Value} (n : Nat), Vals xs us → Vals (xs.drop n) (us.drop n)
  | _, _, 0, r => r
  | _, _, _ + 1, .nil => .nil
  | _, _, n + 1, .cons _ t => Vals.drop n t
def RelO : Option V → Option Value → Prop
  | some v, some u => RelV v u
  | none, none => True
  | _, _ => False
def KV {κ : Type} : List (κ × V) → List (κ × Value) → Prop := Paired fun (p : κ × V) (q : κ × Value) => p.1 = q.1 ∧ RelV p.2 q.2

/-- a key of a dict (00_mix): an int or a text -/
def kV : Key → V
  | .inl i => .int i
  | .inr x => .str x

/-- what stands at a tracked address -/
inductive HO where
  /-- a list -/
  | lst (xs : List V)
  /-- a tuple (never changes) -/
  | tup (xs : List V)
  /-- a dict whose keys are ints and texts; one whose keys are tuples of ints and texts (the empty one is both) -/
  | dK (kvs : List (Key × V)) | dT (kvs : List (List Key × V))
  /-- a set of ints: its members, its size -/
  | set (S : Int → Bool) (n : Nat)
  /-- an instance of the class at C, its dict at dx, its attributes -/
  | ins (C dx : Addr) (fs : List (Str × V))
  /-- the dict of the instance at x -/
  | own (x : Addr)
  /-- the dict of an exception -/
  | xd (fs : List (Str × V))
  /-- a bound method, f of x -/
  | met (f x : Addr)
  /-- a range object lo, lo + 1, .. below hi -/
  | rng (lo hi : Int)
  /-- a thing that is known to the object (the script; a dict while a loop walks it): read, never written while it is so -/
  | frz (o : Obj) (u : HO)
  /-- a code object's table -/
  | tbl (ps : Array Value)
  /-- any other thing, by what is true of its one object (a def of one's own: SetO a S n := HO.ext fun h => ..) -/
  | ext (φ : Heap → Prop)

abbrev Hp := Addr → Option HO
def upd (H : Hp) (a : Addr) (o : HO) : Hp := fun b => if b = a then some o else H b
theorem upd_same {H : Hp} {a : Addr} {o : HO} : upd H a o a = some o := by unfold upd; rw [if_pos rfl]
theorem upd_ne {H : Hp} {a b : Addr} {o : HO} (h : b ≠ a) : upd H a o b = H b := by unfold upd; rw [if_neg h]
/-- two objects of different content stand apart -/
theorem ne_of {H : Hp} {a b : Addr} {o u : HO} (h : H a = some o) (h' : H b = some u) (d : o ≠ u) : a ≠ b := by
  intro e; subst e; rw [h] at h'; exact d (Option.some.inj h')
theorem ne_of_none {H : Hp} {a b : Addr} {o : HO} (h : H a = some o) (h' : H b = none) : a ≠ b := by
  intro e; subst e; rw [h] at h'; cases h'

section
variable (P : Program) (w : World)
def ObjOk (H : Hp) (h : Heap) (a : Addr) : HO → Prop
  | .lst xs => xs.length ≤ sizeLine ∧ ∃ (its : List Value) (n : Nat), Vals xs its ∧ h.get? a = some { cls := .type "list", data := .seq its.toArray n }
  | .tup xs => xs.length ≤ sizeLine ∧ ∃ its : List Value, Vals xs its ∧ IsTup h a its.toArray
  | .dK kvs => kvs.length ≤ sizeLine ∧ (a == sysModules) = false ∧ ∃ vs, KV kvs vs ∧ h.DictOf (mixKind P w) a vs
  | .dT kvs => kvs.length ≤ sizeLine ∧ (a == sysModules) = false ∧ ∃ xs : List (List Key × Addr × Value),
      Paired (fun (p : List Key × V) (q : List Key × Addr × Value) => p.1 = q.1 ∧ H q.2.1 = some (.tup (p.1.map kV)) ∧ RelV p.2 q.2.2) kvs xs ∧
      ∃ o es ep, h.get? a = some o ∧ o.ExactDict ∧ o.data = .dict es ep ∧ es.toList = xs.map (entryOfKey (tupleKind (mixKind P w))) ∧ (xs.map (·.1)).Nodup
  | .set S n => h.SetOf (intKind P w) a S n
  | .ins C dx fs => H dx = some (.own a) ∧ fs.length ≤ 1000 ∧ dx ≠ a ∧ h.get? a = some (PySem.W.instObj C dx) ∧
      ∃ mA, h.Ns1 dx mA ∧ (∀ f, RelO (fs.lookup f) (mA f)) ∧ PySem.Within mA (fs.map (·.1))
  | .own _ => ∃ o, h.get? a = some o
  | .xd fs => ∃ mA, h.Ns1 a mA ∧ ∀ f, RelO (fs.lookup f) (mA f)
  | .rng lo hi => ∃ t u v, h.get? a = some { cls := .type "range", data := .fields #[.int lo t, .int hi u, .int 1 v] }
  | .frz o u => h.get? a = some o ∧ ObjOk H h a u
  | .tbl ps => h.get? a = some { cls := .none, data := .fields ps }
  | .met f x => h.get? a = some (PySem.W.methodObj (.ref f) (.ref x))
  | .ext φ => φ h ∧ (∃ o, h.get? a = some o) ∧ ∀ h1 h2 : Heap, φ h1 → (∀ o, h1.get? a = some o → h2.get? a = some o) → φ h2
/-- the abstract heap is held -/
def HOk (H : Hp) (h : Heap) : Prop := ∀ a o, H a = some o → ObjOk P w H h a o
end

section
variable {P : Program} {w : World} {H H' : Hp} {h h' : Heap} {a : Addr} {o : HO}
theorem ObjOk.lt (x : ObjOk P w H h a o) : a < h.objs.size := by
  cases o with
  | lst xs => obtain ⟨_, _, _, _, e⟩ := x; exact Heap.lt_size e
  | tup xs => obtain ⟨_, _, _, p⟩ := x; exact p.lt
  | dK kvs => obtain ⟨_, _, _, _, o, _, _, e, _⟩ := x; exact Heap.lt_size e
  | dT kvs => obtain ⟨_, _, _, _, o, _, _, e, _⟩ := x; exact Heap.lt_size e
  | set S n => obtain ⟨o, _, _, _, e, _⟩ := x; exact Heap.lt_size e
  | ins C dx fs => obtain ⟨_, _, _, e, _⟩ := x; exact Heap.lt_size e
  | own y => obtain ⟨_, e⟩ := x; exact Heap.lt_size e
  | xd fs => obtain ⟨_, ⟨_, _, _, e, _⟩, _⟩ := x; exact Heap.lt_size e
  | rng lo hi => obtain ⟨_, _, _, e⟩ := x; exact Heap.lt_size e
  | frz ob u => obtain ⟨e, _⟩ := x; exact Heap.lt_size e
  | tbl ps => exact Heap.lt_size (show h.get? a = some _ from x)
  | met f y => exact Heap.lt_size (show h.get? a = some _ from x)
  | ext φ => obtain ⟨_, ⟨_, e⟩, _⟩ := x; exact Heap.lt_size e
theorem Paired.mapP {α β : Type} {F G : α → β → Prop} : ∀ {l₁ : List α} {l₂ : List β}, Paired F l₁ l₂ → (∀ a b, F a b → G a b) → Paired G l₁ l₂
  | _, _, .nil, _ => .nil
  | _, _, .cons r t, f => .cons (f _ _ r) (Paired.mapP t f)
/-- what an object's description leans on: its own object, its own dict, the tuples -/
theorem ObjOk.stay (x : ObjOk P w H h a o) (k : ∀ b u, (b = a ∨ H b = some (.own a)) → h.get? b = some u → h'.get? b = some u)
    (ho : ∀ b, H b = some (.own a) → H' b = some (.own a)) (ht : ∀ b xs, H b = some (.tup xs) → H' b = some (.tup xs)) : ObjOk P w H' h' a o := by
  induction o with
  | lst xs => obtain ⟨z, its, n, r, e⟩ := x; exact ⟨z, its, n, r, k _ _ (.inl rfl) e⟩
  | tup xs => obtain ⟨z, its, r, ob, e, c⟩ := x; exact ⟨z, its, r, ob, k _ _ (.inl rfl) e, c⟩
  | dK kvs => obtain ⟨z, y, vs, r, ob, es, ep, e, c⟩ := x; exact ⟨z, y, vs, r, ob, es, ep, k _ _ (.inl rfl) e, c⟩
  | dT kvs =>
    obtain ⟨z, y, xs, r, ob, es, ep, e, c⟩ := x
    exact ⟨z, y, xs, Paired.mapP r fun p q z => ⟨z.1, ht _ _ z.2.1, z.2.2⟩, ob, es, ep, k _ _ (.inl rfl) e, c⟩
  | set S n => obtain ⟨ob, es, ep, t, e, c⟩ := x; exact ⟨ob, es, ep, t, k _ _ (.inl rfl) e, c⟩
  | ins C dx fs =>
    obtain ⟨d, z, ne, e, mA, ⟨od, es, ep, e2, c⟩, r⟩ := x
    exact ⟨ho _ d, z, ne, k _ _ (.inl rfl) e, mA, ⟨od, es, ep, k _ _ (.inr d) e2, c⟩, r⟩
  | own y => obtain ⟨ob, e⟩ := x; exact ⟨ob, k _ _ (.inl rfl) e⟩
  | xd fs => obtain ⟨mA, ⟨od, es, ep, e, c⟩, r⟩ := x; exact ⟨mA, ⟨od, es, ep, k _ _ (.inl rfl) e, c⟩, r⟩
  | rng lo hi => obtain ⟨t, u, v, e⟩ := x; exact ⟨t, u, v, k _ _ (.inl rfl) e⟩
  | frz ob u ih => obtain ⟨e, q⟩ := x; exact ⟨k _ _ (.inl rfl) e, ih q⟩
  | tbl ps =>
    have e : h.get? a = some { cls := .none, data := .fields ps } := x
    show h'.get? a = some { cls := .none, data := .fields ps }
    exact k a _ (.inl rfl) e
  | met f y =>
    have e : h.get? a = some (PySem.W.methodObj (.ref f) (.ref y)) := x
    show h'.get? a = some (PySem.W.methodObj (.ref f) (.ref y))
    exact k a _ (.inl rfl) e
  | ext φ => obtain ⟨p, ⟨o, e⟩, st⟩ := x; exact ⟨st _ _ p fun o q => k _ _ (.inl rfl) q, ⟨o, k _ _ (.inl rfl) e⟩, st⟩
theorem HOk.lt (x : HOk P w H h) (e : H a = some o) : a < h.objs.size := (x a o e).lt
theorem HOk.fresh (x : HOk P w H h) (e : h.objs.size ≤ a) : H a = none := by
  cases q : H a with
  | none => rfl
  | some u => exact absurd (Nat.lt_of_lt_of_le (x.lt q) e) (Nat.lt_irrefl _)
/-- every object of the heap is kept -/
theorem HOk.kept (x : HOk P w H h) (k : ∀ b u, h.get? b = some u → h'.get? b = some u) : HOk P w H h' := fun a o e =>
  (x a o e).stay (fun b u _ q => k b u q) (fun _ q => q) fun _ _ q => q
/-- a new object is laid and tracked -/
theorem HOk.laid (x : HOk P w H h) (k : ∀ b u, h.get? b = some u → h'.get? b = some u) (hp : h.objs.size ≤ a) (new : ObjOk P w (upd H a o) h' a o) : HOk P w (upd H a o) h' := fun b u e => by
  have hn := x.fresh hp
  by_cases hb : b = a
  · subst hb; rw [upd_same] at e; cases e; exact new
  · rw [upd_ne hb] at e
    exact (x b u e).stay (fun c v _ q => k c v q) (fun c q => by rw [upd_ne (ne_of_none q hn)]; exact q) fun c xs q => by rw [upd_ne (ne_of_none q hn)]; exact q
end

/-- what may be read as u: it is u, or a known u -/
def Rd (H : Hp) (a : Addr) (u : HO) : Prop := H a = some u ∨ ∃ o, H a = some (.frz o u)
theorem Rd.ok {P : Program} {w : World} {H : Hp} {h : Heap} {a : Addr} {u : HO} (r : Rd H a u) (x : HOk P w H h) : ObjOk P w H h a u := by
  rcases r with r | ⟨o, r⟩
  · exact x a u r
  · obtain ⟨_, q⟩ := x a _ r
    exact q
/-- what may be written -/
def Mut : Option HO → Prop
  | some (.lst _) => True
  | some (.dK _) => True
  | some (.dT _) => True
  | some (.set _ _) => True
  | some (.ins _ _ _) => True
  | some (.ext _) => True
  | _ => False
section
variable {P : Program} {w : World} {H : Hp} {h h' : Heap} {x e : Addr} {o' : HO}
/-- the object at e is changed: x itself, or the dict of the instance x -/
theorem HOk.write (ok : HOk P w H h) (mu : Mut (H x)) (he : e = x ∨ H e = some (.own x)) (k : ∀ b u, b ≠ e → h.get? b = some u → h'.get? b = some u) (heo : ∃ u, h'.get? e = some u)
    (new : ObjOk P w (upd H x o') h' x o') : HOk P w (upd H x o') h' := fun b u q => by
  have nown : ∀ c y, H c = some (.own y) → c ≠ x := fun c y r z => by subst z; rw [r] at mu; exact mu
  have ntup : ∀ c xs, H c = some (.tup xs) → c ≠ x := fun c xs r z => by subst z; rw [r] at mu; exact mu
  by_cases hb : b = x
  · subst hb; rw [upd_same] at q; cases q; exact new
  · rw [upd_ne hb] at q
    by_cases hbe : b = e
    · have q' : H b = some (.own x) := by
        rcases he with z | z
        · exact absurd (hbe.trans z) hb
        · rw [hbe]; exact z
      rw [q] at q'; cases q'
      obtain ⟨v, hv⟩ := heo
      exact ⟨v, by rw [hbe]; exact hv⟩
    · refine (ok b u q).stay (fun c v hc r => k c v ?_ r) (fun c r => by rw [upd_ne (nown c b r)]; exact r) fun c xs r => by rw [upd_ne (ntup c xs r)]; exact r
      rcases hc with rfl | hc
      · exact hbe
      · rintro rfl
        rcases he with z | z
        · exact nown c b hc z
        · rw [hc] at z; cases z; exact hb rfl
end

/-! ### kept unless tracked; of the frames at fs (the callers') the slots may change (an exception that passes writes there); of the records at ex (iterators) nothing is said -/
structure Un (fs ex : List Addr) (H H' : Hp) (h h' : Heap) : Prop where
  keep : ∀ b o, h.get? b = some o → H b = none → b ∉ fs → b ∉ ex → h'.get? b = some o
  slot : ∀ b o, h.get? b = some o → H b = none → b ∈ fs → b ∉ ex → ∃ sl, h'.get? b = some { o with slots := sl }
  free : ∀ b o, h.get? b = some o → H b = none → b ∉ ex → H' b = none
  there : ∀ b o, h.get? b = some o → b ∉ ex → ∃ o', h'.get? b = some o'
  tups : ∀ b xs, H b = some (.tup xs) → H' b = some (.tup xs)
  frzs : ∀ b o u, H b = some (.frz o u) → H' b = some (.frz o u)
  tbls : ∀ b ps, H b = some (.tbl ps) → ∃ more, H' b = some (.tbl (ps ++ more))
section
variable {fs fs' ex ex' : List Addr} {H H1 H2 : Hp} {h h1 h2 h' : Heap} {a x e : Addr} {o : HO}
theorem Un.any (u : Un fs ex H H1 h h1) {b : Addr} {ob : Obj} (q : h.get? b = some ob) (n : H b = none) (hx : b ∉ ex) : ∃ sl, h1.get? b = some { ob with slots := sl } := by
  by_cases hb : b ∈ fs
  · exact u.slot b ob q n hb hx
  · exact ⟨ob.slots, u.keep b ob q n hb hx⟩
theorem Un.kept (k : ∀ b u, h.get? b = some u → h'.get? b = some u) : Un fs ex H H h h' :=
  ⟨fun b ob q _ _ _ => k b ob q, fun b ob q _ _ _ => ⟨ob.slots, k b ob q⟩, fun _ _ _ n _ => n, fun b ob q _ => ⟨ob, k b ob q⟩, fun _ _ q => q, fun _ _ _ q => q, fun _ ps q => ⟨#[], by rw [q]; simp⟩⟩
theorem Un.refl : Un fs ex H H h h := Un.kept fun _ _ q => q
theorem Un.laid (k : ∀ b u, h.get? b = some u → h'.get? b = some u) (hp : h.objs.size ≤ a) (hn : H a = none) : Un fs ex H (upd H a o) h h' where
  keep := fun b u q _ _ _ => k b u q
  slot := fun b u q _ _ _ => ⟨u.slots, k b u q⟩
  free := fun b u q n _ => by rw [upd_ne (Nat.ne_of_lt (Nat.lt_of_lt_of_le (Heap.lt_size q) hp))]; exact n
  there := fun b u q _ => ⟨u, k b u q⟩
  tups := fun b xs q => by rw [upd_ne (ne_of_none q hn)]; exact q
  frzs := fun b u xs q => by rw [upd_ne (ne_of_none q hn)]; exact q
  tbls := fun b ps q => ⟨#[], by rw [upd_ne (ne_of_none q hn), q]; simp⟩
theorem Un.write (mu : Mut (H x)) (he : e = x ∨ H e = some (.own x)) (k : ∀ b u, b ≠ e → h.get? b = some u → h'.get? b = some u) (heo : ∃ u, h'.get? e = some u) : Un fs ex H (upd H x o) h h' := by
  have hx : ∀ b, H b = none → b ≠ x := fun b n z => by subst z; rw [n] at mu; exact mu
  have hb : ∀ b, H b = none → b ≠ e := fun b n z => by
    subst z
    rcases he with r | r
    · exact hx b n r
    · rw [n] at r; cases r
  have hm : ∀ b u, H b = some u → ¬ Mut (some u) → b ≠ x := fun b u q nm z => by subst z; rw [q] at mu; exact nm mu
  refine ⟨fun b u q n _ _ => k b u (hb b n) q, fun b u q n _ _ => ⟨u.slots, k b u (hb b n) q⟩, fun b u q n _ => by rw [upd_ne (hx b n)]; exact n, fun b u q _ => ?_,
    fun b xs q => by rw [upd_ne (hm b _ q fun z => z)]; exact q, fun b u xs q => by rw [upd_ne (hm b _ q fun z => z)]; exact q, fun b ps q => ⟨#[], by rw [upd_ne (hm b _ q fun z => z), q]; simp⟩⟩
  by_cases hbe : b = e
  · subst hbe; exact heo
  · exact ⟨u, k b u hbe q⟩
end

/-! ### the heap without what is tracked -/
def trk (h : Heap) (H : Hp) : List Addr := (List.range h.objs.size).filter fun a => (H a).isSome
def hidT (h : Heap) (H : Hp) : Heap := PySem.W.hideAll h (trk h H)
theorem hidT_size (h : Heap) (H : Hp) : (hidT h H).objs.size = h.objs.size := PySem.W.hideAll_size _ _
theorem hidT_get {h : Heap} {H : Hp} {b : Addr} {o : Obj} (e : h.get? b = some o) (n : H b = none) : (hidT h H).get? b = some o :=
  PySem.W.hideAll_get _ e fun hm => by
    have q : (H b).isSome = true := (List.mem_filter.mp hm).2
    rw [n] at q; simp at q
theorem of_hidT {h : Heap} {H : Hp} {b : Addr} {o : Obj} (e : (hidT h H).get? b = some o) : h.get? b = some o ∧ H b = none := by
  have e' : h.get? b = some o := PySem.W.of_hideAll (trk h H) e
  refine ⟨e', ?_⟩
  cases q : H b with
  | none => rfl
  | some x =>
    have hm : b ∈ trk h H := List.mem_filter.mpr ⟨List.mem_range.mpr (Heap.lt_size e'), by simp [q]⟩
    have z : (hidT h H).get? b = none := PySem.W.hideAll_none (trk h H) hm
    rw [z] at e; cases e

/-! ### OpenK's ledger, filled with every new object but one -/
def allNews (g h : Heap) (L : Addr) : List (Addr × Obj) := (List.range h.objs.size).filterMap fun a => if a = L ∨ (g.get? a).isSome = true then none else (h.get? a).map fun o => (a, o)
def rest (g h : Heap) (L d : Addr) : List (Addr × Obj) := (allNews g h L).filter fun p => decide (p.1 ≠ d)
end L2

namespace L2
open PySem PySem.Spec PyProof.Rows

/-- the module's facts, over the base: the heap at the law's entry without what is tracked there -/
structure Mod (K : PySem.W.Frag) (mg : Str → Option Value) (base : Heap) : Prop where
  kin : K.In base
  glob : base.Ns mainGlobals mg
  blt : ∃ mb, base.Ns builtinsNs mb ∧ ∀ x : Str, x ≠ "__name__" → mb x = bootBuiltins x
  nolimit : base.NoLimit

/-- the context: a def's body (or a comprehension's block) running. base: fixed through the whole law; s₀, H₀: the entry; outer: the frames whose slots others may change (a def's callers); stack: all frames that run;
   ex: iterators that were made ahead of the entry and are walked here (a comprehension's); fn: the names whose cells were made at the entry (a def: all; a comprehension's block: its own); calm: not within an except suite; pn: pins that every state bears; xe: what is wanted of an exception that leaves the code -/
structure Cx where
  prog : Program
  w : World
  K : PySem.W.Frag
  mg : Str → Option Value
  base : Heap
  A : Around
  N : List Str
  s₀ : Shared
  H₀ : Hp
  env : Env
  outer : List Env
  stack : List Env
  ex : List Addr
  fn : Str → Bool
  calm : Bool
  pn : List (Addr × Obj)
  xe : Value → Shared → Prop
/-- the callers' frames -/
def frs (l : List Env) : List Addr := l.filterMap (·.frame)
abbrev Cx.fs (X : Cx) : List Addr := frs X.outer

def Vis (sc : Scope) (x : Str) : Prop := sc.names.lookup x = some .local ∨ sc.names.lookup x = some .cell ∨ sc.names.lookup x = some .free
def Loc (sc : Scope) (x : Str) : Prop := sc.names.lookup x = some .local ∨ sc.names.lookup x = some .cell
def Look (env : Env) (h : Heap) (m : Str → Option Value) (x : Str) (u : Value) : Prop :=
  (env.kindOf x = some .local ∧ m x = some u) ∨ ((env.kindOf x = some .cell ∨ env.kindOf x = some .free) ∧ ∃ c, env.cells.lookup x = some c ∧ h.IsCell c (some u))

structure Cx.Ok (X : Cx) : Prop where
  mod : Mod X.K X.mg X.base
  kind : X.env.scope.kind = .function
  glob : X.env.globals = mainGlobals
  blt : X.env.builtins = builtinsNs
  above : X.s₀.heap.objs.size ≤ X.env.locals
  inj : ∀ x y c, X.env.cells.lookup x = some c → X.env.cells.lookup y = some c → x = y
  has : ∀ x, (X.env.kindOf x = some .cell ∨ X.env.kindOf x = some .free) → ∃ c, X.env.cells.lookup x = some c
  cab : ∀ x c, X.fn x = true → X.env.cells.lookup x = some c → X.s₀.heap.objs.size ≤ c
  hd : X.calm = true → X.A.handled = none
  frames : X.A.frames = some X.stack
  stk : X.stack = X.outer ∨ (X.stack = X.env :: X.outer ∧ X.env.frame = some X.env.locals)
  exf : ∀ b ∈ X.ex, b ≠ X.env.locals ∧ ∀ x c, X.env.cells.lookup x = some c → c ≠ b
  bs : ∀ b o, X.base.get? b = some o → X.s₀.heap.get? b = some o ∧ X.H₀ b = none
  bsz : X.base.objs.size ≤ X.s₀.heap.objs.size
  noex : ∀ b o, X.base.get? b = some o → b ∉ X.ex
  exfs : ∀ b ∈ X.ex, b ∉ X.fs
  funs : X.s₀.heap.FunFrames X.base X.outer
  frf : ∀ b ∈ X.fs, X.H₀ b = none

structure Inv (X : Cx) (pins : List (Addr × Obj)) (σ : List (Option V)) (H : Hp) (s : Shared) : Prop where
  ok : X.Ok
  os : s.os = X.s₀.os
  bare : AllBare s.gens
  base : Un X.fs X.ex X.H₀ H X.s₀.heap s.heap
  loc : ∃ m, s.heap.Ns X.env.locals m ∧ ∀ (i : Nat) (x : Str) (v : V), X.N[i]? = some x → σ[i]? = some (some v) → Vis X.env.scope x → ∃ u, RelV v u ∧ Look X.env s.heap m x u
  cell : ∀ x c, X.env.cells.lookup x = some c → ∃ v, s.heap.IsCell c v
  free : H X.env.locals = none
  freeC : ∀ x c, X.env.cells.lookup x = some c → H c = none
  pin : ∀ p ∈ X.pn ++ pins, s.heap.get? p.1 = some p.2 ∧ H p.1 = none ∧ p.1 ≠ X.env.locals ∧ p.1 ∉ X.fs ∧ ∀ v, p.2.data ≠ .cell v
  hok : HOk X.prog X.w H s.heap
  len : σ.length = X.N.length

section
variable {X : Cx} {pins : List (Addr × Obj)} {σ : List (Option V)} {H H' : Hp} {s : Shared} {h' : Heap}

theorem Cx.Ok.nofr (ok : X.Ok) {b : Addr} {o : Obj} (e : X.base.get? b = some o) : b ∉ X.fs := fun hb => by
  have := (ok.funs.mem hb).1
  rw [e] at this; cases this
theorem Inv.bs (I : Inv X pins σ H s) : ∀ b o, X.base.get? b = some o → s.heap.get? b = some o ∧ H b = none := fun b o e =>
  ⟨I.base.keep b o (I.ok.bs b o e).1 (I.ok.bs b o e).2 (I.ok.nofr e) (I.ok.noex b o e), I.base.free b o (I.ok.bs b o e).1 (I.ok.bs b o e).2 (I.ok.noex b o e)⟩
theorem Inv.bk (I : Inv X pins σ H s) : ∀ b o, X.base.get? b = some o → s.heap.get? b = some o := fun b o e => (I.bs b o e).1
theorem Inv.mod (I : Inv X pins σ H s) : Mod X.K X.mg X.base := I.ok.mod
theorem Inv.kIn (I : Inv X pins σ H s) : X.K.In s.heap := I.ok.mod.kin.keeps I.bk
theorem Inv.lt (I : Inv X pins σ H s) : X.env.locals < s.heap.objs.size := let ⟨_, hn, _⟩ := I.loc; hn.lt
theorem Inv.sz (I : Inv X pins σ H s) : X.s₀.heap.objs.size ≤ s.heap.objs.size := Nat.le_trans I.ok.above (Nat.le_of_lt I.lt)
theorem Inv.nofs (I : Inv X pins σ H s) {a : Addr} (h : s.heap.objs.size ≤ a) : a ∉ X.fs := fun hb => by
  obtain ⟨_, o, ho, _⟩ := I.ok.funs.mem hb
  exact absurd (Nat.lt_of_lt_of_le (Heap.lt_size ho) (Nat.le_trans I.sz h)) (Nat.lt_irrefl _)
theorem Inv.cne (I : Inv X pins σ H s) : ∀ x c, X.env.cells.lookup x = some c → c ≠ X.env.locals := fun x c e z => by
  obtain ⟨v, o, ho, hd⟩ := I.cell x c e
  obtain ⟨m, ⟨o', es, ep, ho', hd', _⟩, _⟩ := I.loc
  rw [z, ho'] at ho; cases ho; rw [hd'] at hd; cases hd
theorem Inv.funs (I : Inv X pins σ H s) : s.heap.FunFrames X.base X.outer := by
  have all : ∀ (l : List Env), (∀ b ∈ frs l, b ∈ X.fs) → X.s₀.heap.FunFrames X.base l → s.heap.FunFrames X.base l := by
    intro l
    induction l with
    | nil => intro _ _; trivial
    | cons env r ih =>
      intro hs hl
      obtain ⟨hk, ⟨L, o, hf, hn, ho, hd⟩, hr⟩ := hl
      have hL : L ∈ X.fs := hs L (by unfold frs; rw [List.filterMap_cons, hf]; exact List.mem_cons_self)
      obtain ⟨sl, e⟩ := I.base.slot L o ho (I.ok.frf L hL) hL fun z => I.ok.exfs L z hL
      exact ⟨hk, ⟨L, _, hf, hn, e, hd⟩, ih (fun b hb => hs b (by unfold frs; rw [List.filterMap_cons, hf]; exact List.mem_cons_of_mem _ hb)) hr⟩
  exact all X.outer (fun _ hb => hb) I.ok.funs

/-- the frames that run, for a call -/
theorem Inv.stack (I : Inv X pins σ H s) : s.heap.FunFrames X.base X.stack := by
  rcases I.ok.stk with e | ⟨e, hf⟩
  · rw [e]; exact I.funs
  · rw [e]
    obtain ⟨m, hn, _⟩ := I.loc
    refine .cons (by rw [I.ok.kind]; decide) hf hn ?_ I.funs
    exact Heap.get?_none_of_le (Nat.le_trans I.ok.bsz I.ok.above)
theorem Inv.stkSub (I : Inv X pins σ H s) : ∀ b ∈ frs X.stack, b ∈ X.env.locals :: X.fs := fun b hb => by
  rcases I.ok.stk with e | ⟨e, hf⟩
  · rw [e] at hb; exact List.mem_cons_of_mem _ hb
  · rw [e] at hb
    unfold frs at hb
    rw [List.filterMap_cons, hf] at hb
    exact hb
theorem Inv.stkFree (I : Inv X pins σ H s) : ∀ b ∈ frs X.stack, H b = none := fun b hb => by
  rcases List.mem_cons.mp (I.stkSub b hb) with e | hb
  · rw [e]; exact I.free
  · obtain ⟨_, o, ho, _⟩ := I.ok.funs.mem hb
    exact I.base.free b o ho (I.ok.frf b hb) fun z => I.ok.exfs b z hb

/-- THE STEP: the untracked objects but the frame and the records at ch are kept (the callers' frames up to slots), the frame's map is kept, the new abstract heap is held -/
theorem Inv.step {g' : Array GenState} {t' : Nat} {d' : Drawn} {ch : List Addr} (I : Inv X pins σ H s)
    (hch : ∀ b ∈ ch, (b ∈ X.ex ∨ X.s₀.heap.objs.size ≤ b) ∧ b ≠ X.env.locals ∧ (∀ x c, X.env.cells.lookup x = some c → c ≠ b) ∧ ∀ p ∈ X.pn ++ pins, p.1 ≠ b)
    (keep : ∀ b o, b ≠ X.env.locals → b ∉ X.fs → b ∉ ch → s.heap.get? b = some o → H b = none → h'.get? b = some o)
    (slot : ∀ b o, b ≠ X.env.locals → b ∈ X.fs → b ∉ ch → s.heap.get? b = some o → H b = none → ∃ sl, h'.get? b = some { o with slots := sl }) (free : ∀ b o, b ∉ ch → s.heap.get? b = some o → H b = none → H' b = none)
    (there : ∀ b o, b ∉ ch → s.heap.get? b = some o → ∃ o', h'.get? b = some o')
    (tups : ∀ b xs, H b = some (.tup xs) → H' b = some (.tup xs)) (frzs : ∀ b o u, H b = some (.frz o u) → H' b = some (.frz o u)) (tbls : ∀ b ps, H b = some (.tbl ps) → ∃ more, H' b = some (.tbl (ps ++ more)))
    (ns : ∀ m, s.heap.Ns X.env.locals m → h'.Ns X.env.locals m) (hok : HOk X.prog X.w H' h') (hg : AllBare g') :
    Inv X pins σ H' { s with heap := h', gens := g', drawn := d', toks := t' } := by
  have neL : ∀ b o, X.s₀.heap.get? b = some o → b ≠ X.env.locals := fun b o e => Nat.ne_of_lt (Nat.lt_of_lt_of_le (Heap.lt_size e) I.ok.above)
  have neC : ∀ b o, X.s₀.heap.get? b = some o → b ∉ X.ex → b ∉ ch := fun b o e hx hb => by
    rcases (hch b hb).1 with z | z
    · exact hx z
    · exact absurd (Nat.lt_of_lt_of_le (Heap.lt_size e) z) (Nat.lt_irrefl _)
  have cellK : ∀ x c, X.env.cells.lookup x = some c → ∀ v, s.heap.IsCell c v → h'.IsCell c v := fun x c e v ⟨o, ho, hd⟩ => by
    have nch : c ∉ ch := fun z => (hch c z).2.2.1 x c e rfl
    by_cases hc : c ∈ X.fs
    · obtain ⟨sl, q⟩ := slot c o (I.cne x c e) hc nch ho (I.freeC x c e)
      exact ⟨_, q, hd⟩
    · exact ⟨o, keep c o (I.cne x c e) hc nch ho (I.freeC x c e), hd⟩
  refine ⟨I.ok, I.os, hg, ⟨fun b o e n hb hx => ?_, fun b o e n hb hx => ?_, fun b o e n hx => ?_, fun b o e hx => ?_, fun b xs e => tups b xs (I.base.tups b xs e), fun b o xs e => frzs b o xs (I.base.frzs b o xs e), fun b ps e => ?_⟩, ?_, fun x c e => ?_, ?_, fun x c e => ?_, fun p hp => ?_, hok, I.len⟩
  · exact keep b o (neL b o e) hb (neC b o e hx) (I.base.keep b o e n hb hx) (I.base.free b o e n hx)
  · obtain ⟨sl, e1⟩ := I.base.slot b o e n hb hx
    obtain ⟨sl', e2⟩ := slot b _ (neL b o e) hb (neC b o e hx) e1 (I.base.free b o e n hx)
    exact ⟨sl', e2⟩
  · obtain ⟨o', e1⟩ := I.base.there b o e hx
    exact free b o' (neC b o e hx) e1 (I.base.free b o e n hx)
  · obtain ⟨o', e1⟩ := I.base.there b o e hx
    exact there b o' (neC b o e hx) e1
  · obtain ⟨m1, e1⟩ := I.base.tbls b ps e
    obtain ⟨m2, e2⟩ := tbls b _ e1
    exact ⟨m1 ++ m2, by rw [e2, Array.append_assoc]⟩
  · obtain ⟨m, hn, hl⟩ := I.loc
    refine ⟨m, ns m hn, fun i x v e1 e2 e3 => ?_⟩
    obtain ⟨u, r, l⟩ := hl i x v e1 e2 e3
    refine ⟨u, r, ?_⟩
    rcases l with l | ⟨k, c, e, z⟩
    · exact .inl l
    · exact .inr ⟨k, c, e, cellK x c e _ z⟩
  · obtain ⟨v, z⟩ := I.cell x c e
    exact ⟨v, cellK x c e v z⟩
  · obtain ⟨m, ⟨o, _, _, ho, _⟩, _⟩ := I.loc
    exact free _ o (fun z => (hch _ z).2.1 rfl) ho I.free
  · obtain ⟨v, o, ho, hd⟩ := I.cell x c e
    exact free c o (fun z => (hch c z).2.2.1 x c e rfl) ho (I.freeC x c e)
  · obtain ⟨e, n, ne, nf, d⟩ := I.pin p hp
    have nch : p.1 ∉ ch := fun z => (hch p.1 z).2.2.2 p hp rfl
    exact ⟨keep p.1 p.2 ne nf nch e n, free p.1 p.2 nch e n, ne, nf, d⟩
/-- .. where the frame's own object is kept too -/
theorem Inv.un {t' : Nat} (I : Inv X pins σ H s) (u : Un X.fs [] H H' s.heap h') (hok : HOk X.prog X.w H' h') : Inv X pins σ H' { s with heap := h', toks := t' } := by
  obtain ⟨m, ⟨o, es, ep, ho, r⟩, _⟩ := id I.loc
  obtain ⟨sl, hL⟩ := u.any ho I.free (by simp)
  exact I.step (g' := s.gens) (d' := s.drawn) (ch := []) (fun _ z => nomatch z) (fun b o _ hb _ e n => u.keep b o e n hb (by simp)) (fun b o _ hb _ e n => u.slot b o e n hb (by simp)) (fun b o _ e n => u.free b o e n (by simp)) (fun b o _ e => u.there b o e (by simp)) u.tups u.frzs u.tbls (fun m' hm => by
    obtain ⟨o', es', ep', ho', r'⟩ := hm
    rw [ho] at ho'; cases ho'
    exact ⟨_, es', ep', hL, r'⟩) hok I.bare
/-- behind a call (or a comprehension's block): the slots of this frame may have changed too, the records at ch may have turned -/
theorem Inv.call {g' : Array GenState} {t' : Nat} {d' : Drawn} {ch : List Addr} (I : Inv X pins σ H s) (u : Un (frs X.stack) ch H H' s.heap h') (hok : HOk X.prog X.w H' h') (hg : AllBare g')
    (hch : ∀ b ∈ ch, (b ∈ X.ex ∨ X.s₀.heap.objs.size ≤ b) ∧ b ≠ X.env.locals ∧ (∀ x c, X.env.cells.lookup x = some c → c ≠ b) ∧ ∀ p ∈ X.pn ++ pins, p.1 ≠ b) :
    Inv X pins σ H' { s with heap := h', gens := g', drawn := d', toks := t' } := by
  obtain ⟨m, ⟨o, es, ep, ho, r⟩, _⟩ := id I.loc
  obtain ⟨sl, hL⟩ := u.any ho I.free fun z => (hch _ z).2.1 rfl
  exact I.step (ch := ch) hch (fun b o hL hb hc e n => u.keep b o e n (fun z => (List.mem_cons.mp (I.stkSub b z)).elim hL hb) hc) (fun b o _ _ hc e n => u.any e n hc) (fun b o hc e n => u.free b o e n hc) (fun b o hc e => u.there b o e hc) u.tups u.frzs u.tbls (fun m' hm => by
    obtain ⟨o', es', ep', ho', r'⟩ := hm
    rw [ho] at ho'; cases ho'
    exact ⟨_, es', ep', hL, r'⟩) hok hg
/-- an untracked record of ours (an iterator) has turned -/
theorem Inv.turned {t' : Nat} {it : Addr} (I : Inv X pins σ H s) (k : ∀ b o, b ≠ it → s.heap.get? b = some o → h'.get? b = some o) (hn : H it = none) (hL : it ≠ X.env.locals)
    (h1 : it ∈ X.ex ∨ X.s₀.heap.objs.size ≤ it) (h2 : ∀ x c, X.env.cells.lookup x = some c → c ≠ it) (h3 : ∀ p ∈ X.pn ++ pins, p.1 ≠ it) : Inv X pins σ H { s with heap := h', toks := t' } := by
  have nit : ∀ b u, H b = some u → b ≠ it := fun b u e z => by rw [z, hn] at e; cases e
  refine I.step (g' := s.gens) (d' := s.drawn) (ch := [it]) (fun b hb => ?_) (fun b o _ _ hc e _ => k b o (fun z => hc (by simp [z])) e) (fun b o _ _ hc e _ => ⟨o.slots, k b o (fun z => hc (by simp [z])) e⟩) (fun _ _ _ _ n => n)
    (fun b o hc e => ⟨o, k b o (fun z => hc (by simp [z])) e⟩) (fun _ _ e => e) (fun _ _ _ e => e) (fun b ps e => ⟨#[], by rw [e]; simp⟩) (fun m hm => ?_) (fun b u e => ?_) I.bare
  · have e : b = it := by simpa using hb
    subst e
    exact ⟨h1, hL, h2, h3⟩
  · obtain ⟨o, es, ep, ho, r⟩ := hm
    exact ⟨o, es, ep, k _ o (Ne.symm hL) ho, r⟩
  · refine (I.hok b u e).stay (fun c v hc q => k c v ?_ q) (fun _ q => q) fun _ _ q => q
    rcases hc with z | z
    · rw [z]; exact nit b u e
    · exact nit c _ z
theorem Inv.tok (I : Inv X pins σ H s) (t : Nat) : Inv X pins σ H { s with toks := t } := I.un (h' := s.heap) (t' := t) Un.refl I.hok
/-- all objects kept -/
theorem Inv.kept {t' : Nat} (I : Inv X pins σ H s) (k : ∀ b u, s.heap.get? b = some u → h'.get? b = some u) : Inv X pins σ H { s with heap := h', toks := t' } := I.un (Un.kept k) (I.hok.kept k)
/-- a new object laid and tracked -/
theorem Inv.laid {a : Addr} {o : HO} {t' : Nat} (I : Inv X pins σ H s) (k : ∀ b u, s.heap.get? b = some u → h'.get? b = some u) (hp : s.heap.objs.size ≤ a) (new : ObjOk X.prog X.w (upd H a o) h' a o) :
    Inv X pins σ (upd H a o) { s with heap := h', toks := t' } := I.un (Un.laid k hp (I.hok.fresh hp)) (I.hok.laid k hp new)
/-- an object written -/
theorem Inv.write {x e : Addr} {o : HO} {t' : Nat} (I : Inv X pins σ H s) (mu : Mut (H x)) (he : e = x ∨ H e = some (.own x)) (k : ∀ b u, b ≠ e → s.heap.get? b = some u → h'.get? b = some u) (heo : ∃ u, h'.get? e = some u)
    (new : ObjOk X.prog X.w (upd H x o) h' x o) : Inv X pins σ (upd H x o) { s with heap := h', toks := t' } := I.un (Un.write mu he k heo) (I.hok.write mu he k heo new)
/-- forgetting slots, pins -/
theorem Inv.weak {σ' : List (Option V)} (I : Inv X pins σ H s) (hl : σ'.length = σ.length) (w : ∀ (i : Nat) v, σ'[i]? = some (some v) → σ[i]? = some (some v)) : Inv X pins σ' H s :=
  ⟨I.ok, I.os, I.bare, I.base, let ⟨m, hn, hl'⟩ := I.loc; ⟨m, hn, fun i x v e1 e2 e3 => hl' i x v e1 (w i v e2) e3⟩, I.cell, I.free, I.freeC, I.pin, I.hok, hl.trans I.len⟩
theorem Inv.pins_of {pins' : List (Addr × Obj)} (I : Inv X pins σ H s) (h : ∀ p ∈ pins', s.heap.get? p.1 = some p.2 ∧ H p.1 = none ∧ p.1 ≠ X.env.locals ∧ p.1 ∉ X.fs ∧ ∀ v, p.2.data ≠ .cell v) : Inv X pins' σ H s :=
  ⟨I.ok, I.os, I.bare, I.base, I.loc, I.cell, I.free, I.freeC, fun p hp => (List.mem_append.mp hp).elim (fun z => I.pin p (List.mem_append_left _ z)) (h p), I.hok, I.len⟩

theorem nodup_ix {N : List Str} (hN : N.Nodup) {i j : Nat} {x : Str} (a : N[i]? = some x) (b : N[j]? = some x) : i = j := by
  obtain ⟨h1, e1⟩ := List.getElem?_eq_some_iff.mp a
  obtain ⟨h2, e2⟩ := List.getElem?_eq_some_iff.mp b
  exact (List.getElem_inj hN).mp (e1.trans e2.symm)

/-- a name is stored; what changed -/
theorem store_ok2 {M : Model} {A : Around} {E : Value → Shared → Prop} {i : Nat} {x : Str} {v : V} {u : Value} {Q : Unit → Shared → Prop} (I : Inv X pins σ H s) (hN : X.N.Nodup) (hi : X.N[i]? = some x) (hx : Loc X.env.scope x) (r : RelV v u)
    (h : ∀ s', Inv X pins (σ.set i (some v)) H s' → (∃ a, Heap.SameBut a s.heap s'.heap ∧ (a = X.env.locals ∨ X.env.cells.lookup x = some a)) → Q () s') (hf : X.fn x = true ∨ X.env.scope.names.lookup x = some .local := by first | exact .inl rfl | exact .inr rfl | assumption) : wpAny M A (storeName X.env x u) Q E s := by
  obtain ⟨m, hn, hl⟩ := id I.loc
  have hcls : (X.env.scope.kind == .class || (X.env.scope.kind == .module && X.env.locals != X.env.globals)) = false := by rw [I.ok.kind]; rfl
  have hiσ : i < σ.length := by rw [I.len]; exact (List.getElem?_eq_some_iff.mp hi).1
  have cne := I.cne
  have tracked : ∀ {a : Addr} {h' : Heap}, (∃ o, s.heap.get? a = some o ∧ H a = none) → Heap.SameBut a s.heap h' → HOk X.prog X.w H h' := fun {a h'} ha hs b ob e => by
    obtain ⟨_, _, hfree⟩ := ha
    refine (I.hok b ob e).stay (fun c w' hc q => (hs.2 c ?_).trans q) (fun _ q => q) fun _ _ q => q
    rintro rfl
    rcases hc with rfl | hc
    · rw [hfree] at e; cases e
    · rw [hfree] at hc; cases hc
  rcases hx with hk | hk
  · refine wpAny_storeName_local hk hn (fun h' hn' hs => ?_) hcls
    obtain ⟨oL, _, _, hoL, _⟩ := id hn
    refine h _ ⟨I.ok, I.os, I.bare, ⟨fun b o e n hb hx => ?_, fun b o e n hb hx => ?_, I.base.free, fun b o e hx => ?_, I.base.tups, I.base.frzs, I.base.tbls⟩, ⟨_, hn', fun j y v' e1 e2 e3 => ?_⟩, fun y c e => ?_, I.free, I.freeC, fun p hp => ?_, tracked ⟨oL, hoL, I.free⟩ hs, by simpa using I.len⟩ ⟨_, hs, .inl rfl⟩
    · exact (hs.2 b (Nat.ne_of_lt (Nat.lt_of_lt_of_le (Heap.lt_size e) I.ok.above))).trans (I.base.keep b o e n hb hx)
    · obtain ⟨sl, e1⟩ := I.base.slot b o e n hb hx
      exact ⟨sl, (hs.2 b (Nat.ne_of_lt (Nat.lt_of_lt_of_le (Heap.lt_size e) I.ok.above))).trans e1⟩
    · obtain ⟨o', e1⟩ := I.base.there b o e hx
      exact ⟨o', (hs.2 b (Nat.ne_of_lt (Nat.lt_of_lt_of_le (Heap.lt_size e) I.ok.above))).trans e1⟩
    · by_cases hj : j = i
      · subst hj
        rw [hi] at e1; cases e1
        rw [List.getElem?_set_self hiσ] at e2
        cases e2
        exact ⟨u, r, .inl ⟨hk, by simp⟩⟩
      · rw [List.getElem?_set_ne (Ne.symm hj)] at e2
        obtain ⟨u', r', q⟩ := hl j y v' e1 e2 e3
        refine ⟨u', r', ?_⟩
        rcases q with ⟨k, e⟩ | ⟨k, c, e, z⟩
        · refine .inl ⟨k, ?_⟩
          have : y ≠ x := fun e => hj (nodup_ix hN e1 (e ▸ hi))
          simp [this, e]
        · exact .inr ⟨k, c, e, z.sameBut hs (cne y c e)⟩
    · obtain ⟨w', z⟩ := I.cell y c e
      exact ⟨w', z.sameBut hs (cne y c e)⟩
    · obtain ⟨e, n, ne, nf, d⟩ := I.pin p hp
      exact ⟨(hs.2 p.1 ne).trans e, n, ne, nf, d⟩
  · have hfn : X.fn x = true := by
      rcases hf with z | z
      · exact z
      · rw [z] at hk; cases hk
    obtain ⟨c, hc⟩ := I.ok.has x (.inl hk)
    obtain ⟨w', z⟩ := I.cell x c hc
    refine wpAny_storeName_cell I.ok.kind hk hc z (fun h' hc' hs => ?_)
    obtain ⟨oc, hoc, hocd⟩ := id z
    refine h { s with heap := h' } ⟨I.ok, I.os, I.bare, ⟨fun b o e n hb hx => ?_, fun b o e n hb hx => ?_, I.base.free, fun b o e hx => ?_, I.base.tups, I.base.frzs, I.base.tbls⟩, ⟨m, hn.sameBut hs (Ne.symm (cne x c hc)), fun j y v' e1 e2 e3 => ?_⟩, fun y c' e => ?_, I.free, I.freeC, fun p hp => ?_, tracked ⟨oc, hoc, I.freeC x c hc⟩ hs, by simpa using I.len⟩ ⟨c, hs, .inr hc⟩
    · exact (hs.2 b (Nat.ne_of_lt (Nat.lt_of_lt_of_le (Heap.lt_size e) (I.ok.cab x c hfn hc)))).trans (I.base.keep b o e n hb hx)
    · obtain ⟨sl, e1⟩ := I.base.slot b o e n hb hx
      exact ⟨sl, (hs.2 b (Nat.ne_of_lt (Nat.lt_of_lt_of_le (Heap.lt_size e) (I.ok.cab x c hfn hc)))).trans e1⟩
    · obtain ⟨o', e1⟩ := I.base.there b o e hx
      exact ⟨o', (hs.2 b (Nat.ne_of_lt (Nat.lt_of_lt_of_le (Heap.lt_size e) (I.ok.cab x c hfn hc)))).trans e1⟩
    · by_cases hj : j = i
      · subst hj
        rw [hi] at e1; cases e1
        rw [List.getElem?_set_self hiσ] at e2
        cases e2
        exact ⟨u, r, .inr ⟨.inl hk, c, hc, hc'⟩⟩
      · rw [List.getElem?_set_ne (Ne.symm hj)] at e2
        obtain ⟨u', r', q⟩ := hl j y v' e1 e2 e3
        refine ⟨u', r', ?_⟩
        rcases q with q | ⟨k, c', e, z'⟩
        · exact .inl q
        · refine .inr ⟨k, c', e, z'.sameBut hs ?_⟩
          rintro rfl
          exact hj (nodup_ix hN e1 (I.ok.inj _ _ _ e hc ▸ hi))
    · by_cases hcc : c' = c
      · subst hcc; exact ⟨_, hc'⟩
      · obtain ⟨w2, z2⟩ := I.cell y c' e
        exact ⟨w2, z2.sameBut hs hcc⟩
    · obtain ⟨e, n, ne, nf, d⟩ := I.pin p hp
      refine ⟨(hs.2 p.1 ?_).trans e, n, ne, nf, d⟩
      intro q
      rw [q, hoc] at e
      have q' : oc = p.2 := Option.some.inj e
      exact d w' (by rw [← q']; exact hocd)
theorem store_ok {M : Model} {A : Around} {E : Value → Shared → Prop} {i : Nat} {x : Str} {v : V} {u : Value} {Q : Unit → Shared → Prop} (I : Inv X pins σ H s) (hN : X.N.Nodup) (hi : X.N[i]? = some x) (hx : Loc X.env.scope x) (r : RelV v u)
    (h : ∀ s', Inv X pins (σ.set i (some v)) H s' → Q () s') (hf : X.fn x = true ∨ X.env.scope.names.lookup x = some .local := by first | exact .inl rfl | exact .inr rfl | assumption) : wpAny M A (storeName X.env x u) Q E s :=
  store_ok2 I hN hi hx r (fun s' I' _ => h s' I') hf
/-- behind a call or a block, the state as it is -/
theorem Inv.call' {s' : Shared} {ch : List Addr} (I : Inv X pins σ H s) (ho : s'.os = s.os) (u : Un (frs X.stack) ch H H' s.heap s'.heap) (hok : HOk X.prog X.w H' s'.heap) (hg : AllBare s'.gens)
    (hch : ∀ b ∈ ch, (b ∈ X.ex ∨ X.s₀.heap.objs.size ≤ b) ∧ b ≠ X.env.locals ∧ (∀ x c, X.env.cells.lookup x = some c → c ≠ b) ∧ ∀ p ∈ X.pn ++ pins, p.1 ≠ b) : Inv X pins σ H' s' := by
  obtain ⟨h', g', d', t', o'⟩ := s'
  have e : o' = s.os := ho
  subst e
  exact I.call (g' := g') (t' := t') (d' := d') u hok hg hch
end

/-! ### the judgements -/
/-- an exception: its class, its own dict's address (where it has one), the abstract heap behind it -/
abbrev XK := Value → Option Addr → Hp → Prop
abbrev St := List (Option V)
abbrev VK := V → Hp → Prop
/-- an expression's reading; a test's; an argument list's -/
abbrev TE := St → Hp → VK → Prop
abbrev TT := St → Hp → (Bool → Hp → Prop) → Prop
abbrev TA := St → Hp → (List V → Hp → Prop) → Prop
/-- what is wanted behind a statement -/
structure Ends where
  nx : St → Hp → Prop
  rt : VK
  bk : St → Hp → Prop := fun _ _ => False
  ct : St → Hp → Prop := fun _ _ => False
abbrev TS := Ends → St → Hp → Prop

def EP (X : Cx) (pins : List (Addr × Obj)) (σ : St) (Q : VK) (u : Value) (s' : Shared) : Prop := ∃ v H', Inv X pins σ H' s' ∧ RelV v u ∧ Q v H'
def TP (X : Cx) (pins : List (Addr × Obj)) (σ : St) (Q : Bool → Hp → Prop) (b : Bool) (s' : Shared) : Prop := ∃ H', Inv X pins σ H' s' ∧ Q b H'
def AP (X : Cx) (pins : List (Addr × Obj)) (σ : St) (Q : List V → Hp → Prop) (us : List Value) (s' : Shared) : Prop := ∃ vs H', Inv X pins σ H' s' ∧ Vals vs us ∧ Q vs H'
def SP (X : Cx) (pins : List (Addr × Obj)) (D : Ends) (f : Flow) (s' : Shared) : Prop :=
  match f with
  | .next => ∃ σ' H', Inv X pins σ' H' s' ∧ D.nx σ' H'
  | .brk => ∃ σ' H', Inv X pins σ' H' s' ∧ D.bk σ' H'
  | .cont => ∃ σ' H', Inv X pins σ' H' s' ∧ D.ct σ' H'
  | .ret u => ∃ v σ' H', Inv X pins σ' H' s' ∧ RelV v u ∧ D.rt v H'

def PE (X : Cx) (e : Expr) (t : TE) : Prop :=
  ∀ (pins : List (Addr × Obj)) (s : Shared) (σ : St) (H : Hp) (Q : VK), Inv X pins σ H s → t σ H Q → wpAny (model X.prog X.w) X.A (eval e X.env) (EP X pins σ Q) X.xe s
def PT (X : Cx) (e : Expr) (t : TT) : Prop :=
  ∀ (pins : List (Addr × Obj)) (s : Shared) (σ : St) (H : Hp) (Q : Bool → Hp → Prop), Inv X pins σ H s → t σ H Q → wpAny (model X.prog X.w) X.A (isTrue e X.env (eval e X.env)) (TP X pins σ Q) X.xe s
/-- a test whatever its 'whole' is (and, or) -/
def PW (X : Cx) (e : Expr) (t : TT) : Prop :=
  ∀ (whole : Sem Value) (pins : List (Addr × Obj)) (s : Shared) (σ : St) (H : Hp) (Q : Bool → Hp → Prop), Inv X pins σ H s → t σ H Q → wpAny (model X.prog X.w) X.A (isTrue e X.env whole) (TP X pins σ Q) X.xe s
theorem PW.pt {X : Cx} {e : Expr} {t : TT} (h : PW X e t) : PT X e t := h _
/-- an argument list (no star), from the left -/
def PA (X : Cx) (es : List Expr) (t : TA) : Prop :=
  ∀ (pos : Pos) (pins : List (Addr × Obj)) (s : Shared) (σ : St) (H : Hp) (Q : List V → Hp → Prop), Inv X pins σ H s → t σ H Q → wpAny (model X.prog X.w) X.A (spliced (backTo pos (starEach es X.env))) (AP X pins σ Q) X.xe s
def PS (X : Cx) (st : Stmt) (t : TS) : Prop :=
  ∀ (pins : List (Addr × Obj)) (s : Shared) (σ : St) (H : Hp) (D : Ends), Inv X pins σ H s → t D σ H → wpAny (model X.prog X.w) X.A (exec st X.env) (SP X pins D) X.xe s
def PSs (X : Cx) (st : List Stmt) (t : TS) : Prop :=
  ∀ (pins : List (Addr × Obj)) (s : Shared) (σ : St) (H : Hp) (D : Ends), Inv X pins σ H s → t D σ H → wpAny (model X.prog X.w) X.A (execs st X.env) (SP X pins D) X.xe s
/-- weaken the end -/
theorem thn {α : Type} {t : Sem α} {Q Q' : α → Shared → Prop} {M : Model} {A : Around} {E : Value → Shared → Prop} {s : Shared} (h : wpAny M A t Q E s) (hQ : ∀ a s, Q a s → Q' a s) : wpAny M A t Q' E s := wpAny_mono h hQ fun _ _ x => x
end L2

namespace L2
open PySem PySem.Spec PyProof.Rows
section
variable {X : Cx}

/-! ### names and constants -/
def tVar (i : Nat) : TE := fun σ H Q => ∃ v, σ[i]? = some (some v) ∧ Q v H
def tC (v : V) : TE := fun _ H Q => Q v H
theorem pe_var {i : Nat} {x : Str} {pos : Pos} (hN : X.N[i]? = some x) (hv : Vis X.env.scope x) (hd : (x == ("__debug__" : Str)) = false := by decide) (hcd : (x == ("__classdict__" : Str)) = false := by decide) : PE X (.Name x pos) (tVar i) := by
  intro pins s σ H Q I h
  obtain ⟨v, e, h⟩ := h
  obtain ⟨m, hn, hl⟩ := I.loc
  obtain ⟨u, r, l⟩ := hl i x v hN e hv
  have fin : EP X pins σ Q u s := ⟨v, H, I, r, h⟩
  rcases l with ⟨hk, hm⟩ | ⟨hk, c, hc, hcell⟩
  · exact wpAny_Name (wpAny_loadName_local I.ok.kind hk hn hm fin) hd
  · rcases hk with hk | hk
    · exact wpAny_Name (wpAny_loadName_cell I.ok.kind hk hc hcell fin) hd
    · exact wpAny_Name (wpAny_loadName_free I.ok.kind hk hc hcell fin hcd) hd
theorem pe_int {i j pos} : PE X (.Constant (.int i) j pos) (tC (.int i)) := fun _ _ _ H _ I h => wpAny_Constant_int ⟨.int i, H, I.tok _, ⟨_, rfl⟩, h⟩
theorem pe_bl {b j pos} : PE X (.Constant (.bool b) j pos) (tC (.bl b)) := fun _ _ _ H _ I h => Constant_bool ⟨.bl b, H, I, rfl, h⟩
theorem pe_str {x j pos} : PE X (.Constant (.str x) j pos) (tC (.str x)) := fun _ _ _ H _ I h => Calls.Constant_str ⟨.str x, H, I.tok _, ⟨_, rfl⟩, h⟩

/-- a global name of the def -/
def Gl (X : Cx) (x : Str) : Prop := X.env.kindOf x = some .globalImplicit
theorem ld_glob {E : Value → Shared → Prop} {pins : List (Addr × Obj)} {s : Shared} {σ : St} {H : Hp} {x : Str} {u : Value} {pos : Pos} {Q : Value → Shared → Prop} (I : Inv X pins σ H s) (hg : Gl X x) (hm : X.mg x = some u) (h : Q u s)
    (hd : (x == ("__debug__" : Str)) = false := by decide) : wpAny (model X.prog X.w) X.A (eval (.Name x pos) X.env) Q E s :=
  Calls.Name_function_global I.ok.kind hg (Calls.loadGlobal_global (by rw [I.ok.glob]; exact I.mod.glob.keeps I.bk) hm h) hd
theorem ld_blt {E : Value → Shared → Prop} {pins : List (Addr × Obj)} {s : Shared} {σ : St} {H : Hp} {x : Str} {u : Value} {pos : Pos} {Q : Value → Shared → Prop} (I : Inv X pins σ H s) (hg : Gl X x) (hm : X.mg x = none) (hv : bootBuiltins x = some u) (h : Q u s)
    (hn : x ≠ "__name__" := by decide) (hd : (x == ("__debug__" : Str)) = false := by decide) : wpAny (model X.prog X.w) X.A (eval (.Name x pos) X.env) Q E s := by
  obtain ⟨mb, h1, h2⟩ := I.mod.blt
  exact Calls.Name_function_global I.ok.kind hg (Calls.loadGlobal_builtin (by rw [I.ok.glob]; exact I.mod.glob.keeps I.bk) hm (by rw [I.ok.blt]; exact h1.keeps I.bk) ((h2 x hn).trans hv) h) hd
theorem pe_bltn {x : Str} {v : V} {u : Value} {pos : Pos} (hg : Gl X x) (hm : X.mg x = none) (hv : bootBuiltins x = some u) (r : RelV v u) (hn : x ≠ "__name__" := by decide) (hd : (x == ("__debug__" : Str)) = false := by decide) : PE X (.Name x pos) (tC v) :=
  fun _ _ _ H _ I h => ld_blt I hg hm hv ⟨v, H, I, r, h⟩ hn hd

/-! ### arithmetic -/
/-- two ints -/
def t2I (ta tb : TE) (k : Int → Int → Hp → Prop) : St → Hp → Prop := fun σ H => ta σ H fun x H1 => tb σ H1 fun y H2 => ∃ i j, x = .int i ∧ y = .int j ∧ k i j H2
def tAdd (ta tb : TE) : TE := fun σ H Q => t2I ta tb (fun i j H2 => Q (.int (i + j)) H2) σ H
def tSub (ta tb : TE) : TE := fun σ H Q => t2I ta tb (fun i j H2 => Q (.int (i - j)) H2) σ H
/-- the left factor below 2^64 -/
def tMul (ta tb : TE) : TE := fun σ H Q => t2I ta tb (fun i j H2 => (-(2 ^ 64) < i ∧ i < 2 ^ 64) ∧ Q (.int (i * j)) H2) σ H
variable {a b : Expr} {ta tb : TE} {pos : Pos}
/-! ### comparisons -/
def PC (X : Cx) (op : CmpOp) (a b : Expr) (t : TE) : Prop :=
  ∀ (pins : List (Addr × Obj)) (s : Shared) (σ : St) (H : Hp) (Q : VK), Inv X pins σ H s → t σ H Q →
    wpAny (model X.prog X.w) X.A (eval a X.env) (fun v s₁ => wpAny (model X.prog X.w) X.A (eval b X.env) (fun u s₂ => wpAny (model X.prog X.w) X.A (compareOp op v u) (EP X pins σ Q) X.xe s₂) X.xe s₁) X.xe s
def tCmp (p : Int → Int → Bool) (ta tb : TE) : TE := fun σ H Q => t2I ta tb (fun i j H2 => Q (.bl (p i j)) H2) σ H
abbrev tLt : TE → TE → TE := tCmp fun i j => decide (i < j)
abbrev tLe : TE → TE → TE := tCmp fun i j => decide (i ≤ j)
abbrev tGt : TE → TE → TE := tCmp fun i j => decide (j < i)
abbrev tGe : TE → TE → TE := tCmp fun i j => decide (j ≤ i)
abbrev tEqI : TE → TE → TE := tCmp fun i j => decide (i = j)
abbrev tNeI : TE → TE → TE := tCmp fun i j => !decide (i = j)
/-- is None -/
def tIsN (ta : TE) : TE := fun σ H Q => ta σ H fun x H1 => Q (.bl (decide (x = .non))) H1
def tNotN (ta : TE) : TE := fun σ H Q => ta σ H fun x H1 => Q (.bl (!decide (x = .non))) H1
/-- a comparison as a value, as a test -/
def tB (t : TE) : TT := fun σ H Q => t σ H fun x H1 => ∃ c, x = .bl c ∧ Q c H1
/-- an expression whose value is a bool, as a test -/
theorem pt_val {e : Expr} {t : TE} (h : PE X e t) (he : ∀ whole, isTrue e X.env whole = (do let v ← whole; standAt e.pos; holding [v] (truthy v)) := by intro _; rfl) : PT X e (tB t) := by
  intro pins s σ H Q I hw
  refine isTrue_plain (thn (h pins s σ H _ I hw) fun v s1 ⟨x, H1, I1, r1, q1⟩ => ?_) (he _)
  obtain ⟨d, rfl, q⟩ := q1
  cases r1
  exact wpAny_truthy_bool ⟨H1, I1, q⟩

/-! ### and, or, not -/
variable {tA tB' : TT} {rest : List Expr}
def tAnd (t u : TT) : TT := fun σ H Q => t σ H fun c H1 => if c = true then u σ H1 Q else Q false H1
def tOr (t u : TT) : TT := fun σ H Q => t σ H fun c H1 => if c = true then Q true H1 else u σ H1 Q
def tNot (t : TT) : TT := fun σ H Q => t σ H fun c H1 => Q (!c) H1
theorem pw_and1 (ha : PT X a tA) : PW X (.BoolOp .And [a] pos) tA := by
  intro wh pins s σ H Q I h
  refine isTrue_and (thn (ha pins s σ H Q I h) fun c s1 e => ?_)
  cases c with
  | true => exact isTrue_and_nil e
  | false => exact e
theorem pw_or1 (ha : PT X a tA) : PW X (.BoolOp .Or [a] pos) tA := by
  intro wh pins s σ H Q I h
  refine isTrue_or (thn (ha pins s σ H Q I h) fun c s1 e => ?_)
  cases c with
  | false => exact isTrue_or_nil e
  | true => exact e
theorem pw_and (ha : PT X a tA) (hb : PW X (.BoolOp .And (b :: rest) pos) tB') : PW X (.BoolOp .And (a :: b :: rest) pos) (tAnd tA tB') := by
  intro wh pins s σ H Q I h
  refine isTrue_and (thn (ha pins s σ H _ I h) fun c s1 ⟨H1, I1, q1⟩ => ?_)
  cases c with
  | true => exact hb wh pins s1 σ H1 Q I1 q1
  | false => exact ⟨H1, I1, q1⟩
theorem pw_or (ha : PT X a tA) (hb : PW X (.BoolOp .Or (b :: rest) pos) tB') : PW X (.BoolOp .Or (a :: b :: rest) pos) (tOr tA tB') := by
  intro wh pins s σ H Q I h
  refine isTrue_or (thn (ha pins s σ H _ I h) fun c s1 ⟨H1, I1, q1⟩ => ?_)
  cases c with
  | true => exact ⟨H1, I1, q1⟩
  | false => exact hb wh pins s1 σ H1 Q I1 q1
theorem pt_not (ha : PT X a tA) : PT X (.UnaryOp .Not a pos) (tNot tA) := by
  intro pins s σ H Q I h
  exact isTrue_not (ha pins s σ H (fun c H1 => Q (!c) H1) I h)
/-- .. as values (bools) -/
def tAndV (ta tb : TE) : TE := fun σ H Q => ta σ H fun x H1 => ∃ c, x = .bl c ∧ if c = true then tb σ H1 Q else Q (.bl false) H1
def tOrV (ta tb : TE) : TE := fun σ H Q => ta σ H fun x H1 => ∃ c, x = .bl c ∧ if c = true then Q (.bl true) H1 else tb σ H1 Q
def tNotV (ta : TE) : TE := fun σ H Q => ta σ H fun x H1 => ∃ c, x = .bl c ∧ Q (.bl (!c)) H1
/-- a if t else b -/
def tIf (t : TT) (ta tb : TE) : TE := fun σ H Q => t σ H fun c H1 => if c = true then ta σ H1 Q else tb σ H1 Q
end
end L2

namespace L2
open PySem PySem.Spec PyProof.Rows

/-! ### a list, a tuple that is read: tracked, frozen, or an object of the module -/
def SqL (K : PySem.W.Frag) (H : Hp) (a : Addr) (xs : List V) : Prop :=
  Rd H a (.lst xs) ∨
    ∃ (o : Obj) (its : Array Value) (n : Nat), K.lookup a = some o ∧ o.cls = .type "list" ∧ o.dict = none ∧ o.data = .seq its n ∧ its.size ≤ sizeLine ∧ Vals xs its.toList
def SqT (K : PySem.W.Frag) (H : Hp) (a : Addr) (xs : List V) : Prop :=
  Rd H a (.tup xs) ∨
    ∃ (o : Obj) (its : Array Value) (n : Nat), K.lookup a = some o ∧ o.cls = .type "tuple" ∧ o.data = .seq its n ∧ its.size ≤ sizeLine ∧ Vals xs its.toList
def absV : Value → Option V
  | .none => some .non
  | .bool b => some (.bl b)
  | .int i _ => some (.int i)
  | .str x _ => some (.str x)
  | .bytes b _ => some (.byt b)
  | .float b _ => some (.flt b)
  | .ref a => some (.ref a)
  | .type n => some (.ty n)
  | _ => none
theorem RelV.abs {x : V} {u : Value} (r : RelV x u) : absV u = some x := by
  cases x with
  | non => cases r; rfl
  | bl _ => cases r; rfl
  | int _ => obtain ⟨t, rfl⟩ := r; rfl
  | str _ => obtain ⟨t, rfl⟩ := r; rfl
  | byt _ => obtain ⟨t, rfl⟩ := r; rfl
  | flt _ => obtain ⟨t, rfl⟩ := r; rfl
  | ref _ => cases r; rfl
  | ty _ => cases r; rfl
theorem RelV.inj {x y : V} {u : Value} (r : RelV x u) (q : RelV y u) : x = y := Option.some.inj (r.abs.symm.trans q.abs)
theorem Vals.inj : ∀ {xs ys : List V} {us : List Value}, Vals xs us → Vals ys us → xs = ys
  | _, _, _, .nil, .nil => rfl
  | _, _, _, .cons r t, .cons r' t' => by rw [r.inj r', Vals.inj t t']
section
variable {X : Cx} {pins : List (Addr × Obj)} {σ : St} {H : Hp} {s : Shared} {a : Addr} {xs ys : List V}
theorem SqL.of {K : PySem.W.Frag} (h : H a = some (.lst xs)) : SqL K H a xs := .inl (.inl h)
theorem SqT.of {K : PySem.W.Frag} (h : H a = some (.tup xs)) : SqT K H a xs := .inl (.inl h)
theorem Inv.list (I : Inv X pins σ H s) (h : SqL X.K H a xs) : ∃ its : List Value, Vals xs its ∧ PlainL s.heap a its.toArray ∧ xs.length ≤ sizeLine := by
  rcases h with h | ⟨o, its, n, hk, hc, hd, hs, hz, r⟩
  · obtain ⟨z, its, n, r, e⟩ := h.ok I.hok
    exact ⟨its, r, ⟨_, n, e, rfl, rfl, rfl⟩, z⟩
  · refine ⟨its.toList, r, ⟨o, n, I.kIn a o hk, hc, hd, by simpa using hs⟩, ?_⟩
    have e := r.length
    simp only [Array.length_toList] at e
    omega
theorem Inv.tuple (I : Inv X pins σ H s) (h : SqT X.K H a xs) : ∃ its : List Value, Vals xs its ∧ IsTup s.heap a its.toArray ∧ xs.length ≤ sizeLine := by
  rcases h with h | ⟨o, its, n, hk, hc, hs, hz, r⟩
  · obtain ⟨z, its, r, p⟩ := h.ok I.hok
    exact ⟨its, r, p, z⟩
  · refine ⟨its.toList, r, ⟨o, I.kIn a o hk, hc, n, by simpa using hs⟩, ?_⟩
    have e := r.length
    simp only [Array.length_toList] at e
    omega
theorem Inv.list_inj (I : Inv X pins σ H s) (h : SqL X.K H a xs) (h' : SqL X.K H a ys) : xs = ys := by
  obtain ⟨its, r, ⟨o, n, e, _, _, d⟩, _⟩ := I.list h
  obtain ⟨its', r', ⟨o', n', e', _, _, d'⟩, _⟩ := I.list h'
  rw [e] at e'; cases e'
  rw [d] at d'
  injection d' with d1 _
  have : its = its' := by simpa using congrArg Array.toList d1
  subst this
  exact r.inj r'
end

/-! ### another wish about exceptions -/
abbrev Cx.wish (X : Cx) (E : Value → Shared → Prop) : Cx := { X with xe := E }
/-- no exception leaves -/
abbrev Cx.nox (X : Cx) : Cx := X.wish fun _ _ => False
section
variable {X : Cx} {pins : List (Addr × Obj)} {σ : St} {H : Hp} {s : Shared} {E : Value → Shared → Prop}
end

/-! ### blocks and small statements -/
section
variable {X : Cx} {st : Stmt} {rest : List Stmt} {t u : TS} {e : Expr} {te : TE} {pos : Pos}
def tNext : TS := fun D σ H => D.nx σ H
def tSeq (t u : TS) : TS := fun D σ H => t { D with nx := u D } σ H
theorem pss_nil : PSs X [] tNext := fun _ _ σ H _ I h => wpAny_execs_nil ⟨σ, H, I, h⟩
theorem pss_cons (h1 : PS X st t) (h2 : PSs X rest u) : PSs X (st :: rest) (tSeq t u) := by
  intro pins s σ H D I h
  refine wpAny_execs_cons (thn (h1 pins s σ H { D with nx := u D } I h) fun f s1 q => ?_)
  cases f with
  | next =>
    obtain ⟨σ', H', I', q⟩ := q
    exact h2 pins s1 σ' H' D I' q
  | ret v => exact q
  | brk => exact q
  | cont => exact q
theorem pss_one (h1 : PS X st t) : PSs X [st] t := by
  intro pins s σ H D I h
  refine wpAny_execs_cons (thn (h1 pins s σ H D I h) fun f s1 q => ?_)
  cases f with
  | next => exact wpAny_execs_nil q
  | ret v => exact q
  | brk => exact q
  | cont => exact q
def tBreak : TS := fun D σ H => D.bk σ H
def tCont : TS := fun D σ H => D.ct σ H
/-- in a def's body nothing is shown -/
theorem Inv.quiet {pins : List (Addr × Obj)} {σ : St} {H : Hp} {s : Shared} (I : Inv X pins σ H s) : interactive X.env = false := by simp [interactive, I.ok.kind]
/-- an expression whose value is dropped -/
def tDrop (te : TE) : TS := fun D σ H => te σ H fun _ H1 => D.nx σ H1
theorem ps_expr (he : PE X e te) (hs : swapsWith e none pos.line X.env = pure false := by rfl) : PS X (.Expr e pos) (tDrop te) := by
  intro pins s σ H D I h
  exact wpAny_Expr_any (thn (he pins s σ H _ I h) fun v s1 ⟨x, H1, I1, r1, q1⟩ => ⟨σ, H1, I1, q1⟩) I.quiet hs
def tRet (te : TE) : TS := fun D σ H => te σ H D.rt
theorem ps_ret (he : PE X e te) : PS X (.Return (some e) pos) (tRet te) := by
  intro pins s σ H D I h
  exact wpAny_Return_some (thn (he pins s σ H _ I h) fun v s1 ⟨x, H1, I1, r1, q1⟩ => ⟨x, σ, H1, I1, r1, q1⟩)
def tRetN : TS := fun D _ H => D.rt .non H
def tIfS (c : TT) (t u : TS) : TS := fun D σ H => c σ H fun b H1 => if b = true then t D σ H1 else u D σ H1
theorem ps_if {c : Expr} {a b : List Stmt} {tc : TT} (hc : PT X c tc) (ha : PSs X a t) (hb : PSs X b u) : PS X (.If c a b pos) (tIfS tc t u) := by
  intro pins s σ H D I h
  refine wpAny_If (thn (hc pins s σ H _ I h) fun d s1 ⟨H1, I1, q1⟩ => ?_)
  cases d with
  | true => exact ha pins s1 σ H1 D I1 q1
  | false => exact hb pins s1 σ H1 D I1 q1
/-- code that the proof never comes to -/
def tNever : TS := fun _ _ _ => False
theorem ps_never : PS X st tNever := fun _ _ _ _ _ _ h => h.elim
end

/-! ### targets -/
abbrev TG := V → St → Hp → (St → Hp → Prop) → Prop
abbrev TGs := List V → St → Hp → (St → Hp → Prop) → Prop
def PG (X : Cx) (target : Expr) (t : TG) : Prop :=
  ∀ (pins : List (Addr × Obj)) (s : Shared) (σ : St) (H : Hp) (v : V) (u : Value) (Q : St → Hp → Prop), Inv X pins σ H s → RelV v u → t v σ H Q →
    wpAny (model X.prog X.w) X.A (assign target X.env u) (fun _ s' => ∃ σ' H', Inv X pins σ' H' s' ∧ Q σ' H') X.xe s
/-- several targets, one after another -/
def PGs (X : Cx) (ts : List Expr) (t : TGs) : Prop :=
  ∀ (pins : List (Addr × Obj)) (s : Shared) (σ : St) (H : Hp) (vs : List V) (us : List Value) (Q : St → Hp → Prop), Inv X pins σ H s → Vals vs us → t vs σ H Q →
    wpAny (model X.prog X.w) X.A (assignInOrder ((assignEach ts X.env).map (·.2)) us) (fun _ s' => ∃ σ' H', Inv X pins σ' H' s' ∧ Q σ' H') X.xe s
/-- o[i] = v, by values -/
abbrev TSet := V → V → V → Hp → (Hp → Prop) → Prop
def PSet (X : Cx) (t : TSet) : Prop :=
  ∀ (pins : List (Addr × Obj)) (s : Shared) (σ : St) (H : Hp) (o i v : V) (ov iv u : Value) (Q : Hp → Prop), Inv X pins σ H s → RelV o ov → RelV i iv → RelV v u → t o i v H Q →
    wpAny (model X.prog X.w) X.A (setItem ov iv u) (fun _ s' => ∃ H', Inv X pins σ H' s' ∧ Q H') X.xe s
/-- a op= b, by values -/
abbrev TIp := V → V → Hp → VK → Prop
def PIp (X : Cx) (op : Operator) (t : TIp) : Prop :=
  ∀ (pins : List (Addr × Obj)) (s : Shared) (σ : St) (H : Hp) (x y : V) (v u : Value) (Q : VK), Inv X pins σ H s → RelV x v → RelV y u → t x y H Q →
    wpAny (model X.prog X.w) X.A (inplaceOp op v u) (EP X pins σ Q) X.xe s
section
variable {X : Cx} {pos : Pos}
def gName (i : Nat) : TG := fun v σ H Q => Q (σ.set i (some v)) H
theorem pg_name {i : Nat} {x : Str} (hN : X.N.Nodup) (hi : X.N[i]? = some x) (hx : Loc X.env.scope x) (hf : X.fn x = true ∨ X.env.scope.names.lookup x = some .local := by first | exact .inl rfl | exact .inr rfl | assumption) : PG X (.Name x pos) (gName i) := by
  intro pins s σ H v u Q I r h
  exact wpAny_assign_Name (store_ok I hN hi hx r (fun s' I' => ⟨_, H, I', h⟩) hf)
def gNil : TGs := fun vs σ H Q => vs = [] ∧ Q σ H
def gCons (t : TG) (u : TGs) : TGs := fun vs σ H Q => ∃ v r, vs = v :: r ∧ t v σ H fun σ' H' => u r σ' H' Q
/-- (a, b, ..) = a tuple of that length -/
def gTup (K : PySem.W.Frag) (n : Nat) (t : TGs) : TG := fun v σ H Q => ∃ a xs, v = .ref a ∧ SqT K H a xs ∧ xs.length = n ∧ t xs σ H Q
/-- o[i] = .. -/
def gSub (to ti : TE) (t : TSet) : TG := fun v σ H Q => to σ H fun o H1 => ti σ H1 fun i H2 => t o i v H2 fun H3 => Q σ H3
/-- target = value -/
def tAsg (te : TE) (g : TG) : TS := fun D σ H => te σ H fun x H1 => g x σ H1 D.nx
/-- name = value -/
theorem ps_set {i : Nat} {x : Str} {e : Expr} {te : TE} {pos' : Pos} (hN : X.N.Nodup) (hi : X.N[i]? = some x) (hx : Loc X.env.scope x) (he : PE X e te) (hs : swapsWith e (some (.Name x pos')) pos.line X.env = pure false := by rfl) (hf : X.fn x = true ∨ X.env.scope.names.lookup x = some .local := by first | exact .inl rfl | exact .inr rfl | assumption) :
    PS X (.Assign [.Name x pos'] e pos) (tAsg te (gName i)) := by
  intro pins s σ H D I h
  refine wpAny_Assign_Name (thn (he pins s σ H _ I h) fun v s1 ⟨y, H1, I1, r1, q1⟩ => ?_) hs
  exact store_ok I1 hN hi hx r1 (fun s2 I2 => ⟨_, H1, I2, q1⟩) hf
/-- a, b = x, y with plain local names: stored from the right; the pair itself is not tracked (the opening rows as in PyProof/Rows/TupAssign.lean:23) -/
def tPar (i j : Nat) (ta : TA) : TS := fun D σ H => ta σ H fun vs H1 => ∃ v w, vs = [v, w] ∧ D.nx ((σ.set i (some v)).set j (some w)) H1
/-- name op= e -/
def tAug (i : Nat) (te : TE) (ti : TIp) : TS := fun D σ H => ∃ x, σ[i]? = some (some x) ∧ te σ H fun y H1 => ti x y H1 fun z H2 => D.nx (σ.set i (some z)) H2
theorem ps_aug {i : Nat} {x : Str} {e : Expr} {te : TE} {op : Operator} {ti : TIp} {pos' : Pos} (hN : X.N.Nodup) (hi : X.N[i]? = some x) (hx : Loc X.env.scope x) (he : PE X e te) (ho : PIp X op ti) (hf : X.fn x = true ∨ X.env.scope.names.lookup x = some .local := by first | exact .inl rfl | exact .inr rfl | assumption) :
    PS X (.AugAssign (.Name x pos') op e pos) (tAug i te ti) := by
  intro pins s σ H D I h
  obtain ⟨v, e1, h⟩ := h
  obtain ⟨m, hn, hl⟩ := I.loc
  have vis : Vis X.env.scope x := by rcases hx with k | k; exact .inl k; exact .inr (.inl k)
  obtain ⟨u, r, l⟩ := hl i x v hi e1 vis
  refine wpAny_AugAssign_Name ?_
  have go : wpAny (model X.prog X.w) X.A (eval e X.env) (fun w s₂ => wpAny (model X.prog X.w) X.A (inplaceOp op u w) (fun r s₃ => wpAny (model X.prog X.w) X.A (storeName X.env x r) (fun _ => SP X pins D .next) X.xe s₃) X.xe s₂) X.xe s := by
    refine thn (he pins s σ H _ I h) fun w s1 ⟨y, H1, I1, r1, q1⟩ => ?_
    refine thn (ho pins s1 σ H1 v y u w _ I1 r r1 q1) fun z s2 ⟨zv, H2, I2, r2, q2⟩ => ?_
    exact store_ok I2 hN hi hx r2 (fun s3 I3 => ⟨_, H2, I3, q2⟩) hf
  rcases l with ⟨hk, hm⟩ | ⟨hk, c, hc, hcell⟩
  · exact wpAny_loadName_local I.ok.kind hk hn hm go
  · rcases hk with hk | hk
    · exact wpAny_loadName_cell I.ok.kind hk hc hcell go
    · rcases hx with k | k
      · have : X.env.scope.names.lookup x = some .free := hk
        rw [k] at this; cases this
      · have : X.env.scope.names.lookup x = some .free := hk
        rw [k] at this; cases this
/-- o[i] op= e -/
def tAugS (to ti te : TE) (tget : V → V → Hp → VK → Prop) (tip : TIp) (tset : TSet) : TS := fun D σ H => to σ H fun o H1 => ti σ H1 fun i H2 => tget o i H2 fun x H3 => te σ H3 fun y H4 => tip x y H4 fun z H5 => tset o i z H5 fun H6 => D.nx σ H6
/-- o[i], by values -/
def PGet (X : Cx) (t : V → V → Hp → VK → Prop) : Prop :=
  ∀ (pins : List (Addr × Obj)) (s : Shared) (σ : St) (H : Hp) (o i : V) (ov iv : Value) (Q : VK), Inv X pins σ H s → RelV o ov → RelV i iv → t o i H Q →
    wpAny (model X.prog X.w) X.A (getItem ov iv) (EP X pins σ Q) X.xe s
/-- ints -/
def ipI (f : Int → Int → Int) : TIp := fun x y H Q => ∃ i j, x = .int i ∧ y = .int j ∧ Q (.int (f i j)) H
end

/-! ### while -/
section
variable {X : Cx} {pos : Pos}
/-- the invariant W with its measure -/
def tWhile (c : TT) (tb : TS) : TS := fun D σ H => ∃ W : Nat → St → Hp → Prop, (∃ m, W m σ H) ∧ ∀ m σ H, W m σ H →
  c σ H fun b H1 => if b = true then ∃ N : St → Hp → Prop, (∀ σ' H', N σ' H' → ∃ m', m' < m ∧ W m' σ' H') ∧ tb { D with nx := N, ct := N, bk := D.nx } σ H1 else D.nx σ H1
theorem ps_while {c : Expr} {body : List Stmt} {tc : TT} {tb : TS} (hp : PassesOwn (model X.prog X.w) X.A X.env X.xe) (hc : PT X c tc) (hb : PSs X body tb) : PS X (.While c body [] pos) (tWhile tc tb) := by
  intro pins s σ H D I h
  obtain ⟨W, ⟨m0, w0⟩, turn⟩ := h
  refine wpAny_While (codeAny_whileLoop (fun n s' => ∃ σ' H', Inv X pins σ' H' s' ∧ W n σ' H') ?_ m0 ⟨σ, H, I, w0⟩)
  rintro n s1 ⟨σ1, H1, I1, w1⟩
  refine wpAny_passesOwn hp (thn (hc pins s1 σ1 H1 _ I1 (turn n σ1 H1 w1)) fun b s2 ⟨H2, I2, q2⟩ => ?_)
  cases b with
  | true =>
    obtain ⟨N, hN, q2⟩ := q2
    rw [if_pos rfl]
    refine wpAny_passesOwn hp (thn (hb pins s2 σ1 H2 _ I2 q2) fun f s3 q3 => ?_)
    cases f with
    | next =>
      obtain ⟨σ3, H3, I3, n3⟩ := q3
      obtain ⟨m', hm, w3⟩ := hN σ3 H3 n3
      exact ⟨m', hm, σ3, H3, I3, w3⟩
    | cont =>
      obtain ⟨σ3, H3, I3, n3⟩ := q3
      obtain ⟨m', hm, w3⟩ := hN σ3 H3 n3
      exact ⟨m', hm, σ3, H3, I3, w3⟩
    | brk => exact q3
    | ret v => exact q3
  | false =>
    rw [if_neg Bool.false_ne_true]
    exact wpAny_execs_nil ⟨σ1, H2, I2, q2⟩
end

/-! ### what a loop or a comprehension walks -/
/-- at turn i: it yields x (the heap may grow), or it stops -/
structure It where
  go : Nat → Hp → Prop
  yld : Nat → Hp → V → Hp → Prop
  stop : Nat → Hp → Prop
/-- the iterator's own objects may turn: they are not the frame's, not pinned, younger than the entry (or a comprehension's own) -/
def FpOk (X : Cx) (pins : List (Addr × Obj)) (H : Hp) (b : Addr) : Prop :=
  H b = none ∧ b ≠ X.env.locals ∧ b ∉ X.fs ∧ (b ∈ X.ex ∨ X.s₀.heap.objs.size ≤ b) ∧ (∀ x c, X.env.cells.lookup x = some c → c ≠ b) ∧ ∀ p ∈ X.pn ++ pins, p.1 ≠ b
theorem Inv.fpOk {X : Cx} {pins : List (Addr × Obj)} {σ : St} {H H' : Hp} {s : Shared} {b : Addr} (I : Inv X pins σ H s) (hb : s.heap.objs.size ≤ b) (hn : H' b = none) : FpOk X pins H' b := by
  refine ⟨hn, Nat.ne_of_gt (Nat.lt_of_lt_of_le I.lt hb), I.nofs hb, .inr (Nat.le_trans I.sz hb), fun x c e z => ?_, fun p hp z => ?_⟩
  · obtain ⟨v, q⟩ := I.cell x c e
    exact absurd (Nat.lt_of_lt_of_le q.lt (by rw [z]; exact hb)) (Nat.lt_irrefl _)
  · exact absurd (Nat.lt_of_lt_of_le (Heap.lt_size (I.pin p hp).1) (by rw [z]; exact hb)) (Nat.lt_irrefl _)
structure Turn (P : Program) (w : World) (K : PySem.W.Frag) (tg : Expr) (J : It) (fp : List Addr) (it : Addr) (tn : Nat → Heap → Prop) : Prop where
  mem : it ∈ fp
  obj : ∀ i h, tn i h → ∀ b ∈ fp, ∃ o, h.get? b = some o ∧ ∀ v, o.data ≠ .cell v
  keep : ∀ i h h', tn i h → (∀ b ∈ fp, ∀ o, h.get? b = some o → h'.get? b = some o) → tn i h'
  item : ∀ (X : Cx), X.prog = P → X.w = w → X.K = K → X.calm = true → ∀ (i : Nat) (pins : List (Addr × Obj)) (s : Shared) (σ : St) (H : Hp) (E : Value → Shared → Prop), Inv X pins σ H s → (∀ b ∈ fp, FpOk X pins H b) → tn i s.heap → J.go i H →
    wpAny (model P w) X.A (pyNext (.ref it)) (fun r s1 => ∃ u, r = some u ∧
      wpAny (model P w) X.A (letOwnedTupleGo tg (.ref it) u) (fun _ s2 => ∃ x H', Inv X pins σ H' s2 ∧ RelV x u ∧ J.yld i H x H' ∧ tn (i + 1) s2.heap ∧ ∀ b ∈ fp, H' b = none) E s1) E s
  done : ∀ (X : Cx), X.prog = P → X.w = w → X.K = K → X.calm = true → ∀ (i : Nat) (pins : List (Addr × Obj)) (s : Shared) (σ : St) (H : Hp) (E : Value → Shared → Prop), Inv X pins σ H s → (∀ b ∈ fp, FpOk X pins H b) → tn i s.heap → J.stop i H →
    wpAny (model P w) X.A (pyNext (.ref it)) (fun r s1 => r = none ∧ Inv X pins σ H s1) E s
  self : ∀ (A : Around) (i : Nat) (s : Shared) (Q : Value → Shared → Prop) (E : Value → Shared → Prop), tn i s.heap → Q (.ref it) s → wpAny (model P w) A (pyIter (.ref it)) Q E s
abbrev TI := St → Hp → (It → Hp → Prop) → Prop
/-- an iterator has come -/
def PIE (X : Cx) (pins : List (Addr × Obj)) (σ : St) (tg : Expr) (R : It → Hp → Prop) (itv : Value) (s2 : Shared) : Prop :=
  ∃ (it : Addr) (fp : List Addr) (tn : Nat → Heap → Prop) (J : It) (H' : Hp), itv = .ref it ∧ Inv X pins σ H' s2 ∧ Turn X.prog X.w X.K tg J fp it tn ∧ tn 0 s2.heap ∧ (∀ b ∈ fp, FpOk X pins H' b) ∧ R J H'
def PI (X : Cx) (tg iter : Expr) (wi : TI) : Prop :=
  ∀ (pins : List (Addr × Obj)) (s : Shared) (σ : St) (H : Hp) (R : It → Hp → Prop), Inv X pins σ H s → wi σ H R →
    wpAny (model X.prog X.w) X.A (eval iter X.env) (fun v s1 => wpAny (model X.prog X.w) X.A (pyIter v) (PIE X pins σ tg R) X.xe s1) X.xe s

/-- the step ahead of the store is nothing for an iterator that keeps no tuple -/
theorem go_of {M : Model} {A : Around} {E : Value → Shared → Prop} {s : Shared} {tg : Expr} {it : Addr} {u : Value} {o : Obj} {n : String} {vs : Array Value} {Q : Unit → Shared → Prop} (ho : s.heap.get? it = some o) (hc : o.cls = .type n) (hd : o.data = .fields vs)
    (hn : ["enumerate", "zip", "dict_itemiterator", "dict_reverseitemiterator", "odict_iterator", "itertools.zip_longest", "itertools.pairwise"].contains n = false) (hQ : Q () s) : wpAny M A (letOwnedTupleGo tg (.ref it) u) Q E s := by
  unfold letOwnedTupleGo
  cases tg <;> first
    | exact wpAny_pure hQ
    | (cases u <;> first
        | exact wpAny_pure hQ
        | (refine wpAny_bind (wpAny_load ho ?_)
           rw [hc, hd]
           show wpAny M A (if (["enumerate", "zip", "dict_itemiterator", "dict_reverseitemiterator", "odict_iterator", "itertools.zip_longest", "itertools.pairwise"].contains n && vs[0]? == some (rawInt _)) = true then _ else _) Q E s
           rw [if_neg (by intro h; rw [hn, Bool.false_and] at h; cases h)]
           exact wpAny_pure hQ))

/-- the list at a, as it stands at each turn (a loop may append to it) -/
def Itl (K : PySem.W.Frag) (a : Addr) : It :=
  ⟨fun i H => ∃ xs x, SqL K H a xs ∧ xs[i]? = some x, fun i H x H' => H' = H ∧ ∀ xs, SqL K H a xs → xs[i]? = some x, fun i H => ∃ xs, SqL K H a xs ∧ xs.length ≤ i⟩
def Itt (K : PySem.W.Frag) (a : Addr) : It :=
  ⟨fun i H => ∃ xs x, SqT K H a xs ∧ xs[i]? = some x, fun i H x H' => H' = H ∧ ∀ xs, SqT K H a xs → xs[i]? = some x, fun i H => ∃ xs, SqT K H a xs ∧ xs.length ≤ i⟩
/-- lo, lo + 1, .. (n of them) -/
def Itr (lo : Int) (n : Nat) : It := ⟨fun i _ => i < n, fun i H x H' => H' = H ∧ x = .int (lo + i), fun i _ => n ≤ i⟩
theorem turn_list {P : Program} {w : World} {K : PySem.W.Frag} {tg : Expr} (a it : Addr) : Turn P w K tg (Itl K a) [it] it (fun i h => h.IsListIter it a i) where
  mem := by simp
  obj := fun i h st b hb => by
    have e : b = it := by simpa using hb
    subst e
    obtain ⟨o, e, c, d⟩ := st
    exact ⟨o, e, fun v z => by rw [d] at z; cases z⟩
  keep := fun i h h' st k => st.at fun o e => k it (by simp) o e
  item := by
    intro X hP hw hK hc i pins s σ H E I hf st hg
    subst hP hw hK
    obtain ⟨xs, x, hq, hx⟩ := hg
    obtain ⟨its, rv, p, hz⟩ := I.list hq
    obtain ⟨u, hu, ru⟩ := rv.get hx
    obtain ⟨f0, f1, f2, f3, f4, f5⟩ := hf it (by simp)
    refine wpAny_pyNext_list_item st p.isList (x := u) (by simpa using hu) fun h' st' sb => ?_
    have I1 : Inv X pins σ H { s with heap := h' } := I.turned (t' := s.toks) (fun b o hb e => (sb.2 b hb).trans e) f0 f1 f3 f4 f5
    obtain ⟨o, e, c, d⟩ := id st'
    exact ⟨u, rfl, go_of (s := { s with heap := h' }) e c d (by decide) ⟨x, H, I1, ru, ⟨rfl, fun ys hy => by rw [I.list_inj hy hq]; exact hx⟩, st', fun b hb => (hf b hb).1⟩⟩
  done := by
    intro X hP hw hK hc i pins s σ H E I hf st hg
    subst hP hw hK
    obtain ⟨xs, hq, hx⟩ := hg
    obtain ⟨its, rv, p, hz⟩ := I.list hq
    obtain ⟨f0, f1, f2, f3, f4, f5⟩ := hf it (by simp)
    have hl := rv.length
    exact wpAny_pyNext_list_end (I.ok.hd hc) st p.isList (by simp; omega) fun h' eb => ⟨rfl, I.turned (t' := s.toks) (fun b o hb e => eb b o hb e) f0 f1 f3 f4 f5⟩
  self := fun _ _ _ _ _ st h => wpAny_pyIter_listiter st h
theorem turn_range {P : Program} {w : World} {K : PySem.W.Frag} {tg : Expr} (it : Addr) (lo : Int) (n : Nat) : Turn P w K tg (Itr lo n) [it] it (fun i h => IsRangeIter h it (lo + (i : Nat) * 1) ((n : Int) - (i : Nat)) 1) where
  mem := by simp
  obj := fun i h st b hb => by
    have e : b = it := by simpa using hb
    subst e
    exact ⟨_, st, fun v z => by
      have z' : Data.fields _ = Data.cell v := z
      cases z'⟩
  keep := fun i h h' st k => k it (by simp) _ st
  item := by
    intro X hP hw hK hc i pins s σ H E I hf st hg
    subst hP hw hK
    obtain ⟨f0, f1, f2, f3, f4, f5⟩ := hf it (by simp)
    have W := Walks.range (prog := X.prog) (w := X.w) (I.ok.hd hc) it lo 1 n
    refine W.item i s _ _ hg st fun v h' tk hv st' kk => ?_
    obtain ⟨t, rfl⟩ := hv
    have I1 : Inv X pins σ H { s with heap := h', toks := tk } := I.turned (fun b o hb e => kk b o (by simpa using hb) e) f0 f1 f3 f4 f5
    refine ⟨_, rfl, go_of (s := { s with heap := h', toks := tk }) (n := "range_iterator") st' rfl rfl (by decide) ⟨.int (lo + i), H, I1, ⟨t, ?_⟩, ⟨rfl, rfl⟩, st', fun b hb => (hf b hb).1⟩⟩
    rw [Int.mul_one]
  done := by
    intro X hP hw hK hc i pins s σ H E I hf st hg
    subst hP hw hK
    obtain ⟨f0, f1, f2, f3, f4, f5⟩ := hf it (by simp)
    exact wpAny_pyNext_range_end (I.ok.hd hc) st (by have : n ≤ i := hg; omega) fun h' eb => ⟨rfl, I.turned (t' := s.toks) (fun b o hb e => eb b o hb e) f0 f1 f3 f4 f5⟩
  self := fun _ _ _ _ _ st h => wpAny_pyIter_rangeiter st h
end L2

namespace L2
open PySem PySem.Spec PyProof.Rows
section
variable {X : Cx} {tg : Expr}
def iList (K : PySem.W.Frag) (tl : TE) : TI := fun σ H R => tl σ H fun x H1 => ∃ a, x = .ref a ∧ (∃ xs, SqL K H1 a xs) ∧ R (Itl K a) H1
def iTup (K : PySem.W.Frag) (tl : TE) : TI := fun σ H R => tl σ H fun x H1 => ∃ a, x = .ref a ∧ (∃ xs, SqT K H1 a xs) ∧ R (Itt K a) H1
theorem pi_list {l : Expr} {tl : TE} (hl : PE X l tl) : PI X tg l (iList X.K tl) := by
  intro pins s σ H R I h
  refine thn (hl pins s σ H _ I h) fun v s1 ⟨x, H1, I1, r1, q1⟩ => ?_
  obtain ⟨a, e, ⟨xs, hq⟩, q⟩ := q1
  subst e
  cases r1
  obtain ⟨its, rv, p, hz⟩ := I1.list hq
  refine wpAny_pyIter_list p.isList ?_
  refine ⟨s1.heap.objs.size, [s1.heap.objs.size], _, _, H1, rfl, I1.kept (t' := s1.toks) fun b o e => Heap.get?_push_of_some _ e, turn_list a _, ⟨_, Heap.get?_push_size _ rfl, rfl, rfl⟩, fun b hb => ?_, q⟩
  have e : b = s1.heap.objs.size := by simpa using hb
  subst e
  exact I1.fpOk (Nat.le_refl _) (I1.hok.fresh (Nat.le_refl _))
/-- a range object just made, walked -/
theorem range_it {pins : List (Addr × Obj)} {σ : St} {H : Hp} {s : Shared} {R : It → Hp → Prop} {E : Value → Shared → Prop} {lo hi : Int} {t u v : Tok} {tk : Nat} (I : Inv X pins σ H s) (h1 : -(2 ^ 62) ≤ lo) (h2 : lo < 2 ^ 62) (h3 : -(2 ^ 62) ≤ hi) (h4 : hi < 2 ^ 62)
    (q : R (Itr lo (hi - lo).toNat) H) : wpAny (model X.prog X.w) X.A (pyIter (.ref s.heap.objs.size)) (PIE X pins σ tg R) E { s with heap := s.heap.push { cls := .type "range", data := .fields #[.int lo t, .int hi u, .int 1 v] }, toks := tk } := by
  refine wpAny_pyIter_range (IsRange.new ..) (small_one h1 h2 h3 h4) ?_
  have I1 : Inv X pins σ H { s with heap := s.heap.push { cls := .type "range", data := .fields #[.int lo t, .int hi u, .int 1 v] }, toks := tk } := I.kept fun b o e => Heap.get?_push_of_some _ e
  refine ⟨(s.heap.push { cls := .type "range", data := .fields #[.int lo t, .int hi u, .int 1 v] }).objs.size, [(s.heap.push { cls := .type "range", data := .fields #[.int lo t, .int hi u, .int 1 v] }).objs.size], _, _, H, rfl,
    I1.kept (t' := tk) fun b o e => Heap.get?_push_of_some _ e, turn_range _ lo (hi - lo).toNat, ?_, fun b hb => ?_, q⟩
  · have e1 : lo + ((0 : Nat) : Int) * 1 = lo := by simp
    have e2 : (((hi - lo).toNat : Nat) : Int) - ((0 : Nat) : Int) = Builtin.Range.rangeSize lo hi 1 := by rw [rangeSize_one]; split <;> omega
    show IsRangeIter _ _ (lo + ((0 : Nat) : Int) * 1) ((((hi - lo).toNat : Nat) : Int) - ((0 : Nat) : Int)) 1
    rw [e1, e2]
    exact Heap.get?_push_size _ rfl
  · have e : b = (s.heap.push { cls := .type "range", data := .fields #[.int lo t, .int hi u, .int 1 v] }).objs.size := by simpa using hb
    subst e
    exact I1.fpOk (Nat.le_refl _) (I1.hok.fresh (Nat.le_refl _))
def iRng1 (ta : TA) : TI := fun σ H R => ta σ H fun vs H1 => ∃ j : Int, vs = [.int j] ∧ -(2 ^ 62) ≤ j ∧ j < 2 ^ 62 ∧ R (Itr 0 j.toNat) H1
def iRng2 (ta : TA) : TI := fun σ H R => ta σ H fun vs H1 => ∃ i j : Int, vs = [.int i, .int j] ∧ (-(2 ^ 62) ≤ i ∧ i < 2 ^ 62 ∧ -(2 ^ 62) ≤ j ∧ j < 2 ^ 62) ∧ R (Itr i (j - i).toNat) H1
theorem pi_range1 {a : Expr} {ta : TA} {p pos : Pos} (hg : Gl X "range") (hm : X.mg "range" = none) (ha : PA X [a] ta) (hs : starEach [a] X.env = [(false, eval a X.env)] := by rfl) : PI X tg (.Call (.Name "range" p) [a] [] pos) (iRng1 ta) := by
  intro pins s σ H R I h
  refine Call_ (ld_blt I hg hm boot_range (PyProof.Rows.callWith_type1 (thn (ha pos pins s σ H _ I h) fun us s1 ⟨vs, H1, I1, r1, q1⟩ => ?_) hs rfl))
  obtain ⟨j, e, q1, q2, q⟩ := q1
  subst e
  cases r1 with
  | cons r rr =>
    cases rr
    obtain ⟨t, rfl⟩ := r
    exact call_range_1 (range_it I1 (by omega) (by omega) q1 q2 (by simpa using q))
theorem pi_range2 {a b : Expr} {ta : TA} {p pos : Pos} (hg : Gl X "range") (hm : X.mg "range" = none) (ha : PA X [a, b] ta) (hs : starEach [a, b] X.env = [(false, eval a X.env), (false, eval b X.env)] := by rfl) (hs2 : starEach [b] X.env = [(false, eval b X.env)] := by rfl) :
    PI X tg (.Call (.Name "range" p) [a, b] [] pos) (iRng2 ta) := by
  intro pins s σ H R I h
  refine Call_ (ld_blt I hg hm boot_range (PyProof.Rows.callWith_type1 (thn (ha pos pins s σ H _ I h) fun us s1 ⟨vs, H1, I1, r1, q1⟩ => ?_) (by rw [hs, hs2]) (by rw [hs2]; rfl)))
  obtain ⟨i, j, e, ⟨q1, q2, q3, q4⟩, q⟩ := q1
  subst e
  cases r1 with
  | cons r rr =>
    cases rr with
    | cons r' rr =>
      cases rr
      obtain ⟨t, rfl⟩ := r
      obtain ⟨t', rfl⟩ := r'
      exact call_range_2 (range_it I1 q1 q2 q3 q4 q)

/-! ### for -/
/-- W: the invariant by the turn and a measure; N: what the body is to reach -/
def tFor (wi : TI) (g : TG) (tb : TS) : TS := fun D σ H => wi σ H fun J H1 => ∃ W : Nat → Nat → St → Hp → Prop, (∃ m, W 0 m σ H1) ∧ ∀ i m σ H, W i m σ H →
  (J.stop i H ∧ D.nx σ H) ∨ (J.go i H ∧ ∃ N : St → Hp → Prop, (∀ σ' H', N σ' H' → ∃ m', m' < m ∧ W (i + 1) m' σ' H') ∧ ∀ x H', J.yld i H x H' → g x σ H' fun σ2 H2 => tb { D with nx := N, ct := N, bk := D.nx } σ2 H2)
/-- the records at fp as they stand -/
def pinsAt (fp : List Addr) (h : Heap) : List (Addr × Obj) := fp.filterMap fun b => (h.get? b).map fun o => (b, o)
theorem mem_pinsAt {fp : List Addr} {h : Heap} {b : Addr} {o : Obj} (hb : b ∈ fp) (e : h.get? b = some o) : (b, o) ∈ pinsAt fp h := List.mem_filterMap.mpr ⟨b, hb, by rw [e]; rfl⟩
theorem of_pinsAt {fp : List Addr} {h : Heap} {p : Addr × Obj} (hp : p ∈ pinsAt fp h) : p.1 ∈ fp ∧ h.get? p.1 = some p.2 := by
  obtain ⟨b, hb, e⟩ := List.mem_filterMap.mp hp
  cases q : h.get? b with
  | none => rw [q] at e; cases e
  | some o =>
    rw [q] at e
    have e' : (b, o) = p := Option.some.inj e
    subst e'
    exact ⟨hb, q⟩
theorem Inv.pinned {pins : List (Addr × Obj)} {σ : St} {H : Hp} {s : Shared} {fp : List Addr} (I : Inv X pins σ H s) (hf : ∀ b ∈ fp, FpOk X pins H b) (ho : ∀ b ∈ fp, ∃ o, s.heap.get? b = some o ∧ ∀ v, o.data ≠ .cell v) : Inv X (pins ++ pinsAt fp s.heap) σ H s :=
  I.pins_of fun p hp => (List.mem_append.mp hp).elim (fun z => I.pin p (List.mem_append_right _ z)) fun z => by
    obtain ⟨hb, e⟩ := of_pinsAt z
    obtain ⟨f0, f1, f2, _⟩ := hf p.1 hb
    obtain ⟨o, e', d⟩ := ho p.1 hb
    rw [e] at e'; cases e'
    exact ⟨e, f0, f1, f2, d⟩
theorem Inv.unpinned {pins pl : List (Addr × Obj)} {σ : St} {H : Hp} {s : Shared} (I : Inv X (pins ++ pl) σ H s) : Inv X pins σ H s := I.pins_of fun p hp => I.pin p (List.mem_append_right _ (List.mem_append_left _ hp))
theorem ps_for {iter : Expr} {body : List Stmt} {wi : TI} {g : TG} {tb : TS} {pos : Pos} (hp : PassesOwn (model X.prog X.w) X.A X.env X.xe) (hc : X.calm = true) (hi : PI X tg iter wi) (hg : PG X tg g) (hb : PSs X body tb)
    (hs : ∀ x, foldedSetIterable iter X.env x = pure x := by intro _; rfl) : PS X (.For tg iter body [] pos) (tFor wi g tb) := by
  intro pins s σ H D I h
  refine wpAny_For (thn (hi pins s σ H _ I h) fun v s1 h1 => thn h1 fun itv s2 h2 => ?_) hs
  obtain ⟨it, fp, tn, J, H2, e, I2, T, st2, f2, W, ⟨m0, w0⟩, turn⟩ := h2
  subst e
  -- what stays true of the iterator's objects through the loop
  have stat : ∀ {H' : Hp}, (∀ b ∈ fp, H' b = none) → ∀ b ∈ fp, FpOk X pins H' b := fun hn b hb => ⟨hn b hb, (f2 b hb).2⟩
  refine codeAny_forLoop_any (fun n s' => ∃ i σ' H', Inv X pins σ' H' s' ∧ tn i s'.heap ∧ (∀ b ∈ fp, H' b = none) ∧ W i n σ' H') ?_ m0 ⟨0, σ, H2, I2, st2, fun b hb => (f2 b hb).1, w0⟩
  rintro n s3 ⟨i, σ3, H3, I3, st3, fr3, w3⟩
  rcases turn i n σ3 H3 w3 with ⟨stop, qn⟩ | ⟨go, N, hN, step⟩
  · refine wpAny_passesOwn hp (thn (T.done X rfl rfl rfl hc i pins s3 σ3 H3 X.xe I3 (stat fr3) st3 stop) fun r s4 ⟨hr, I4⟩ => ?_)
    subst hr
    exact wpAny_execs_nil ⟨σ3, H3, I4, qn⟩
  · refine wpAny_passesOwn hp (thn (T.item X rfl rfl rfl hc i pins s3 σ3 H3 X.xe I3 (stat fr3) st3 go) fun r s4 ⟨u, hr, h4⟩ => ?_)
    subst hr
    refine wpAny_passesOwn hp (thn h4 fun _ s5 ⟨x, H5, I5, r5, y5, st5, fr5⟩ => ?_)
    have I5' := I5.pinned (stat fr5) (T.obj _ _ st5)
    refine wpAny_passesOwn hp (thn (hg _ s5 σ3 H5 x u _ I5' r5 (step x H5 y5)) fun _ s6 ⟨σ6, H6, I6, q6⟩ => ?_)
    refine wpAny_passesOwn hp (thn (hb _ s6 σ6 H6 _ I6 q6) fun f s7 q7 => ?_)
    have again : ∀ {σ7 : St} {H7 : Hp}, Inv X (pins ++ pinsAt fp s5.heap) σ7 H7 s7 → N σ7 H7 → ∃ m, m < n ∧ ∃ i σ' H', Inv X pins σ' H' s7 ∧ tn i s7.heap ∧ (∀ b ∈ fp, H' b = none) ∧ W i m σ' H' := fun {σ7 H7} I7 n7 => by
      obtain ⟨m', hm, w7⟩ := hN σ7 H7 n7
      refine ⟨m', hm, i + 1, σ7, H7, I7.unpinned, T.keep _ _ _ st5 fun b hb o e => (I7.pin (b, o) (List.mem_append_right _ (List.mem_append_right _ (mem_pinsAt hb e)))).1, fun b hb => ?_, w7⟩
      obtain ⟨o, e, d⟩ := T.obj _ _ st5 b hb
      exact (I7.pin (b, o) (List.mem_append_right _ (List.mem_append_right _ (mem_pinsAt hb e)))).2.1
    cases f with
    | next => obtain ⟨σ7, H7, I7, n7⟩ := q7; exact again I7 n7
    | cont => obtain ⟨σ7, H7, I7, n7⟩ := q7; exact again I7 n7
    | brk => obtain ⟨σ7, H7, I7, q7⟩ := q7; exact ⟨σ7, H7, I7.unpinned, q7⟩
    | ret v => obtain ⟨x7, σ7, H7, I7, r7, q7⟩ := q7; exact ⟨x7, σ7, H7, I7.unpinned, r7, q7⟩
end

/-! ### the forms one uses -/
/-- over a list that the body leaves as it is -/
theorem for_list {K : PySem.W.Frag} {a : Addr} {xs : List V} {g : TG} {tb : TS} {D : Ends} {σ : St} {H : Hp} (Pv : Nat → St → Hp → Prop) (h0 : Pv 0 σ H) (hl : ∀ i σ H, i ≤ xs.length → Pv i σ H → SqL K H a xs)
    (hs : ∀ i x σ H, xs[i]? = some x → Pv i σ H → g x σ H fun σ2 H2 => tb { D with nx := Pv (i + 1), ct := Pv (i + 1), bk := D.nx } σ2 H2) (hd : ∀ σ H, Pv xs.length σ H → D.nx σ H) :
    ∃ W : Nat → Nat → St → Hp → Prop, (∃ m, W 0 m σ H) ∧ ∀ i m σ H, W i m σ H →
      ((Itl K a).stop i H ∧ D.nx σ H) ∨ ((Itl K a).go i H ∧ ∃ N : St → Hp → Prop, (∀ σ' H', N σ' H' → ∃ m', m' < m ∧ W (i + 1) m' σ' H') ∧ ∀ x H', (Itl K a).yld i H x H' → g x σ H' fun σ2 H2 => tb { D with nx := N, ct := N, bk := D.nx } σ2 H2) := by
  refine ⟨fun i m σ H => m = xs.length - i ∧ i ≤ xs.length ∧ Pv i σ H, ⟨xs.length, by simp, Nat.zero_le _, h0⟩, ?_⟩
  rintro i m σ H ⟨rfl, hi, p⟩
  have q := hl i σ H hi p
  by_cases hlt : i < xs.length
  · refine .inr ⟨⟨xs, xs[i], q, by simp [hlt]⟩, Pv (i + 1), fun σ' H' p' => ⟨xs.length - (i + 1), by omega, rfl, hlt, p'⟩, fun x H' y => ?_⟩
    obtain ⟨e, y⟩ := y
    subst e
    exact hs i x σ _ (y xs q) p
  · have e : i = xs.length := by omega
    subst e
    exact .inl ⟨⟨xs, q, Nat.le_refl _⟩, hd σ H p⟩
theorem for_range {lo : Int} {n : Nat} {g : TG} {tb : TS} {D : Ends} {σ : St} {H : Hp} (Pv : Nat → St → Hp → Prop) (h0 : Pv 0 σ H)
    (hs : ∀ i σ H, i < n → Pv i σ H → g (.int (lo + i)) σ H fun σ2 H2 => tb { D with nx := Pv (i + 1), ct := Pv (i + 1), bk := D.nx } σ2 H2) (hd : ∀ σ H, Pv n σ H → D.nx σ H) :
    ∃ W : Nat → Nat → St → Hp → Prop, (∃ m, W 0 m σ H) ∧ ∀ i m σ H, W i m σ H →
      ((Itr lo n).stop i H ∧ D.nx σ H) ∨ ((Itr lo n).go i H ∧ ∃ N : St → Hp → Prop, (∀ σ' H', N σ' H' → ∃ m', m' < m ∧ W (i + 1) m' σ' H') ∧ ∀ x H', (Itr lo n).yld i H x H' → g x σ H' fun σ2 H2 => tb { D with nx := N, ct := N, bk := D.nx } σ2 H2) := by
  refine ⟨fun i m σ H => m = n - i ∧ i ≤ n ∧ Pv i σ H, ⟨n, by simp, Nat.zero_le _, h0⟩, ?_⟩
  rintro i m σ H ⟨rfl, hi, p⟩
  by_cases hlt : i < n
  · refine .inr ⟨hlt, Pv (i + 1), fun σ' H' p' => ⟨n - (i + 1), by omega, rfl, hlt, p'⟩, fun x H' y => ?_⟩
    obtain ⟨e, y⟩ := y
    subst e y
    exact hs i σ _ hlt p
  · have e : i = n := by omega
    subst e
    exact .inl ⟨Nat.le_refl _, hd σ H p⟩
/-- while, by a word and a measure of the state -/
theorem while_by {c : TT} {tb : TS} {D : Ends} {σ : St} {H : Hp} (Pv : St → Hp → Prop) (μ : St → Hp → Nat) (h0 : Pv σ H)
    (hs : ∀ σ H, Pv σ H → c σ H fun b H1 => if b = true then tb { D with nx := fun σ' H' => Pv σ' H' ∧ μ σ' H' < μ σ H, ct := fun σ' H' => Pv σ' H' ∧ μ σ' H' < μ σ H, bk := D.nx } σ H1 else D.nx σ H1)
    (mono : ∀ σ H Q Q', (∀ b H1, Q b H1 → Q' b H1) → c σ H Q → c σ H Q') : tWhile c tb D σ H := by
  refine ⟨fun m σ H => m = μ σ H ∧ Pv σ H, ⟨_, rfl, h0⟩, ?_⟩
  rintro m σ H ⟨rfl, p⟩
  refine mono σ H _ _ (fun b H1 q => ?_) (hs σ H p)
  cases b with
  | true => exact ⟨_, fun σ' H' ⟨p', l⟩ => ⟨_, l, rfl, p'⟩, q⟩
  | false => exact q
end L2

namespace L2
open PySem PySem.Spec PyProof.Rows

abbrev R2 := V → V → Hp → VK → Prop
/-- a two-place operation on values: f is binaryOp op, inplaceOp op or compareOp op -/
def OpR (X : Cx) (f : Value → Value → Sem Value) (r : R2) : Prop :=
  ∀ (pins : List (Addr × Obj)) (s : Shared) (σ : St) (H : Hp) (x y : V) (v u : Value) (Q : VK), Inv X pins σ H s → RelV x v → RelV y u → r x y H Q →
    wpAny (model X.prog X.w) X.A (f v u) (EP X pins σ Q) X.xe s
/-- a one-place operation -/
def UnR (X : Cx) (f : Value → Sem Value) (r : V → Hp → VK → Prop) : Prop :=
  ∀ (pins : List (Addr × Obj)) (s : Shared) (σ : St) (H : Hp) (x : V) (v : Value) (Q : VK), Inv X pins σ H s → RelV x v → r x H Q →
    wpAny (model X.prog X.w) X.A (f v) (EP X pins σ Q) X.xe s
/-- a call of a value that is known (a builtin, a type) with values -/
def CallR (X : Cx) (f : Value) (r : List V → Hp → VK → Prop) : Prop :=
  ∀ (pins : List (Addr × Obj)) (s : Shared) (σ : St) (H : Hp) (xs : List V) (us : List Value) (Q : VK), Inv X pins σ H s → Vals xs us → r xs H Q →
    wpAny (model X.prog X.w) X.A (call f us) (EP X pins σ Q) X.xe s
/-- a value's truth -/
def TruR (X : Cx) (r : V → Hp → (Bool → Hp → Prop) → Prop) : Prop :=
  ∀ (pins : List (Addr × Obj)) (s : Shared) (σ : St) (H : Hp) (x : V) (v : Value) (Q : Bool → Hp → Prop), Inv X pins σ H s → RelV x v → r x H Q →
    wpAny (model X.prog X.w) X.A (truthy v) (TP X pins σ Q) X.xe s

def tOp (r : R2) (ta tb : TE) : TE := fun σ H Q => ta σ H fun x H1 => tb σ H1 fun y H2 => r x y H2 Q
def tUn (r : V → Hp → VK → Prop) (ta : TE) : TE := fun σ H Q => ta σ H fun x H1 => r x H1 Q
/-- ints in, under C, and a value out -/
def rI (C : Int → Int → Prop) (g : Int → Int → V) : R2 := fun x y H Q => ∃ i j, x = .int i ∧ y = .int j ∧ C i j ∧ Q (g i j) H
def rI0 (g : Int → Int → V) : R2 := fun x y H Q => ∃ i j, x = .int i ∧ y = .int j ∧ Q (g i j) H
def rU (g : Int → V) : V → Hp → VK → Prop := fun x H Q => ∃ i, x = .int i ∧ Q (g i) H

section
variable {X : Cx} {a b c : Expr} {ta tb tc : TE} {pos : Pos}

theorem binT (ha : PE X a ta) (hb : PE X b tb) {pins : List (Addr × Obj)} {s : Shared} {σ : St} {H : Hp} {R : V → V → Hp → Prop} (I : Inv X pins σ H s)
    (h : ta σ H fun x H1 => tb σ H1 fun y H2 => R x y H2) {Q : Value → Shared → Prop} {f : Value → Value → Sem Value}
    (hf : ∀ v u s2 x y H2, Inv X pins σ H2 s2 → RelV x v → RelV y u → R x y H2 → wpAny (model X.prog X.w) X.A (f v u) Q X.xe s2) :
    wpAny (model X.prog X.w) X.A (eval a X.env) (fun v s₁ => wpAny (model X.prog X.w) X.A (eval b X.env) (fun u s₂ => wpAny (model X.prog X.w) X.A (f v u) Q X.xe s₂) X.xe s₁) X.xe s := by
  refine thn (ha pins s σ H _ I h) fun v s1 ⟨x, H1, I1, r1, q1⟩ => ?_
  refine thn (hb pins s1 σ H1 _ I1 q1) fun u s2 ⟨y, H2, I2, r2, q2⟩ => ?_
  exact hf v u s2 x y H2 I2 r1 r2 q2

theorem pe_op {op : Operator} {r : R2} (ho : OpR X (binaryOp op) r) (ha : PE X a ta) (hb : PE X b tb) : PE X (.BinOp a op b pos) (tOp r ta tb) := by
  intro pins s σ H Q I h
  exact wpAny_BinOp (binT ha hb I h fun v u s2 x y H2 I2 rx ry q => ho pins s2 σ H2 x y v u Q I2 rx ry q)
theorem pe_un {op : UnaryOp} {r : V → Hp → VK → Prop} (ho : UnR X (unaryOp op) r) (ha : PE X a ta) : PE X (.UnaryOp op a pos) (tUn r ta) := by
  intro pins s σ H Q I h
  exact UnaryOp_ (thn (ha pins s σ H _ I h) fun v s1 ⟨x, H1, I1, r1, q1⟩ => ho pins s1 σ H1 x v Q I1 r1 q1)
/-! ### ints -/
theorem opI {f : Value → Value → Sem Value} {C : Int → Int → Prop} {g : Int → Int → Int}
    (rule : ∀ (i j : Int) (t u : Tok) (s : Shared) (Q : Value → Shared → Prop) (E : Value → Shared → Prop), C i j → Q (.int (g i j) s.toks) { s with toks := s.toks + 1 } → wpAny (model X.prog X.w) X.A (f (.int i t) (.int j u)) Q E s) :
    OpR X f (rI C fun i j => .int (g i j)) := by
  intro pins s σ H x y v u Q I rx ry h
  obtain ⟨i, j, rfl, rfl, hc, q⟩ := h
  obtain ⟨t, rfl⟩ := rx
  obtain ⟨t', rfl⟩ := ry
  exact rule i j t t' s _ _ hc ⟨.int (g i j), H, I.tok _, ⟨_, rfl⟩, q⟩
theorem opI0 {f : Value → Value → Sem Value} {g : Int → Int → Int}
    (rule : ∀ (i j : Int) (t u : Tok) (s : Shared) (Q : Value → Shared → Prop) (E : Value → Shared → Prop), Q (.int (g i j) s.toks) { s with toks := s.toks + 1 } → wpAny (model X.prog X.w) X.A (f (.int i t) (.int j u)) Q E s) :
    OpR X f (rI0 fun i j => .int (g i j)) := by
  intro pins s σ H x y v u Q I rx ry h
  obtain ⟨i, j, rfl, rfl, q⟩ := h
  obtain ⟨t, rfl⟩ := rx
  obtain ⟨t', rfl⟩ := ry
  exact rule i j t t' s _ _ ⟨.int (g i j), H, I.tok _, ⟨_, rfl⟩, q⟩
theorem opB0 {f : Value → Value → Sem Value} {g : Int → Int → Bool}
    (rule : ∀ (i j : Int) (t u : Tok) (s : Shared) (Q : Value → Shared → Prop) (E : Value → Shared → Prop), Q (.bool (g i j)) s → wpAny (model X.prog X.w) X.A (f (.int i t) (.int j u)) Q E s) :
    OpR X f (rI0 fun i j => .bl (g i j)) := by
  intro pins s σ H x y v u Q I rx ry h
  obtain ⟨i, j, rfl, rfl, q⟩ := h
  obtain ⟨t, rfl⟩ := rx
  obtain ⟨t', rfl⟩ := ry
  exact rule i j t t' s _ _ ⟨.bl (g i j), H, I, rfl, q⟩

def CDiv (i j : Int) : Prop := 0 < j ∧ j < 1073741824
def CDivN (i j : Int) : Prop := j ≠ 0 ∧ j.natAbs < 1073741824
def CPow (i j : Int) : Prop := 0 ≤ j ∧ j ≤ 1000000 ∧ i.natAbs < 2 ^ 64
def CMul (i j : Int) : Prop := (-(2 ^ 64) < i ∧ i < 2 ^ 64) ∨ (-(2 ^ 64) < j ∧ j < 2 ^ 64)
theorem op_add : OpR X (binaryOp .Add) (rI0 fun i j => .int (i + j)) := opI0 fun _ _ _ _ _ _ _ q => add_int q
theorem op_sub : OpR X (binaryOp .Sub) (rI0 fun i j => .int (i - j)) := opI0 fun _ _ _ _ _ _ _ q => sub_int q
/-- % by a positive divisor of any size -/
theorem op_mod : OpR X (binaryOp .Mod) (rI (fun _ j => 0 < j) fun i j => .int (i % j)) := opI fun i j _ _ _ _ _ hc q => by
  have h1 : (0 : Int) < j := hc
  exact mod_int' (by omega) (by rw [Int.fmod_eq_emod_of_nonneg i (by omega)]; exact q)
theorem op_pow : OpR X (binaryOp .Pow) (rI CPow fun i j => .int (i ^ j.toNat)) := opI fun _ _ _ _ _ _ _ hc q => pow_int_small hc.1 hc.2.1 hc.2.2 q
theorem iop_add : OpR X (inplaceOp .Add) (rI0 fun i j => .int (i + j)) := opI0 fun _ _ _ _ _ _ _ q => iadd_int q
theorem unI {f : Value → Sem Value} {g : Int → Int}
    (rule : ∀ (i : Int) (t : Tok) (s : Shared) (Q : Value → Shared → Prop) (E : Value → Shared → Prop), Q (.int (g i) s.toks) { s with toks := s.toks + 1 } → wpAny (model X.prog X.w) X.A (f (.int i t)) Q E s) :
    UnR X f (rU fun i => .int (g i)) := by
  intro pins s σ H x v Q I rx h
  obtain ⟨i, rfl, q⟩ := h
  obtain ⟨t, rfl⟩ := rx
  exact rule i t s _ _ ⟨.int (g i), H, I.tok _, ⟨_, rfl⟩, q⟩
theorem un_neg : UnR X (unaryOp .USub) (rU fun i => .int (-i)) := unI fun _ _ _ _ _ q => neg_int q
/-! ### bools among ints: n += (a < b) -/
end

/-! ### comparisons -/
/-- the scalars that == tells apart as data does -/
def scal : V → V → Bool
  | .non, .non => true | .non, .int _ => true | .int _, .non => true | .non, .bl _ => true | .bl _, .non => true | .non, .str _ => true | .str _, .non => true
  | .int _, .int _ => true | .bl _, .bl _ => true | .str _, .str _ => true | .byt _, .byt _ => true
  | .int _, .str _ => true | .str _, .int _ => true | .bl _, .str _ => true | .str _, .bl _ => true
  | _, _ => false
def rEq : R2 := fun x y H Q => scal x y = true ∧ Q (.bl (decide (x = y))) H
def rNe : R2 := fun x y H Q => scal x y = true ∧ Q (.bl (!decide (x = y))) H

theorem dec_int {i j : Int} : decide (V.int i = V.int j) = (i == j) := by
  rw [Bool.eq_iff_iff]
  simp
theorem dec_bl {i j : Bool} : decide (V.bl i = V.bl j) = (i == j) := by
  rw [Bool.eq_iff_iff]
  simp
theorem dec_str {i j : Str} : decide (V.str i = V.str j) = (i == j) := by
  rw [Bool.eq_iff_iff]
  simp
theorem dec_byt {i j : Array UInt8} : decide (V.byt i = V.byt j) = (i.toList == j.toList) := by
  rw [Bool.eq_iff_iff]
  cases i
  cases j
  simp

section
variable {X : Cx} {a b c : Expr} {ta tb tc : TE} {pos : Pos}
theorem fin_bl {pins : List (Addr × Obj)} {σ : St} {H : Hp} {s : Shared} {Q : VK} {k k' : Bool} (I : Inv X pins σ H s) (q : Q (.bl k) H) (e : k = k') : EP X pins σ Q (.bool k') s := by
  subst e
  exact ⟨.bl k, H, I, rfl, q⟩
theorem op_eq : OpR X (compareOp .Eq) rEq := by
  intro pins s σ H x y v u Q I rx ry h
  obtain ⟨hs, q⟩ := h
  cases x with
  | non =>
    cases rx
    cases y with
    | non => cases ry; exact PySem.EqNone.eq_none_none (fin_bl I q (by simp))
    | bl j => cases ry; exact PySem.EqNone.eq_none_bool (fin_bl I q (by simp))
    | int j => obtain ⟨t', rfl⟩ := ry; exact PySem.EqNone.eq_none_int (fin_bl I q (by simp))
    | str j => obtain ⟨t', rfl⟩ := ry; exact PySem.EqNone.eq_none_str (fin_bl I q (by simp))
    | _ => exact absurd (show false = true from hs) Bool.false_ne_true
  | bl i =>
    cases rx
    cases y with
    | non => cases ry; exact PySem.EqNone.eq_bool_none (fin_bl I q (by simp))
    | bl j => cases ry; exact eq_bool (fin_bl I q dec_bl)
    | str j => obtain ⟨t', rfl⟩ := ry; exact PySem.EqMixed.eq_bool_str (fin_bl I q (by simp))
    | _ => exact absurd (show false = true from hs) Bool.false_ne_true
  | int i =>
    obtain ⟨t, rfl⟩ := rx
    cases y with
    | non => cases ry; exact PySem.EqNone.eq_int_none (fin_bl I q (by simp))
    | int j => obtain ⟨t', rfl⟩ := ry; exact eq_int (fin_bl I q dec_int)
    | str j => obtain ⟨t', rfl⟩ := ry; exact PySem.EqMixed.eq_int_str (fin_bl I q (by simp))
    | _ => exact absurd (show false = true from hs) Bool.false_ne_true
  | str i =>
    obtain ⟨t, rfl⟩ := rx
    cases y with
    | non => cases ry; exact PySem.EqNone.eq_str_none (fin_bl I q (by simp))
    | bl j => cases ry; exact PySem.EqMixed.eq_str_bool (fin_bl I q (by simp))
    | int j => obtain ⟨t', rfl⟩ := ry; exact PySem.EqMixed.eq_str_int (fin_bl I q (by simp))
    | str j => obtain ⟨t', rfl⟩ := ry; exact eq_str (fin_bl I q dec_str)
    | _ => exact absurd (show false = true from hs) Bool.false_ne_true
  | byt i =>
    obtain ⟨t, rfl⟩ := rx
    cases y with
    | byt j => obtain ⟨t', rfl⟩ := ry; exact PySem.W.eq_bytes (fin_bl I q dec_byt)
    | _ => exact absurd (show false = true from hs) Bool.false_ne_true
  | _ => cases y <;> exact absurd (show false = true from hs) Bool.false_ne_true
theorem op_ne : OpR X (compareOp .NotEq) rNe := by
  intro pins s σ H x y v u Q I rx ry h
  obtain ⟨hs, q⟩ := h
  cases x with
  | non =>
    cases rx
    cases y with
    | non => cases ry; exact PySem.EqNone.ne_none_none (fin_bl I q (by simp))
    | bl j => cases ry; exact PySem.EqNone.ne_none_bool (fin_bl I q (by simp))
    | int j => obtain ⟨t', rfl⟩ := ry; exact PySem.EqNone.ne_none_int (fin_bl I q (by simp))
    | str j => obtain ⟨t', rfl⟩ := ry; exact PySem.EqNone.ne_none_str (fin_bl I q (by simp))
    | _ => exact absurd (show false = true from hs) Bool.false_ne_true
  | bl i =>
    cases rx
    cases y with
    | non => cases ry; exact PySem.EqNone.ne_bool_none (fin_bl I q (by simp))
    | bl j => cases ry; exact ne_bool (fin_bl I q (congrArg not dec_bl))
    | str j => obtain ⟨t', rfl⟩ := ry; exact PySem.EqMixed.ne_bool_str (fin_bl I q (by simp))
    | _ => exact absurd (show false = true from hs) Bool.false_ne_true
  | int i =>
    obtain ⟨t, rfl⟩ := rx
    cases y with
    | non => cases ry; exact PySem.EqNone.ne_int_none (fin_bl I q (by simp))
    | int j => obtain ⟨t', rfl⟩ := ry; exact ne_int (fin_bl I q (congrArg not dec_int))
    | str j => obtain ⟨t', rfl⟩ := ry; exact PySem.EqMixed.ne_int_str (fin_bl I q (by simp))
    | _ => exact absurd (show false = true from hs) Bool.false_ne_true
  | str i =>
    obtain ⟨t, rfl⟩ := rx
    cases y with
    | non => cases ry; exact PySem.EqNone.ne_str_none (fin_bl I q (by simp))
    | bl j => cases ry; exact PySem.EqMixed.ne_str_bool (fin_bl I q (by simp))
    | int j => obtain ⟨t', rfl⟩ := ry; exact PySem.EqMixed.ne_str_int (fin_bl I q (by simp))
    | str j => obtain ⟨t', rfl⟩ := ry; exact ne_str (fin_bl I q (congrArg not dec_str))
    | _ => exact absurd (show false = true from hs) Bool.false_ne_true
  | byt i =>
    obtain ⟨t, rfl⟩ := rx
    cases y with
    | byt j => obtain ⟨t', rfl⟩ := ry; exact PySem.W.ne_bytes (fin_bl I q (congrArg not dec_byt))
    | _ => exact absurd (show false = true from hs) Bool.false_ne_true
  | _ => cases y <;> exact absurd (show false = true from hs) Bool.false_ne_true

theorem op_lt : OpR X (compareOp .Lt) (rI0 fun i j => .bl (decide (i < j))) := opB0 fun _ _ _ _ _ _ _ q => lt_int q
theorem op_gt : OpR X (compareOp .Gt) (rI0 fun i j => .bl (decide (j < i))) := opB0 fun _ _ _ _ _ _ _ q => gt_int q
/-- is, is not of two objects that are tracked lists or instances -/
def isObj : HO → Bool
  | .lst _ => true
  | .ins _ _ _ => true
  | _ => false
theorem nomark (b : Expr) {op : CmpOp} (h : op ≠ .In := by decide) (h2 : op ≠ .NotIn := by decide) : behindInMarks op b = false := by
  have e1 : (op == CmpOp.In) = false := by cases op <;> first | rfl | exact absurd rfl h
  have e2 : (op == CmpOp.NotIn) = false := by cases op <;> first | rfl | exact absurd rfl h2
  cases b <;> simp [behindInMarks, e1, e2]
/-- a comparison as a value; hm: nomark b, or (for in, not in) by with_unfolding_all rfl -/
theorem pe_cmpR {op : CmpOp} {r : R2} (ho : OpR X (compareOp op) r) (ha : PE X a ta) (hb : PE X b tb) (hm : behindInMarks op b = false) : PE X (.Compare a [op] [b] pos) (tOp r ta tb) := by
  intro pins s σ H Q I h
  exact wpAny_Compare1 (binT ha hb I h fun v u s2 x y H2 I2 rx ry q => ho pins s2 σ H2 x y v u Q I2 rx ry q) hm
/-- a reading of a value as a test -/
def tTest (t : TE) : TT := fun σ H Q => t σ H fun x H' => ∃ k, x = .bl k ∧ Q k H'
theorem pt_cmpR {op : CmpOp} {r : R2} (ho : OpR X (compareOp op) r) (ha : PE X a ta) (hb : PE X b tb) (hm : behindInMarks op b = false) : PT X (.Compare a [op] [b] pos) (tTest (tOp r ta tb)) := by
  intro pins s σ H Q I h
  refine wpAny_isTrue_Compare1 (thn (ha pins s σ H _ I h) fun v s1 ⟨x, H1, I1, r1, q1⟩ => thn (hb pins s1 σ H1 _ I1 q1) fun u s2 ⟨y, H2, I2, r2, q2⟩ =>
    thn (ho pins s2 σ H2 x y v u _ I2 r1 r2 q2) fun c s3 ⟨z, H3, I3, r3, k, e, q3⟩ => ?_) hm
  subst e
  cases r3
  exact wpAny_truthy_bool ⟨H3, I3, q3⟩
/-- a op1 b op2 c -/
def tChain (r r' : R2) (ta tb tc : TE) : TE := fun σ H Q => ta σ H fun x H1 => tb σ H1 fun y H2 => r x y H2 fun z H3 => ∃ k, z = .bl k ∧
  (if k = true then tc σ H3 fun w' H4 => r' y w' H4 Q else Q (.bl false) H3)
theorem pt_chain {op op' : CmpOp} {r r' : R2} (ho : OpR X (compareOp op) r) (ho' : OpR X (compareOp op') r') (ha : PE X a ta) (hb : PE X b tb) (hc : PE X c tc)
    (hm : lastMarks [op, op'] [b, c] = false := by with_unfolding_all rfl) : PT X (.Compare a [op, op'] [b, c] pos) (tTest (tChain r r' ta tb tc)) := by
  intro pins s σ H Q I h
  refine isTrue_chain (thn (ha pins s σ H _ I h) fun v s1 ⟨x, H1, I1, r1, q1⟩ => test_link (thn (hb pins s1 σ H1 _ I1 q1) fun u s2 ⟨y, H2, I2, r2, q2⟩ =>
    thn (ho pins s2 σ H2 x y v u _ I2 r1 r2 q2) fun d s3 ⟨z, H3, I3, r3, k, e, q3⟩ => ?_)) hm
  subst e
  cases r3
  refine wpAny_truthy_bool ?_
  cases k with
  | false =>
    obtain ⟨k', e', q'⟩ := q3
    cases e'
    exact ite_ff ⟨H3, I3, q'⟩
  | true =>
    refine ite_tt (test_last (thn (hc pins s3 σ H3 _ I3 q3) fun w' s4 ⟨z', H4, I4, r4, q4⟩ => thn (ho' pins s4 σ H4 y z' u w' _ I4 r2 r4 q4) fun d' s5 ⟨z2, H5, I5, r5, k2, e2, q5⟩ => ?_))
    subst e2
    cases r5
    exact wpAny_truthy_bool ⟨H5, I5, q5⟩

/-! ### truth -/
/-- a value's truth by the abstract heap -/
def TruV (K : PySem.W.Frag) (x : V) (H : Hp) (k : Bool) : Prop :=
  match x with
  | .non => k = false
  | .bl b => k = b
  | .int i => k = (i != 0)
  | .str y => y.length ≤ sizeLine ∧ k = ((y.length : Int) != 0)
  | .byt y => y.size ≤ sizeLine ∧ k = ((y.size : Int) != 0)
  | .ref p => (∃ xs, SqL K H p xs ∧ k = !xs.isEmpty) ∨ (∃ xs, SqT K H p xs ∧ k = !xs.isEmpty) ∨ ∃ kvs, H p = some (.dK kvs) ∧ k = !kvs.isEmpty
  | _ => False
theorem line63 : (sizeLine : Nat) < 2 ^ 63 := by rw [sizeLine_eq]; decide
/-! ### strs and bytes -/
theorem op_add_str : OpR X (binaryOp .Add) (fun x y H Q => ∃ i j, x = .str i ∧ y = .str j ∧ i.length + j.length ≤ sizeLine ∧ Q (.str (i ++ j)) H) := by
  intro pins s σ H x y v u Q I rx ry h
  obtain ⟨i, j, rfl, rfl, hz, q⟩ := h
  obtain ⟨t, rfl⟩ := rx
  obtain ⟨t', rfl⟩ := ry
  exact add_str (fun t' tk => ⟨.str (i ++ j), H, I.tok _, ⟨_, rfl⟩, q⟩) hz
def PlainIxT (b : Expr) : Prop := ∀ o i, subscripted b false o i = operate [o, i] (getItem o i)
/-! ### scalar builtins, by CallR -/
theorem vals1 {x : V} {us : List Value} (r : Vals [x] us) : ∃ u, us = [u] ∧ RelV x u := by
  cases r with
  | cons r1 r2 => cases r2; exact ⟨_, rfl, r1⟩
theorem vals2 {x y : V} {us : List Value} (r : Vals [x, y] us) : ∃ u w', us = [u, w'] ∧ RelV x u ∧ RelV y w' := by
  cases r with
  | cons r1 r2 =>
    cases r2 with
    | cons r3 r4 => cases r4; exact ⟨_, _, rfl, r1, r3⟩
theorem call_abs : CallR X (.builtin "abs") (fun xs H Q => ∃ i, xs = [.int i] ∧ Q (.int (if i < 0 then -i else i)) H) := by
  intro pins s σ H xs us Q I r h
  obtain ⟨i, rfl, q⟩ := h
  obtain ⟨u, rfl, t, rfl⟩ := vals1 r
  exact call_abs_int fun u tk => ⟨.int (if i < 0 then -i else i), H, I.tok _, ⟨_, rfl⟩, q⟩
theorem call_max2 (hc : X.calm = true) : CallR X (.builtin "max") (fun xs H Q => ∃ i j, xs = [.int i, .int j] ∧ Q (.int (if j > i then j else i)) H) := by
  intro pins s σ H xs us Q I r h
  obtain ⟨i, j, rfl, q⟩ := h
  obtain ⟨u, w', rfl, ⟨t, rfl⟩, ⟨t', rfl⟩⟩ := vals2 r
  refine max_two_ints (I.ok.hd hc) fun h' tk k => ⟨_, H, I.kept k, ?_, q⟩
  by_cases hj : j > i
  · rw [if_pos hj, if_pos hj]; exact ⟨_, rfl⟩
  · rw [if_neg hj, if_neg hj]; exact ⟨_, rfl⟩
theorem call_min2 (hc : X.calm = true) : CallR X (.builtin "min") (fun xs H Q => ∃ i j, xs = [.int i, .int j] ∧ Q (.int (if j < i then j else i)) H) := by
  intro pins s σ H xs us Q I r h
  obtain ⟨i, j, rfl, q⟩ := h
  obtain ⟨u, w', rfl, ⟨t, rfl⟩, ⟨t', rfl⟩⟩ := vals2 r
  refine min_two_ints (I.ok.hd hc) fun h' tk k => ⟨_, H, I.kept k, ?_, q⟩
  by_cases hj : j < i
  · rw [if_pos hj, if_pos hj]; exact ⟨_, rfl⟩
  · rw [if_neg hj, if_neg hj]; exact ⟨_, rfl⟩
theorem call_int1 : CallR X (.type "int") (fun xs H Q => (∃ i, xs = [.int i] ∧ Q (.int i) H) ∨ ∃ k, xs = [.bl k] ∧ Q (.int (if k then 1 else 0)) H) := by
  intro pins s σ H xs us Q I r h
  rcases h with ⟨i, rfl, q⟩ | ⟨k, rfl, q⟩
  · obtain ⟨u, rfl, t, rfl⟩ := vals1 r
    exact call_int_int ⟨.int i, H, I, ⟨_, rfl⟩, q⟩
  · obtain ⟨u, rfl, r1⟩ := vals1 r
    cases r1
    exact call_int_bool ⟨.int (if k then 1 else 0), H, I.tok _, ⟨_, rfl⟩, q⟩
/-- len of a str, a bytes, a list, a tuple -/
def LenV (K : PySem.W.Frag) (x : V) (H : Hp) (n : Nat) : Prop :=
  match x with
  | .str y => y.length ≤ sizeLine ∧ n = y.length
  | .byt y => y.size ≤ sizeLine ∧ n = y.size
  | .ref p => (∃ xs, SqL K H p xs ∧ n = xs.length) ∨ ∃ xs, SqT K H p xs ∧ n = xs.length
  | _ => False
end
end L2

namespace L2
open PySem PySem.Spec PyProof.Rows

/-! ### an instance, its attributes a map -/
structure ObjM (h : Heap) (x dx C : Addr) (mA : Str → Option Value) : Prop where
  obj : h.get? x = some (PySem.W.instObj C dx)
  ns : h.Ns1 dx mA
  ne : dx ≠ x

theorem lookIn_ns {h : Heap} {dx : Addr} {mA : Str → Option Value} (n : h.Ns1 dx mA) : ∃ od, h.get? dx = some od ∧ ∀ name, PySem.W.lookIn name od = some (mA name) := by
  obtain ⟨o, es, ep, ho, hd, hk, _, hm⟩ := n
  refine ⟨o, ho, fun name => ?_⟩
  have e := hm name
  unfold nsFind findBy at e
  rw [← Array.find?_toList] at e
  unfold PySem.W.lookIn
  rw [hd]
  dsimp only
  split
  · rename_i y q
    rw [q] at e
    exact congrArg some e
  · rename_i q
    rw [q] at e
    have a : es.toList.any (·.refKey) = false := by
      rw [List.any_eq_false]
      intro y hy
      obtain ⟨z, t, hkey⟩ := hk y (Array.mem_toList_iff.mp hy)
      simp [DictEntry.refKey, hkey]
    have a' : ¬ es.toList.any (·.refKey) = true := by rw [a]; exact Bool.false_ne_true
    rw [if_neg a']
    exact congrArg some e

theorem ObjM.look {h : Heap} {x dx C : Addr} {mA : Str → Option Value} (I : ObjM h x dx C mA) : ∃ od, PySem.W.InstAt h x (PySem.W.instObj C dx) C (some od) ∧ ∀ name, PySem.W.lookIn name od = some (mA name) :=
  let ⟨od, ho, hl⟩ := lookIn_ns I.ns
  ⟨od, ⟨I.obj, rfl, rfl, ho⟩, hl⟩

section
variable {prog : Program} {w : World} {A : Around} {E : Value → Shared → Prop} {s : Shared} {K : PySem.W.Frag} {x dx C f : Addr} {mA : Str → Option Value} {name : Str} {v : Value}

end

/-! ### the attributes as a list of pairs -/
def putF (f : Str) (v : V) : List (Str × V) → List (Str × V)
  | [] => [(f, v)]
  | (g, x) :: r => if g = f then (g, v) :: r else (g, x) :: putF f v r
theorem RelO.some_of {v : V} {o : Option Value} (r : RelO (some v) o) : ∃ u, o = some u ∧ RelV v u := by
  cases o with
  | none => exact (show False from r).elim
  | some u => exact ⟨u, rfl, r⟩
section
variable {P : Program} {w : World} {H H' : Hp} {h h' : Heap} {a C dx : Addr} {fs fs' : List (Str × V)}
theorem ins_get (hok : HOk P w H h) (e : H a = some (.ins C dx fs)) : ∃ mA, ObjM h a dx C mA ∧ (∀ f, RelO (fs.lookup f) (mA f)) ∧ PySem.Within mA (fs.map (·.1)) ∧ fs.length ≤ 1000 ∧ H dx = some (.own a) := by
  obtain ⟨d, z, ne, ob, mA, n, r, q⟩ := (show ObjOk P w H h a (.ins C dx fs) from hok a _ e)
  exact ⟨mA, ⟨ob, n, ne⟩, r, q, z, d⟩
end

/-! ### what of the text a class must have -/
structure Cls (K : PySem.W.Frag) (C : Addr) : Prop where
  pg : PySem.W.plainGet K C Str.empty = true
  hd : PySem.W.hasDictIn K C = true
  po : PySem.W.plainOver K C = true
  sa : PySem.W.findIn K (.ref C) "__setattr__" = some (some (.builtin "object.__setattr__"))
theorem Cls.get {K : PySem.W.Frag} {C : Addr} (c : Cls K C) (f : Str) : PySem.W.plainGet K C f = true := c.pg
/-- no class of it has the name -/
def NoAttr (K : PySem.W.Frag) (C : Addr) (f : Str) : Prop := PySem.W.findIn K (.ref C) f = some none
/-- a constant of the class -/
structure Con (K : PySem.W.Frag) (C : Addr) (f : Str) (v : V) (u : Value) : Prop where
  at_ : PySem.W.findIn K (.ref C) f = some (some u)
  rel : RelV v u
  get : PySem.W.specialIn K u "__get__" = some none
  cp : PySem.W.copiedNames.contains f = false
/-- a method: a plain def of the class or of one above it -/
structure Meth (K : PySem.W.Frag) (C : Addr) (m : Str) (f : Addr) : Prop where
  at_ : PySem.W.findIn K (.ref C) m = some (some (.ref f))
  fn : PySem.W.isFn K (.ref f) = true
  kp : PySem.W.keepIn K (.ref f) = true

section
variable {X : Cx} {pins : List (Addr × Obj)} {σ : St} {H : Hp} {s : Shared} {a C dx : Addr} {fs : List (Str × V)} {f : Str} {v : V} {A : Around} {E : Value → Shared → Prop}

end

/-! ### readings and rules -/
/-- e.f, an attribute of the instance -/
def tFld (K : PySem.W.Frag) (ta : TE) (f : Str) : TE := fun σ H Q => ta σ H fun x H1 => ∃ a C dx fs v, x = .ref a ∧ H1 a = some (.ins C dx fs) ∧ Cls K C ∧ NoAttr K C f ∧ fs.lookup f = some v ∧ Q v H1
/-- e.f, a constant of the class -/
def tCon (K : PySem.W.Frag) (ta : TE) (f : Str) : TE := fun σ H Q => ta σ H fun x H1 => ∃ a C dx fs v u, x = .ref a ∧ H1 a = some (.ins C dx fs) ∧ Cls K C ∧ Con K C f v u ∧ fs.lookup f = none ∧ Q v H1
/-- e.f = value -/
def sFld (K : PySem.W.Frag) (ta tv : TE) (f : Str) : TS := fun D σ H => tv σ H fun y H1 => ta σ H1 fun x H2 => ∃ a C dx fs, x = .ref a ∧ H2 a = some (.ins C dx fs) ∧ Cls K C ∧ NoAttr K C f ∧ fs.length < 1000 ∧
  D.nx σ (upd H2 a (.ins C dx (putF f y fs)))
/-- an augmented operator on two values -/
def InOp (X : Cx) (op : Operator) (rd : V → V → Hp → VK → Prop) : Prop :=
  ∀ (pins : List (Addr × Obj)) (s : Shared) (σ : St) (H : Hp) (x y : V) (u v : Value) (Q : VK), Inv X pins σ H s → RelV x u → RelV y v → rd x y H Q → wpAny (model X.prog X.w) X.A (inplaceOp op u v) (EP X pins σ Q) X.xe s
/-- e.f op= value -/
def sFldAug (K : PySem.W.Frag) (ta tv : TE) (rd : V → V → Hp → VK → Prop) (f : Str) : TS := fun D σ H => ta σ H fun x H1 => ∃ a C dx fs v, x = .ref a ∧ H1 a = some (.ins C dx fs) ∧ Cls K C ∧ NoAttr K C f ∧ fs.lookup f = some v ∧
  tv σ H1 fun y H2 => rd v y H2 fun z H3 => ∃ dx' fs', H3 a = some (.ins C dx' fs') ∧ fs'.length < 1000 ∧ D.nx σ (upd H3 a (.ins C dx' (putF f z fs')))

section
variable {X : Cx} {o e value : Expr} {f : Str} {pos pos' tpos : Pos} {ta tv : TE}
def rAdd : V → V → Hp → VK → Prop := fun x y H Q => ∃ i j, x = .int i ∧ y = .int j ∧ Q (.int (i + j)) H
def rSub : V → V → Hp → VK → Prop := fun x y H Q => ∃ i j, x = .int i ∧ y = .int j ∧ Q (.int (i - j)) H
end

/-! ### isinstance -/
section
variable {X : Cx} {pins : List (Addr × Obj)} {σ : St} {H : Hp} {s : Shared} {A : Around} {E : Value → Shared → Prop} {Q : Value → Shared → Prop} {c : Value} {b : Bool}
/-- the type of a value, as the fragment's deciders take it; for an instance its class -/
inductive TyOf (K : PySem.W.Frag) (H : Hp) : V → Value → Prop where
  | non : TyOf K H .non (.type "NoneType")
  | bl (x : Bool) : TyOf K H (.bl x) (.type "bool")
  | int (i : Int) : TyOf K H (.int i) (.type "int")
  | str (x : Str) : TyOf K H (.str x) (.type "str")
  | flt (x : UInt64) : TyOf K H (.flt x) (.type "float")
  | lst {a : Addr} {xs : List V} (e : H a = some (.lst xs)) : TyOf K H (.ref a) (.type "list")
  | frz {a : Addr} {o : Obj} {xs : List V} (e : H a = some (.frz o (.lst xs))) : TyOf K H (.ref a) (.type "list")
  | tup {a : Addr} {xs : List V} (e : H a = some (.tup xs)) : TyOf K H (.ref a) (.type "tuple")
  | dK {a : Addr} {kvs : List (Key × V)} (e : H a = some (.dK kvs)) : TyOf K H (.ref a) (.type "dict")
  | dT {a : Addr} {kvs : List (List Key × V)} (e : H a = some (.dT kvs)) : TyOf K H (.ref a) (.type "dict")
  | ins {a C dx : Addr} {fs : List (Str × V)} (e : H a = some (.ins C dx fs)) (cl : Cls K C) (ha : PySem.W.findIn K (.ref C) "__class__" = some (some (.builtin "object.__class__")))
      (hn : PySem.W.specialIn K (.builtin "object.__class__") "__get__" = some (some (.builtin "getset_descriptor.__get__"))) (htk : PySem.W.takesIn K (.builtin "object.__class__") = some true)
      (hm : PySem.W.mroIn K C (.type "object") = some true) : TyOf K H (.ref a) (.ref C)
/-- isinstance(x, c) for one class c, a built-in or an own one: kitOne's answer -/
theorem isinst_ok {x : V} {u t : Value} (I : Inv X pins σ H s) (rx : RelV x u) (ty : TyOf X.K H x t) (e : PySem.W.kitOne X.K t c = some b) (h : ∀ tk, Q (.bool b) { s with toks := tk }) :
    wpAny (model X.prog X.w) A (call (.builtin "isinstance") [u, c]) Q E s := by
  cases ty with
  | non => cases (show u = Value.none from rx); exact PySem.W.kia_one PySem.W.kitx_none I.kIn True.intro e (fun z => nomatch z) h
  | bl y => cases (show u = Value.bool y from rx); exact PySem.W.kia_one PySem.W.kitx_bool I.kIn True.intro e (fun z => nomatch z) h
  | int i => obtain ⟨t, q⟩ := (show ∃ t, u = Value.int i t from rx); cases q; exact PySem.W.kia_one PySem.W.kitx_int I.kIn True.intro e (fun z => nomatch z) h
  | str y => obtain ⟨t, q⟩ := (show ∃ t, u = Value.str y t from rx); cases q; exact PySem.W.kia_one PySem.W.kitx_str I.kIn True.intro e (fun z => nomatch z) h
  | flt y => obtain ⟨t, q⟩ := (show ∃ t, u = Value.float y t from rx); cases q; exact PySem.W.kia_one PySem.W.kitx_float I.kIn True.intro e (fun z => nomatch z) h
  | @lst a xs ea =>
    cases (show u = Value.ref a from rx)
    obtain ⟨_, _, n, _, h1⟩ := (show ObjOk X.prog X.w H s.heap a (.lst xs) from I.hok a _ ea)
    exact PySem.W.kia_one PySem.W.kitx_list I.kIn ⟨_, h1, rfl⟩ e (fun z => nomatch z) h
  | @frz a ob xs ea =>
    cases (show u = Value.ref a from rx)
    obtain ⟨_, _, _, n, _, h1⟩ := (show ObjOk X.prog X.w H s.heap a (.frz ob (.lst xs)) from I.hok a _ ea)
    exact PySem.W.kia_one PySem.W.kitx_list I.kIn ⟨_, h1, rfl⟩ e (fun z => nomatch z) h
  | @tup a xs ea =>
    cases (show u = Value.ref a from rx)
    obtain ⟨_, _, _, p⟩ := (show ObjOk X.prog X.w H s.heap a (.tup xs) from I.hok a _ ea)
    obtain ⟨o, h1, h2, _⟩ := p
    exact PySem.W.kia_one PySem.W.kitx_tuple I.kIn ⟨o, h1, h2⟩ e (fun z => nomatch z) h
  | @dK a kvs ea =>
    cases (show u = Value.ref a from rx)
    obtain ⟨_, _, vs, _, p⟩ := (show ObjOk X.prog X.w H s.heap a (.dK kvs) from I.hok a _ ea)
    obtain ⟨o, es, ep, h1, h2, _⟩ := p
    exact PySem.W.kia_one PySem.W.kitx_dict I.kIn ⟨o, h1, h2.1⟩ e (fun z => nomatch z) h
  | @dT a kvs ea =>
    cases (show u = Value.ref a from rx)
    obtain ⟨_, _, xs, _, o, es, ep, h1, h2, _⟩ := (show ObjOk X.prog X.w H s.heap a (.dT kvs) from I.hok a _ ea)
    exact PySem.W.kia_one PySem.W.kitx_dict I.kIn ⟨o, h1, h2.1⟩ e (fun z => nomatch z) h
  | @ins a C dx fs ea cl ha hn htk hm =>
    cases (show u = Value.ref a from rx)
    obtain ⟨mA, O, _⟩ := ins_get I.hok ea
    obtain ⟨od, J, _⟩ := O.look
    exact PySem.W.kia_one (PySem.W.kitx_own (cl.get _) cl.hd ha hn htk hm) I.kIn J e (fun z => nomatch z) h
end
end L2

namespace L2
open PySem PySem.Spec PyProof.Rows

/-! ### room -/
structure Room (k : Nat) (A : Around) : Prop where
  hd : A.handled = none
  dp : A.depth + 3 * k + 5 < recursionLimit
  un : A.units + 16 * k + 200 < cLine
  gd : A.guards = some []
theorem Room.mono {j k : Nat} {A : Around} (r : Room k A) (h : j ≤ k) : Room j A := ⟨r.hd, by have := r.dp; omega, by have := r.un; omega, r.gd⟩
theorem Room.deeper {k : Nat} {A : Around} (r : Room (k + 1) A) (env : Env) : Room k (A.deeper env) :=
  ⟨r.hd, by have := r.dp; show A.depth + 1 + 3 * k + 5 < _; omega, by have := r.un; show A.units + 3 + 16 * k + 200 < _; omega, r.gd⟩
theorem Room.depth {k : Nat} {A : Around} (r : Room k A) : A.depth < recursionLimit := by have := r.dp; omega
theorem Room.units {k : Nat} {A : Around} (r : Room k A) : A.units + 64 < cLine := by have := r.un; omega
theorem Room.units0 {k : Nat} {A : Around} (r : Room k A) : A.units < cLine := by have := r.un; omega

/-! ### argument lists and displays -/
def tNil : TA := fun _ H Q => Q [] H
def tCons (ta : TE) (tr : TA) : TA := fun σ H Q => ta σ H fun x H1 => tr σ H1 fun xs H2 => Q (x :: xs) H2
section
variable {X : Cx} {e : Expr} {es : List Expr} {te : TE} {t : TA} {pos : Pos}
theorem pa_nil : PA X [] tNil := fun _ _ _ _ H Q I h => Calls.spliced_nil ⟨[], H, I, .nil, h⟩
theorem pa_cons (ha : PE X e te) (hr : PA X es t) (hs : starEach (e :: es) X.env = (false, eval e X.env) :: starEach es X.env := by rfl) : PA X (e :: es) (tCons te t) := by
  intro pos pins s σ H Q I h
  rw [hs]
  show wpAny _ _ (spliced ((false, eval e X.env) :: backTo pos (starEach es X.env))) _ _ s
  refine Calls.spliced_cons (thn (ha pins s σ H _ I h) fun u s1 ⟨x, H1, I1, r1, q1⟩ => ?_)
  exact thn (hr pos pins s1 σ H1 _ I1 q1) fun us s2 ⟨xs, H2, I2, r2, q2⟩ => ⟨x :: xs, H2, I2, .cons r1 r2, q2⟩

/-- a tuple, a list of written items -/
def tTup (t : TA) : TE := fun σ H Q => t σ H fun xs H1 => xs.length ≤ sizeLine ∧ ∀ p, H1 p = none → Q (.ref p) (upd H1 p (.tup xs))
def tLst (t : TA) : TE := fun σ H Q => t σ H fun xs H1 => xs.length ≤ sizeLine ∧ ∀ p, H1 p = none → Q (.ref p) (upd H1 p (.lst xs))
theorem pe_tup {x1} (h : PA X es t) : PE X (.Tuple es x1 pos) (tTup t) := by
  intro pins s σ H Q I hq
  refine wpAny_Tuple_spliced (thn (h pos pins s σ H _ I hq) fun us s1 ⟨xs, H1, I1, r, z, q⟩ => ⟨by rw [← r.length]; exact z, ?_⟩)
  have hf : H1 s1.heap.objs.size = none := I1.hok.fresh (Nat.le_refl _)
  refine ⟨.ref s1.heap.objs.size, upd H1 s1.heap.objs.size (.tup xs), I1.laid (t' := s1.toks) (fun b u e => Heap.get?_push_of_some _ e) (Nat.le_refl _) ?_, rfl, q _ hf⟩
  exact ⟨z, us, r, ⟨_, Heap.get?_push_size _ rfl, rfl, _, rfl⟩⟩
theorem pe_lst (h : PA X es t) : PE X (.List es pos) (tLst t) := by
  intro pins s σ H Q I hq
  refine wpAny_List_spliced (thn (h pos pins s σ H _ I hq) fun us s1 ⟨xs, H1, I1, r, z, q⟩ => ⟨by rw [← r.length]; exact z, ?_⟩)
  have hf : H1 s1.heap.objs.size = none := I1.hok.fresh (Nat.le_refl _)
  refine ⟨.ref s1.heap.objs.size, upd H1 s1.heap.objs.size (.lst xs), I1.laid (t' := s1.toks) (fun b u e => Heap.get?_push_of_some _ e) (Nat.le_refl _) ?_, rfl, q _ hf⟩
  exact ⟨z, us, 0, r, Heap.get?_push_size _ rfl⟩
end

/-! ### what a def promises -/
/-- a def's promise: the bound arguments in the parameters' order, the heap, the wanted end, the wanted exception -/
abbrev Sp := List V → Hp → VK → XK → Prop
/-- how an exception lies behind a call (file 08 gives it): the callers' frames, abstract heap and state ahead of the call, the wish, the exception, the state -/
abbrev CXT := List Env → Hp → Shared → XK → Value → Shared → Prop

/-- the state at a call -/
structure Env0 (P : Program) (w : World) (K : PySem.W.Frag) (mg : Str → Option Value) (base : Heap) (A : Around) (outer : List Env) (s : Shared) (H : Hp) : Prop where
  frames : A.frames = some outer
  mod : Mod K mg base
  bs : ∀ b o, base.get? b = some o → s.heap.get? b = some o ∧ H b = none
  bsz : base.objs.size ≤ s.heap.objs.size
  funs : s.heap.FunFrames base outer
  frf : ∀ b ∈ frs outer, H b = none
  hok : HOk P w H s.heap
  bare : AllBare s.gens
/-- a call's end -/
def CE (outer : List Env) (P : Program) (w : World) (H : Hp) (s : Shared) (Q : VK) (u : Value) (s' : Shared) : Prop :=
  ∃ v H', s'.os = s.os ∧ AllBare s'.gens ∧ Un (frs outer) [] H H' s.heap s'.heap ∧ HOk P w H' s'.heap ∧ RelV v u ∧ Q v H'
def CR (CX : CXT) (outer : List Env) (P : Program) (w : World) (H : Hp) (s : Shared) (Q : VK) (E : XK) (r : Result) (s' : Shared) : Prop :=
  match r with
  | .ok (.ret u) => CE outer P w H s Q u s'
  | .ok _ => False
  | .error e => CX outer H s E e s'
structure FnOk (P : Program) (w : World) (K : PySem.W.Frag) (mg : Str → Option Value) (base : Heap) (CX : CXT) (k : Nat) (f : Addr) (fd : FuncData) (ps : List Str) (sp : Sp) : Prop where
  len : ∀ vs H Q E, sp vs H Q E → vs.length = ps.length
  run : ∀ (A : Around) (outer : List Env) (s : Shared) (H : Hp) (args : Args) (us : List Value) (vs : List V) (Q : VK) (E : XK), Room k A → Env0 P w K mg base A outer s H → BindsTo s fd args (ps.zip us) → Vals vs us → sp vs H Q E →
    codeAny (model P w) A (.call (.ref f) args) (CR CX outer P w H s Q E) s
section
variable {X : Cx} {pins : List (Addr × Obj)} {σ : St} {H : Hp} {s s' : Shared}
/-- from a body: what a callee wants -/
theorem Inv.env0 (I : Inv X pins σ H s) : Env0 X.prog X.w X.K X.mg X.base X.A X.stack s H :=
  ⟨I.ok.frames, I.ok.mod, I.bs, Nat.le_trans I.ok.bsz I.sz, I.stack, I.stkFree, I.hok, I.bare⟩
/-- behind a call -/
theorem Inv.after {Q : VK} {u : Value} (I : Inv X pins σ H s) (h : CE X.stack X.prog X.w H s Q u s') : EP X pins σ Q u s' := by
  obtain ⟨v, H', os, bare, un, hok, r, q⟩ := h
  obtain ⟨hh, g, d, t, os'⟩ := s'
  obtain rfl : os' = s.os := os
  exact ⟨v, H', I.call (h' := hh) (g' := g) (d' := d) (t' := t) (ch := []) un hok bare (fun b z => absurd z (by simp)), r, q⟩
end

/-! ### calls -/
/-- f(..): the written arguments, then the defaults dvs; E: what is wanted of an exception -/
def tCall (sp : Sp) (dvs : List V) (E : XK) (t : TA) : TE := fun σ H Q => t σ H fun vs H1 => sp (vs ++ dvs) H1 Q E
/-- o.m(..) of an instance of the class at C -/
def tMeth (C : Addr) (m : Str) (sp : Sp) (dvs : List V) (E : XK) (ta : TE) (t : TA) : TE := fun σ H Q => ta σ H fun x H1 => ∃ a dx fs, x = .ref a ∧ H1 a = some (.ins C dx fs) ∧ fs.lookup m = none ∧
  t σ H1 fun vs H2 => sp (x :: (vs ++ dvs)) H2 Q E
/-- C(..): a new instance and its dict, then __init__ -/
def tMake (C : Addr) (sp : Sp) (dvs : List V) (E : XK) (t : TA) : TE := fun σ H Q => t σ H fun vs H1 => ∀ x dx, H1 x = none → H1 dx = none → dx ≠ x →
  sp (.ref x :: (vs ++ dvs)) (upd (upd H1 dx (.own x)) x (.ins C dx [])) (fun v H2 => v = .non ∧ Q (.ref x) H2) E

/-- how the parameters are bound: us the positional arguments, kw the keywords' values by name, ds the defaults that fill up -/
def Binds (K : PySem.W.Frag) (fd : FuncData) (ps : List Str) (ds : List Value) : Prop :=
  ∀ (s : Shared) (us : List Value), K.In s.heap → (us ++ ds).length = ps.length → BindsTo s fd ⟨us, []⟩ (ps.zip (us ++ ds))
/-- every parameter is given -/
theorem Binds.all {K : PySem.W.Frag} {fd : FuncData} {ps : List Str} (h : ∀ us : List Value, us.length = ps.length → bindArgs fd ⟨us, []⟩ = pure (ps.zip us)) : Binds K fd ps [] := fun s us _ hl => by
  rw [List.append_nil] at hl ⊢
  exact .of_eq (h us hl)

/-- an exception of a callee reaches what this body wants of exceptions -/
def Passes (CX : CXT) (X : Cx) (E : XK) : Prop := ∀ (pins : List (Addr × Obj)) (σ : St) (H : Hp) (s : Shared) (e : Value) (s' : Shared), Inv X pins σ H s → CX X.stack H s E e s' → X.xe e s'

section
variable {X : Cx} {CX : CXT} {k : Nat} {f C : Addr} {fd : FuncData} {ps : List Str} {sp : Sp} {dvs : List V} {ds : List Value} {E : XK} {x m : Str} {p pos apos : Pos} {e o : Expr} {es : List Expr} {ta : TE} {t : TA}

/-- the callee runs -/
theorem run_fn {pins : List (Addr × Obj)} {σ : St} {H : Hp} {s : Shared} {Q : VK} {us : List Value} {vs : List V} (F : FnOk X.prog X.w X.K X.mg X.base CX k f fd ps sp) (hr : Room k X.A) (hb : Binds X.K fd ps ds) (hd : Vals dvs ds) (hx : Passes CX X E)
    (I : Inv X pins σ H s) (r : Vals vs us) (h : sp (vs ++ dvs) H Q E) : wpAny (model X.prog X.w) X.A (call (.ref f) us) (EP X pins σ Q) X.xe s := by
  have r2 : Vals (vs ++ dvs) (us ++ ds) := r.append hd
  have hl : (us ++ ds).length = ps.length := by rw [← r2.length]; exact F.len _ _ _ _ h
  refine wpAny_call (codeAny_mono (F.run X.A X.stack s H ⟨us, []⟩ (us ++ ds) (vs ++ dvs) Q E hr I.env0 (hb s us I.kIn hl) r2 h) fun r s' hq => ?_)
  cases r with
  | error e => exact hx pins σ H s e s' I hq
  | ok fl =>
    cases fl with
    | ret u => exact I.after hq
    | next => exact False.elim hq
    | brk => exact False.elim hq
    | cont => exact False.elim hq

theorem pe_call (F : FnOk X.prog X.w X.K X.mg X.base CX k f fd ps sp) (hr : Room k X.A) (hg : Gl X x) (hm : X.mg x = some (.ref f)) (hk : PySem.W.keepIn X.K (.ref f) = true) (hb : Binds X.K fd ps ds) (hd : Vals dvs ds) (hx : Passes CX X E)
    (ha : PA X (e :: es) t) (hdb : (x == ("__debug__" : Str)) = false := by decide) (he : starEach (e :: es) X.env = (false, eval e X.env) :: starEach es X.env := by rfl) (hpl : (backTo pos (starEach es X.env)).any (·.1) = false := by rfl) :
    PE X (.Call (.Name x p) (e :: es) [] pos) (tCall sp dvs E t) := by
  intro pins s σ H Q I h
  refine wpAny_Call_Name_kw (ld_glob I hg hm ?_ hdb)
  refine PySem.W.callWith_K (h₀ := X.base) I.ok.mod.kin hk (thn (ha pos pins s σ H _ I h) fun us s1 ⟨vs, H1, I1, r, q⟩ => ⟨I1.kIn, ?_⟩) he hpl
  exact run_fn F hr hb hd hx I1 r q
/-- what a class must have to be made -/
structure Mk (K : PySem.W.Frag) (C f : Addr) : Prop where
  makes : PySem.W.makesIn K C = true
  init : PySem.W.findIn K (.ref C) "__init__" = some (some (.ref f))
  fn : PySem.W.isFn K (.ref f) = true
  kp : PySem.W.keepIn K (.ref C) = true

end

/-! ### keywords -/
/-- the values of the keywords, from the left -/
def PK (X : Cx) (kws : List Keyword) (t : TA) : Prop :=
  ∀ (pos : Pos) (pins : List (Addr × Obj)) (s : Shared) (σ : St) (H : Hp) (Q : List V → Hp → Prop), Inv X pins σ H s → t σ H Q → wpAny (model X.prog X.w) X.A (evalAll ((backToKw pos (keywordEach kws X.env)).map (·.2))) (AP X pins σ Q) X.xe s
section
variable {X : Cx} {CX : CXT} {k : Nat} {f C : Addr} {fd : FuncData} {ps ks : List Str} {sp : Sp} {E : XK} {x m : Str} {p pos apos kpos : Pos} {e o : Expr} {es : List Expr} {kws : List Keyword} {te ta : TE} {t tk : TA} {nm : Option Str}
/-- how a call with keywords binds: g puts the positional values us and the keywords' values ws (names ks) in the parameters' order, defaults among them -/
structure KBinds (K : PySem.W.Frag) (fd : FuncData) (ps ks : List Str) (g : List Value → List Value → List Value) (gV : List V → List V → List V) : Prop where
  to : ∀ (s : Shared) (us ws : List Value), K.In s.heap → (g us ws).length = ps.length → BindsTo s fd ⟨us, ks.zip ws⟩ (ps.zip (g us ws))
  rel : ∀ {vs : List V} {us : List Value} {zs : List V} {ws : List Value}, Vals vs us → Vals zs ws → Vals (gV vs zs) (g us ws)
def tCallK (sp : Sp) (gV : List V → List V → List V) (E : XK) (t tk : TA) : TE := fun σ H Q => t σ H fun vs H1 => tk σ H1 fun zs H2 => sp (gV vs zs) H2 Q E
variable {g : List Value → List Value → List Value} {gV : List V → List V → List V}
end

/-! ### a def's body keeps its promise -/
/-- names: the parameters first -/
structure FnScope (N P : List Str) (sc : Scope) : Prop where
  kind : sc.kind = .function
  co : sc.isCoroutine = false
  gen : sc.isGenerator = false
  nd : N.Nodup
  pre : N.take P.length = P
  par : ∀ x ∈ P, sc.names.lookup x = some .local ∨ sc.names.lookup x = some .cell
  nofree : ∀ y ∈ sc.names, y.2 ≠ .free

theorem bindL_out {kindOf : Str → Option NameKind} {x : Str} : ∀ {binds : List (Str × Value)} {m : Str → Option Value}, (∀ v, (x, v) ∉ binds) → bindL kindOf binds m x = m x
  | [], _, _ => rfl
  | (n, v) :: r, m, h => by
    unfold bindL
    rw [bindL_out fun w hw => h w (List.mem_cons_of_mem _ hw)]
    split
    · have : x ≠ n := by rintro rfl; exact h v List.mem_cons_self
      simp [this]
    · rfl
theorem bindC_out {kindOf : Str → Option NameKind} {x : Str} : ∀ {binds : List (Str × Value)} {m : Str → Option Value}, (∀ v, (x, v) ∉ binds) → bindC kindOf binds m x = m x
  | [], _, _ => rfl
  | (n, v) :: r, m, h => by
    unfold bindC
    rw [bindC_out fun w hw => h w (List.mem_cons_of_mem _ hw)]
    split
    · rfl
    · have : x ≠ n := by rintro rfl; exact h v List.mem_cons_self
      simp [this]
theorem bindL_get {kindOf : Str → Option NameKind} {x : Str} {v : Value} : ∀ {P : List Str} {vs : List Value} {i : Nat} {m : Str → Option Value}, P.Nodup → P[i]? = some x → vs[i]? = some v → kindOf x = some .local →
    bindL kindOf (P.zip vs) m x = some v
  | [], _, _, _, _, h, _, _ => by simp at h
  | _ :: _, [], _, _, _, _, h, _ => by simp at h
  | p :: P, w :: vs, 0, m, nd, h1, h2, hk => by
    simp at h1 h2; subst h1; subst h2
    show bindL kindOf ((p, w) :: P.zip vs) m p = _
    unfold bindL
    rw [bindL_out fun v hv => (List.nodup_cons.mp nd).1 (List.of_mem_zip hv).1, if_pos hk]
    simp
  | p :: P, w :: vs, i + 1, m, nd, h1, h2, hk => by
    show bindL kindOf ((p, w) :: P.zip vs) m x = _
    unfold bindL
    exact bindL_get (i := i) (List.nodup_cons.mp nd).2 (by simpa using h1) (by simpa using h2) hk
theorem bindC_get {kindOf : Str → Option NameKind} {x : Str} {v : Value} : ∀ {P : List Str} {vs : List Value} {i : Nat} {m : Str → Option Value}, P.Nodup → P[i]? = some x → vs[i]? = some v → kindOf x ≠ some .local →
    bindC kindOf (P.zip vs) m x = some v
  | [], _, _, _, _, h, _, _ => by simp at h
  | _ :: _, [], _, _, _, _, h, _ => by simp at h
  | p :: P, w :: vs, 0, m, nd, h1, h2, hk => by
    simp at h1 h2; subst h1; subst h2
    show bindC kindOf ((p, w) :: P.zip vs) m p = _
    unfold bindC
    rw [bindC_out fun v hv => (List.nodup_cons.mp nd).1 (List.of_mem_zip hv).1, if_neg hk]
    simp
  | p :: P, w :: vs, i + 1, m, nd, h1, h2, hk => by
    show bindC kindOf ((p, w) :: P.zip vs) m x = _
    unfold bindC
    exact bindC_get (i := i) (List.nodup_cons.mp nd).2 (by simpa using h1) (by simpa using h2) hk

/-- the names' values at the entry -/
def start (N : List Str) (vs : List V) : St := vs.map some ++ List.replicate (N.length - vs.length) none

/-- the context of a def's body, at its entry; an exception leaves the frame, then lies as CX says -/
def cxOf (CX : CXT) (P : Program) (w : World) (K : PySem.W.Frag) (mg : Str → Option Value) (base : Heap) (N : List Str) (qual : Str) (scope : Scope) (f : Addr) (cd : Value) (A : Around) (outer : List Env) (s : Shared) (H : Hp) (E : XK) : Cx where
  prog := P
  w := w
  K := K
  mg := mg
  base := base
  A := A.deeper (envOfC qual scope s.heap.objs.size f cd)
  N := N
  s₀ := s
  H₀ := H
  env := envOfC qual scope s.heap.objs.size f cd
  outer := outer
  stack := envOfC qual scope s.heap.objs.size f cd :: outer
  ex := []
  calm := true
  fn := fun _ => true
  pn := []
  xe := fun e s' => wpAny (model P w) (A.deeper (envOfC qual scope s.heap.objs.size f cd)) (leaving (envOfC qual scope s.heap.objs.size f cd) e) (fun _ s'' => CX outer H s E e s'') (fun e' s'' => CX outer H s E e' s'') s'

theorem cell_has {sc : Scope} {n : Nat} {x : Str} (h : sc.names.lookup x = some .cell) : ∃ c, (cellsFrom n sc.names []).lookup x = some c := by
  have q := PySem.W.cellsFrom_some sc.names n [] (.inl h)
  exact Option.isSome_iff_exists.mp q

theorem inv_start {CX : CXT} {P : Program} {w : World} {K : PySem.W.Frag} {mg : Str → Option Value} {base : Heap} {N ps : List Str} {qual : Str} {scope : Scope} {f : Addr} {cd : Value} {A : Around} {outer : List Env} {s s1 : Shared} {H : Hp} {E : XK} {us : List Value} {vs : List V}
    (S : FnScope N ps scope) (hd : A.handled = none) (e0 : Env0 P w K mg base A outer s H) (hl : vs.length = ps.length) (r : Vals vs us)
    (x : InCallC s s.heap.objs.size (bindL (envOfC qual scope s.heap.objs.size f cd).kindOf (ps.zip us) fun _ => none) (cellsFrom (s.heap.objs.size + 1) scope.names []) (bindC (envOfC qual scope s.heap.objs.size f cd).kindOf (ps.zip us) fun _ => none) s1) :
    Inv (cxOf CX P w K mg base N qual scope f cd A outer s H E) [] (start N vs) H s1 := by
  have hpl : ps.length ≤ N.length := by have := congrArg List.length S.pre; rw [List.length_take] at this; omega
  obtain ⟨h1, tk, rfl, hk⟩ := x.done
  have noA : ∀ b : Addr, b ∉ (cxOf CX P w K mg base N qual scope f cd A outer s H E).ex := fun b z => absurd (show b ∈ ([] : List Addr) from z) (by simp)
  refine ⟨⟨e0.mod, S.kind, rfl, rfl, Nat.le_refl _, fun y z c h1 h2 => ?_, fun y hy => ?_, fun y c _ h => ?_, fun _ => hd, Around.frames_deeper e0.frames, .inr ⟨rfl, rfl⟩, fun b z => absurd z (noA b), e0.bs, e0.bsz, fun b _ _ => noA b, fun b z => absurd z (noA b), e0.funs, e0.frf⟩,
    rfl, e0.bare, Un.kept hk, ⟨_, x.toInCall.ns, fun i y v h1 h2 h3 => ?_⟩, fun y c h => ⟨_, x.cell y c h⟩, e0.hok.fresh (Nat.le_refl _), fun y c h => ?_, fun p hp => absurd (show p ∈ ([] : List (Addr × Obj)) from hp) (by simp), e0.hok.kept hk, ?_⟩
  · exact name_of_addr x.apart (PySem.mem_of_lookup h1) (PySem.mem_of_lookup h2)
  · have hy : scope.names.lookup y = some .cell ∨ scope.names.lookup y = some .free := hy
    rcases hy with hy | hy
    · exact cell_has hy
    · exact absurd rfl (S.nofree _ (PySem.mem_of_lookup hy))
  · exact Nat.le_of_lt (x.above y c (PySem.mem_of_lookup h))
  · have hi : i < vs.length := by
      unfold start at h2
      by_cases hi : i < vs.length
      · exact hi
      · rw [List.getElem?_append_right (by simpa using hi)] at h2
        rw [List.getElem?_replicate] at h2
        split at h2 <;> cases h2
    have ha : vs[i]? = some v := by
      unfold start at h2
      rw [List.getElem?_append_left (by simpa using hi), List.getElem?_map] at h2
      cases e : vs[i]? with
      | none => rw [e] at h2; cases h2
      | some a => rw [e] at h2; cases h2; rfl
    obtain ⟨u, hu, rv⟩ := r.get ha
    have hp : ps[i]? = some y := by
      rw [← S.pre, List.getElem?_take_of_lt (by omega)]; exact h1
    have ndP : ps.Nodup := by rw [← S.pre]; exact S.nd.sublist (List.take_sublist _ _)
    refine ⟨u, rv, ?_⟩
    rcases S.par y (List.mem_of_getElem? hp) with k | k
    · exact .inl ⟨k, bindL_get ndP hp hu k⟩
    · obtain ⟨c, e⟩ := cell_has (n := s.heap.objs.size + 1) k
      refine .inr ⟨.inl k, c, e, ?_⟩
      have q := x.cell y c e
      rw [bindC_get ndP hp hu (by show scope.names.lookup y ≠ _; rw [k]; decide)] at q
      exact q
  · exact e0.hok.fresh (Nat.le_of_lt (x.above y c (PySem.mem_of_lookup h)))
  · unfold start
    show _ = N.length
    rw [List.length_append, List.length_map, List.length_replicate]
    omega

/-- THE RULE: a def (or a method) of the text, by its body. The body's reading t is chosen for each entry; it is run at the parameters' values -/
theorem fn_of {CX : CXT} {P : Program} {w : World} {K : PySem.W.Frag} {mg : Str → Option Value} {base : Heap} {k : Nat} {f : Addr} {name qual : Str} {params : Arguments} {body : List Stmt} {scope : Scope} {dV kV doc pm cdv ct oc : Value} {an od : Option Addr}
    {osl : Array (Option Value)} {N ps : List Str} {sp : Sp} (lk : K.lookup f = some ⟨oc, od, .func (PySem.W.fnOf name qual params body scope dV kV doc pm an cdv ct), osl⟩) (hcd : PySem.W.codeIn K cdv qual = true) (S : FnScope N ps scope)
    (len : ∀ vs H Q E, sp vs H Q E → vs.length = ps.length)
    (hbody : ∀ (A : Around) (outer : List Env) (s : Shared) (H : Hp) (vs : List V) (Q : VK) (E : XK), Room k (A.deeper (envOfC qual scope s.heap.objs.size f cdv)) → sp vs H Q E →
      ∃ t, PSs (cxOf CX P w K mg base N qual scope f cdv A outer s H E) body t ∧ t { nx := fun _ H' => Q .non H', rt := Q } (start N vs) H) :
    FnOk P w K mg base CX (k + 1) f (PySem.W.fnOf name qual params body scope dV kV doc pm an cdv ct) ps sp := by
  refine ⟨len, fun A outer s H args us vs Q E hr e0 hb r hsp => ?_⟩
  have hl := len _ _ _ _ hsp
  have KX : K.In s.heap := e0.mod.kin.keeps fun b o e => (e0.bs b o e).1
  have lim : s.heap.NoLimit := e0.mod.nolimit.keeps fun b o e => (e0.bs b o e).1
  have hkind : ∀ y ∈ ps.zip us, scope.names.lookup y.1 = some .local ∨ (scope.names.lookup y.1 = some .cell ∧ ((cellsFrom (s.heap.objs.size + 1) scope.names []).lookup y.1).isSome = true) := fun ⟨n, v⟩ hy => by
    rcases S.par n (List.of_mem_zip hy).1 with q | q
    · exact .inl q
    · exact .inr ⟨q, PySem.W.cellsFrom_some _ _ _ (.inl q)⟩
  refine codeAny_call_function hr.depth (KX _ _ lk) rfl S.co S.gen rfl (PySem.W.codeRec_of KX hcd) (hb _ _ _ _ ?_)
  refine wpAny_newFunctionEnv_cells S.kind hkind fun env he s1 x => ?_
  subst he
  refine ⟨lim.keeps x.toInCall.keep, codeAny_func ?_⟩
  obtain ⟨t, ht, hq⟩ := hbody A outer s H vs Q E (hr.deeper _) hsp
  have I : Inv (cxOf CX P w K mg base N qual scope f cdv A outer s H E) [] (start N vs) H s1 := inv_start S hr.hd e0 hl r x
  refine wpAny_mono (ht [] s1 (start N vs) H _ I hq) (fun fl s' hs => ?_) fun e s' hs => hs
  have fin : ∀ {σ' : St} {H' : Hp} {v : V} {u : Value}, Inv (cxOf CX P w K mg base N qual scope f cdv A outer s H E) [] σ' H' s' → RelV v u → Q v H' → CE outer P w H s Q u s' :=
    fun {σ' H' v u} J rv q => ⟨v, H', J.os, J.bare, J.base, J.hok, rv, q⟩
  cases fl with
  | ret u =>
    obtain ⟨v, σ', H', J, rv, q⟩ := hs
    exact fin J rv q
  | next =>
    obtain ⟨σ', H', J, q⟩ := hs
    exact fin (v := V.non) (u := Value.none) J rfl q
  | brk =>
    obtain ⟨_, _, _, q⟩ := hs
    exact False.elim q
  | cont =>
    obtain ⟨_, _, _, q⟩ := hs
    exact False.elim q
end L2

namespace L2
open PySem PySem.Spec PyProof.Rows
section
variable {X : Cx} {x : Str} {p pos : Pos} {e : Expr} {es : List Expr} {t : TA} {id T : String} {r : List V → Hp → VK → Prop}

def tCB (r : List V → Hp → VK → Prop) (t : TA) : TE := fun σ H Q => t σ H fun vs H1 => r vs H1 Q
/-- f(e, ..), f a built-in function -/
theorem pe_callB (hc : CallR X (.builtin id) r) (hg : Gl X x) (hm : X.mg x = none) (hv : bootBuiltins x = some (.builtin id)) (ha : PA X (e :: es) t) (hn : x ≠ "__name__" := by decide) (hdb : (x == ("__debug__" : Str)) = false := by decide)
    (he : starEach (e :: es) X.env = (false, eval e X.env) :: starEach es X.env := by rfl) (hpl : (backTo pos (starEach es X.env)).any (·.1) = false := by rfl) : PE X (.Call (.Name x p) (e :: es) [] pos) (tCB r t) := by
  intro pins s σ H Q I h
  refine wpAny_Call_Name_kw (ld_blt I hg hm hv ?_ hn hdb)
  exact PyProof.Rows.callWith_builtin1 (thn (ha pos pins s σ H _ I h) fun us s1 ⟨vs, H1, I1, r1, q1⟩ => hc pins s1 σ H1 vs us Q I1 r1 q1) he hpl
/-- T(e, ..), T a built-in type -/
theorem pe_callTy (hc : CallR X (.type T) r) (hg : Gl X x) (hm : X.mg x = none) (hv : bootBuiltins x = some (.type T)) (ha : PA X (e :: es) t) (hn : x ≠ "__name__" := by decide) (hdb : (x == ("__debug__" : Str)) = false := by decide)
    (he : starEach (e :: es) X.env = (false, eval e X.env) :: starEach es X.env := by rfl) (hpl : (backTo pos (starEach es X.env)).any (·.1) = false := by rfl) : PE X (.Call (.Name x p) (e :: es) [] pos) (tCB r t) := by
  intro pins s σ H Q I h
  refine wpAny_Call_Name_kw (ld_blt I hg hm hv ?_ hn hdb)
  exact PyProof.Rows.callWith_type1 (thn (ha pos pins s σ H _ I h) fun us s1 ⟨vs, H1, I1, r1, q1⟩ => hc pins s1 σ H1 vs us Q I1 r1 q1) he hpl
end
end L2

namespace HT
open PySem PyProof.Rows

/-- t < u of tuples of ints -/
def lexLt : List Int → List Int → Bool
  | [], [] => false
  | [], _ :: _ => true
  | _ :: _, [] => false
  | x :: xs, y :: ys => if x = y then lexLt xs ys else decide (x < y)
section
open PySem.SeqAt
open PySem.AutoSeq1 (wpAny_loadPart')
open PySem.MeetsSeq PySem.MeetsSeq2 PySem.MeetsSeq3

end

section
variable {prog : Program} {w : World} {A : Around} {E : Value → Shared → Prop} {s : Shared}

/-! ### t[a:b], not the whole -/
/-- a slice's bound as a place among n (d where it is left out) -/
def sIx (n d : Nat) : Option Int → Nat
  | none => d
  | some v => if v < 0 then (v + (n : Int)).toNat else min v.toNat n
theorem sIx_nat (n d k : Nat) : sIx n d (some (k : Int)) = min k n := by
  show (if (k : Int) < 0 then ((k : Int) + (n : Int)).toNat else min (k : Int).toNat n) = min k n
  rw [if_neg (by omega), Int.toNat_natCast]
end
end HT

namespace L2
open PySem PySem.Spec PyProof.Rows

/-! ### the parts of a slice -/
abbrev TO := St → Hp → (Option Int → Hp → Prop) → Prop
/-- a slice's part (left out, or an int) -/
def PO (X : Cx) (e : Option Expr) (t : TO) : Prop :=
  ∀ (pins : List (Addr × Obj)) (s : Shared) (σ : St) (H : Hp) (Q : Option Int → Hp → Prop), Inv X pins σ H s → t σ H Q →
    wpAny (model X.prog X.w) X.A (evalPart e X.env) (fun u s' => ∃ o H', Inv X pins σ H' s' ∧ IsPart u o ∧ Q o H') X.xe s
def tNoPart : TO := fun _ H Q => Q none H
def tPart (t : TE) : TO := fun σ H Q => t σ H fun x H1 => ∃ i, x = .int i ∧ Q (some i) H1

section
variable {X : Cx} {e : Expr} {te : TE} {lo hi : Option Expr} {tl th : TO} {pos p2 : Pos}

theorem po_none : PO X none tNoPart := by
  intro pins s σ H Q I h
  rw [evalPart_none]
  exact wpAny_pure ⟨none, H, I, .none, h⟩
theorem po_some (h : PE X e te) : PO X (some e) (tPart te) := by
  intro pins s σ H Q I hw
  rw [evalPart_some]
  refine thn (h pins s σ H _ I hw) fun u s1 ⟨x, H1, I1, r1, q1⟩ => ?_
  obtain ⟨i, rfl, q⟩ := q1
  obtain ⟨t, rfl⟩ := r1
  exact ⟨some i, H1, I1, .int i t, q⟩

/-- what a slice of a value is, by values: the slice object stands at sl -/
def SlR (X : Cx) (r : V → Option Int → Option Int → Hp → VK → Prop) : Prop :=
  ∀ (pins : List (Addr × Obj)) (s : Shared) (σ : St) (H : Hp) (x : V) (v vl vu : Value) (lo hi : Option Int) (sl : Addr) (Q : VK), Inv X pins σ H s → RelV x v → s.heap.IsSliceOf sl vl vu .none → IsPart vl lo → IsPart vu hi → r x lo hi H Q →
    ∃ T id, typeLookup (.type T) "__getitem__" = pure (some (.builtin id)) ∧ s.TypeIs v T ∧ wpAny (model X.prog X.w) X.A (getItem v (.ref sl)) (EP X pins σ Q) X.xe s
def tSl (r : V → Option Int → Option Int → Hp → VK → Prop) (te : TE) (tl th : TO) : TE := fun σ H Q => te σ H fun x H1 => tl σ H1 fun l H2 => th σ H2 fun u H3 => r x l u H3 Q
/-- a[lo:hi], any a -/
theorem pe_slice {r : V → Option Int → Option Int → Hp → VK → Prop} (hr : SlR X r) (he : PE X e te) (hl : PO X lo tl) (hu : PO X hi th) : PE X (.Subscript e (.Slice lo hi none p2) pos) (tSl r te tl th) := by
  intro pins s σ H Q I h
  refine Subscript_ (thn (he pins s σ H _ I h) fun v s1 ⟨x, H1, I1, r1, q1⟩ => ?_)
  refine wpAny_Slice (thn (hl pins s1 σ H1 _ I1 q1) fun vl s2 ⟨l, H2, I2, pl, q2⟩ => thn (hu pins s2 σ H2 _ I2 q2) fun vu s3 ⟨u, H3, I3, pu, q3⟩ => ?_)
  rw [evalPart_none]
  refine wpAny_pure ?_
  have I4 : Inv X pins σ H3 { s3 with heap := s3.heap.push { cls := .type "slice", data := .fields #[vl, vu, .none] } } := I3.kept (t' := s3.toks) fun b ob q => Heap.get?_push_of_some _ q
  obtain ⟨T, id, hT, ht, hg⟩ := hr pins { s3 with heap := s3.heap.push { cls := .type "slice", data := .fields #[vl, vu, .none] } } σ H3 x v vl vu l u s3.heap.objs.size Q I4 r1 (Heap.IsSliceOf.new ..) pl pu q3
  show wpAny (model X.prog X.w) X.A (subscriptTail e (.Slice lo hi none p2) v (.ref s3.heap.objs.size)) (EP X pins σ Q) X.xe { s3 with heap := s3.heap.push { cls := .type "slice", data := .fields #[vl, vu, .none] } }
  exact tail_any (ops := [.ref s3.heap.objs.size, v]) ht hT hg (by with_unfolding_all rfl)

/-- the items of xs[lo:hi] -/
def cutV (xs : List V) (lo hi : Option Int) : List V := (xs.drop (HT.sIx xs.length 0 lo)).take (HT.sIx xs.length xs.length hi - HT.sIx xs.length 0 lo)
theorem cutV_length (xs : List V) (lo hi : Option Int) : (cutV xs lo hi).length ≤ xs.length := by
  unfold cutV
  rw [List.length_take, List.length_drop]
  omega
/-- t[lo:hi], not the whole of it (the whole would be t itself) -/
def rSlT (K : PySem.W.Frag) : V → Option Int → Option Int → Hp → VK → Prop := fun x lo hi H Q => ∃ a xs, x = .ref a ∧ SqT K H a xs ∧
  ¬ (HT.sIx xs.length 0 lo = 0 ∧ HT.sIx xs.length xs.length hi = xs.length) ∧ ∀ p, H p = none → Q (.ref p) (upd H p (.tup (cutV xs lo hi)))
/-! ### t < u, t + u -/
def rLtT (K : PySem.W.Frag) : R2 := fun x y H Q => ∃ a b ns ms, x = .ref a ∧ y = .ref b ∧ SqT K H a (ns.map V.int) ∧ SqT K H b (ms.map V.int) ∧ Q (.bl (HT.lexLt ns ms)) H
/-- t + u, t not empty: u empty gives t itself -/
def rCatT (K : PySem.W.Frag) : R2 := fun x y H Q => ∃ a b xs ys, x = .ref a ∧ y = .ref b ∧ SqT K H a xs ∧ SqT K H b ys ∧ xs ≠ [] ∧ xs.length + ys.length ≤ sizeLine ∧
  (ys = [] → Q (.ref a) H) ∧ (ys ≠ [] → ∀ p, H p = none → Q (.ref p) (upd H p (.tup (xs ++ ys))))
end
end L2

namespace L2
open PySem PySem.Spec PyProof.Rows

/-! ### places -/
/-- the place that an index of any sign means -/
def ixN (n : Nat) (i : Int) : Option Nat := if 0 ≤ i then (if i < n then some i.toNat else none) else if -(n : Int) ≤ i then some (i + n).toNat else none
def atI {α : Type} (xs : List α) (i : Int) : Option α := (ixN xs.length i).bind fun j => xs[j]?
theorem ixN_seq {n : Nat} {i : Int} {j : Nat} (h : ixN n i = some j) : seqIndex? i n = some j ∧ j < n ∧ -(n : Int) ≤ i ∧ i < n := by
  unfold ixN at h
  by_cases h0 : 0 ≤ i
  · rw [if_pos h0] at h
    by_cases h1 : i < n
    · rw [if_pos h1] at h
      have e : i.toNat = j := Option.some.inj h
      exact ⟨by rw [seqIndex_of h0 h1, e], by omega, by omega, h1⟩
    · rw [if_neg h1] at h; cases h
  · rw [if_neg h0] at h
    by_cases h1 : -(n : Int) ≤ i
    · rw [if_pos h1] at h
      have e : (i + n).toNat = j := Option.some.inj h
      exact ⟨by rw [seqIndex_neg (by omega) h1, e], by omega, h1, by omega⟩
    · rw [if_neg h1] at h; cases h
theorem atI_get {α : Type} {xs : List α} {i : Int} {v : α} (h : atI xs i = some v) : ∃ j, seqIndex? i xs.length = some j ∧ xs[j]? = some v ∧ j < xs.length ∧ -(xs.length : Int) ≤ i ∧ i < xs.length := by
  unfold atI at h
  cases e : ixN xs.length i with
  | none => rw [e] at h; cases h
  | some j =>
    rw [e] at h
    obtain ⟨h1, h2, h3, h4⟩ := ixN_seq e
    exact ⟨j, h1, h, h2, h3, h4⟩
theorem atI_nat {α : Type} {xs : List α} {j : Nat} {v : α} (h : xs[j]? = some v) : atI xs (j : Int) = some v := by
  have hj : j < xs.length := (List.getElem?_eq_some_iff.mp h).1
  have e : ixN xs.length (j : Int) = some j := by
    unfold ixN
    rw [if_pos (by omega), if_pos (by omega)]; simp
  unfold atI; rw [e]; exact h
theorem atI_last {α : Type} (xs : List α) (v : α) : atI (xs ++ [v]) (-1) = some v := by
  have hl : (xs ++ [v]).length = xs.length + 1 := by simp
  have e : ixN (xs ++ [v]).length (-1) = some xs.length := by
    unfold ixN
    rw [hl, if_neg (by decide), if_pos (by omega)]
    congr 1
    omega
  unfold atI
  rw [e]
  show (xs ++ [v])[xs.length]? = some v
  simp

/-! ### what may be subscripted -/
/-- what stands as an index of a plain subscript -/
def PlainIx (b : Expr) : Prop := ∀ o i, subscripted b false o i = operate [o, i] (getItem o i)
/-- a subscript by values -/
def IxR (X : Cx) (r : R2) : Prop :=
  ∀ (value slice : Expr) (pins : List (Addr × Obj)) (s : Shared) (σ : St) (H : Hp) (x y : V) (v u : Value) (Q : VK), Inv X pins σ H s → RelV x v → RelV y u → r x y H Q →
    subscripted slice false v u = operate [v, u] (getItem v u) → wpAny (model X.prog X.w) X.A (subscriptTail value slice v u) (EP X pins σ Q) X.xe s
/-- a call of a builtin's method by values: the receiver, the arguments -/
def MtR (X : Cx) (id : String) (r : V → List V → Hp → VK → Prop) : Prop :=
  ∀ (pins : List (Addr × Obj)) (s : Shared) (σ : St) (H : Hp) (x : V) (xs : List V) (v : Value) (us : List Value) (Q : VK), Inv X pins σ H s → RelV x v → Vals xs us → r x xs H Q →
    wpAny (model X.prog X.w) X.A (call (.builtin id) (v :: us)) (EP X pins σ Q) X.xe s
section
variable {X : Cx} {a b : Expr} {ta tb : TE} {pos : Pos}
/-- a[b] -/
theorem pe_ix {r : R2} (hr : IxR X r) (ha : PE X a ta) (hb : PE X b tb) (hs : PlainIx b) : PE X (.Subscript a b pos) (tOp r ta tb) := by
  intro pins s σ H Q I h
  exact Subscript_ (binT ha hb I h fun v u s2 x y H2 I2 rx ry q => hr a b pins s2 σ H2 x y v u Q I2 rx ry q (hs _ _))

def rIxL (K : PySem.W.Frag) : R2 := fun x y H Q => ∃ p xs i v, x = .ref p ∧ y = .int i ∧ SqL K H p xs ∧ atI xs i = some v ∧ Q v H
def rIxT (K : PySem.W.Frag) : R2 := fun x y H Q => ∃ p xs i v, x = .ref p ∧ y = .int i ∧ SqT K H p xs ∧ atI xs i = some v ∧ Q v H
def rIxS : R2 := fun x y H Q => ∃ z i c, x = .str z ∧ y = .int i ∧ z.length ≤ sizeLine ∧ atI z.cps.toList i = some c ∧ Q (.str ⟨#[c]⟩) H
theorem ix_list : IxR X (rIxL X.K) := by
  intro value slice pins s σ H x y v u Q I rx ry h hs
  obtain ⟨p, xs, i, z, rfl, rfl, hq, he, q⟩ := h
  cases rx
  obtain ⟨t, rfl⟩ := ry
  obtain ⟨its, r, pl, hz⟩ := I.list hq
  obtain ⟨j, h1, h2, h3, h4, h5⟩ := atI_get he
  obtain ⟨w, ew, rw'⟩ := r.get h2
  have hl := r.length
  have hn := line63
  have fin : EP X pins σ Q w s := ⟨z, H, I, rw', q⟩
  by_cases h0 : 0 ≤ i
  · have hj : i.toNat = j := by
      rw [seqIndex_of h0 h5] at h1
      exact Option.some.inj h1
    exact item_listR pl.isList h0 (by omega) (by rw [hj]; simpa using ew) fin hs
  · have hj : (i + (its.toArray.size : Int)).toNat = j := by
      rw [seqIndex_neg (by omega) h4] at h1
      rw [List.size_toArray, ← hl]
      exact Option.some.inj h1
    exact subscriptTail_builtinR (x := w) pl.isList.typeIs slot_list_getitem.lookup
      (wpAny_getItem_list_neg (Q := fun r s' => r = w ∧ EP X pins σ Q r s') pl.isList (by omega) (by rw [List.size_toArray] <;> omega) (by omega) (by rw [hj]; simpa using ew) ⟨rfl, fin⟩) hs
theorem ix_tup : IxR X (rIxT X.K) := by
  intro value slice pins s σ H x y v u Q I rx ry h hs
  obtain ⟨p, xs, i, z, rfl, rfl, hq, he, q⟩ := h
  cases rx
  obtain ⟨t, rfl⟩ := ry
  obtain ⟨its, r, pl, hz⟩ := I.tuple hq
  obtain ⟨j, h1, h2, h3, h4, h5⟩ := atI_get he
  obtain ⟨w, ew, rw'⟩ := r.get h2
  have hl := r.length
  have hn := line63
  have fin : EP X pins σ Q w s := ⟨z, H, I, rw', q⟩
  exact subscriptTail_builtinR (x := w) pl.typeIs slot_tuple_getitem.lookup
    (getItem_tuple (j := j) (Q := fun r s' => r = w ∧ EP X pins σ Q r s') pl (by omega) (by omega) (by rw [List.size_toArray, ← hl]; exact h1) (by simpa using ew) ⟨rfl, fin⟩) hs
/-- list, tuple or str -/
def rIx (K : PySem.W.Frag) : R2 := fun x y H Q => rIxL K x y H Q ∨ rIxT K x y H Q ∨ rIxS x y H Q
/-! ### xs[i] = v, any sign -/
def rSetL : V → V → V → Hp → (Hp → Prop) → Prop := fun o i v H Q => ∃ p xs k j, o = .ref p ∧ i = .int k ∧ H p = some (.lst xs) ∧ ixN xs.length k = some j ∧ Q (upd H p (.lst (xs.set j v)))
/-! ### slices -/
theorem slice_bounds (lo hi : Option Int) (n : Nat) : (sliceBounds lo hi none n).1 = ((HT.sIx n 0 lo : Nat) : Int) ∧ (sliceBounds lo hi none n).2.1 = ((HT.sIx n n hi : Nat) : Int) ∧ (sliceBounds lo hi none n).2.2 = 1 := by
  refine ⟨?_, ?_, rfl⟩
  · cases lo with
    | none => simp [sliceBounds, HT.sIx]
    | some i =>
      simp only [sliceBounds, HT.sIx, Option.getD_none, show (1 : Int) > 0 by decide, if_true]
      by_cases h : i < 0
      · simp only [h, if_true] <;> omega
      · simp only [h, if_false] <;> omega
  · cases hi with
    | none => simp [sliceBounds, HT.sIx]
    | some i =>
      simp only [sliceBounds, HT.sIx, Option.getD_none, show (1 : Int) > 0 by decide, if_true]
      by_cases h : i < 0
      · simp only [h, if_true] <;> omega
      · simp only [h, if_false] <;> omega
theorem slicePick_cut (its : List Value) (lo hi : Option Int) : slicePick its.toArray lo hi none = ((its.drop (HT.sIx its.length 0 lo)).take (HT.sIx its.length its.length hi - HT.sIx its.length 0 lo)).toArray := by
  obtain ⟨h1, h2, h3⟩ := slice_bounds lo hi its.toArray.size
  unfold slicePick
  rw [h1, h2, h3]
  simp only [sliceRange_one, pick_run, List.size_toArray] <;> rfl
/-- xs[lo:hi] of a list: a new list -/
def rSlL (K : PySem.W.Frag) : V → Option Int → Option Int → Hp → VK → Prop := fun x lo hi H Q => ∃ a xs, x = .ref a ∧ SqL K H a xs ∧ ∀ p, H p = none → Q (.ref p) (upd H p (.lst (cutV xs lo hi)))
theorem sl_list : SlR X (rSlL X.K) := by
  intro pins s σ H x v vl vu lo hi sl Q I rx hs pl pu h
  obtain ⟨a, xs, rfl, hx, q⟩ := h
  cases rx
  obtain ⟨its, r, ht, hz⟩ := I.list hx
  have hlen := r.length
  refine ⟨"list", _, slot_list_getitem.lookup, ht.isList.typeIs, ?_⟩
  refine wpAny_getItem_list_slice ht.isList hs pl pu .none (by simp) ?_ (by rw [List.size_toArray] <;> omega)
  rw [slicePick_cut, ← hlen]
  refine ⟨.ref s.heap.objs.size, _, I.laid (t' := s.toks) (o := .lst (cutV xs lo hi)) (fun b ob q => Heap.get?_push_of_some _ q) (Nat.le_refl _) ?_, rfl, q _ (I.hok.fresh (Nat.le_refl _))⟩
  exact ⟨Nat.le_trans (cutV_length xs lo hi) hz, _, 0, (r.drop (HT.sIx xs.length 0 lo)).take (HT.sIx xs.length xs.length hi - HT.sIx xs.length 0 lo), Heap.get?_push_size _ rfl⟩

/-! ### in, not in: flat items -/
def flatV : V → Bool
  | .non => true
  | .bl _ => true
  | .int _ => true
  | .str _ => true
  | _ => false
/-- == of flat values -/
def eqV : V → V → Bool
  | .non, .non => true
  | .bl a, .bl b => a == b
  | .bl a, .int b => (if a then 1 else 0) == b
  | .int a, .bl b => a == (if b then 1 else 0)
  | .int a, .int b => a == b
  | .str a, .str b => a == b
  | _, _ => false
/-- the items' answers, read off the values (a value's own answer does not lean on its token) -/
def eqU (x : V) (u : Value) : Bool := match u with
  | .none => eqV .non x
  | .bool b => eqV (.bl b) x
  | .int i _ => eqV (.int i) x
  | .str z _ => eqV (.str z) x
  | _ => false
def inV (x : V) (xs : List V) : Bool := xs.any fun y => eqV y x
/-- x in a list or tuple of flat items -/
def rIn (K : PySem.W.Frag) (neg : Bool) : R2 := fun x y H Q => ∃ p xs, y = .ref p ∧ (SqL K H p xs ∨ SqT K H p xs) ∧ flatV x = true ∧ xs.all flatV = true ∧ Q (.bl (if neg then !inV x xs else inV x xs)) H
/-! ### len, list(x), tuple(x) of any list or tuple that is read -/
theorem call_len_seq : CallR X (.builtin "len") (fun xs H Q => ∃ p ys, xs = [.ref p] ∧ (SqL X.K H p ys ∨ SqT X.K H p ys) ∧ Q (.int ys.length) H) := by
  intro pins s σ H xs us Q I r h
  obtain ⟨p, ys, rfl, hq, q⟩ := h
  obtain ⟨u, rfl, rx⟩ := vals1 r
  cases rx
  have hn := line63
  rcases hq with hq | hq
  · obtain ⟨its, r', pl, hz⟩ := I.list hq
    have hlen := r'.length
    exact Calls.call_len_list pl.isList (by simp only [List.size_toArray] <;> omega) ⟨.int ys.length, H, I.tok _, ⟨s.toks + 1, by rw [List.size_toArray, hlen]⟩, q⟩
  · obtain ⟨its, r', pl, hz⟩ := I.tuple hq
    have hlen := r'.length
    exact len_tuple pl (by simp only [List.size_toArray] <;> omega) ⟨.int ys.length, H, I.tok _, ⟨s.toks + 1, by rw [List.size_toArray, hlen]⟩, q⟩
/-! ### the call of a builtin's method: o.m(..) -/
/-- the value is of that builtin type -/
def tyV (K : PySem.W.Frag) (T : String) (x : V) (H : Hp) : Prop := match x with
  | .str _ => T = "str"
  | .int _ => T = "int"
  | .ref p => (T = "list" ∧ ∃ xs, SqL K H p xs) ∨ (T = "tuple" ∧ ∃ o, K.lookup p = some o ∧ o.cls = .type "tuple" ∧ o.dict = none) ∨
      (T = "dict" ∧ ((∃ kvs, H p = some (.dK kvs)) ∨ ∃ kvs, H p = some (.dT kvs))) ∨ (T = "set" ∧ ∃ S n, H p = some (.set S n))
  | _ => False
theorem tyV_is {pins : List (Addr × Obj)} {σ : St} {H : Hp} {s : Shared} {T : String} {x : V} {v : Value} (I : Inv X pins σ H s) (r : RelV x v) (ty : tyV X.K T x H) :
    s.TypeIs v T ∧ ∀ a, v = .ref a → ∃ ob, s.heap.get? a = some ob ∧ ob.dict = none := by
  cases x with
  | str z =>
    obtain ⟨t, rfl⟩ := r
    cases (show T = "str" from ty)
    exact ⟨typeIs_str s z t, fun _ e => nomatch e⟩
  | int i =>
    obtain ⟨t, rfl⟩ := r
    cases (show T = "int" from ty)
    exact ⟨typeIs_int s i t, fun _ e => nomatch e⟩
  | ref p =>
    cases r
    rcases ty with ⟨rfl, xs, hq⟩ | ⟨rfl, o, hk, hc, hd⟩ | ⟨rfl, hk⟩ | ⟨rfl, S, n, hk⟩
    · obtain ⟨its, _, pl, _⟩ := I.list hq
      refine ⟨pl.isList.typeIs, fun a e => ?_⟩
      cases e
      obtain ⟨o, n, e, c, hd, _⟩ := pl
      exact ⟨o, e, hd⟩
    · refine ⟨⟨o, I.kIn p o hk, hc⟩, fun a e => ?_⟩
      cases e
      exact ⟨o, I.kIn _ o hk, hd⟩
    · have z : ∃ o, s.heap.get? p = some o ∧ o.ExactDict := by
        rcases hk with ⟨kvs, hk⟩ | ⟨kvs, hk⟩
        · obtain ⟨_, _, _, _, o, _, _, e, ex, _⟩ := I.hok p _ hk
          exact ⟨o, e, ex⟩
        · obtain ⟨_, _, _, _, o, _, _, e, ex, _⟩ := I.hok p _ hk
          exact ⟨o, e, ex⟩
      obtain ⟨o, e, ex⟩ := z
      refine ⟨⟨o, e, ex.1⟩, fun a e2 => ?_⟩
      cases e2
      exact ⟨o, e, ex.2.1⟩
    · obtain ⟨o, _, _, _, e, ex, _⟩ := I.hok p _ hk
      refine ⟨⟨o, e, ex.1⟩, fun a e2 => ?_⟩
      cases e2
      exact ⟨o, e, ex.2.1⟩
  | _ => exact False.elim ty
def tBM0 (K : PySem.W.Frag) (T : String) (r : V → List V → Hp → VK → Prop) (to : TE) : TE := fun σ H Q => to σ H fun x H1 => tyV K T x H1 ∧ r x [] H1 Q
def tBM (K : PySem.W.Frag) (T : String) (r : V → List V → Hp → VK → Prop) (to : TE) (t : TA) : TE := fun σ H Q => to σ H fun x H1 => tyV K T x H1 ∧ t σ H1 fun xs H2 => r x xs H2 Q
variable {o e : Expr} {es : List Expr} {to : TE} {t : TA} {name : Str} {apos cpos : Pos} {T id : String} {r : V → List V → Hp → VK → Prop}
theorem pe_bm0 (pa : PlainAttrs T) (slot : Slot T name id) (hty : typeOf (.builtin id) = pure (.type "method_descriptor")) (hm : MtR X id r) (ho : PE X o to)
    (hbase : attributeBase o name X.env (eval o X.env) = eval o X.env := by rfl) (hline : (apos.endLine == cpos.line) = true := by rfl) : PE X (.Call (.Attribute o name apos) [] [] cpos) (tBM0 X.K T r to) := by
  intro pins s σ H Q I h
  refine wpAny_Call_method0_late hbase hline (thn (ho pins s σ H _ I h) fun v s1 ⟨x, H1, I1, r1, ty, q1⟩ => ?_)
  obtain ⟨h1, h2⟩ := tyV_is I1 r1 ty
  exact ⟨T, id, pa, slot, hty, h1, h2, Calls.callWith_builtin rfl (PySem.evalArgs_none (hm pins s1 σ H1 x [] v [] Q I1 r1 .nil q1))⟩
theorem pe_bm (pa : PlainAttrs T) (slot : Slot T name id) (hty : typeOf (.builtin id) = pure (.type "method_descriptor")) (hm : MtR X id r) (ho : PE X o to) (ha : PA X (e :: es) t)
    (hbase : attributeBase o name X.env (eval o X.env) = eval o X.env := by rfl)
    (hfew : ((backTo cpos (starEach (e :: es) X.env)).all (fun x => !x.1) && (backToKw cpos (keywordEach [] X.env)).all (fun x => x.1.isSome)
      && decide ((e :: es).length + ([] : List Keyword).length + (if ([] : List Keyword).isEmpty then 0 else 1) < 30)) = true := by rfl)
    (hline : (apos.endLine == cpos.line) = true := by rfl) (hs : starEach (e :: es) X.env = (false, eval e X.env) :: starEach es X.env := by rfl) (hplain : (backTo cpos (starEach es X.env)).any (·.1) = false := by rfl) :
    PE X (.Call (.Attribute o name apos) (e :: es) [] cpos) (tBM X.K T r to t) := by
  intro pins s σ H Q I h
  refine wpAny_Call_method_late hbase hfew hline rfl (thn (ho pins s σ H _ I h) fun v s1 ⟨x, H1, I1, r1, ty, q1⟩ => ?_)
  obtain ⟨h1, h2⟩ := tyV_is I1 r1 ty
  refine ⟨T, id, pa, slot, hty, h1, h2, ?_⟩
  have hA := ha cpos pins s1 σ H1 _ I1 q1
  rw [hs] at hA ⊢
  refine Calls.callWith_builtin (by show (false || (backTo cpos (starEach es X.env)).any (·.1)) = false; rw [hplain] <;> rfl) (Calls.evalArgs_plain ?_)
  exact thn hA fun us s2 ⟨vs, H2, I2, r2, q2⟩ => hm pins s2 σ H2 x vs v us Q I2 r1 r2 q2
/- xs.append(e), list.index on a module's tuple .. are MtR facts of 06m -/
end
end L2

namespace L2
open PySem PySem.Spec PyProof.Rows

def MtM (X : Cx) (id : String) (r : V → List V → Hp → VK → Prop) : Prop :=
  ∀ (pins : List (Addr × Obj)) (s : Shared) (σ : St) (H : Hp) (x : V) (xs : List V) (v : Value) (us : List Value) (Q : VK), Inv X pins σ H s → RelV x v → Vals xs us → r x xs H Q →
    wpAny (model X.prog X.w) X.A (call (.builtin id) (v :: us)) (EP X pins σ Q) X.xe s

/-! ### lists of values -/
theorem Vals.one : ∀ {x : V} {us : List Value}, Vals [x] us → ∃ u, us = [u] ∧ RelV x u
  | _, _, .cons r .nil => ⟨_, rfl, r⟩
theorem Vals.two : ∀ {x y : V} {us : List Value}, Vals [x, y] us → ∃ u v, us = [u, v] ∧ RelV x u ∧ RelV y v
  | _, _, _, .cons r (.cons q .nil) => ⟨_, _, rfl, r, q⟩
theorem Vals.zero : ∀ {us : List Value}, Vals [] us → us = []
  | _, .nil => rfl
theorem Vals.dropLast {xs : List V} {us : List Value} (h : Vals xs us) : Vals xs.dropLast us.dropLast := by
  induction h with
  | nil => exact .nil
  | cons r t ih =>
    cases t with
    | nil => exact .nil
    | cons q t' => exact .cons r ih
theorem erase_last {α : Type} (l : List α) : l.eraseIdx (l.length - 1) = l.dropLast := by
  induction l with
  | nil => rfl
  | cons a r ih =>
    cases r with
    | nil => rfl
    | cons b r =>
      have e : (a :: b :: r).length - 1 = ((b :: r).length - 1) + 1 := by
        have h1 : (a :: b :: r).length = r.length + 2 := rfl
        have h2 : (b :: r).length = r.length + 1 := rfl
        omega
      rw [e, List.eraseIdx_cons_succ, ih]
      all_goals rfl
section
variable {X : Cx} {pins : List (Addr × Obj)} {σ : St} {H : Hp} {s : Shared} {l b : Addr} {xs ys zs : List V}

/-! ### the two steps: a tracked list is rewritten, a new list is laid -/
theorem Inv.lset {its its' : List Value} {n : Nat} {f : Array Value → Array Value} {t' : Nat} (I : Inv X pins σ H s) (hH : H l = some (.lst xs))
    (e : s.heap.get? l = some { cls := .type "list", data := .seq its.toArray n }) (hf : f its.toArray = its'.toArray) (hv : Vals ys its') (hz : ys.length ≤ sizeLine) :
    Inv X pins σ (upd H l (.lst ys)) { s with heap := s.heap.update l (Obj.mapSeq f), toks := t' } := by
  have q := PySem.IsL.update e f
  rw [hf] at q
  refine I.write (x := l) (e := l) (by rw [hH]; exact trivial) (.inl rfl) (fun b' u hb hu => (Heap.get?_update_other s.heap (Obj.mapSeq f) (Ne.symm hb)).trans hu) ⟨_, q⟩ ?_
  exact ⟨hz, its', _, hv, q⟩
theorem Inv.lnew {its : List Value} {t' : Nat} (I : Inv X pins σ H s) (hv : Vals ys its) (hz : ys.length ≤ sizeLine) :
    Inv X pins σ (upd H s.heap.objs.size (.lst ys)) { s with heap := s.heap.push { cls := .type "list", data := .seq its.toArray }, toks := t' } :=
  I.laid (fun _ _ q => Heap.get?_push_of_some _ q) (Nat.le_refl _) ⟨hz, its, 0, hv, Heap.get?_push_size _ rfl⟩
theorem Inv.fresh (I : Inv X pins σ H s) : H s.heap.objs.size = none := I.hok.fresh (Nat.le_refl _)
theorem Inv.lstM (I : Inv X pins σ H s) (hH : H l = some (.lst xs)) : xs.length ≤ sizeLine ∧ ∃ (its : List Value) (n : Nat), Vals xs its ∧ xs.length = its.length ∧ s.heap.get? l = some { cls := .type "list", data := .seq its.toArray n } := by
  obtain ⟨z, its, n, r, e⟩ := I.hok l _ hH
  exact ⟨z, its, n, r, r.length, e⟩

theorem notLongL {n : Nat} (h : n ≤ sizeLine) : Builtin.List.listTooLong n = false := by
  unfold Builtin.List.listTooLong
  exact decide_eq_false (by omega)
end

section
variable {X : Cx}

/-! ### methods -/
def rAppend : V → List V → Hp → VK → Prop := fun x vs H Q => ∃ l xs y, x = .ref l ∧ vs = [y] ∧ H l = some (.lst xs) ∧ xs.length < sizeLine ∧ Q .non (upd H l (.lst (xs ++ [y])))
theorem mt_append : MtM X "list.append" rAppend := by
  intro pins s σ H x vs v us Q I rx rv h
  obtain ⟨l, xs, y, rfl, rfl, hH, hz, q⟩ := h
  cases rx
  obtain ⟨u, rfl, ru⟩ := rv.one
  obtain ⟨z, its, n, r, hl, e⟩ := I.lstM hH
  refine call_meets F.slot_list_append ⟨_, e, rfl⟩ F.entry_list_append (F.args_list_append_2 _ _) (PySem.list_append l its.toArray n u (by rw [List.size_toArray]; omega)) ⟨e, ?_⟩
  refine ⟨.non, _, I.lset (its' := its ++ [u]) hH e (by simp) (r.append (.cons ru .nil)) ?_, rfl, q⟩
  rw [List.length_append, List.length_singleton]
  omega

def rExtend : V → List V → Hp → VK → Prop := fun x vs H Q => ∃ l b xs zs, x = .ref l ∧ vs = [.ref b] ∧ H l = some (.lst xs) ∧ H b = some (.lst zs) ∧ xs.length + zs.length ≤ sizeLine ∧ Q .non (upd H l (.lst (xs ++ zs)))
theorem mt_extend : MtM X "list.extend" rExtend := by
  intro pins s σ H x vs v us Q I rx rv h
  obtain ⟨l, b, xs, zs, rfl, rfl, hH, hB, hz, q⟩ := h
  cases rx
  obtain ⟨u, rfl, ru⟩ := rv.one
  cases ru
  obtain ⟨z, its, n, r, hl, e⟩ := I.lstM hH
  obtain ⟨z2, its2, n2, r2, hl2, e2⟩ := I.lstM hB
  have hsz : its.toArray.size + its2.toArray.size ≤ sizeLine := by rw [List.size_toArray, List.size_toArray]; omega
  have hlong : ¬ (!its.toArray.isEmpty && Builtin.List.listTooLong (its.toArray.size + its2.toArray.size)) = true := by
    rw [notLongL hsz, Bool.and_false]
    exact Bool.false_ne_true
  refine call_meets F.slot_list_extend ⟨_, e, rfl⟩ F.entry_list_extend (F.args_list_extend_2 _ _)
    (AutoSeq1.list_extend_list_list_0 l its.toArray n b its2.toArray n2 hlong (by rw [List.size_toArray]; omega) (by omega)) ⟨e, e2, ?_⟩
  refine ⟨.non, _, I.lset (its' := its ++ its2) hH e (by simp) (r.append r2) ?_, rfl, q⟩
  rw [List.length_append]
  omega

def rPop : V → List V → Hp → VK → Prop := fun x vs H Q => ∃ l xs y, x = .ref l ∧ vs = [] ∧ H l = some (.lst xs) ∧ xs[xs.length - 1]? = some y ∧ Q y (upd H l (.lst xs.dropLast))
theorem mt_pop : MtM X "list.pop" rPop := by
  intro pins s σ H x vs v us Q I rx rv h
  obtain ⟨l, xs, y, rfl, rfl, hH, hy, q⟩ := h
  cases rx
  have hus := rv.zero
  subst hus
  obtain ⟨z, its, n, r, hl, e⟩ := I.lstM hH
  obtain ⟨u, hu, ru⟩ := r.get hy
  have hy' : its.toArray[its.toArray.size - 1]? = some u := by
    show its.toArray[its.length - 1]? = some u
    rw [← Array.getElem?_toList, ← hl]
    exact hu
  refine call_meets F.slot_list_pop ⟨_, e, rfl⟩ F.entry_list_pop (F.args_list_pop_1 _) (MeetsSeq.list_pop_last l its.toArray n u hy' (by rw [List.size_toArray]; omega)) ⟨e, ?_⟩
  refine ⟨y, _, I.lset (its' := its.dropLast) hH e ?_ r.dropLast ?_, ru, q⟩
  · show its.toArray.eraseIdxIfInBounds (its.toArray.size - 1) = its.dropLast.toArray
    rw [List.size_toArray, List.eraseIdxIfInBounds_toArray, erase_last]
  · rw [List.length_dropLast]
    omega

def rPopAt : V → List V → Hp → VK → Prop := fun x vs H Q => ∃ l xs i k y, x = .ref l ∧ vs = [.int i] ∧ H l = some (.lst xs) ∧ -(2 ^ 63) ≤ i ∧ i < 2 ^ 63 ∧ seqIndex? i xs.length = some k ∧ xs[k]? = some y ∧ Q y (upd H l (.lst (xs.eraseIdx k)))
def rReverse : V → List V → Hp → VK → Prop := fun x vs H Q => ∃ l xs, x = .ref l ∧ vs = [] ∧ H l = some (.lst xs) ∧ Q .non (upd H l (.lst xs.reverse))
def rClear : V → List V → Hp → VK → Prop := fun x vs H Q => ∃ l xs, x = .ref l ∧ vs = [] ∧ H l = some (.lst xs) ∧ Q .non (upd H l (.lst []))
theorem mt_clear : MtM X "list.clear" rClear := by
  intro pins s σ H x vs v us Q I rx rv h
  obtain ⟨l, xs, rfl, rfl, hH, q⟩ := h
  cases rx
  have hus := rv.zero
  subst hus
  obtain ⟨z, its, n, r, hl, e⟩ := I.lstM hH
  refine call_meets F.slot_list_clear ⟨_, e, rfl⟩ F.entry_list_clear (F.args_list_clear_1 _) (AutoSeq1.list_clear_list_0 l its.toArray n (by rw [List.size_toArray]; omega)) ⟨e, ?_⟩
  exact ⟨.non, _, I.lset (its' := []) (ys := []) hH e rfl .nil (Nat.zero_le _), rfl, q⟩

/-! ### list + list, list += list, list * int -/
def rCat : R2 := fun x y H Q => ∃ l b xs zs, x = .ref l ∧ y = .ref b ∧ H l = some (.lst xs) ∧ H b = some (.lst zs) ∧ xs.length + zs.length ≤ sizeLine ∧ ∀ p, H p = none → Q (.ref p) (upd H p (.lst (xs ++ zs)))
theorem op_cat : OpR X (binaryOp .Add) rCat := by
  intro pins s σ H x y v u Q I rx ry h
  obtain ⟨l, b, xs, zs, rfl, rfl, hH, hB, hz, q⟩ := h
  cases rx
  cases ry
  obtain ⟨z, its, n, r, hl, e⟩ := I.lstM hH
  obtain ⟨z2, its2, n2, r2, hl2, e2⟩ := I.lstM hB
  refine PySem.P.add_list e e2 ?_ (by rw [List.size_toArray, List.size_toArray]; omega)
  have ea : its.toArray ++ its2.toArray = (its ++ its2).toArray := by simp
  rw [ea]
  exact ⟨.ref _, _, I.lnew (t' := s.toks) (r.append r2) (by rw [List.length_append]; omega), rfl, q _ I.fresh⟩
/-- a list times an int (a negative one is nothing) -/
def rRep : R2 := fun x y H Q => ∃ l k xs, x = .ref l ∧ y = .int k ∧ H l = some (.lst xs) ∧ -(2 ^ 63) ≤ k ∧ k < 2 ^ 63 ∧ xs.length * k.toNat ≤ sizeLine ∧
  ∀ p, H p = none → Q (.ref p) (upd H p (.lst (List.replicate k.toNat xs).flatten))
/-! ### del xs[i] -/
end

/-! ### xs[a:b] = ys -/
section
variable {prog : Program} {w : World} {A : Around} {E : Value → Shared → Prop} {s : Shared}
end

section
variable {X : Cx}
end
end L2

namespace Att
open PySem PySem.W PySem.Calls PyProof.Rows

/-! ### the script -/
theorem ints_of_wellAll {P : Params} {h : Heap} : ∀ (ns : List Int) (vs : List Value), WellAll P h vs (ns.map WData.int) → IntsAre vs ns := by
  intro ns
  induction ns with
  | nil =>
    intro vs w
    rw [List.map_nil] at w
    cases w
    exact .nil
  | cons n ns ih =>
    intro vs w
    rw [List.map_cons] at w
    cases w with
    | cons a b =>
      cases a
      exact .cons _ _ (ih _ b)

theorem script_of {l : OpenLaw} {n : Nat} (hn : l.most = some n) {P : Params} {h : Heap} {args : List WData} {vals : List Value}
    (hpre : l.row.toRowW.claim.pre args = true) (hwl : WellAll P h vals args) :
    ∃ a vs ns, vals = [Value.ref a] ∧ args = [WData.list (ns.map WData.int)] ∧ h.get? a = some { cls := .type "list", data := .seq vs.toArray } ∧ IntsAre vs ns ∧ ns.length ≤ n := by
  have hsh : WShape.hasAll [] args [.list .int] = true := (pre_splitW hpre).1
  have hc : l.pre.holds [] { args := args } = true := (pre_splitW hpre).2
  obtain ⟨d, r, rfl, h1, h2⟩ := hasAllW_cons hsh
  obtain rfl := hasAllW_nil h2
  obtain ⟨xs, rfl, h3⟩ := hasW_list h1
  obtain ⟨ns, rfl⟩ := items_int h3
  have hlen : ns.length ≤ n := by
    unfold OpenLaw.pre at hc
    have h4 : (WTm.not (.lt (.lit (.int (n : Int))) (.len (.arg 0)))).holds [] { args := [.list (ns.map .int)] } = true := by
      have h4 := (holds_andW hc).1
      rw [hn] at h4
      exact h4
    have h5 := condW_of h4 (w_not (w_lt w_lit (w_len_list (w_arg rfl))))
    rw [List.length_map] at h5
    refine Nat.le_of_not_lt fun q => ?_
    have q' : (n : Int) < ((ns.length : Nat) : Int) := by omega
    first
      | (rw [decide_eq_true q'] at h5; exact absurd h5 (by decide))
      | (simp at h5; omega)
  cases hwl with
  | cons w1 w2 =>
    cases w2
    cases w1 with
    | list ho hall => exact ⟨_, _, ns, rfl, rfl, ho, ints_of_wellAll ns _ hall, hlen⟩

theorem post_true (l : OpenLaw) (args : List WData) : l.row.toRowW.claim.post args (.bool true) args = true :=
  postW_of (r := l.row.toRowW) (X := (true == true))
    (show WShape.has [] (.bool true) .bool = true by first | rfl | decide | simp [WShape.has, WShape.arms, WShape.armsAll])
    (show (WTm.eq .res (.lit (.bool true))).value [] { args := args, res := some (.bool true), after := args } = some (.bool (true == true)) from w_eq_bool (w_res rfl) w_lit) rfl

/-! ### the attachment: holds_open's last premise (the goal 'hc' behind k_head) from a wpAny of the law's body -/
/-- the same from a codeAny of the CALL (for a layer whose function contracts speak of calls) -/
theorem attach_call {l : OpenLaw} {n : Nat} {q : Program} {loose : List Str} {XP : (Str → Option Value) → Heap → Prop} {YP : World → Heap → Prop} {d : DefRec}
    (hn : l.most = some n) (hdf : d.params.defaults = [])
    (call : ∀ (w : World) (s₀ s₁ : Shared) (mg mb : Str → Option Value) (fa : Addr) (o : Obj) (pm cd doc : Value) (a : Addr) (vs : List Value) (ns : List Int),
      Ground q loose [] XP w s₀ mg mb s₁.heap → YP w s₁.heap →
      s₁.heap.get? fa = some o → o.data = .func (docDef d.name d.params d.body d.scope pm cd doc) → s₁.heap.CodeRec cd d.name → mg d.name = some (.ref fa) →
      s₁.heap.get? a = some { cls := .type "list", data := .seq vs.toArray } → IntsAre vs ns → ns.length ≤ n → s₁.gens = #[] →
      codeAny (model l.prog w) callerA (.call (.ref fa) ⟨[.ref a], []⟩) (fun r s' => r = .ok (.ret (.bool true)) ∧ OldK s₁.heap s'.heap ∧ s'.os = s₁.os ∧ AllBare s'.gens) s₁) :
    WalkO q loose XP YP l.row.toRowW d [] (fun f vs => PySem.call f vs) := by
  intro w s₀ s₁ mg mb G Y fa o pm cd doc dV kV ho hd hcd hD hmg hg args vals as hpre hlay hrd hwl hlo
  obtain rfl : dV = .none := Dflts.none hD hdf
  obtain rfl : kV = .none := Dflts.noKw hD
  obtain ⟨a, vs, ns, rfl, rfl, hobj, hints, hlen⟩ := script_of hn hpre hwl
  refine enter_call (codeAny_mono (call w s₀ s₁ mg mb fa o pm cd doc a vs ns G Y ho (fd_plain hd) hcd hmg hobj hints hlen hg) fun r s' hq => ?_)
  obtain ⟨rfl, h2, h3, h4⟩ := hq
  exact ⟨.inl ⟨.bool true, .bool true, [], rfl, fun _ => rfl, .bool true, post_true l _, fun _ => ⟨List.Pairwise.nil, fun _ hm => (nomatch hm)⟩⟩, h2, h3, h4⟩

/-! ### rules over ANY heap (no ledger) from facts about the written part K: the library's own take a ledger (News) for what they write -/
section
variable {prog : Program} {w : World} {A : Around} {E : Value → Shared → Prop} {s : Shared} {K : Frag}

/-! the whole heap as the ledger: makes every rule that writes through a ledger a rule over any heap -/
def noObjs (h : Heap) : Heap := { h with objs := #[] }
def ledger (h : Heap) (L d : Addr) : List (Addr × Obj) := (List.range h.objs.size).filterMap fun a => if a = L ∨ a = d then none else (h.get? a).map fun o => (a, o)
end
end Att

namespace L2
open PySem PySem.Spec PyProof.Rows

theorem vals_ints : ∀ {vs : List Value} {ns : List Int}, IntsAre vs ns → Vals (ns.map V.int) vs
  | _, _, .nil => .nil
  | _, _, .cons n t h => .cons ⟨t, rfl⟩ (vals_ints h)

/-- nothing is tracked but the script, known to the object (or it is an object of the module) -/
def Only (H : Hp) : Prop := ∀ b, H b = none ∨ ∃ o xs, H b = some (.frz o (.lst xs))

/-- THE HEAD: the law's promise, at the heap behind the top. F, the promise of the law's def, may use that base is part of the heap (so K.In base, base.Ns mainGlobals mg stand in Mod) -/
theorem law_call {P : Program} {w : World} {K : PySem.W.Frag} {mg mb : Str → Option Value} {CX : CXT} {k : Nat} {fa a : Addr} {fd : FuncData} {x : Str} {sp : Sp} {s₁ : Shared} {vs : List Value} {ns : List Int}
    (KX : K.In s₁.heap) (hns : s₁.heap.Ns mainGlobals mg) (hb : s₁.heap.Ns builtinsNs mb) (hbb : ∀ x : Str, x ≠ "__name__" → mb x = bootBuiltins x) (hlim : s₁.heap.NoLimit) (hg : s₁.gens = #[])
    (ha : s₁.heap.get? a = some { cls := .type "list", data := .seq vs.toArray }) (hi : IntsAre vs ns) (hl : ns.length ≤ sizeLine) (hr : Room k callerA)
    (F : ∀ base : Heap, K.In base → base.Ns mainGlobals mg → FnOk P w K mg base CX k fa fd [x] sp) (hbind : ∀ (s : Shared) (u : Value), BindsTo s fd ⟨[u], []⟩ [(x, u)])
    (hsp : ∀ H : Hp, Only H → SqL K H a (ns.map V.int) → sp [.ref a] H (fun v _ => v = .bl true) fun _ _ _ => False)
    (hCX : ∀ H e s', CX [] H s₁ (fun _ _ _ => False) e s' → False) :
    codeAny (model P w) callerA (.call (.ref fa) ⟨[.ref a], []⟩) (fun r s' => r = .ok (.ret (.bool true)) ∧ OldK s₁.heap s'.heap ∧ s'.os = s₁.os ∧ AllBare s'.gens) s₁ := by
  have rv := vals_ints hi
  have lenV := hi.length
  -- from an abstract heap in which nothing but the script may be tracked
  have core : ∀ H : Hp, Only H → SqL K H a (ns.map V.int) → HOk P w H s₁.heap → (∀ b, H b ≠ none → b = a) → (H a ≠ none → K.lookup a = none) →
      codeAny (model P w) callerA (.call (.ref fa) ⟨[.ref a], []⟩) (fun r s' => r = .ok (.ret (.bool true)) ∧ OldK s₁.heap s'.heap ∧ s'.os = s₁.os ∧ AllBare s'.gens) s₁ := by
    intro H hO hS hok hA hK
    have base_of : ∀ {b : Addr} {o : Obj}, s₁.heap.get? b = some o → H b = none → (hidT s₁.heap H).get? b = some o := fun e n => hidT_get e n
    have noA : ∀ {b : Addr} {o : Obj} {es : Array DictEntry} {ep : Nat}, s₁.heap.get? b = some o → o.data = .dict es ep → H b = none := fun {b o es ep} e d => by
      cases q : H b with
      | none => rfl
      | some u =>
        have e' : b = a := hA b (by rw [q]; simp)
        subst e'
        rw [ha] at e; cases e
        have d' : Data.seq vs.toArray _ = Data.dict es ep := d
        cases d'
    have nsK : ∀ {b : Addr} {m : Str → Option Value}, s₁.heap.Ns b m → (hidT s₁.heap H).Ns b m := fun {b m} ⟨o, es, ep, e, d, r⟩ => ⟨o, es, ep, base_of e (noA e d), d, r⟩
    have hKb : K.In (hidT s₁.heap H) := fun b o e => base_of (KX b o e) (by
      cases q : H b with
      | none => rfl
      | some u =>
        have e' : b = a := hA b (by rw [q]; simp)
        subst e'
        rw [hK (by rw [q]; simp)] at e; cases e)
    have hM : Mod K mg (hidT s₁.heap H) := ⟨hKb, nsK hns, ⟨mb, nsK hb, hbb⟩, let ⟨mc, h1, h2⟩ := hlim; ⟨mc, nsK h1, h2⟩⟩
    have e0 : Env0 P w K mg (hidT s₁.heap H) callerA [] s₁ H := ⟨rfl, hM, fun b o e => of_hidT e, Nat.le_of_eq (hidT_size _ _), trivial, fun b hb => absurd (show b ∈ ([] : List Addr) from hb) (by simp), hok, .of_eq hg⟩
    refine codeAny_mono ((F _ hKb (nsK hns)).run callerA [] s₁ H ⟨[.ref a], []⟩ [.ref a] [.ref a] _ _ hr e0 (hbind s₁ (.ref a)) (.cons rfl .nil) (hsp H hO hS)) fun r s' h => ?_
    cases r with
    | error e => exact (hCX H e s' h).elim
    | ok fl =>
      cases fl with
      | next => exact False.elim h
      | brk => exact False.elim h
      | cont => exact False.elim h
      | ret u =>
        obtain ⟨v, H', os, bare, un, hok', r', q⟩ := h
        have q' : v = .bl true := q
        subst q'
        obtain rfl : u = Value.bool true := r'
        refine ⟨rfl, OldK.of_keep fun b o e => ?_, os, bare⟩
        cases q : H b with
        | none => exact un.keep b o e q (by intro z; exact absurd (show b ∈ ([] : List Addr) from z) (by simp)) (by simp)
        | some u =>
          rcases hO b with z | ⟨ob, xs, z⟩
          · rw [q] at z; cases z
          · have z2 := un.frzs b ob _ z
            obtain ⟨e1, _⟩ := hok b _ z
            obtain ⟨e2, _⟩ := hok' b _ z2
            rw [e] at e1; cases e1
            exact e2
  cases hk : K.lookup a with
  | some o =>
    -- the script is one of the module's own objects
    have e := KX a o hk
    rw [ha] at e
    cases e
    refine core (fun _ => none) (fun _ => .inl rfl) (.inr ⟨_, vs.toArray, _, hk, rfl, rfl, rfl, by rw [List.size_toArray, lenV]; exact hl, by simpa using rv⟩) (fun b u z => by have z' : (none : Option HO) = some u := z; cases z') (fun b z => absurd rfl z) fun z => absurd rfl z
  | none =>
    refine core (fun b => if b = a then some (.frz { cls := .type "list", data := .seq vs.toArray } (.lst (ns.map V.int))) else none) (fun b => ?_) (.inl (.inr ⟨{ cls := .type "list", data := .seq vs.toArray }, if_pos rfl⟩)) (fun b u z => ?_) (fun b z => ?_) fun _ => hk
    · by_cases hb : b = a
      · exact .inr ⟨_, _, if_pos hb⟩
      · exact .inl (if_neg hb)
    · by_cases hb : b = a
      · have z' := (if_pos hb).symm.trans z
        cases z'
        subst hb
        exact ⟨ha, by rw [List.length_map]; exact hl, vs, _, rv, ha⟩
      · have z' := (if_neg hb).symm.trans z
        cases z'
    · by_cases hb : b = a
      · exact hb
      · exact absurd (if_neg hb) z
end L2

namespace L2
open PySem PySem.Spec PyProof.Rows

abbrev KOf {K : PySem.W.Frag} {h : Heap} (_ : K.In h) : PySem.W.Frag := K

/-- the goal that k_head leaves (case hc), from the law's promise. F gives the function object fd (K's own) once, then the promise over every base -/
theorem walk_of {l : PySem.W.OpenLaw} {n k : Nat} {q : Program} {loose : List Str} {XP : (Str → Option Value) → Heap → Prop} {YP : World → Heap → Prop} {d : DefRec} {K : Params → PySem.W.Frag} {CX : World → CXT} {sp : World → Sp} {x : Str}
    (hn : l.most = some n) (hn2 : n ≤ sizeLine) (hdf : d.params.defaults = []) (hr : Room k callerA)
    (hY : ∀ (w : World) (h : Heap), YP w h → (K w.params).In h)
    (F : ∀ (w : World) (mg : Str → Option Value) (fa : Addr) (h : Heap), (K w.params).In h → h.Ns mainGlobals mg → mg d.name = some (.ref fa) →
      ∃ fd : FuncData, (∀ (s : Shared) (u : Value), BindsTo s fd ⟨[u], []⟩ [(x, u)]) ∧
        ∀ base : Heap, (K w.params).In base → base.Ns mainGlobals mg → FnOk l.prog w (K w.params) mg base (CX w) k fa fd [x] (sp w))
    (hsp : ∀ (w : World) (H : Hp) (a : Addr) (ns : List Int), ns.length ≤ n → Only H → SqL (K w.params) H a (ns.map V.int) → sp w [.ref a] H (fun v _ => v = .bl true) fun _ _ _ => False)
    (hCX : ∀ (w : World) (H : Hp) (s : Shared) (e : Value) (s' : Shared), CX w [] H s (fun _ _ _ => False) e s' → False) :
    PySem.W.WalkO q loose XP YP l.row.toRowW d [] (fun f vs => PySem.call f vs) := by
  refine Att.attach_call hn hdf fun w s₀ s₁ mg mb fa o pm cd doc a vs ns G Y ho hd hcd hmg hobj hints hlen hg => ?_
  have KX := hY w _ Y
  obtain ⟨fd, hb, hF⟩ := F w mg fa _ KX G.T.g hmg
  exact law_call KX G.T.g G.T.b G.T.builtins G.T.nolimit hg hobj hints (Nat.le_trans hlen hn2) hr hF hb (fun H hO hS => hsp w H a ns hlen hO hS) fun H e s' => hCX w H s₁ e s'
end L2

/- THE LAST THEOREM (shape; LID, My.* are yours):
   My.Adr: a structure of the addresses that your layer names (classes, functions); My.Txt K t: a structure (Prop) of the equations over K;
   My.txt_mk : {K} {implicit addresses ..} (e1 : nsIn K mainGlobals "law" = some (some (.ref f))) (e2 : K.lookup f = some ⟨oc, od, .func (fnOf "law" "law" params body scope dV kV doc pm an cdv ct), sl⟩) (e3 : codeIn K cdv "law" = true) .. : ∃ t, My.Txt K t

set_option maxRecDepth 100000 in
set_option maxHeartbeats 0 in
theorem PySem.Challenge.cw_LID_holds : PySem.Challenge.rw_LID.Holds := by
  w_on; o_law; k_head; (case hw => w_witness2)
  k_fill
  refine L2.walk_of (l := PySem.Challenge.rw_LID) (n := 63) (k := 40) (x := "script") (CX := fun w => ..) (sp := fun _ => My.sp_law) rfl (by decide) rfl ⟨rfl, by decide, by decide⟩ (fun w h Y => PySem.W.kIn_of Y) ?F ?S ?C
  case F =>
    intro w mg fa h KX G hmg
    have T : ∃ t, My.Txt (L2.KOf KX) t := by
      dsimp only [L2.KOf]                          -- K must stand as «<heap const> w.params» for k_is
      refine' My.txt_mk ?e1 ?e2 ?e3 ..
      (case e1 => PySem.W.k_is)                    -- in the order: a name -> its address -> its object -> its parts
      (case e2 => PySem.W.k_is)
      ..
    obtain ⟨t, T⟩ := T
    have e0 := hmg.symm.trans (PySem.W.mg_of KX G T.law)
    cases e0                                       -- fa is the law's own address
    exact ⟨_, fun s u => .of_eq rfl, fun base kb nb => My.law_fn T kb nb⟩     -- if «.of_eq rfl» comes too early: refine' ⟨_, ?b, fun base kb nb => My.law_fn T kb nb⟩; exact fun s u => .of_eq rfl
  case S => exact fun w H a ns hl hO hS => ..
  case C => exact ..
(the tactic k_is has no namespace: write k_is) -/

/-! SHORT WORDS over the layer: a def of the text, its body, what a loop and a test want. -/
namespace L2
open PySem PySem.Spec PyProof.Rows

/-! ### the text by places -/
/-- the j-th statement of a class's body -/
def inClass (s : Stmt) (j : Nat) : Stmt := match s with
  | .ClassDef _ _ _ body _ _ _ _ _ _ _ => body.getD j (.Pass ⟨0, 0, 0, 0⟩)
  | _ => .Pass ⟨0, 0, 0, 0⟩
def defArgs (s : Stmt) : Arguments := match s with
  | .FunctionDef _ a _ _ _ _ _ _ _ _ => a
  | _ => { posonlyargs := [], args := [], vararg := none, kwonlyargs := [], kw_defaults := [], kwarg := none, defaults := [] }
def defBody (s : Stmt) : List Stmt := match s with
  | .FunctionDef _ _ b _ _ _ _ _ _ _ => b
  | _ => []
def defScope (s : Stmt) : Scope := match s with
  | .FunctionDef _ _ _ _ _ _ sc _ _ _ => sc
  | _ => { kind := .function, names := [], isGenerator := false, isCoroutine := false }

/-! ### no exception leaves a def -/
abbrev CX0 : CXT := fun _ _ _ _ _ _ => False
abbrev E0 : XK := fun _ _ _ => False
/-! ### a def (or method) of the text as it stands behind the top -/
structure Fun (K : PySem.W.Frag) (x qual : Str) (st : Stmt) (f : Addr) (fd : FuncData) : Prop where
  ex : ∃ (oc : Value) (od : Option Addr) (kV doc pm : Value) (an : Option Addr) (cdv ct : Value) (osl : Array (Option Value)),
    fd = PySem.W.fnOf x qual (defArgs st) (defBody st) (defScope st) .none kV doc pm an cdv ct ∧ K.lookup f = some ⟨oc, od, .func fd, osl⟩ ∧ PySem.W.codeIn K cdv qual = true
  kp : PySem.W.keepIn K (.ref f) = true
section
variable {P : Program} {w : World} {K : PySem.W.Frag} {mg : Str → Option Value} {base : Heap}
/-- how its arguments bind (no defaults): h is «fun _ _ _ _ _ _ us hl => match us, hl with | [_, _], _ => rfl», one _ a parameter -/
theorem Fun.binds {x qual : Str} {st : Stmt} {f : Addr} {fd : FuncData} {ps : List Str} (F : Fun K x qual st f fd)
    (h : ∀ (kV doc pm : Value) (an : Option Addr) (cdv ct : Value) (us : List Value), us.length = ps.length → bindArgs (PySem.W.fnOf x qual (defArgs st) (defBody st) (defScope st) .none kV doc pm an cdv ct) ⟨us, []⟩ = pure (ps.zip us)) : Binds K fd ps [] := by
  obtain ⟨oc, od, kV, doc, pm, an, cdv, ct, osl, rfl, lk, hcd⟩ := F.ex
  exact .all (h kV doc pm an cdv ct)
theorem fun_mk {x qual : Str} {st : Stmt} {f : Addr} {oc : Value} {od an : Option Addr} {osl : Array (Option Value)} {kV doc pm cdv ct : Value} (l : K.lookup f = some ⟨oc, od, .func (PySem.W.fnOf x qual (defArgs st) (defBody st) (defScope st) .none kV doc pm an cdv ct), osl⟩)
    (c : PySem.W.codeIn K cdv qual = true) (k : PySem.W.keepIn K (.ref f) = true) : Fun K x qual st f (PySem.W.fnOf x qual (defArgs st) (defBody st) (defScope st) .none kV doc pm an cdv ct) := ⟨⟨oc, od, kV, doc, pm, an, cdv, ct, osl, rfl, l, c⟩, k⟩
end
theorem small1000 {n : Nat} (h : n ≤ 1000) : n < sizeLine := Nat.lt_of_le_of_lt h (by decide)

/-! ### expressions in short: the name that stands in the i-th slot -/
section
variable {X : Cx}
theorem pv (i : Nat) {x : Str} {pos : Pos} (hN : X.N[i]? = some x := by rfl) (hv : Vis X.env.scope x := by first | exact Or.inl rfl | exact Or.inr (Or.inl rfl) | exact Or.inr (Or.inr rfl)) (hd : (x == ("__debug__" : Str)) = false := by decide)
    (hcd : (x == ("__classdict__" : Str)) = false := by decide) : PE X (.Name x pos) (tVar i) := pe_var hN hv hd hcd
end

/-! ### tests -/
theorem iteF {A B : Prop} (h : B) : if false = true then A else B := by
  rw [if_neg Bool.false_ne_true]
  exact h
theorem iteT {A B : Prop} (h : A) : if true = true then A else B := by
  rw [if_pos rfl]
  exact h
theorem iteNS {c A B : Prop} [Decidable c] (hc : c) (h : B) : if (!decide c) = true then A else B := by
  rw [decide_eq_true hc]
  exact iteF h

/-! ### heaps -/
/-- all that was tracked is as it was -/
def Same (H H' : Hp) : Prop := ∀ b o, H b = some o → H' b = some o
theorem Same.refl (H : Hp) : Same H H := fun _ _ h => h
theorem Same.trans {H H1 H2 : Hp} (a : Same H H1) (b : Same H1 H2) : Same H H2 := fun c o h => b c o (a c o h)
theorem Same.free {H H' : Hp} (e : Same H H') {l : Addr} (h : H' l = Option.none) : H l = Option.none := by
  cases q : H l with
  | none => rfl
  | some o =>
    rw [e l o q] at h
    cases h
end L2

set_option maxHeartbeats 4000000

/-! ### more rules: wide numbers, isinstance, == of tuples -/
namespace L2
open PySem PySem.Spec PyProof.Rows
/-- fewer than n bits -/
def Bz (n : Nat) (x : Int) : Prop := x.natAbs < 2 ^ n
theorem Bz.mono {m n : Nat} {x : Int} (h : Bz m x) (hn : m ≤ n) : Bz n x := Nat.lt_of_lt_of_le h (Nat.pow_le_pow_right (by decide) hn)
theorem Bz.bits {n : Nat} {x : Int} (h : Bz n x) : Builtin.Int.intBits x ≤ n := PySem.intBits_le_iff.mpr h
theorem Bz.of_bits {n : Nat} {x : Int} (h : Builtin.Int.intBits x ≤ n) : Bz n x := PySem.intBits_le_iff.mp h
theorem Bz.mulOk {m n : Nat} {x y : Int} (hx : Bz m x) (hy : Bz n y) (h : m + n ≤ 134217728 := by decide) : IntMulOk x y := PySem.IntMulOk.of_le hx.bits hy.bits h
theorem Bz.neg {n : Nat} {x : Int} (hx : Bz n x) : Bz n (-x) := .of_bits (PySem.intBits_neg_le hx.bits)
theorem Bz.le {n : Nat} {x y : Int} (hx : Bz n x) (h : y.natAbs ≤ x.natAbs) : Bz n y := Nat.lt_of_le_of_lt h hx
theorem Bz.fdiv {n : Nat} {x y : Int} (hx : Bz n x) : Bz n (x.fdiv y) := .of_bits (PySem.intBits_fdiv_le hx.bits)
theorem Bz.ediv {n : Nat} {x y : Int} (hx : Bz n x) (hy : 0 ≤ y) : Bz n (x / y) := by
  rw [← Int.fdiv_eq_ediv_of_nonneg x hy]
  exact hx.fdiv
theorem Bz.w {x : Int} (h1 : -340282366920938463463374607431768211456 < x) (h2 : x < 340282366920938463463374607431768211456) : Bz 128 x := by
  show x.natAbs < 340282366920938463463374607431768211456
  omega
theorem Bz.log2 {n : Nat} {x : Int} (h : Bz n x) (hn : n ≤ 9000 := by decide) : x.natAbs.log2 < 9000 := by
  by_cases h0 : x.natAbs = 0
  · rw [h0]; decide +kernel
  · exact (Nat.log2_lt h0).mpr (Nat.lt_of_lt_of_le h (Nat.pow_le_pow_right (by decide) hn))
def CDivB (_ j : Int) : Prop := 0 < j ∧ j.natAbs.log2 < 9000
def CDivM (_ j : Int) : Prop := j ≠ 0 ∧ j.natAbs.log2 < 9000
section
variable {X : Cx}
theorem op_mulB : OpR X (binaryOp .Mult) (rI IntMulOk fun i j => .int (i * j)) := opI fun _ _ _ _ _ _ _ hc q => mul_int q hc
theorem op_fdivB : OpR X (binaryOp .FloorDiv) (rI CDivB fun i j => .int (i / j)) := opI fun i j _ _ _ _ _ hc q => by
  have h1 : (0 : Int) < j := hc.1
  exact floordiv_int (by omega) (by rw [Int.fdiv_eq_ediv_of_nonneg i (by omega)]; exact q) (.inl (PyProof.noPylong_of_log2 hc.2))
/-- a statement, by what holds between it and the rest -/
theorem ps_mid {st : Stmt} {t : TS} (h : PS X st t) : PS X st (fun D σ H => ∃ P : St → Hp → Prop, t { D with nx := P } σ H ∧ ∀ σ' H', P σ' H' → D.nx σ' H') := by
  intro pins s σ H D I hw
  obtain ⟨P', hp, hk⟩ := hw
  refine thn (h pins s σ H _ I hp) fun f s1 q => ?_
  cases f with
  | next => obtain ⟨σ', H', I', p⟩ := q; exact ⟨σ', H', I', hk _ _ p⟩
  | ret v => exact q
  | brk => exact q
  | cont => exact q
/-- isinstance(x, T), T a built-in type -/
theorem call_isi : CallR X (.builtin "isinstance") (fun xs H Q => ∃ x n t b, xs = [x, .ty n] ∧ TyOf X.K H x t ∧ PySem.W.kitOne X.K t (.type n) = some b ∧ Q (.bl b) H) := by
  intro pins s σ H xs us Q I r h
  obtain ⟨x, n, t, b, rfl, ty, e, q⟩ := h
  obtain ⟨u, w', rfl, r1, r2⟩ := vals2 r
  cases r2
  exact isinst_ok I r1 ty e fun tk => ⟨.bl b, H, I.tok tk, rfl, q⟩
/-- == of two tuples of flat items -/
def eqLV (xs ys : List V) : Bool := (List.range (min xs.length ys.length)).all (fun j => eqV (xs.getD j .non) (ys.getD j .non)) && xs.length == ys.length
def rEqT (K : PySem.W.Frag) : R2 := fun x y H Q => ∃ a b xs ys, x = .ref a ∧ y = .ref b ∧ SqT K H a xs ∧ SqT K H b ys ∧ xs.all flatV = true ∧ ys.all flatV = true ∧ Q (.bl (eqLV xs ys)) H
end
theorem kp {H : Hp} {a p : Addr} {o u : HO} (h : H a = some o) (hp : H p = none) : upd H p u a = some o := by rw [upd_ne (ne_of_none h hp)]; exact h
theorem iteN {c A B : Prop} [Decidable c] (hc : ¬ c) (h : B) : if decide c = true then A else B := by
  rw [if_neg (fun z => hc (of_decide_eq_true z))]
  exact h
theorem iteY {c A B : Prop} [Decidable c] (hc : c) (h : A) : if decide c = true then A else B := by
  rw [if_pos (decide_eq_true hc)]
  exact h
theorem ite3 {c A B : Prop} [Decidable c] (h1 : c → A) (h2 : ¬ c → B) : if decide c = true then A else B := by
  by_cases h : c
  · exact iteY h (h1 h)
  · exact iteN h (h2 h)
theorem iteNo {c A B : Prop} [Decidable c] (h1 : ¬ c → A) (h2 : c → B) : if (!decide c) = true then A else B := by
  by_cases h : c
  · rw [decide_eq_true h]; exact iteF (h2 h)
  · rw [decide_eq_false h]; exact iteT (h1 h)
theorem sz {n : Nat} (h : n ≤ 1000 := by first | decide | (simp; done) | omega) : n ≤ sizeLine := Nat.le_of_lt (small1000 h)
theorem at_ints {ns : List Int} {k : Int} (h0 : 0 ≤ k) (h : k < (ns.length : Int)) : ∃ v : Int, atI (ns.map V.int) k = some (.int v) := by
  have hk : k.toNat < ns.length := by omega
  have ek : k = ((k.toNat : Nat) : Int) := by omega
  have q : atI (ns.map V.int) ((k.toNat : Nat) : Int) = some (.int ns[k.toNat]) := atI_nat (by rw [List.getElem?_map, List.getElem?_eq_getElem hk]; rfl)
  rw [← ek] at q
  exact ⟨_, q⟩
end L2

/-! ### values as data: deep == and != -/
namespace L2
open PySem PySem.Spec PyProof.Rows
mutual
inductive DV (K : PySem.W.Frag) (H : Hp) : V → PyData → Prop
  | non : DV K H .non .none
  | bl (b : Bool) : DV K H (.bl b) (.bool b)
  | int (i : Int) : DV K H (.int i) (.int i)
  | str (x : Str) : DV K H (.str x) (.str x)
  | lst {a : Addr} {xs : List V} {ds : List PyData} : SqL K H a xs → DVs K H xs ds → DV K H (.ref a) (.list ds)
  | tup {a : Addr} {xs : List V} {ds : List PyData} : SqT K H a xs → DVs K H xs ds → DV K H (.ref a) (.tuple ds)
inductive DVs (K : PySem.W.Frag) (H : Hp) : List V → List PyData → Prop
  | nil : DVs K H [] []
  | cons {x : V} {xs : List V} {d : PyData} {ds : List PyData} : DV K H x d → DVs K H xs ds → DVs K H (x :: xs) (d :: ds)
end
section
variable {X : Cx} {pins : List (Addr × Obj)} {σ : St} {H : Hp} {s : Shared}
mutual
theorem DV.reads (I : Inv X pins σ H s) : ∀ {x : V} {d : PyData} {u : Value}, DV X.K H x d → RelV x u → ∃ as, Reads s.heap u d as
  | _, _, _, .non, r => by cases r; exact ⟨_, .none⟩
  | _, _, _, .bl b, r => by cases r; exact ⟨_, .bool b⟩
  | _, _, _, .int i, r => by obtain ⟨t, rfl⟩ := r; exact ⟨_, .int i t⟩
  | _, _, _, .str x, r => by obtain ⟨t, rfl⟩ := r; exact ⟨_, .str x t⟩
  | _, _, _, .lst h hs, r => by
    cases r
    obtain ⟨its, rv, ⟨o, n, e, c, _, dd⟩, _⟩ := I.list h
    obtain ⟨as, q⟩ := DVs.reads I hs rv
    exact ⟨_, .list e c dd (by simpa using q)⟩
  | _, _, _, .tup h hs, r => by
    cases r
    obtain ⟨its, rv, ⟨o, e, c, n, dd⟩, _⟩ := I.tuple h
    obtain ⟨as, q⟩ := DVs.reads I hs rv
    exact ⟨_, .tuple e c dd (by simpa using q)⟩
theorem DVs.reads (I : Inv X pins σ H s) : ∀ {xs : List V} {ds : List PyData} {us : List Value}, DVs X.K H xs ds → Vals xs us → ∃ as, ReadsAll s.heap us ds as
  | _, _, _, .nil, r => by cases r; exact ⟨_, .nil⟩
  | _, _, _, .cons h hs, r => by
    cases r with
    | cons r rr =>
      obtain ⟨as, q⟩ := DV.reads I h r
      obtain ⟨bs, q'⟩ := DVs.reads I hs rr
      exact ⟨_, .cons q q'⟩
end
end
def rEqD (K : PySem.W.Frag) : R2 := fun x y H Q => ∃ dx dy, DV K H x dx ∧ DV K H y dy ∧ SeqAt.shaped dx = true ∧ SeqAt.shaped dy = true ∧ Q (.bl (PyData.eqv dx dy)) H
def rNeD (K : PySem.W.Frag) : R2 := fun x y H Q => ∃ dx dy, DV K H x dx ∧ DV K H y dy ∧ SeqAt.shaped dx = true ∧ SeqAt.shaped dy = true ∧ Q (.bl (!PyData.eqv dx dy)) H
section
variable {X : Cx} {e se : Expr} {te ts : TE} {pos p2 : Pos}
theorem op_neD (hu : X.A.units + 64 < cLine) : OpR X (compareOp .NotEq) (rNeD X.K) := by
  intro pins s σ H x y v u Q I rx ry h
  obtain ⟨dx, dy, hx, hy, sx, sy, q⟩ := h
  obtain ⟨as, r1⟩ := hx.reads I rx
  obtain ⟨bs, r2⟩ := hy.reads I ry
  exact ne_dataH r1 r2 sx sy hu ⟨.bl _, H, I, rfl, q⟩
end
/-- the script, known to the object: it is never written -/
def SqF (K : PySem.W.Frag) (H : Hp) (a : Addr) (xs : List V) : Prop :=
  (∃ o, H a = some (.frz o (.lst xs))) ∨ ∃ (o : Obj) (its : Array Value) (n : Nat), K.lookup a = some o ∧ o.cls = .type "list" ∧ o.dict = none ∧ o.data = .seq its n ∧ its.size ≤ sizeLine ∧ Vals xs its.toList
theorem SqF.sq {K : PySem.W.Frag} {H : Hp} {a : Addr} {xs : List V} (h : SqF K H a xs) : SqL K H a xs := by
  rcases h with ⟨o, h⟩ | h
  · exact .inl (.inr ⟨o, h⟩)
  · exact .inr h
theorem SqF.upd {K : PySem.W.Frag} {H : Hp} {a p : Addr} {xs : List V} {u : HO} (h : SqF K H a xs) (hp : ∀ o w, H p ≠ some (.frz o w)) : SqF K (L2.upd H p u) a xs := by
  rcases h with ⟨o, h⟩ | h
  · refine .inl ⟨o, ?_⟩
    rw [upd_ne (fun e => hp o _ (by rw [← e]; exact h))]
    exact h
  · exact .inr h
theorem SqF.new {K : PySem.W.Frag} {H : Hp} {a p : Addr} {xs : List V} {u : HO} (h : SqF K H a xs) (hp : H p = none) : SqF K (L2.upd H p u) a xs := h.upd fun o w e => by rw [hp] at e; cases e
theorem SqF.of_only {K : PySem.W.Frag} {H : Hp} {a : Addr} {xs : List V} (hO : Only H) (h : SqL K H a xs) : SqF K H a xs := by
  rcases h with (h | ⟨o, h⟩) | h
  · rcases hO a with z | ⟨o, ys, z⟩
    · rw [z] at h; cases h
    · rw [z] at h; cases h
  · exact .inl ⟨o, h⟩
  · exact .inr h
theorem same_new {H : Hp} {p : Addr} (h : H p = none) (o : HO) : Same H (L2.upd H p o) := fun b u q => by rw [upd_ne (ne_of_none q h)]; exact q
theorem SqF.same {K : PySem.W.Frag} {H H' : Hp} {a : Addr} {xs : List V} (h : SqF K H a xs) (s : Same H H') : SqF K H' a xs := by
  rcases h with ⟨o, h⟩ | h
  · exact .inl ⟨o, s _ _ h⟩
  · exact .inr h
end L2
namespace L2
open PySem
theorem bt_isinstance : bootBuiltins "isinstance" = some (.builtin "isinstance") := by decide +kernel
theorem bt_int : bootBuiltins "int" = some (.type "int") := by decide +kernel
theorem bt_bool : bootBuiltins "bool" = some (.type "bool") := by decide +kernel
theorem bt_abs : bootBuiltins "abs" = some (.builtin "abs") := by decide +kernel
theorem bt_tuple : bootBuiltins "tuple" = some (.type "tuple") := by decide +kernel
theorem bt_list : bootBuiltins "list" = some (.type "list") := by decide +kernel
theorem bt_min : bootBuiltins "min" = some (.builtin "min") := by decide +kernel
theorem bt_max : bootBuiltins "max" = some (.builtin "max") := by decide +kernel
theorem bt_len : bootBuiltins "len" = some (.builtin "len") := by decide +kernel
theorem bt_sorted : bootBuiltins "sorted" = some (.builtin "sorted") := by decide +kernel
theorem bt_set : bootBuiltins "set" = some (.type "set") := by decide +kernel
end L2

namespace L2
open PySem PySem.Spec PyProof.Rows
section
variable {X : Cx} {e se : Expr} {te ts : TE} {pos p2 : Pos}
/-- xs[::-1] -/
def tRev (K : PySem.W.Frag) (te ts : TE) : TE := fun σ H Q => te σ H fun x H1 => ts σ H1 fun y H2 => ∃ a xs, x = .ref a ∧ y = .int (-1) ∧ SqL K H2 a xs ∧ ∀ p, H2 p = none → Q (.ref p) (upd H2 p (.lst xs.reverse))
end
end L2

/-! ### the greatest divisor -/
namespace M
def G (a b : Int) : Int := if Nat.gcd a.natAbs b.natAbs = 0 then 1 else (Nat.gcd a.natAbs b.natAbs : Nat)
theorem G_pos (a b : Int) : 0 < G a b := by
  unfold G
  split <;> omega
theorem G_eq {a b : Int} (h : b ≠ 0) : G a b = ((Nat.gcd a.natAbs b.natAbs : Nat) : Int) := by
  have : 0 < Nat.gcd a.natAbs b.natAbs := Nat.gcd_pos_of_pos_right _ (by omega)
  unfold G
  rw [if_neg (by omega)]
structure Inv (a b x y : Int) : Prop where
  x0 : 0 ≤ x
  y0 : 0 ≤ y
  e : Nat.gcd x.natAbs y.natAbs = Nat.gcd a.natAbs b.natAbs
theorem abs_eq (i : Int) : (if i < 0 then -i else i) = (i.natAbs : Int) := by
  split <;> omega
theorem Inv.start (a b : Int) (hb : 0 ≤ b) : Inv a b (if a < 0 then -a else a) b := by
  rw [abs_eq]
  exact ⟨by omega, hb, by simp⟩
theorem Inv.start2 (a b : Int) : Inv a b (if a < 0 then -a else a) (if b < 0 then -b else b) := by
  rw [abs_eq, abs_eq]
  exact ⟨by omega, by omega, by simp⟩
theorem Inv.turn {a b x y : Int} (h : Inv a b x y) (hy : 0 < y) : Inv a b y (x % y) := by
  obtain ⟨x0, y0, e⟩ := h
  refine ⟨y0, Int.emod_nonneg x (by omega), ?_⟩
  rw [← e]
  have e1 : (x % y).natAbs = x.natAbs % y.natAbs := by
    obtain ⟨n, rfl⟩ := Int.eq_ofNat_of_zero_le x0
    obtain ⟨m, rfl⟩ := Int.eq_ofNat_of_zero_le y0
    exact congrArg Int.natAbs (Int.natCast_emod n m).symm
  rw [e1, Nat.gcd_comm x.natAbs y.natAbs]
  rw [Nat.gcd_comm y.natAbs (x.natAbs % y.natAbs), ← Nat.gcd_rec, Nat.gcd_comm]
theorem less {x y : Int} (hy : 0 < y) : (x % y).toNat < y.toNat := by
  have h1 := Int.emod_nonneg x (show y ≠ 0 by omega)
  have h2 := Int.emod_lt_of_pos x hy
  omega
theorem Inv.out {a b x y : Int} (h : Inv a b x y) (hy : y = 0) (hb : b ≠ 0) : x = G a b := by
  obtain ⟨x0, y0, e⟩ := h
  rw [G_eq hb, ← e, hy]
  simp
  omega
theorem G_dvd (a b : Int) : (G a b ∣ a) ∧ (G a b ∣ b) := by
  unfold G
  split
  · exact ⟨Int.one_dvd _, Int.one_dvd _⟩
  · exact ⟨Int.ofNat_dvd_left.mpr (Nat.gcd_dvd_left _ _), Int.ofNat_dvd_left.mpr (Nat.gcd_dvd_right _ _)⟩
theorem G_le {a b : Int} (h : b ≠ 0) : (G a b).natAbs ≤ b.natAbs := by
  rw [G_eq h]
  exact Nat.le_of_dvd (by omega) (Nat.gcd_dvd_right _ _)
end M

namespace M
theorem num_low {t b : Int} (hb : 0 < b) : t / G t b = (Rat.divInt t b).num := by
  rw [Rat.num_divInt, G_eq (by omega), Int.sign_eq_one_of_pos hb, Int.one_mul]
  show t / _ = t / ((Nat.gcd b.natAbs t.natAbs : Nat) : Int)
  rw [Nat.gcd_comm]
theorem den_low {t b : Int} (hb : 0 < b) : b / G t b = ((Rat.divInt t b).den : Int) := by
  rw [Rat.den_divInt, if_neg (by omega), G_eq (by omega)]
  show b / _ = (((b.natAbs / Nat.gcd b.natAbs t.natAbs : Nat)) : Int)
  rw [Int.natCast_ediv, Nat.gcd_comm]
  congr 1
  omega
theorem num_neg {t b : Int} (hb : b < 0) : t.fdiv (-G t b) = (Rat.divInt t b).num := by
  have e : Rat.divInt t b = Rat.divInt (-t) (-b) := (Rat.neg_divInt_neg t b).symm
  rw [e, ← num_low (by omega)]
  have g : G (-t) (-b) = G t b := by unfold G; simp
  have h := G_pos t b
  rw [g, ← Int.fdiv_eq_ediv_of_nonneg (-t) (Int.le_of_lt h)]
  rw [← Int.neg_fdiv_neg, Int.neg_neg]
theorem den_neg {t b : Int} (hb : b < 0) : b.fdiv (-G t b) = ((Rat.divInt t b).den : Int) := by
  have e : Rat.divInt t b = Rat.divInt (-t) (-b) := (Rat.neg_divInt_neg t b).symm
  rw [e, ← den_low (by omega)]
  have g : G (-t) (-b) = G t b := by unfold G; simp
  have h := G_pos t b
  rw [g, ← Int.fdiv_eq_ediv_of_nonneg (-b) (Int.le_of_lt h)]
  rw [← Int.neg_fdiv_neg, Int.neg_neg]
theorem add_q (q r : Rat) : Rat.divInt (q.num * (r.den : Int) + r.num * (q.den : Int)) ((q.den : Int) * (r.den : Int)) = q + r := by
  have h1 := q.den_pos
  have h2 := r.den_pos
  rw [← Rat.divInt_add_divInt _ _ (by omega) (by omega), Rat.num_divInt_den, Rat.num_divInt_den]
end M

namespace M
def sumR : List Rat → Rat
  | [] => 0
  | r :: rs => r + sumR rs
abbrev D0 : Int := 5342931457063200
/-- a ratio over D0 whose top is not too great -/
def Item (r : Rat) : Prop := ∃ c : Int, r = Rat.divInt c D0 ∧ -(100000000000 * D0) ≤ c ∧ c ≤ 100000000000 * D0
def All (rs : List Rat) : Prop := ∀ r ∈ rs, Item r
end M

namespace M
theorem cop_part {n1 n2 : Int} {a b : Nat} (h1 : Nat.Coprime n1.natAbs a) (h2 : Nat.Coprime b a) : Nat.Coprime (n1 * (b : Int) + n2 * (a : Int)).natAbs a := by
  have da := Nat.gcd_dvd_right (n1 * (b : Int) + n2 * (a : Int)).natAbs a
  have dt := Nat.gcd_dvd_left (n1 * (b : Int) + n2 * (a : Int)).natAbs a
  show Nat.gcd _ _ = 1
  generalize Nat.gcd (n1 * (b : Int) + n2 * (a : Int)).natAbs a = d at da dt
  have e1 : (d : Int) ∣ n1 * (b : Int) + n2 * (a : Int) := Int.ofNat_dvd_left.mpr dt
  have e2 : (d : Int) ∣ n2 * (a : Int) := Int.dvd_trans (Int.ofNat_dvd.mpr da) (Int.dvd_mul_left _ _)
  have e3 : (d : Int) ∣ n1 * (b : Int) := (Int.dvd_add_left e2).mp e1
  have e4 : d ∣ n1.natAbs * b := by
    have z := Int.ofNat_dvd_left.mp e3
    rwa [Int.natAbs_mul, Int.natAbs_natCast] at z
  have c1 : Nat.Coprime d n1.natAbs := Nat.Coprime.symm (Nat.Coprime.coprime_dvd_right da h1)
  have e5 : d ∣ b := c1.dvd_of_dvd_mul_left e4
  have e6 : d ∣ 1 := by
    rw [← h2]
    exact Nat.dvd_gcd e5 da
  exact Nat.dvd_one.mp e6
theorem gcd_part {n1 n2 : Int} {g a b : Nat} (h1 : Nat.Coprime n1.natAbs (g * a)) (h2 : Nat.Coprime n2.natAbs (g * b)) (h3 : Nat.Coprime a b) :
    Nat.gcd (n1 * (b : Int) + n2 * (a : Int)).natAbs (g * a * b) = Nat.gcd (n1 * (b : Int) + n2 * (a : Int)).natAbs g := by
  have c1 := cop_part (n1 := n1) (n2 := n2) (h1.coprime_dvd_right (Nat.dvd_mul_left a g)) h3.symm
  have c2 := cop_part (n1 := n2) (n2 := n1) (h2.coprime_dvd_right (Nat.dvd_mul_left b g)) h3
  rw [Int.add_comm] at c2
  rw [Nat.Coprime.gcd_mul_right_cancel_right _ c2.symm, Nat.Coprime.gcd_mul_right_cancel_right _ c1.symm]
theorem plus_low (q r : Rat) :
    (q.num * ((r.den : Int) / G q.den r.den) + r.num * ((q.den : Int) / G q.den r.den)) / G (q.num * ((r.den : Int) / G q.den r.den) + r.num * ((q.den : Int) / G q.den r.den)) (G q.den r.den) = (q + r).num ∧
    (q.den : Int) / G (q.num * ((r.den : Int) / G q.den r.den) + r.num * ((q.den : Int) / G q.den r.den)) (G q.den r.den) * ((r.den : Int) / G q.den r.den) = ((q + r).den : Int) := by
  have p1 := q.den_pos
  have p2 := r.den_pos
  have hg : 0 < Nat.gcd q.den r.den := Nat.gcd_pos_of_pos_left _ p1
  have eg : G q.den r.den = ((Nat.gcd q.den r.den : Nat) : Int) := by
    rw [G_eq (by omega)]
    simp
  obtain ⟨a, ea⟩ := Nat.gcd_dvd_left q.den r.den
  obtain ⟨b, eb⟩ := Nat.gcd_dvd_right q.den r.den
  have cab : Nat.Coprime a b := by
    have z := Nat.coprime_div_gcd_div_gcd (m := q.den) (n := r.den) hg
    have z1 : q.den / Nat.gcd q.den r.den = a := by
      conv => lhs; lhs; rw [ea]
      exact Nat.mul_div_cancel_left _ hg
    have z2 : r.den / Nat.gcd q.den r.den = b := by
      conv => lhs; lhs; rw [eb]
      exact Nat.mul_div_cancel_left _ hg
    rwa [z1, z2] at z
  rw [eg]
  have r1 := q.reduced
  have r2 := r.reduced
  have aq := add_q q r
  generalize q + r = s at aq
  generalize Nat.gcd q.den r.den = g at *
  rw [ea] at r1 aq p1 ⊢
  rw [eb] at r2 aq p2 ⊢
  have d1 : ((g * a : Nat) : Int) / (g : Int) = (a : Int) := by
    rw [Int.natCast_mul]
    exact Int.mul_ediv_cancel_left _ (by omega)
  have d2 : ((g * b : Nat) : Int) / (g : Int) = (b : Int) := by
    rw [Int.natCast_mul]
    exact Int.mul_ediv_cancel_left _ (by omega)
  rw [d1, d2]
  have hb : 0 < b := by
    rcases Nat.eq_zero_or_pos b with h | h
    · subst h; omega
    · exact h
  have hD : (0 : Int) < ((g * a * b : Nat) : Int) := by
    have : 0 < g * a * b := Nat.mul_pos p1 hb
    omega
  have gg : G (q.num * (b : Int) + r.num * (a : Int)) (g : Int) = G (q.num * (b : Int) + r.num * (a : Int)) ((g * a * b : Nat) : Int) := by
    rw [G_eq (by omega), G_eq (by omega), Int.natAbs_natCast, Int.natAbs_natCast, gcd_part r1 r2 cab]
  have es : Rat.divInt (q.num * (b : Int) + r.num * (a : Int)) ((g * a * b : Nat) : Int) = s := by
    rw [← aq, ← Rat.divInt_mul_right (n := q.num * (b : Int) + r.num * (a : Int)) (d := ((g * a * b : Nat) : Int)) (a := (g : Int)) (by omega)]
    congr 1
    · simp only [Int.natCast_mul, Int.add_mul]
      rw [Int.mul_assoc, Int.mul_assoc, Int.mul_comm (b : Int), Int.mul_comm (a : Int)]
    · simp only [Int.natCast_mul]
      rw [Int.mul_assoc ((g : Int) * a), Int.mul_comm (b : Int)]
  have dv : G (q.num * (b : Int) + r.num * (a : Int)) (g : Int) ∣ ((g * a : Nat) : Int) := by
    rw [Int.natCast_mul]
    exact Int.dvd_trans (G_dvd _ _).2 (Int.dvd_mul_right _ _)
  refine ⟨?_, ?_⟩
  · rw [gg, num_low hD, es]
  · rw [← Int.mul_ediv_assoc' _ dv, gg, ← Int.natCast_mul, den_low hD, es]
end M

/-! ### exceptions of own classes: raised in a def, passed on, caught around a call -/
namespace L2
open PySem PySem.Spec PyProof.Rows
/-- an exception ea of the class cls is in flight above the frames of outer, begun at (H, s); B: what it leaves as it is -/
structure Fly (P : Program) (w : World) (outer : List Env) (H : Hp) (s : Shared) (cls : Value) (H' : Hp) (ea : Addr) (B : Heap) (a0 : Value) (s' : Shared) : Prop where
  os : s'.os = s.os
  bare : AllBare s'.gens
  new : s.heap.get? ea = none
  un : Un (frs outer) [] H H' s.heap s'.heap
  hok : HOk P w H' s'.heap
  keepB : ∀ b o, s.heap.get? b = some o → H b = none → b ∉ frs outer → B.get? b = some o
  tracked : ∀ b u, H' b = some u → ∃ o, s'.heap.get? b = some o ∧ B.get? b = some o
  thB : ∀ b o, s.heap.get? b = some o → b ∉ frs outer → ∃ o', B.get? b = some o'
  fly : Heap.FlyingW B outer ea cls a0 s'.heap
def CXe (P : Program) (w : World) : CXT := fun outer H s E e s' => ∃ (ea : Addr) (cls : Value) (H' : Hp) (B : Heap) (a0 : Value), e = .ref ea ∧ Fly P w outer H s cls H' ea B a0 s' ∧ E cls none H'

section
variable {P : Program} {w : World} {outer : List Env} {H H' : Hp} {s s' : Shared} {cls a0 : Value} {ea : Addr} {B h' : Heap}
end

section
variable {X : Cx} {pins : List (Addr × Obj)} {σ : St} {H : Hp} {s s' : Shared} {M : Model} {E : Value → Shared → Prop} {Q : Unit → Shared → Prop}
theorem Inv.notStk (I : Inv X pins σ H s) {b : Addr} {o : Obj} (e : X.s₀.heap.get? b = some o) (hb : b ∉ X.fs) : b ∉ frs X.stack := fun z =>
  (List.mem_cons.mp (I.stkSub b z)).elim (fun q => absurd q (Nat.ne_of_lt (Nat.lt_of_lt_of_le (Heap.lt_size e) I.ok.above))) hb
/-- it comes from a callee and leaves this frame too -/
theorem fly_on (I : Inv X pins σ H s) (hst : X.stack = X.env :: X.outer) (hf : X.env.frame = some X.env.locals) (hex : X.ex = []) {H' : Hp} {ea : Addr} {cls a0 : Value} {B : Heap} (F : Fly X.prog X.w X.stack H s cls H' ea B a0 s')
    (k : ∀ h', Fly X.prog X.w X.outer X.H₀ X.s₀ cls H' ea B a0 { s' with heap := h' } → Q () { s' with heap := h' }) : wpAny M X.A (leaving X.env (.ref ea)) Q E s' := by
  have noex : ∀ b : Addr, b ∉ X.ex := fun b z => by rw [hex] at z; cases z
  have sub : ∀ b ∈ X.fs, b ∈ frs X.stack := fun b hb => by
    rw [hst]
    obtain ⟨env, he, hf'⟩ := List.mem_filterMap.mp hb
    exact List.mem_filterMap.mpr ⟨env, List.mem_cons_of_mem _ he, hf'⟩
  refine wpAny_leaves_onW (by rw [I.ok.frames, hst]) hf (by have z := F.fly; rw [hst] at z; exact z) fun h' x1 x2 => k h' ?_
  have st := x1.1
  have ff := F.fly.2.2.1
  refine ⟨F.os.trans I.os, F.bare, ?_, ⟨fun b o e n hb _ => ?_, fun b o e n hb _ => ?_, fun b o e n _ => ?_, fun b o e _ => ?_, fun b xs e => F.un.tups b xs (I.base.tups b xs e), fun b o u e => F.un.frzs b o u (I.base.frzs b o u e), fun b ps e => ?_⟩, fun a u e => ?_, fun b o e n hb => ?_, fun b u e => ?_, fun b o e hb => ?_, x1⟩
  · cases q : X.s₀.heap.get? ea with
    | none => rfl
    | some o =>
      obtain ⟨o', e⟩ := I.base.there ea o q (noex ea)
      rw [F.new] at e
      cases e
  · exact st b o (F.keepB b o (I.base.keep b o e n hb (noex b)) (I.base.free b o e n (noex b)) (I.notStk e hb))
  · obtain ⟨sl, e1⟩ := I.base.slot b o e n hb (noex b)
    obtain ⟨sl2, e2⟩ := F.un.slot b _ e1 (I.base.free b o e n (noex b)) (sub b hb) (by simp)
    obtain ⟨_, o2, ho2, nf⟩ := ff.mem (sub b hb)
    rw [e2] at ho2
    cases ho2
    obtain ⟨sl', e3⟩ := x2 b _ e2 nf
    exact ⟨sl', e3⟩
  · obtain ⟨o', e'⟩ := I.base.there b o e (noex b)
    exact F.un.free b o' e' (I.base.free b o e n (noex b)) (by simp)
  · by_cases hb : b ∈ X.fs
    · obtain ⟨_, o2, ho2, nf⟩ := ff.mem (sub b hb)
      obtain ⟨sl', e3⟩ := x2 b _ ho2 nf
      exact ⟨_, e3⟩
    · obtain ⟨o', e'⟩ := I.base.there b o e (noex b)
      obtain ⟨o2, e2⟩ := F.thB b o' e' (I.notStk e hb)
      exact ⟨o2, st b o2 e2⟩
  · obtain ⟨m1, e1⟩ := I.base.tbls b ps e
    obtain ⟨m2, e2⟩ := F.un.tbls b _ e1
    exact ⟨m1 ++ m2, by rw [e2, Array.append_assoc]⟩
  · refine (F.hok a u e).stay (fun b v hb q => ?_) (fun _ q => q) fun _ _ q => q
    have z : ∃ u', H' b = some u' := by
      rcases hb with z | z
      · rw [z]; exact ⟨u, e⟩
      · exact ⟨_, z⟩
    obtain ⟨u', e'⟩ := z
    obtain ⟨o, e1, e2⟩ := F.tracked b u' e'
    rw [q] at e1
    cases e1
    exact st b v e2
  · exact F.keepB b o (I.base.keep b o e n hb (noex b)) (I.base.free b o e n (noex b)) (I.notStk e hb)
  · obtain ⟨o, _, e2⟩ := F.tracked b u e
    exact ⟨o, st b o e2, e2⟩
  · obtain ⟨o', e'⟩ := I.base.there b o e (noex b)
    exact F.thB b o' e' (I.notStk e hb)
end

section
variable {P : Program} {w : World} {K : PySem.W.Frag} {mg : Str → Option Value} {base : Heap}
/-- what a callee raises passes through this def -/
theorem pass_e {N : List Str} {qual : Str} {scope : Scope} {f : Addr} {cd : Value} {A : Around} {outer : List Env} {s : Shared} {H : Hp} {E E' : XK} (hE : ∀ cls H', E' cls none H' → E cls none H') :
    Passes (CXe P w) (cxOf (CXe P w) P w K mg base N qual scope f cd A outer s H E) E' := fun pins σ H1 s1 e s' I h => by
  obtain ⟨ea, cls, H', B, a0, rfl, F, q⟩ := h
  exact fly_on I rfl rfl rfl F fun h' F' => ⟨ea, cls, H', B, a0, rfl, F', hE _ _ q⟩
/-- a def that may raise -/
theorem Fun.okx {x qual : Str} {st : Stmt} {f : Addr} {fd : FuncData} {N ps : List Str} {k : Nat} {sp : Sp} (F : Fun K x qual st f fd) (S : FnScope N ps (defScope st)) (len : ∀ vs H Q E, sp vs H Q E → vs.length = ps.length)
    (hbody : ∀ (cdv : Value) (A : Around) (outer : List Env) (s : Shared) (H : Hp) (vs : List V) (Q : VK) (E : XK), Room k (A.deeper (envOfC qual (defScope st) s.heap.objs.size f cdv)) → sp vs H Q E →
      ∃ t, PSs (cxOf (CXe P w) P w K mg base N qual (defScope st) f cdv A outer s H E) (defBody st) t ∧ t { nx := fun _ H' => Q .non H', rt := Q } (start N vs) H) : FnOk P w K mg base (CXe P w) (k + 1) f fd ps sp := by
  obtain ⟨oc, od, kV, doc, pm, an, cdv, ct, osl, rfl, lk, hcd⟩ := F.ex
  refine fn_of lk hcd S len fun A outer s H vs Q E hr hsp => ?_
  exact hbody cdv A outer s H vs Q E hr hsp
end
/-- an own class of exceptions, its built-in base B -/
structure Exc (K : PySem.W.Frag) (mg : Str → Option Value) (x : Str) (C : Addr) : Prop where
  at' : mg x = some (.ref C)
  ex : PySem.W.excIn K C [.type "ValueError", .type "Exception", .type "BaseException", .type "object"] "ValueError.__new__" = true
/-- raise C(e, ..) -/
def tRaise (t : TA) (C : Addr) (E : XK) : TS := fun _ σ H => t σ H fun vs H1 => vs.length ≤ sizeLine ∧ E (.ref C) none H1
section
variable {P : Program} {w : World} {K : PySem.W.Frag} {mg : Str → Option Value} {base : Heap} {N : List Str} {qual : Str} {scope : Scope} {f C : Addr} {cd : Value} {A : Around} {outer : List Env} {s₀ : Shared} {H₀ : Hp} {E : XK} {x : Str} {e : Expr} {es : List Expr} {t : TA} {np cpos pos : Pos}
end

/-! ### try: f(..) except C as n: .. -/
/-- an expression that may raise, by what is wanted then -/
def PEx (X : Cx) (e : Expr) (tx : St → Hp → VK → (Value → Hp → Prop) → Prop) : Prop :=
  ∀ (pins : List (Addr × Obj)) (s : Shared) (σ : St) (H : Hp) (Q : VK) (Ex : Value → Hp → Prop), Inv X pins σ H s → tx σ H Q Ex →
    wpAny (model X.prog X.w) X.A (eval e X.env) (EP X pins σ Q) (fun ev s' => ∃ H1 s1, Inv X pins σ H1 s1 ∧ CXe X.prog X.w X.stack H1 s1 (fun cls _ H' => Ex cls H') ev s') s
section
variable {X : Cx} {k : Nat} {f C : Addr} {fd : FuncData} {ps : List Str} {sp : Sp} {dvs : List V} {ds : List Value} {x m : Str} {p pos apos : Pos} {e o : Expr} {es : List Expr} {ta : TE} {t : TA}
end
/-- the context of an except suite -/
abbrev Cx.inExc (X : Cx) (ea : Addr) : Cx := { X with A := X.A.mark (some (.ref ea)), calm := false }
/-- an exception that is held -/
abbrev exO (ea : Addr) (cls : Value) : HO := .ext fun h => ∃ (o : Obj) (vs : Array Value), h.get? ea = some o ∧ o.cls = cls ∧ o.data = .fields vs
def tTryAs (K : PySem.W.Frag) (tx : St → Hp → VK → (Value → Hp → Prop) → Prop) (C : Addr) (i : Nat) (tb : Addr → TS) : TS := fun D σ H => tx σ H (fun _ H1 => D.nx σ H1) fun cls H1 =>
  PySem.W.exmOne K cls (.ref C) = some true ∧ ∀ ea, H1 ea = none → tb ea { nx := fun _ _ => False, rt := D.rt } (σ.set i (some (.ref ea))) (upd H1 ea (exO ea cls))
end L2

/-! ### isinstance of an exception that is held -/
namespace L2
open PySem PySem.Spec PyProof.Rows
/-- what the top says of a class of exceptions, for its instances -/
structure ExcI (K : PySem.W.Frag) (C : Addr) : Prop where
  ga : PySem.W.findIn K (.ref C) "__getattribute__" = some (some (.builtin "BaseException.__getattribute__"))
  gt : PySem.W.findIn K (.ref C) "__getattr__" = some none
  cl : PySem.W.findIn K (.ref C) "__class__" = some (some (.builtin "object.__class__"))
  mb : PySem.W.mroIn K C (.type "BaseException") = some true
  mo : PySem.W.mroIn K C (.type "object") = some true
section
variable {prog : Program} {w : World} {A : Around} {E : Value → Shared → Prop} {h : Heap} {g : Array GenState} {d : Drawn} {t : Nat} {os : OsState} {a C : Addr} {o : Obj} {vs : Array Value} {K : PySem.W.Frag}
end
section
variable {X : Cx}
end
end L2

/-! ### a list comprehension -/
namespace L2
open PySem PySem.Spec PyProof.Rows
/-- the closure's cells -/
def clOf (cells : List (Str × Addr)) : List (Str × NameKind) → List (Str × Addr) → List (Str × Addr)
  | [], acc => acc
  | (n, k) :: r, acc => if k == .free then (match cells.lookup n with | some c => clOf cells r ((n, c) :: acc) | none => clOf cells r acc) else clOf cells r acc
theorem clOf_sub {cells : List (Str × Addr)} : ∀ {names : List (Str × NameKind)} {acc : List (Str × Addr)}, (∀ x c, acc.lookup x = some c → cells.lookup x = some c) → ∀ x c, (clOf cells names acc).lookup x = some c → cells.lookup x = some c
  | [], _, h => h
  | (n, k) :: r, acc, h => by
    intro x c
    unfold clOf
    split
    · split
      · rename_i c' hc
        refine clOf_sub (names := r) (fun y d hy => ?_) x c
        rw [List.lookup_cons] at hy
        by_cases e : y == n
        · rw [e] at hy
          cases hy
          rw [beq_iff_eq.mp e]
          exact hc
        · rw [Bool.eq_false_iff.mpr e] at hy
          exact h y d hy
      · exact clOf_sub (names := r) h x c
    · exact clOf_sub (names := r) h x c
theorem clOf_mono {cells : List (Str × Addr)} : ∀ {names : List (Str × NameKind)} {acc : List (Str × Addr)} {x : Str}, (∃ c, acc.lookup x = some c) → ∃ c, (clOf cells names acc).lookup x = some c
  | [], _, _, h => h
  | (n, k) :: r, acc, x, h => by
    unfold clOf
    split
    · split
      · refine clOf_mono (names := r) ?_
        rw [List.lookup_cons]
        by_cases e : x == n
        · rw [e]; exact ⟨_, rfl⟩
        · rw [Bool.eq_false_iff.mpr e]; exact h
      · exact clOf_mono (names := r) h
    · exact clOf_mono (names := r) h
theorem clOf_has {cells : List (Str × Addr)} : ∀ {names : List (Str × NameKind)} {acc : List (Str × Addr)} {x : Str}, (x, NameKind.free) ∈ names → (∃ c, cells.lookup x = some c) → ∃ c, (clOf cells names acc).lookup x = some c
  | [], _, _, h, _ => by cases h
  | (n, k) :: r, acc, x, h, hc => by
    unfold clOf
    rcases List.mem_cons.mp h with e | e
    · cases e
      obtain ⟨c, hc⟩ := hc
      rw [hc]
      refine clOf_mono (names := r) ⟨c, ?_⟩
      rw [List.lookup_cons, beq_self_eq_true]
    · split
      · split
        · exact clOf_has (names := r) e hc
        · exact clOf_has (names := r) e hc
      · exact clOf_has (names := r) e hc
theorem closureFor_eq {scope : Scope} {env : Env} (h : ∀ y ∈ scope.names, y.2 = .free → ∃ c, env.cells.lookup y.1 = some c) : closureFor scope env = pure (clOf env.cells scope.names []) := by
  have gen : ∀ (names : List (Str × NameKind)) (acc : List (Str × Addr)), (∀ y ∈ names, y.2 = .free → ∃ c, env.cells.lookup y.1 = some c) →
      (forIn names acc fun (x : Str × NameKind) r => (if x.2 == NameKind.free then do let c ← cellOf env x.1; pure (ForInStep.yield ((x.1, c) :: r)) else pure (ForInStep.yield r) : Sem (ForInStep (List (Str × Addr))))) = pure (clOf env.cells names acc) := by
    intro names
    induction names with
    | nil => intro acc _; rfl
    | cons y r ih =>
      intro acc h
      obtain ⟨n, k⟩ := y
      have hr : ∀ y ∈ r, y.2 = .free → ∃ c, env.cells.lookup y.1 = some c := fun y hy => h y (List.mem_cons_of_mem _ hy)
      rw [List.forIn_cons]
      unfold clOf
      by_cases e : (k == NameKind.free) = true
      · obtain ⟨c, hc⟩ := h (n, k) List.mem_cons_self (by simpa using e)
        rw [if_pos e, hc]
        have hcell : cellOf env n = pure c := by
          unfold cellOf
          rw [show env.cells.lookup n = some c from hc]
        simp only [if_pos e, hcell, pure_bind]
        exact ih _ hr
      · rw [if_neg e]
        simp only [if_neg e, pure_bind]
        exact ih _ hr
  unfold closureFor
  have g := gen scope.names [] h
  simp only [bind_pure]
  exact g
end L2

namespace L2
open PySem PySem.Spec PyProof.Rows
def rlb (env : Env) (names : List (Str × NameKind)) : List (Str × NameKind) := names.map fun (n, k) => if (k == NameKind.free && env.scope.kind == .function && env.kindOf n == some .cell) then (n, NameKind.cell) else (n, k)
theorem rlb_lookup {env : Env} : ∀ {names : List (Str × NameKind)} {x : Str}, (rlb env names).lookup x = (names.lookup x).map fun k => if (k == NameKind.free && env.scope.kind == .function && env.kindOf x == some .cell) then NameKind.cell else k
  | [], _ => rfl
  | (n, k) :: r, x => by
    have ih := @rlb_lookup env r x
    show List.lookup x ((if (k == NameKind.free && env.scope.kind == .function && env.kindOf n == some .cell) = true then (n, NameKind.cell) else (n, k)) :: rlb env r) = _
    rw [List.lookup_cons]
    cases hx : x == n with
    | true =>
      have e := beq_iff_eq.mp hx
      subst e
      by_cases hc : (k == NameKind.free && env.scope.kind == .function && env.kindOf x == some .cell) = true
      · rw [if_pos hc, List.lookup_cons, beq_self_eq_true]
        show _ = some (if (k == NameKind.free && env.scope.kind == .function && env.kindOf x == some .cell) = true then NameKind.cell else k)
        rw [if_pos hc]
      · rw [if_neg hc, List.lookup_cons, beq_self_eq_true]
        show _ = some (if (k == NameKind.free && env.scope.kind == .function && env.kindOf x == some .cell) = true then NameKind.cell else k)
        rw [if_neg hc]
    | false =>
      by_cases hcond : (k == NameKind.free && env.scope.kind == .function && env.kindOf n == some .cell) = true
      · rw [if_pos hcond, List.lookup_cons, hx]; exact ih
      · rw [if_neg hcond, List.lookup_cons, hx]; exact ih
theorem mem_of_look {names : List (Str × NameKind)} {x : Str} {k : NameKind} (h : names.lookup x = some k) : (x, k) ∈ names := PySem.mem_of_lookup h
/-- the names and the state of a comprehension's block: the targets, then the captured names -/
def lcN (X : Cx) (ts : List Str) (js : List Nat) : List Str := ts ++ js.map fun j => X.N.getD j ""
def lcS (ts : List Str) (js : List Nat) (σ : St) : St := ts.map (fun _ => none) ++ js.map fun j => (σ[j]?).join
abbrev Cx.lc (X : Cx) (scope : Scope) (ts : List Str) (js : List Nat) (C : Addr) (s2 : Shared) (H2 : Hp) (fp : List Addr) : Cx :=
  { X with N := lcN X ts js, s₀ := s2, H₀ := H2, env := compEnvC scope (clOf X.env.cells scope.names []) C X.env, outer := X.stack, ex := fp, fn := fun _ => false, pn := [], xe := fun _ _ => False }
/-- what is asked of a comprehension's scope -/
structure LcOk (X : Cx) (scope : Scope) (js : List Nat) : Prop where
  kind : scope.kind = .function
  cell : ∀ y ∈ scope.names, y.2 ≠ .cell
  names : ∀ y ∈ scope.names, y.2 = .local → scope.names.lookup y.1 = some .local
  free : ∀ y ∈ scope.names, y.2 = .free → X.env.kindOf y.1 = some .cell ∨ X.env.kindOf y.1 = some .free
  cap : ∀ j ∈ js, scope.names.lookup (X.N.getD j "") = some .free
section
variable {X : Cx} {scope : Scope} {ts : List Str} {js : List Nat} {pins : List (Addr × Obj)} {σ : St} {H H' : Hp} {s : Shared} {h' : Heap}
theorem lc_start {C : Addr} {fp : List Addr} {t' : Nat} (L : LcOk X scope js) (I : Inv X pins σ H s) (hC : s.heap.objs.size ≤ C) (hns : h'.Ns C fun _ => none) (kept : ∀ b o, s.heap.get? b = some o → h'.get? b = some o)
    (hfp : ∀ b ∈ fp, FpOk X pins H b) (hob : ∀ b ∈ fp, ∃ o, s.heap.get? b = some o) : Inv (X.lc scope ts js C s H fp) [] (lcS ts js σ) H { s with heap := h', toks := t' } := by
  have sub : ∀ x c, (clOf X.env.cells scope.names []).lookup x = some c → X.env.cells.lookup x = some c := clOf_sub (names := scope.names) (acc := []) (fun _ _ z => by cases z)
  have hasc : ∀ x, scope.names.lookup x = some .free → ∃ c, (clOf X.env.cells scope.names []).lookup x = some c := fun x hx =>
    clOf_has (mem_of_look hx) (I.ok.has x (L.free _ (mem_of_look hx) rfl))
  have kinds : ∀ x, (compEnvC scope (clOf X.env.cells scope.names []) C X.env).kindOf x = (scope.names.lookup x).map fun k => if (k == NameKind.free && X.env.scope.kind == .function && X.env.kindOf x == some .cell) then NameKind.cell else k := fun x => rlb_lookup
  have ltC : ∀ b o, s.heap.get? b = some o → b ≠ C := fun b o e => Nat.ne_of_lt (Nat.lt_of_lt_of_le (Heap.lt_size e) hC)
  have fromFree : ∀ x, ((compEnvC scope (clOf X.env.cells scope.names []) C X.env).kindOf x = some .cell ∨ (compEnvC scope (clOf X.env.cells scope.names []) C X.env).kindOf x = some .free) → scope.names.lookup x = some .free := fun x hx => by
    rw [kinds] at hx
    cases q : scope.names.lookup x with
    | none => rw [q] at hx; rcases hx with z | z <;> cases z
    | some k =>
      rw [q] at hx
      have hk : k ≠ .cell := L.cell _ (mem_of_look q)
      cases k with
      | free => rfl
      | cell => exact absurd rfl hk
      | _ => rcases hx with z | z <;> cases z
  refine ⟨⟨I.ok.mod, L.kind, I.ok.glob, I.ok.blt, hC, fun x y c h1 h2 => I.ok.inj x y c (sub x c h1) (sub y c h2), fun x hx => hasc x (fromFree x hx), fun _ _ z => Bool.noConfusion z, I.ok.hd, I.ok.frames, .inl rfl, fun b hb => ?_, I.bs, Nat.le_trans I.ok.bsz I.sz, fun b o e hb => ?_, fun b hb z => ?_, I.stack, I.stkFree⟩,
    rfl, I.bare, Un.kept kept, ⟨_, hns, fun i x v h1 h2 h3 => ?_⟩, fun x c e => ?_, I.hok.fresh hC, fun x c e => I.freeC x c (sub x c e), fun p hp => absurd (show p ∈ ([] : List (Addr × Obj)) from hp) (by simp), I.hok.kept kept, ?_⟩
  · obtain ⟨o, e⟩ := hob b hb
    exact ⟨ltC b o e, fun x c q => (hfp b hb).2.2.2.2.1 x c (sub x c q)⟩
  · rcases (hfp b hb).2.2.2.1 with z | z
    · exact I.ok.noex b o e z
    · exact absurd (Nat.lt_of_lt_of_le (Heap.lt_size e) (Nat.le_trans I.ok.bsz z)) (Nat.lt_irrefl _)
  · exact (List.mem_cons.mp (I.stkSub b z)).elim (hfp b hb).2.1 (hfp b hb).2.2.1
  · have hi : ¬ i < ts.length := fun hi => by
      have h2' : (lcS ts js σ)[i]? = some (some v) := h2
      unfold lcS at h2'
      rw [List.getElem?_append_left (by simpa using hi), List.getElem?_map, List.getElem?_eq_getElem hi] at h2'
      cases h2'
    have h2' : (lcS ts js σ)[i]? = some (some v) := h2
    have h1' : (lcN X ts js)[i]? = some x := h1
    unfold lcS at h2'
    unfold lcN at h1'
    rw [List.getElem?_append_right (by simpa using hi), List.getElem?_map, List.length_map] at h2'
    rw [List.getElem?_append_right (by omega), List.getElem?_map] at h1'
    cases q : js[i - ts.length]? with
    | none => rw [q] at h1'; cases h1'
    | some j =>
      rw [q] at h1' h2'
      have e1 : X.N.getD j "" = x := Option.some.inj h1'
      have e2 : (σ[j]?).join = some v := Option.some.inj h2'
      have e3 : σ[j]? = some (some v) := by
        cases z : σ[j]? with
        | none => rw [z] at e2; cases e2
        | some o => rw [z] at e2; exact congrArg some e2
      have hj : j < X.N.length := by rw [← I.len]; exact (List.getElem?_eq_some_iff.mp e3).1
      have e4 : X.N[j]? = some x := by
        rw [List.getElem?_eq_getElem hj, ← e1, List.getD_eq_getElem?_getD, List.getElem?_eq_getElem hj]; rfl
      have hf := L.cap j (List.mem_of_getElem? q)
      rw [e1] at hf
      have hk := L.free _ (mem_of_look hf) rfl
      obtain ⟨m, hn, hl⟩ := I.loc
      have vis : Vis X.env.scope x := by
        rcases hk with z | z
        · exact .inr (.inl z)
        · exact .inr (.inr z)
      obtain ⟨u, r, l⟩ := hl j x v e4 e3 vis
      refine ⟨u, r, ?_⟩
      rcases l with ⟨z, _⟩ | ⟨_, c, hc, hcell⟩
      · have z' : X.env.kindOf x = some .local := z
        rcases hk with k | k
        · rw [z'] at k; cases k
        · rw [z'] at k; cases k
      · obtain ⟨c', hc'⟩ := hasc x hf
        have e5 := sub x c' hc'
        rw [hc] at e5
        cases e5
        refine .inr ⟨?_, c, hc', ?_⟩
        · rw [kinds, hf]
          by_cases z : ((NameKind.free == NameKind.free) && X.env.scope.kind == .function && X.env.kindOf x == some .cell) = true
          · left; simp only [Option.map_some, if_pos z]
          · right; simp only [Option.map_some, if_neg z]
        · obtain ⟨o, ho, hd⟩ := hcell
          exact ⟨o, kept c o ho, hd⟩
  · obtain ⟨v, o, ho, hd⟩ := I.cell x c (sub x c e)
    exact ⟨v, o, kept c o ho, hd⟩
  · show (lcS ts js σ).length = (lcN X ts js).length
    unfold lcS lcN
    simp
end
end L2

namespace L2
open PySem PySem.Spec PyProof.Rows
/-- what is wanted of one turn of a comprehension's loop, the exceptions left out -/
def LcTurn (Mo : Model) (A : Around) (tgt elt : Expr) (tests : List Expr) (it lst : Value) (env : Env) (Fin : Shared → Prop) (Again : Shared → Prop) (s0 : Shared) : Prop :=
  wpAny Mo A (pyNext it) (fun nx s1 => match nx with
    | none => Fin s1
    | some v => wpAny Mo A (letOwnedTupleGo tgt it v) (fun _ s2 => wpAny Mo A (assign tgt env v) (fun _ s3 =>
        wpAny Mo A (forIn tests true fun c ok => if ok = true then (do let b ← isTrue c env (eval c env); pure (ForInStep.yield b)) else pure (ForInStep.yield ok)) (fun b s4 =>
          if b = true then wpAny Mo A (eval elt env) (fun y s5 => wpAny Mo A (call (.builtin "list.append") [lst, y]) (fun _ s6 => Again s6) (fun _ _ => False) s5) (fun _ _ => False) s4
          else Again s4) (fun _ _ => False) s3) (fun _ _ => False) s2) (fun _ _ => False) s1) (fun _ _ => False) s0
theorem compLoop_by {P : Program} {w : World} {A : Around} {R : Result → Shared → Prop} {s0 : Shared} {elt tgt iter : Expr} {tests : List Expr} {scope : Scope} {pos : Pos} {it lst : Value} {env : Env} (Iv : Nat → Shared → Prop)
    (turn : ∀ k sk, Iv k sk → LcTurn (model P w) A tgt elt tests it lst env (R (.ok .next)) (fun s' => ∃ j, j < k ∧ Iv j s') sk) (k0 : Nat) (h0 : Iv k0 s0) :
    codeAny (model P w) A (.compLoop (.ListComp elt [⟨tgt, iter, tests, 0⟩] scope pos) 0 it lst env) R s0 := by
  refine codeAny_loop rfl Iv (fun k sk hk => ?_) k0 h0
  show wpAny (model P w) A ((compTurn (.ListComp elt [⟨tgt, iter, tests, 0⟩] scope pos) 0 it lst env).onRaise fun ex => do noteFrame ex env; theTreesLotGoes ex) _ _ sk
  refine wpAny_noted (wpAny_noRaise ?_)
  rw [compTurn_list]
  refine wpAny_bind (wpAny_standAt (wpAny_bind (thn (turn k sk hk) fun nx s1 q1 => ?_)))
  cases nx with
  | none => exact wpAny_pure q1
  | some v =>
    refine wpAny_bind (thn q1 fun _ s2 q2 => wpAny_bind (thn q2 fun _ s3 q3 => wpAny_bind (thn q3 fun b s4 q4 => ?_)))
    cases b with
    | true => exact wpAny_bind (wpAny_bind (thn q4 fun y s5 q5 => wpAny_bind (thn q5 fun _ s6 q6 => wpAny_pure (wpAny_pure ⟨rfl, q6⟩))))
    | false => exact wpAny_pure ⟨rfl, q4⟩
/-- what a state still says -/
def SubS : St → St → Prop
  | [], [] => True
  | none :: a, _ :: b => SubS a b
  | some v :: a, w :: b => w = some v ∧ SubS a b
  | [], _ :: _ => False
  | _ :: _, [] => False
theorem SubS.ok : ∀ {a b : St}, SubS a b → a.length = b.length ∧ ∀ (i : Nat) v, a[i]? = some (some v) → b[i]? = some (some v)
  | [], [], _ => ⟨rfl, fun i v h => by simp at h⟩
  | none :: a, _ :: b, h => by
    obtain ⟨h1, h2⟩ := SubS.ok (a := a) (b := b) h
    refine ⟨by simp [h1], fun i v hv => ?_⟩
    cases i with
    | zero => simp at hv
    | succ i => simpa using h2 i v (by simpa using hv)
  | some u :: a, w :: b, h => by
    obtain ⟨h1, h2⟩ := SubS.ok (a := a) (b := b) h.2
    refine ⟨by simp [h1], fun i v hv => ?_⟩
    cases i with
    | zero => simpa [h.1] using hv
    | succ i => simpa using h2 i v (by simpa using hv)
  | [], _ :: _, h => False.elim h
  | none :: _, [], h => False.elim h
  | some _ :: _, [], h => False.elim h
/-- the tests of a comprehension -/
def PIfs (X : Cx) (ifs : List Expr) (t : TT) : Prop :=
  ∀ (pins : List (Addr × Obj)) (s : Shared) (σ : St) (H : Hp) (Q : Bool → Hp → Prop), Inv X pins σ H s → t σ H Q →
    wpAny (model X.prog X.w) X.A (forIn ifs true fun c r => if r = true then do let ok ← isTrue c X.env (eval c X.env); pure (ForInStep.yield ok) else pure (ForInStep.yield r)) (TP X pins σ Q) X.xe s
def tYes : TT := fun _ H Q => Q true H
theorem pf_nil {X : Cx} : PIfs X [] tYes := fun _ _ _ H _ I h => wpAny_pure ⟨H, I, h⟩
theorem pf_one {X : Cx} {c : Expr} {t : TT} (h : PT X c t) : PIfs X [c] t := fun pins s σ H Q I hq => by
  simp only [List.forIn_nil, List.forIn_cons, if_true]
  exact wpAny_bind (wpAny_bind (thn (h pins s σ H Q I hq) fun b s' hb => wpAny_pure (wpAny_pure hb)))
/-- [te for g in wi if tc]: W, the invariant by the turn, a measure, the items so far -/
def LcW (J : It) (ts : List Str) (js : List Nat) (g : TG) (tc : TT) (te : TE) (σ : St) (H1 : Hp) (Q : VK) : Prop := ∃ (W : Nat → List V → Hp → Prop) (n : Nat), W 0 [] H1 ∧ ∀ i ys H, W i ys H →
  (J.stop i H ∧ ∀ p, H p = none → Q (.ref p) (upd H p (.lst ys))) ∨
  (i < n ∧ J.go i H ∧ ys.length < sizeLine ∧ ∀ x H', J.yld i H x H' → g x (lcS ts js σ) H' fun σ2 H2 => SubS (lcS ts js σ) σ2 ∧ tc σ2 H2 fun b H3 => if b = true then te σ2 H3 fun y H4 => W (i + 1) (ys ++ [y]) H4 else W (i + 1) ys H3)
abbrev Dp (α : Type) := Addr → Shared → Hp → List Addr → α
def tLc (wi : TI) (ts : List Str) (js : List Nat) (g : Dp TG) (tc : Dp TT) (te : Dp TE) : TE := fun σ H Q => wi σ H fun J H1 => ∀ C s2 H2 fp, LcW J ts js (g C s2 H2 fp) (tc C s2 H2 fp) (te C s2 H2 fp) σ H1 Q
section
variable {X : Cx} {scope : Scope} {ts : List Str} {js : List Nat} {pins : List (Addr × Obj)} {σ : St} {H H' : Hp} {s : Shared} {tg elt iter : Expr} {ifs : List Expr} {g : Dp TG} {tc : Dp TT} {te : Dp TE} {pos : Pos} {E : Value → Shared → Prop}
/-- an object that stood untracked is tracked -/
theorem Inv.track {D : Addr} {o : HO} (I : Inv X pins σ H s) (f : FpOk X pins H D) (hD : X.s₀.heap.objs.size ≤ D) (new : ObjOk X.prog X.w (upd H D o) s.heap D o) : Inv X pins σ (upd H D o) s := by
  obtain ⟨f0, f1, f2, f3, f4, f5⟩ := f
  have ne : ∀ b u, H b = some u → b ≠ D := fun b u e z => by rw [z, f0] at e; cases e
  have ne0 : ∀ b ob, X.s₀.heap.get? b = some ob → b ≠ D := fun b ob e => Nat.ne_of_lt (Nat.lt_of_lt_of_le (Heap.lt_size e) hD)
  refine ⟨I.ok, I.os, I.bare, ⟨I.base.keep, I.base.slot, fun b ob e n hx => ?_, I.base.there, fun b xs e => ?_, fun b ob u e => ?_, fun b ps e => ?_⟩, I.loc, I.cell, ?_, fun x c e => ?_, fun p hp => ?_, fun a u e => ?_, I.len⟩
  · rw [upd_ne (ne0 b ob e)]; exact I.base.free b ob e n hx
  · have q := I.base.tups b xs e
    rw [upd_ne (ne b _ q)]; exact q
  · have q := I.base.frzs b ob u e
    rw [upd_ne (ne b _ q)]; exact q
  · obtain ⟨m, q⟩ := I.base.tbls b ps e
    exact ⟨m, by rw [upd_ne (ne b _ q)]; exact q⟩
  · rw [upd_ne (Ne.symm f1)]; exact I.free
  · rw [upd_ne (f4 x c e)]; exact I.freeC x c e
  · obtain ⟨a1, a2, a3⟩ := I.pin p hp
    exact ⟨a1, by rw [upd_ne (f5 p hp)]; exact a2, a3⟩
  · by_cases ha : a = D
    · subst ha
      rw [upd_same] at e
      cases e
      exact new
    · rw [upd_ne ha] at e
      refine (I.hok a u e).stay (fun _ _ _ q => q) (fun b q => ?_) fun b xs q => ?_
      · rw [upd_ne (ne b _ q)]; exact q
      · rw [upd_ne (ne b _ q)]; exact q
theorem lc_block {it : Addr} {fp : List Addr} {tn : Nat → Heap → Prop} {J : It} {Q : VK} {RR : Value → Addr → Result → Shared → Prop} (L : LcOk X scope js) (hc : X.calm = true) (I : Inv X pins σ H s) (T : Turn X.prog X.w X.K tg J fp it tn) (st : tn 0 s.heap)
    (hf : ∀ b ∈ fp, FpOk X pins H b) (hg : ∀ C s H fp, PG (X.lc scope ts js C s H fp) tg (g C s H fp)) (hcs : ∀ C s H fp, PIfs (X.lc scope ts js C s H fp) ifs (tc C s H fp)) (he : ∀ C s H fp, PE (X.lc scope ts js C s H fp) elt (te C s H fp)) (hw : ∀ C s2 H2 fp, LcW J ts js (g C s2 H2 fp) (tc C s2 H2 fp) (te C s2 H2 fp) σ H Q)
    (hRR : ∀ D C s' H' ys m', Inv X pins σ (upd H' D (.lst ys)) s' → FpOk X pins (upd H' D (.lst ys)) C → s'.heap.Ns C m' → Q (.ref D) (upd H' D (.lst ys)) → RR (.ref D) C (.ok .next) s') :
    wpAny (model X.prog X.w) X.A (newList []) (fun acc s₃ => wpAny (model X.prog X.w) X.A (newFunctionEnv scope X.env.globals (clOf X.env.cells scope.names []) [] X.env.qual none .none (some X.env)) (fun cenv s₄ =>
      codeAny (model X.prog X.w) X.A (.compStart (.ListComp elt [⟨tg, iter, ifs, 0⟩] scope pos) 0 (.ref it) acc { cenv with scope := relabel scope X.env }) (RR acc cenv.locals) s₄) E s₃) E s := by
  refine wpAny_newObj_type (wpAny_newFunctionEnv L.cell (by intro y hy; simp at hy) (fun h₁ hns₁ hsb₁ => ?_) L.kind)
  dsimp only at hns₁ hsb₁ ⊢
  generalize hH2 : s.heap.push { cls := .type "list", dict := none, data := .seq ([] : List Value).toArray } = G2 at hns₁ hsb₁ ⊢
  have hC : G2.objs.size = s.heap.objs.size + 1 := by rw [← hH2, Heap.size_push]
  generalize hCd : G2.objs.size = C at hns₁ hsb₁ hC ⊢
  obtain ⟨W, nn, w0, turn⟩ := hw C s H fp
  have hDC : s.heap.objs.size ≠ C := by rw [hC]; exact Nat.ne_of_lt (Nat.lt_succ_self _)
  have hCle : s.heap.objs.size ≤ C := by rw [hC]; exact Nat.le_succ _
  have below : ∀ b, b < s.heap.objs.size → b ≠ C ∧ b ≠ s.heap.objs.size := fun b hb => ⟨by rw [hC]; exact Nat.ne_of_lt (Nat.lt_succ_of_lt hb), Nat.ne_of_lt hb⟩
  have old : ∀ b o, s.heap.get? b = some o → h₁.get? b = some o := fun b o e => hsb₁.extBut b o (below b (Heap.lt_size e)).1 (Heap.get?_push_of_some _ (hH2 ▸ Heap.get?_push_of_some _ e))
  have hacc : h₁.PlainList s.heap.objs.size #[] := ⟨_, hsb₁.extBut _ _ hDC (Heap.get?_push_of_some _ (hH2 ▸ Heap.get?_push_size _ rfl))⟩
  have hob : ∀ b ∈ fp, ∃ o, s.heap.get? b = some o := fun b hb => by obtain ⟨o, e, _⟩ := T.obj 0 _ st b hb; exact ⟨o, e⟩
  have st₁ : tn 0 h₁ := T.keep 0 _ _ st fun b _ o e => old b o e
  generalize hD : s.heap.objs.size = D at hacc hDC hCle below ⊢
  have I1 : Inv (X.lc scope ts js C s H fp) [] (lcS ts js σ) H { s with heap := h₁, toks := s.toks + ([] : List (Str × Value)).length } := lc_start L I (by rw [hD]; exact hCle) hns₁ old hf hob
  have stk : ∀ b ∈ frs X.stack, b < s.heap.objs.size := fun b hb => by obtain ⟨_, o, e, _⟩ := I.stack.mem hb; exact Heap.lt_size e
  have cells : ∀ x c, (clOf X.env.cells scope.names []).lookup x = some c → X.env.cells.lookup x = some c := clOf_sub (names := scope.names) (acc := []) (fun _ _ z => by cases z)
  have stat : ∀ {K : Hp}, (∀ b ∈ D :: fp, K b = none) → ∀ b ∈ D :: fp, FpOk (X.lc scope ts js C s H fp) [] K b := fun {K} hn b hb => by
    refine ⟨hn b hb, ?_, ?_, ?_, ?_, fun p hp => absurd (show p ∈ ([] : List (Addr × Obj)) from hp) (by simp)⟩
    · rcases List.mem_cons.mp hb with z | z
      · rw [z]; exact hDC
      · obtain ⟨o, e⟩ := hob b z
        exact (below b (by rw [← hD]; exact Heap.lt_size e)).1
    · intro z
      rcases List.mem_cons.mp hb with q | q
      · have := stk b z
        rw [q, hD] at this
        exact Nat.lt_irrefl _ this
      · exact (List.mem_cons.mp (I.stkSub b z)).elim (hf b q).2.1 (hf b q).2.2.1
    · rcases List.mem_cons.mp hb with q | q
      · right; rw [q]; exact Nat.le_of_eq hD
      · exact .inl q
    · intro x c e z
      rcases List.mem_cons.mp hb with q | q
      · obtain ⟨v, qc⟩ := I.cell x c (cells x c e)
        have := qc.lt
        rw [z, q, hD] at this
        exact Nat.lt_irrefl _ this
      · exact (hf b q).2.2.2.2.1 x c (cells x c e) z
  have fr1 : ∀ b ∈ D :: fp, H b = none := fun b hb => by
    rcases List.mem_cons.mp hb with q | q
    · rw [q]; exact I.hok.fresh (by rw [hD]; exact Nat.le_refl _)
    · exact (hf b q).1
  have objs : ∀ i (h : Heap) (its : Array Value), tn i h → h.PlainList D its → ∀ b ∈ D :: fp, ∃ o, h.get? b = some o ∧ ∀ v, o.data ≠ .cell v := fun i h its t p b hb => by
    rcases List.mem_cons.mp hb with q | q
    · subst q
      obtain ⟨n, e⟩ := p
      exact ⟨_, e, fun v z => by cases z⟩
    · exact T.obj i h t b q
  have loop : ∀ s₃ : Shared, s₃ = { s with heap := h₁, toks := s.toks + ([] : List (Str × Value)).length } →
      codeAny (model X.prog X.w) X.A (.compLoop (.ListComp elt [⟨tg, iter, ifs, 0⟩] scope pos) 0 (.ref it) (.ref D) (compEnvC scope (clOf X.env.cells scope.names []) C X.env)) (RR (.ref D) C) s₃ := by
    rintro s₃ rfl
    refine compLoop_by (fun k s' => ∃ i ys its H', Inv (X.lc scope ts js C s H fp) [] (lcS ts js σ) H' s' ∧ tn i s'.heap ∧ (∀ b ∈ D :: fp, H' b = none) ∧ s'.heap.PlainList D its ∧ Vals ys its.toList ∧ ys.length ≤ sizeLine ∧ k = nn - i ∧ W i ys H') ?_ nn ⟨0, [], #[], H, I1, st₁, fr1, hacc, .nil, Nat.zero_le _, rfl, w0⟩
    rintro n s3 ⟨i, ys, its, H3, I3, st3, fr3, p3, v3, z3, rfl, w3⟩
    have I3' := I3.pinned (fp := [D]) (fun b hb => stat fr3 b (by rw [List.mem_singleton.mp hb]; exact List.mem_cons_self)) (fun b hb => objs i _ its st3 p3 b (by rw [List.mem_singleton.mp hb]; exact List.mem_cons_self))
    have sp : ∀ b ∈ fp, FpOk (X.lc scope ts js C s H fp) ([] ++ pinsAt [D] s3.heap) H3 b := fun b hb => by
      obtain ⟨a0, a1, a2, a3, a4, a5⟩ := stat fr3 b (List.mem_cons_of_mem _ hb)
      refine ⟨a0, a1, a2, a3, a4, fun p hp z => ?_⟩
      obtain ⟨q, _⟩ := of_pinsAt (show p ∈ pinsAt [D] s3.heap from hp)
      have e := List.mem_singleton.mp q
      obtain ⟨o, eo⟩ := hob b hb
      exact (below b (by rw [← hD]; exact Heap.lt_size eo)).2 (by rw [← z]; exact e)
    rcases turn i ys H3 w3 with ⟨stop, qn⟩ | ⟨hin, go, hz, step⟩
    · refine thn (T.done (X.lc scope ts js C s H fp) rfl rfl rfl hc i _ s3 _ H3 _ I3' sp st3 stop) fun r s4 ⟨hr, I4⟩ => ?_
      subst hr
      obtain ⟨n3, e3⟩ := p3
      have e4 : s4.heap.get? D = some { cls := .type "list", data := .seq its n3 } := (I4.pin (D, _) (List.mem_append_right _ (mem_pinsAt (List.mem_singleton.mpr rfl) e3))).1
      have I4' : Inv (X.lc scope ts js C s H fp) [] (lcS ts js σ) H3 s4 := Inv.unpinned (pins := []) I4
      have hlen := v3.length
      have back : Inv X pins σ H3 s4 := I.call' (ch := fp) I4'.os I4'.base I4'.hok I4'.bare fun b hb => ⟨(hf b hb).2.2.2.1, (hf b hb).2.1, (hf b hb).2.2.2.2.1, (hf b hb).2.2.2.2.2⟩
      have fD : FpOk X pins H3 D := I.fpOk (Nat.le_of_eq hD) (fr3 D List.mem_cons_self)
      have ob : ObjOk X.prog X.w (upd H3 D (.lst ys)) s4.heap D (.lst ys) := ⟨z3, its.toList, n3, v3, by simpa using e4⟩
      have tr := back.track fD (by rw [← hD]; exact I.sz) ob
      obtain ⟨m4, n4, _⟩ := I4'.loc
      refine hRR D C s4 H3 ys m4 tr ?_ n4 (qn D (fr3 D List.mem_cons_self))
      refine I.fpOk (by rw [hD]; exact hCle) ?_
      rw [upd_ne (Ne.symm hDC)]
      exact I4'.free
    · refine thn (T.item (X.lc scope ts js C s H fp) rfl rfl rfl hc i _ s3 _ H3 _ I3' sp st3 go) fun r s4 ⟨u, hr, h4⟩ => ?_
      subst hr
      refine thn h4 fun _ s5 ⟨x, H5, I5, r5, y5, st5, fr5⟩ => ?_
      obtain ⟨n3, e3⟩ := p3
      have e5 := I5.pin (D, _) (List.mem_append_right _ (mem_pinsAt (List.mem_singleton.mpr rfl) e3))
      have fr5' : ∀ b ∈ D :: fp, H5 b = none := fun b hb => by
        rcases List.mem_cons.mp hb with q | q
        · rw [q]; exact e5.2.1
        · exact fr5 b q
      have p5 : s5.heap.PlainList D its := ⟨n3, e5.1⟩
      have I5b : Inv (X.lc scope ts js C s H fp) [] (lcS ts js σ) H5 s5 := Inv.unpinned (pins := []) I5
      have I5' := I5b.pinned (fp := D :: fp) (stat fr5') (objs _ _ its st5 p5)
      refine thn (hg C s H fp _ s5 _ H5 x u _ I5' r5 (step x H5 y5)) fun _ s6 ⟨σ6, H6, I6, sub6, q6⟩ => ?_
      refine thn (hcs C s H fp _ s6 σ6 H6 _ I6 q6) fun b s7 ⟨H7, I7, q7⟩ => ?_
      have wk : ∀ {H' : Hp} {s' : Shared}, Inv (X.lc scope ts js C s H fp) ([] ++ pinsAt (D :: fp) s5.heap) σ6 H' s' → Inv (X.lc scope ts js C s H fp) ([] ++ pinsAt (D :: fp) s5.heap) (lcS ts js σ) H' s' := fun I' => I'.weak sub6.ok.1 sub6.ok.2
      have rec' : ∀ {H' : Hp} {s' : Shared}, Inv (X.lc scope ts js C s H fp) ([] ++ pinsAt (D :: fp) s5.heap) σ6 H' s' → Inv (X.lc scope ts js C s H fp) [] (lcS ts js σ) H' s' ∧ tn (i + 1) s'.heap ∧ (∀ b ∈ D :: fp, H' b = none) ∧ s'.heap.PlainList D its := fun {H' s'} I' => by
        have pin : ∀ b ∈ D :: fp, ∀ o, s5.heap.get? b = some o → s'.heap.get? b = some o ∧ H' b = none := fun b hb o e => by
          have z := I'.pin (b, o) (List.mem_append_right _ (List.mem_append_right _ (mem_pinsAt hb e)))
          exact ⟨z.1, z.2.1⟩
        refine ⟨Inv.unpinned (pins := []) (wk I'), T.keep _ _ _ st5 fun b hb o e => (pin b (List.mem_cons_of_mem _ hb) o e).1, fun b hb => ?_, ⟨n3, (pin D List.mem_cons_self _ e5.1).1⟩⟩
        obtain ⟨o, e, _⟩ := objs _ _ its st5 p5 b hb
        exact (pin b hb o e).2
      cases b with
      | false =>
        obtain ⟨j1, j2, j3, j4⟩ := rec' I7
        exact ⟨nn - (i + 1), by omega, i + 1, ys, its, H7, j1, j2, j3, j4, v3, z3, rfl, q7⟩
      | true =>
        refine thn (he C s H fp _ s7 σ6 H7 _ I7 q7) fun yv s8 ⟨y, H8, I8, r8, w8⟩ => ?_
        obtain ⟨j1, j2, j3, j4⟩ := rec' I8
        have hlen : its.size = ys.length := by have := v3.length; simp at this; omega
        refine wpAny_list_append_plain (hsz := by rw [hlen]; exact z3) j4 fun h9 p9 sb9 => ?_
        obtain ⟨f0, f1, f2, f3, f4, f5⟩ := stat j3 D List.mem_cons_self
        refine ⟨nn - (i + 1), by omega, i + 1, ys ++ [y], its.push yv, H8, j1.turned (t' := s8.toks) (fun b o hb e => (sb9.2 b hb).trans e) f0 f1 f3 f4 f5, T.keep _ _ _ j2 fun b hb o e => (sb9.2 b ?_).trans e, j3, p9, ?_, ?_, rfl, w8⟩
        · obtain ⟨o, eo⟩ := hob b hb
          exact (below b (by rw [← hD]; exact Heap.lt_size eo)).2
        · rw [Array.toList_push]
          exact v3.append (.cons r8 .nil)
        · rw [List.length_append, List.length_singleton]; exact hz
  exact codeAny_compStart_list (loop _ rfl) (T.self _ 0 _ _ _ st₁ (loop _ rfl))
end
end L2

namespace L2
open PySem PySem.Spec PyProof.Rows
section
variable {X : Cx} {scope : Scope} {ts : List Str} {js : List Nat} {tg elt iter : Expr} {ifs : List Expr} {wi : TI} {g : Dp TG} {tc : Dp TT} {te : Dp TE} {pos : Pos}
theorem pe_lc (L : LcOk X scope js) (hc : X.calm = true) (hi : PI X tg iter wi) (hg : ∀ C s H fp, PG (X.lc scope ts js C s H fp) tg (g C s H fp)) (hcs : ∀ C s H fp, PIfs (X.lc scope ts js C s H fp) ifs (tc C s H fp)) (he : ∀ C s H fp, PE (X.lc scope ts js C s H fp) elt (te C s H fp))
    (hs : ∀ x, foldedSetIterable iter X.env x = pure x := by intro _; rfl) : PE X (.ListComp elt [⟨tg, iter, ifs, 0⟩] scope pos) (tLc wi ts js g tc te) := by
  intro pins s σ H Q I h
  rw [eval_ListComp]
  refine wpAny_comprehension_free (use := none) rfl hs (closureFor_eq fun y hy hf => I.ok.has y.1 (L.free y hy hf)) L.kind L.names (thn (hi pins s σ H _ I h) fun v s1 h1 => thn h1 fun itv s2 h2 => ?_)
  obtain ⟨it, fp, tn, J, H2, rfl, I2, T, st2, f2, hw⟩ := h2
  refine lc_block (RR := fun acc C => compPost (model X.prog X.w) X.A X.xe none (EP X pins σ Q) acc C) L hc I2 T st2 f2 hg hcs he hw ?_
  intro D C s' H' ys m' I' fC hn hq
  obtain ⟨f0, f1, f2, f3, f4, f5⟩ := fC
  exact ⟨m', hn, fun h' hs' => ⟨.ref D, _, I'.turned (t' := s'.toks) (fun b o hb e => (hs'.2 b hb).trans e) f0 f1 f3 f4 f5, rfl, hq⟩⟩
/-- x = [..], where the name is stored ahead of the block's end -/
theorem ps_setLC {i : Nat} {x : Str} {pos' spos : Pos} (hN : X.N.Nodup) (hxi : X.N[i]? = some x) (hx : Loc X.env.scope x) (L : LcOk X scope js) (hc : X.calm = true) (hi : PI X tg iter wi) (hg : ∀ C s H fp, PG (X.lc scope ts js C s H fp) tg (g C s H fp))
    (hcs : ∀ C s H fp, PIfs (X.lc scope ts js C s H fp) ifs (tc C s H fp)) (he : ∀ C s H fp, PE (X.lc scope ts js C s H fp) elt (te C s H fp))
    (hsw : swapsWith (.ListComp elt [⟨tg, iter, ifs, 0⟩] scope pos) (some (.Name x pos')) spos.line X.env = pure true := by rfl)
    (hs : ∀ x, foldedSetIterable iter X.env x = pure x := by intro _; rfl) (hf : X.fn x = true ∨ X.env.scope.names.lookup x = some .local := by first | exact .inl rfl | exact .inr rfl | assumption) :
    PS X (.Assign [.Name x pos'] (.ListComp elt [⟨tg, iter, ifs, 0⟩] scope pos) spos) (tAsg (tLc wi ts js g tc te) (gName i)) := by
  intro pins s σ H D0 I h
  rw [exec_Assign_Name_used x pos' _ spos hsw]; refine wpAny_bind (wpAny_standAt ?_); refine wpAny_bind ?_
  show wpAny _ X.A (do let _ ← comprehension (.ListComp elt [⟨tg, iter, ifs, 0⟩] scope pos) scope X.env _ (newList []) false (eval iter X.env) (some (assign (.Name x pos') X.env))) _ _ s
  refine wpAny_bind (wpAny_mono (wpAny_comprehension_free (use := some (assign (.Name x pos') X.env)) (Q := fun _ s' => SP X pins D0 .next s') rfl hs (closureFor_eq fun y hy hf => I.ok.has y.1 (L.free y hy hf)) L.kind L.names
    (thn (hi pins s σ H _ I h) fun v s1 h1 => thn h1 fun itv s2 h2 => ?_)) (fun _ s' hq => wpAny_pure (wpAny_pure hq)) fun _ _ e => e)
  obtain ⟨it, fp, tn, J, H2, rfl, I2, T, st2, f2, hw⟩ := h2
  refine lc_block (RR := fun acc C => compPost (model X.prog X.w) X.A X.xe (some (assign (.Name x pos') X.env)) (fun _ s' => SP X pins D0 .next s') acc C) L hc I2 T st2 f2 hg hcs he hw ?_
  intro D C s' H' ys m' I' fC hn hq
  obtain ⟨oC, es, ep, hoC, hdC, rC⟩ := id hn
  have I'' := I'.pinned (fp := [C]) (fun b hb => by rw [List.mem_singleton.mp hb]; exact fC) (fun b hb => by rw [List.mem_singleton.mp hb]; exact ⟨oC, hoC, fun v z => by rw [hdC] at z; cases z⟩)
  show wpAny _ X.A (assign (.Name x pos') X.env (.ref D)) _ _ _
  refine wpAny_assign_Name (store_ok I'' hN hxi hx (v := .ref D) rfl (fun s7 I7 => ?_) hf)
  have e7 := I7.pin (C, oC) (List.mem_append_right _ (List.mem_append_right _ (mem_pinsAt (List.mem_singleton.mpr rfl) hoC)))
  refine ⟨m', ⟨oC, es, ep, e7.1, hdC, rC⟩, fun h9 sb9 => ?_⟩
  obtain ⟨f0, f1, f2, f3, f4, f5⟩ := fC
  exact ⟨_, _, (Inv.unpinned I7).turned (t' := s7.toks) (fun b o hb e => (sb9.2 b hb).trans e) e7.2.1 f1 f3 f4 f5, hq⟩
end
end L2

/-! ### names for the generator -/
namespace L2
open PySem PySem.Spec PyProof.Rows
def lcOkB (scope : Scope) (ek : List (Str × NameKind)) (N : List Str) (js : List Nat) : Bool :=
  scope.kind == .function && scope.names.all (fun y => y.2 != .cell) && scope.names.all (fun y => y.2 != .local || scope.names.lookup y.1 == some .local) &&
  scope.names.all (fun y => y.2 != .free || ek.lookup y.1 == some .cell || ek.lookup y.1 == some .free) && js.all (fun j => scope.names.lookup (N.getD j "") == some .free)
theorem LcOk.of {X : Cx} {scope : Scope} {js : List Nat} (h : lcOkB scope X.env.scope.names X.N js = true) : LcOk X scope js := by
  unfold lcOkB at h
  simp only [Bool.and_eq_true, List.all_eq_true, Bool.or_eq_true, bne_iff_ne, beq_iff_eq] at h
  obtain ⟨⟨⟨⟨h1, h2⟩, h3⟩, h4⟩, h5⟩ := h
  refine ⟨h1, h2, fun y hy e => ?_, fun y hy e => ?_, h5⟩
  · exact (h3 y hy).resolve_left fun z => z e
  · rcases h4 y hy with (z | z) | z
    · exact absurd e z
    · exact .inl z
    · exact .inr z
theorem nodup_of {l : List Str} (h : decide l.Nodup = true) : l.Nodup := of_decide_eq_true h
theorem passN {X : Cx} : Passes (CXe X.prog X.w) X E0 := fun _ _ _ _ _ _ _ h => by
  obtain ⟨_, _, _, _, _, _, _, z⟩ := h
  exact z.elim
theorem powx {P : Program} {w : World} {K : PySem.W.Frag} {mg : Str → Option Value} {base : Heap} {N : List Str} {qual : Str} {scope : Scope} {f : Addr} {cd : Value} {A : Around} {outer : List Env} {s : Shared} {H : Hp} {E : XK} :
    PassesOwn (model P w) (cxOf (CXe P w) P w K mg base N qual scope f cd A outer s H E).A (cxOf (CXe P w) P w K mg base N qual scope f cd A outer s H E).env (cxOf (CXe P w) P w K mg base N qual scope f cd A outer s H E).xe := PassesOwn.leaving
theorem walk_ofX {l : PySem.W.OpenLaw} {n k : Nat} {q : Program} {loose : List Str} {XP : (Str → Option Value) → Heap → Prop} {YP : World → Heap → Prop} {d : DefRec} {K : Params → PySem.W.Frag} {sp : PySem.W.Frag → Sp} {x : Str}
    (hn : l.most = some n) (hn2 : n ≤ sizeLine) (hdf : d.params.defaults = []) (hr : Room k callerA)
    (hY : ∀ (w : World) (h : Heap), YP w h → (K w.params).In h)
    (F : ∀ (w : World) (mg : Str → Option Value) (fa : Addr) (h : Heap), (K w.params).In h → h.Ns mainGlobals mg → mg d.name = some (.ref fa) →
      ∃ fd : FuncData, (∀ (s : Shared) (u : Value), BindsTo s fd ⟨[u], []⟩ [(x, u)]) ∧
        ∀ base : Heap, (K w.params).In base → base.Ns mainGlobals mg → FnOk l.prog w (K w.params) mg base (CXe l.prog w) k fa fd [x] (sp (K w.params)))
    (hsp : ∀ (K : PySem.W.Frag) (H : Hp) (a : Addr) (ns : List Int), ns.length ≤ n → Only H → SqL K H a (ns.map V.int) → sp K [.ref a] H (fun v _ => v = .bl true) fun _ _ _ => False) :
    PySem.W.WalkO q loose XP YP l.row.toRowW d [] (fun f vs => PySem.call f vs) :=
  walk_of (K := K) (CX := fun w => CXe l.prog w) (sp := fun w => sp (K w.params)) hn hn2 hdf hr hY F (fun w H a ns h1 h2 h3 => hsp (K w.params) H a ns h1 h2 h3) fun _ H s e s' h => by
    obtain ⟨_, _, _, _, _, _, _, z⟩ := h
    exact z
end L2

namespace L2
open PySem PySem.Spec PyProof.Rows
section
variable {X : Cx}
theorem OpR.imp {f : Value → Value → Sem Value} {r r' : R2} (h : OpR X f r) (i : ∀ x y H Q, r' x y H Q → r x y H Q) : OpR X f r' := fun pins s σ H x y v u Q I rx ry hq => h pins s σ H x y v u Q I rx ry (i _ _ _ _ hq)
theorem op_eqI : OpR X (compareOp .Eq) (rI0 fun i j => .bl (decide (i = j))) := op_eq.imp fun x y H Q h => by
  obtain ⟨i, j, rfl, rfl, q⟩ := h
  refine ⟨rfl, ?_⟩
  have e : decide (V.int i = V.int j) = decide (i = j) := decide_eq_decide.mpr ⟨fun z => V.int.inj z, fun z => congrArg V.int z⟩
  rw [e]; exact q
theorem op_neI : OpR X (compareOp .NotEq) (rI0 fun i j => .bl (!decide (i = j))) := op_ne.imp fun x y H Q h => by
  obtain ⟨i, j, rfl, rfl, q⟩ := h
  refine ⟨rfl, ?_⟩
  have e : decide (V.int i = V.int j) = decide (i = j) := decide_eq_decide.mpr ⟨fun z => V.int.inj z, fun z => congrArg V.int z⟩
  rw [e]; exact q
def rS0 (g : Str → Str → V) : R2 := fun x y H Q => ∃ i j, x = .str i ∧ y = .str j ∧ Q (g i j) H
theorem op_eqS : OpR X (compareOp .Eq) (rS0 fun i j => .bl (decide (i = j))) := op_eq.imp fun x y H Q h => by
  obtain ⟨i, j, rfl, rfl, q⟩ := h
  refine ⟨rfl, ?_⟩
  have e : decide (V.str i = V.str j) = decide (i = j) := decide_eq_decide.mpr ⟨fun z => V.str.inj z, fun z => congrArg V.str z⟩
  rw [e]; exact q
end
theorem ite3n {c A B : Prop} [Decidable c] (h1 : ¬ c → A) (h2 : c → B) : if (!decide c) = true then A else B := iteNo h1 h2
theorem iteB {b : Bool} {A B : Prop} (h1 : b = true → A) (h2 : b = false → B) : if b = true then A else B := by
  cases b with
  | true => exact iteT (h1 rfl)
  | false => exact iteF (h2 rfl)
/-- as it was, but at b -/
def SameB (b : Addr) (H H' : Hp) : Prop := ∀ a o, a ≠ b → H a = some o → H' a = some o
theorem Same.upd {H H' : Hp} {p : Addr} (s : Same H H') (h : H p = none) (o : HO) : Same H (upd H' p o) := fun b u q => by rw [upd_ne (ne_of_none q h)]; exact s b u q
theorem Same.new {H H' : Hp} {p : Addr} (s : Same H H') (h : H' p = none) (o : HO) : Same H (L2.upd H' p o) := s.upd (s.free h) o
end L2
namespace L2
open PySem PySem.Spec PyProof.Rows
/-- an expression of written numbers -/
theorem pe_fold {X : Cx} {e : Expr} {t : TE} (v : V) (h : PE X e t) (c : ∀ σ H Q, Q v H → t σ H Q) : PE X e (tC v) := fun pins s σ H Q I hq => h pins s σ H Q I (c σ H Q hq)
end L2
namespace L2
open PySem PySem.Spec PyProof.Rows
end L2
/-- an invariant, closed to the walk -/
structure Iv (p : Prop) : Prop where
  o : p

/-! ### try: f(..) except C: .. (no name), the suite goes on -/
namespace L2
open PySem PySem.Spec PyProof.Rows
/-- the kinds of an exception that come here, and what is wanted then -/
def tTry (K : PySem.W.Frag) (tx : St → Hp → VK → (Value → Hp → Prop) → Prop) (C : Addr) (tb : Addr → TS) : TS := fun D σ H => tx σ H (fun _ H1 => D.nx σ H1) fun cls H1 =>
  PySem.W.exmOne K cls (.ref C) = some true ∧ ∀ ea, tb ea D σ H1
end L2

/-! ### the signs of a text; all, any -/
namespace L2
open PySem PySem.Spec PyProof.Rows
/-- the signs of x -/
def Its (x : Str) : It := ⟨fun i _ => i < x.cps.size, fun i H v H' => H' = H ∧ ∃ c, x.cps[i]? = some c ∧ v = .str ⟨#[c]⟩, fun i _ => x.cps.size ≤ i⟩
theorem turn_str {P : Program} {w : World} {K : PySem.W.Frag} {tg : Expr} {it : Addr} {x : Str} {St : Nat → Heap → Prop}
    (W : ∀ A' : Around, A'.handled = none → Walks P w A' it [it] [it] x.cps.size (SignAt x) St)
    (ob : ∀ i h, St i h → ∃ (o : Obj) (n : String) (vs : Array Value), h.get? it = some o ∧ o.cls = .type n ∧ o.data = .fields vs ∧ ["enumerate", "zip", "dict_itemiterator", "dict_reverseitemiterator", "odict_iterator", "itertools.zip_longest", "itertools.pairwise"].contains n = false)
    (sf : ∀ (A : Around) (i : Nat) (s : Shared) (Q : Value → Shared → Prop) (E : Value → Shared → Prop), St i s.heap → Q (.ref it) s → wpAny (model P w) A (pyIter (.ref it)) Q E s) :
    Turn P w K tg (Its x) [it] it (fun i h => St i h ∧ i ≤ x.cps.size) where
  mem := by simp
  obj := fun i h st b hb => by
    have e : b = it := by simpa using hb
    subst e
    obtain ⟨o, n, vs, e, _, d, _⟩ := ob i h st.1
    exact ⟨o, e, fun v z => by rw [d] at z; cases z⟩
  keep := fun i h h' st k => ⟨(W {} rfl).frame i h h' st.1 k, st.2⟩
  item := by
    intro X hP hw hK hc i pins s σ H E I hf st hg
    subst hP hw hK
    obtain ⟨f0, f1, f2, f3, f4, f5⟩ := hf it (by simp)
    refine (W X.A (I.ok.hd hc)).item i s _ _ hg st.1 fun v h' tk hv st' kk => ?_
    obtain ⟨c, u, hcx, rfl⟩ := hv
    have I1 : Inv X pins σ H { s with heap := h', toks := tk } := I.turned (fun b o hb e => kk b o (by simpa using hb) e) f0 f1 f3 f4 f5
    obtain ⟨o, n, vs, e, hcl, hd, hn⟩ := ob _ _ st'
    have hi : i < x.cps.size := hg
    exact ⟨_, rfl, go_of (s := { s with heap := h', toks := tk }) e hcl hd hn ⟨.str ⟨#[c]⟩, H, I1, ⟨u, rfl⟩, ⟨rfl, c, hcx, rfl⟩, ⟨st', hi⟩, fun b hb => (hf b hb).1⟩⟩
  done := by
    intro X hP hw hK hc i pins s σ H E I hf st hg
    subst hP hw hK
    obtain ⟨f0, f1, f2, f3, f4, f5⟩ := hf it (by simp)
    have e : i = x.cps.size := Nat.le_antisymm st.2 hg
    subst e
    exact (W X.A (I.ok.hd hc)).done s _ _ st.1 fun h' tk kk => ⟨rfl, I.turned (fun b o hb e => kk b o (by simpa using hb) e) f0 f1 f3 f4 f5⟩
  self := fun A i s Q E st h => sf A i s Q E st.1 h
section
variable {X : Cx} {tg : Expr}
def iStr (tl : TE) : TI := fun σ H R => tl σ H fun x H1 => ∃ z, x = .str z ∧ R (Its z) H1
theorem pi_str {l : Expr} {tl : TE} (hl : PE X l tl) : PI X tg l (iStr tl) := by
  intro pins s σ H R I h
  refine thn (hl pins s σ H _ I h) fun v s1 ⟨x, H1, I1, r1, q1⟩ => ?_
  obtain ⟨z, e, q⟩ := q1
  subst e
  obtain ⟨t, rfl⟩ := r1
  have fp : ∀ b ∈ [s1.heap.objs.size], FpOk X pins H1 b := fun b hb => by
    have e : b = s1.heap.objs.size := by simpa using hb
    subst e
    exact I1.fpOk (Nat.le_refl _) (I1.hok.fresh (Nat.le_refl _))
  cases ha : z.cps.all (· < 128)
  · refine wpAny_pyIter_wide ha ?_
    refine ⟨s1.heap.objs.size, [s1.heap.objs.size], _, _, H1, rfl, I1.kept (t' := s1.toks) fun b o e => Heap.get?_push_of_some _ e,
      turn_str (St := fun i h => h.IsStrIter s1.heap.objs.size "str_iterator" z t i) (fun A' hA => Walks.strWide hA _ z t) (fun i h st => ?_) (fun A i s Q E st h => wpAny_pyIter_striter_wide st h), ⟨⟨_, Heap.get?_push_size _ rfl, rfl, rfl⟩, Nat.zero_le _⟩, fp, q⟩
    obtain ⟨o, e, c, d⟩ := st
    exact ⟨o, _, _, e, c, d, by decide⟩
  · refine wpAny_pyIter_ascii ha ?_
    refine ⟨s1.heap.objs.size, [s1.heap.objs.size], _, _, H1, rfl, I1.kept (t' := s1.toks) fun b o e => Heap.get?_push_of_some _ e,
      turn_str (St := fun i h => h.IsStrIter s1.heap.objs.size "str_ascii_iterator" z t i) (fun A' hA => Walks.strAscii hA _ z t) (fun i h st => ?_) (fun A i s Q E st h => wpAny_pyIter_striter_ascii st h), ⟨⟨_, Heap.get?_push_size _ rfl, rfl, rfl⟩, Nat.zero_le _⟩, fp, q⟩
    obtain ⟨o, e, c, d⟩ := st
    exact ⟨o, _, _, e, c, d, by decide⟩
end
/-- one sign -/
abbrev sg (c : Nat) : V := .str ⟨#[c]⟩
theorem for_str {x : Str} {g : TG} {tb : TS} {D : Ends} {σ : St} {H : Hp} (Pv : Nat → St → Hp → Prop) (h0 : Pv 0 σ H)
    (hs : ∀ i c σ H, x.cps[i]? = some c → Pv i σ H → g (sg c) σ H fun σ2 H2 => tb { D with nx := Pv (i + 1), ct := Pv (i + 1), bk := D.nx } σ2 H2) (hd : ∀ σ H, Pv x.cps.size σ H → D.nx σ H) :
    ∃ W : Nat → Nat → St → Hp → Prop, (∃ m, W 0 m σ H) ∧ ∀ i m σ H, W i m σ H →
      ((Its x).stop i H ∧ D.nx σ H) ∨ ((Its x).go i H ∧ ∃ N : St → Hp → Prop, (∀ σ' H', N σ' H' → ∃ m', m' < m ∧ W (i + 1) m' σ' H') ∧ ∀ v H', (Its x).yld i H v H' → g v σ H' fun σ2 H2 => tb { D with nx := N, ct := N, bk := D.nx } σ2 H2) := by
  refine ⟨fun i m σ H => m = x.cps.size - i ∧ i ≤ x.cps.size ∧ Pv i σ H, ⟨x.cps.size, by simp, Nat.zero_le _, h0⟩, ?_⟩
  rintro i m σ H ⟨rfl, hi, p⟩
  by_cases hlt : i < x.cps.size
  · refine .inr ⟨hlt, Pv (i + 1), fun σ' H' p' => ⟨x.cps.size - (i + 1), by omega, rfl, hlt, p'⟩, fun v H' y => ?_⟩
    obtain ⟨e, c, hc, ev⟩ := y
    subst e ev
    exact hs i c σ _ hc p
  · have e : i = x.cps.size := by omega
    subst e
    exact .inl ⟨Nat.le_refl _, hd σ H p⟩
/-! comprehensions, by their items -/
section
variable {K : PySem.W.Frag} {ts : List Str} {js : List Nat} {g : TG} {tc : TT} {te : TE} {σ : St} {H : Hp} {Q : VK}
theorem lc_list {a : Addr} {xs : List V} (Pv : Nat → List V → Hp → Prop) (h0 : Pv 0 [] H) (hl : ∀ i ys H, i ≤ xs.length → Pv i ys H → SqL K H a xs ∧ ys.length < sizeLine)
    (hs : ∀ i x ys H, xs[i]? = some x → Pv i ys H → g x (lcS ts js σ) H fun σ2 H2 => SubS (lcS ts js σ) σ2 ∧ tc σ2 H2 fun b H3 => if b = true then te σ2 H3 fun y H4 => i + 1 ≤ xs.length ∧ Pv (i + 1) (ys ++ [y]) H4 else i + 1 ≤ xs.length ∧ Pv (i + 1) ys H3)
    (hd : ∀ ys H, Pv xs.length ys H → ∀ p, H p = none → Q (.ref p) (upd H p (.lst ys))) : LcW (Itl K a) ts js g tc te σ H Q := by
  refine ⟨fun i ys H => i ≤ xs.length ∧ Pv i ys H, xs.length, ⟨Nat.zero_le _, h0⟩, ?_⟩
  rintro i ys H ⟨hi, p⟩
  obtain ⟨q, hz⟩ := hl i ys H hi p
  by_cases hlt : i < xs.length
  · refine .inr ⟨hlt, ⟨xs, xs[i], q, by simp [hlt]⟩, hz, fun x H' y => ?_⟩
    obtain ⟨e, y⟩ := y
    subst e
    exact hs i x ys _ (y xs q) p
  · have e : i = xs.length := by omega
    subst e
    exact .inl ⟨⟨xs, q, Nat.le_refl _⟩, hd ys H p⟩
theorem lc_range {lo : Int} {n : Nat} (Pv : Nat → List V → Hp → Prop) (h0 : Pv 0 [] H) (hl : ∀ i ys H, i ≤ n → Pv i ys H → ys.length < sizeLine)
    (hs : ∀ i ys H, i < n → Pv i ys H → g (.int (lo + i)) (lcS ts js σ) H fun σ2 H2 => SubS (lcS ts js σ) σ2 ∧ tc σ2 H2 fun b H3 => if b = true then te σ2 H3 fun y H4 => i + 1 ≤ n ∧ Pv (i + 1) (ys ++ [y]) H4 else i + 1 ≤ n ∧ Pv (i + 1) ys H3)
    (hd : ∀ ys H, Pv n ys H → ∀ p, H p = none → Q (.ref p) (upd H p (.lst ys))) : LcW (Itr lo n) ts js g tc te σ H Q := by
  refine ⟨fun i ys H => i ≤ n ∧ Pv i ys H, n, ⟨Nat.zero_le _, h0⟩, ?_⟩
  rintro i ys H ⟨hi, p⟩
  have hz := hl i ys H hi p
  by_cases hlt : i < n
  · refine .inr ⟨hlt, hlt, hz, fun x H' y => ?_⟩
    obtain ⟨e, y⟩ := y
    subst e y
    exact hs i ys _ hlt p
  · have e : i = n := by omega
    subst e
    exact .inl ⟨Nat.le_refl _, hd ys H p⟩
end
end L2

namespace L2
open PySem PySem.Spec PyProof.Rows
section
variable {X : Cx}
end
end L2

/-! ### for a, b in zip(xs, ys) -/
namespace L2
open PySem PySem.Spec PyProof.Rows
section
variable {X : Cx} {pins : List (Addr × Obj)} {σ : St} {H : Hp} {s : Shared} {h' : Heap}
end
/-- two lists side by side -/
def Itz (K : PySem.W.Frag) (a b : Addr) : It :=
  ⟨fun i H => ∃ xs ys x y, SqL K H a xs ∧ SqL K H b ys ∧ xs[i]? = some x ∧ ys[i]? = some y,
   fun i H v H' => ∃ T x y, H T = none ∧ v = .ref T ∧ H' = upd H T (.tup [x, y]) ∧ (∀ xs, SqL K H a xs → xs[i]? = some x) ∧ ∀ ys, SqL K H b ys → ys[i]? = some y,
   fun i H => ∃ xs ys, SqL K H a xs ∧ SqL K H b ys ∧ (xs.length ≤ i ∨ ys.length ≤ i)⟩
section
variable {X : Cx}
def iZip (K : PySem.W.Frag) (ta : TA) : TI := fun σ H R => ta σ H fun vs H1 => ∃ a b, vs = [.ref a, .ref b] ∧ (∃ xs, SqL K H1 a xs) ∧ (∃ ys, SqL K H1 b ys) ∧ R (Itz K a b) H1
end
end L2

/-! ### set(xs) of ints and texts, len of it -/
namespace L2
open PySem PySem.Spec PyProof.Rows
def memK (acc : List Key) (k : Key) : Bool := acc.any fun x => decide (x = k)
theorem memK_iff {acc : List Key} {k : Key} : memK acc k = true ↔ k ∈ acc := by
  unfold memK
  rw [List.any_eq_true]
  exact ⟨fun ⟨x, h, e⟩ => of_decide_eq_true e ▸ h, fun h => ⟨k, h, decide_eq_true rfl⟩⟩
def addK (acc : List Key) (k : Key) : List Key := if memK acc k = true then acc else acc ++ [k]
/-- each once, in the order of their first coming -/
def dd (ks : List Key) : List Key := ks.foldl addK []
theorem addK_len {acc : List Key} {k : Key} : (addK acc k).length = if memK acc k = true then acc.length else acc.length + 1 := by
  unfold addK
  split
  · rfl
  · rw [List.length_append, List.length_singleton]
theorem fold_len : ∀ (ks acc : List Key), (ks.foldl addK acc).length ≤ acc.length + ks.length
  | [], acc => Nat.le_refl _
  | k :: ks, acc => by
    have h := fold_len ks (addK acc k)
    have h2 : (addK acc k).length ≤ acc.length + 1 := by rw [addK_len]; split <;> omega
    rw [List.foldl_cons, List.length_cons]
    omega
theorem dd_len (ks : List Key) : (dd ks).length ≤ ks.length := by have := fold_len ks []; simpa [dd] using this
theorem dd_take {ks : List Key} {i : Nat} {k : Key} (h : ks[i]? = some k) : dd (ks.take (i + 1)) = addK (dd (ks.take i)) k := by
  unfold dd
  rw [List.take_add_one, h, List.foldl_append]
  rfl
/-- a set of ints and texts -/
abbrev SetO (P : Program) (w : World) (a : Addr) (S : List Key) : HO := .ext fun h => h.SetOf (mixKind P w) a (memK S) S.length
section
variable {P : Program} {w : World} {A : Around} {E : Value → Shared → Prop} {s : Shared} {R : Result → Shared → Prop}
end
/-- an empty set's object -/
abbrev fr (led : Bool) : Obj := { cls := .type "set", dict := none, data := .set #[] 0 (.fresh 0 0 led) }
section
variable {P : Program} {w : World} {A : Around} {E : Value → Shared → Prop} {s : Shared}
/-- a call of a built-in type: its object made, then its first call -/
theorem made_by {T nw ini : String} {args : List Value} {Q Q1 : Value → Shared → Prop} (ft : TypeCalled T nw ini) (c : checkTypeCall T ⟨args, []⟩ = pure ())
    (new : codeAny (model P w) A.in1 (.call (.builtin nw) ⟨.type T :: args, []⟩) (wants Q1 E) s)
    (fst : ∀ ob s1, Q1 ob s1 → s1.TypeIs ob T ∧ codeAny (model P w) A.in1 (.call (.builtin ini) ⟨ob :: args, []⟩) (wants (fun r s2 => r = .none ∧ Q ob s2) E) s1) :
    wpAny (model P w) A (call (.type T) args) Q E s := by
  obtain ⟨k0, ks0, m0⟩ := ft.mro
  have m1 := ft.made
  have m2 := ft.sub
  have m3 := ft.notType
  have m4 := ft.canCreate
  have m5 := ft.init.lookup
  apply wpAny_call
  apply codeAny_of_tree
  show wpAny _ _ (pure _) _ _ _
  apply wpAny_pure
  have q0 : "type.__call__".startsWith "lifetime." = false := by decide +kernel
  refine ⟨Code.quiet_builtin _ q0, ?_⟩
  apply codeAny_builtin PySem.F.entry_type_call
  rw [Around.under_plain (by rfl) (by rfl)]
  wp_walk
  apply codeAny_mono new
  rintro (x | x) s1 g
  · exact g
  rcases x with v | v | v | v
  all_goals first | exact g.elim | skip
  obtain ⟨ty, go⟩ := fst _ _ g
  have b := ft.init.bind v
  wp_walk
  apply codeAny_mono go
  rintro (x | x) s2 g2
  · exact g2
  rcases x with u | u | u | u
  all_goals first | exact g2.elim | skip
  obtain ⟨rfl, g3⟩ := g2
  wp_walk
  exact g3
end
end L2

namespace L2
open PySem PySem.Spec PyProof.Rows
theorem vals_keys {P : Program} {w : World} : ∀ {ks : List Key} {us : List Value} {i : Nat} {v : Value}, Vals (ks.map kV) us → us[i]? = some v → ∃ k, ks[i]? = some k ∧ (mixKind P w).is k v = true ∧ v.scannable = true
  | [], _, i, v, r, e => by cases r; simp at e
  | k :: ks, _, 0, v, r, e => by
    cases r with
    | cons h t =>
      refine ⟨k, rfl, ?_⟩
      have e' : v = _ := (Option.some.inj e).symm
      subst e'
      cases k with
      | inl n => obtain ⟨t, rfl⟩ := h; exact ⟨mixKind_int P w n t, rfl⟩
      | inr x => obtain ⟨t, rfl⟩ := h; exact ⟨mixKind_str P w x t, rfl⟩
  | k :: ks, _, i + 1, v, r, e => by
    cases r with
    | cons h t => simpa using vals_keys (ks := ks) t (by simpa using e)
section
variable {X : Cx}
end
end L2

/-! ### texts -/
namespace L2
open PySem PySem.Spec PyProof.Rows
/-- the codes of a text -/
abbrev cds (x : Str) : List Nat := x.cps.toList
abbrev tx (l : List Nat) : Str := ⟨l.toArray⟩
theorem tx_cds (x : Str) : tx (cds x) = x := by cases x; rfl
theorem cds_len (x : Str) : (cds x).length = x.length := by show x.cps.toList.length = x.cps.size; simp
theorem cds_app (x y : Str) : cds (x ++ y) = cds x ++ cds y := by
  show (x.cps ++ y.cps).toList = _
  simp
theorem str_ext {x y : Str} (h : cds x = cds y) : x = y := by rw [← tx_cds x, ← tx_cds y, h]
section
variable {X : Cx}
def rSlS : V → Option Int → Option Int → Hp → VK → Prop := fun x lo hi H Q => ∃ z, x = .str z ∧ z.length ≤ sizeLine ∧ Q (.str (Txt.slice z lo hi)) H
/-- z.join(xs) of a list of texts -/
def rJoin (K : PySem.W.Frag) : V → List V → Hp → VK → Prop := fun x vs H Q => ∃ z l ss, x = .str z ∧ vs = [.ref l] ∧ SqL K H l (ss.map V.str) ∧ (ss.map (·.length)).sum + ss.length * z.length ≤ 16777216 ∧ Q (.str (Txt.join z ss)) H
end
end L2

/-! ### words; data of tuples; several objects at once -/
namespace L2
open PySem PySem.Spec PyProof.Rows
/-- a to z -/
def isL (c : Nat) : Bool := decide (97 ≤ c) && decide (c ≤ 122)
def isW (x : Str) : Bool := decide (1 ≤ x.length) && decide (x.length ≤ 12) && (cds x).all isL
def letters : Str := "abcdefghijklmnopqrstuvwxyz"
/-- the tuples stay -/
def SameT (H H' : Hp) : Prop := ∀ a xs, H a = some (.tup xs) → H' a = some (.tup xs)
theorem SameT.refl (H : Hp) : SameT H H := fun _ _ h => h
theorem Same.t {H H' : Hp} (s : Same H H') : SameT H H' := fun a xs h => s a _ h
theorem SameT.new {H H' : Hp} {p : Addr} (s : SameT H H') (h : H' p = none) (o : HO) : SameT H (upd H' p o) := fun a xs q => by rw [upd_ne (ne_of_none (s a xs q) h)]; exact s a xs q
theorem SameT.lst {H H' : Hp} {p : Addr} {ys : List V} (s : SameT H H') (h : H' p = some (.lst ys)) (o : HO) : SameT H (upd H' p o) := fun a xs q => by
  rw [upd_ne (ne_of (s a xs q) h (by intro z; cases z))]; exact s a xs q
mutual
/-- a value that is tuples of plain ones: it never changes -/
inductive TV (K : PySem.W.Frag) (H : Hp) : V → PyData → Prop
  | non : TV K H .non .none
  | bl (b : Bool) : TV K H (.bl b) (.bool b)
  | int (i : Int) : TV K H (.int i) (.int i)
  | str (x : Str) : TV K H (.str x) (.str x)
  | tup {a : Addr} {xs : List V} {ds : List PyData} : H a = some (.tup xs) → TVs K H xs ds → TV K H (.ref a) (.tuple ds)
inductive TVs (K : PySem.W.Frag) (H : Hp) : List V → List PyData → Prop
  | nil : TVs K H [] []
  | cons {x : V} {xs : List V} {d : PyData} {ds : List PyData} : TV K H x d → TVs K H xs ds → TVs K H (x :: xs) (d :: ds)
end
section
variable {K : PySem.W.Frag} {H H' : Hp}
mutual
theorem TV.mono (s : SameT H H') : ∀ {x : V} {d : PyData}, TV K H x d → TV K H' x d
  | _, _, .non => .non
  | _, _, .bl b => .bl b
  | _, _, .int i => .int i
  | _, _, .str x => .str x
  | _, _, .tup h hs => .tup (s _ _ h) (TVs.mono s hs)
theorem TVs.mono (s : SameT H H') : ∀ {xs : List V} {ds : List PyData}, TVs K H xs ds → TVs K H' xs ds
  | _, _, .nil => .nil
  | _, _, .cons h hs => .cons (TV.mono s h) (TVs.mono s hs)
end
mutual
theorem TV.dv : ∀ {x : V} {d : PyData}, TV K H x d → DV K H x d
  | _, _, .non => .non
  | _, _, .bl b => .bl b
  | _, _, .int i => .int i
  | _, _, .str x => .str x
  | _, _, .tup h hs => .tup (SqT.of h) (TVs.dv hs)
theorem TVs.dv : ∀ {xs : List V} {ds : List PyData}, TVs K H xs ds → DVs K H xs ds
  | _, _, .nil => .nil
  | _, _, .cons h hs => .cons (TV.dv h) (TVs.dv hs)
end
theorem TVs.length : ∀ {xs : List V} {ds : List PyData}, TVs K H xs ds → xs.length = ds.length
  | _, _, .nil => rfl
  | _, _, .cons _ hs => by simp [TVs.length hs]
theorem TVs.append : ∀ {xs ys : List V} {ds es : List PyData}, TVs K H xs ds → TVs K H ys es → TVs K H (xs ++ ys) (ds ++ es)
  | _, _, _, _, .nil, s => s
  | _, _, _, _, .cons h hs, s => .cons h (TVs.append hs s)
theorem TV.pair {x : V} {a b : PyData} (h : TV K H x (.tuple [a, b])) : ∃ p u v, x = .ref p ∧ H p = some (.tup [u, v]) ∧ TV K H u a ∧ TV K H v b := by
  cases h with
  | tup e hs =>
    cases hs with
    | cons h1 hs =>
      cases hs with
      | cons h2 hs =>
        cases hs
        exact ⟨_, _, _, rfl, e, h1, h2⟩
theorem TV.strs {x : V} {s : Str} (h : TV K H x (.str s)) : x = .str s := by cases h; rfl
theorem TV.ints {x : V} {s : Int} (h : TV K H x (.int s)) : x = .int s := by cases h; rfl
theorem TVs.strs (ws : List Str) : TVs K H (ws.map V.str) (ws.map PyData.str) := by
  induction ws with
  | nil => exact .nil
  | cons w ws ih => exact .cons (.str w) ih
end
/-- these objects stand at these places, no two at one -/
structure Hs (H : Hp) (L : List (Addr × HO)) : Prop where
  nd : (L.map (·.1)).Nodup
  at' : ∀ p ∈ L, H p.1 = some p.2
namespace Hs
variable {H H' : Hp} {L : List (Addr × HO)} {a p : Addr} {o o' : HO}
end Hs
end L2

/-! ### shapes; equal data -/
namespace L2
open PySem PySem.Spec PyProof.Rows
/-- plain data, at most n deep -/
structure Shp (n : Nat) (d : PyData) : Prop where
  lay : d.canLay0 = true
  dep : d.depth ≤ n
theorem Shp.mono {m n : Nat} {d : PyData} (h : Shp m d) (hn : m ≤ n) : Shp n d := ⟨h.lay, Nat.le_trans h.dep hn⟩
theorem lay_all {ds : List PyData} (h : ∀ d ∈ ds, d.canLay0 = true) : PyData.canLayAll0 ds = true := by
  induction ds with
  | nil => simp [PyData.canLayAll0]
  | cons d ds ih =>
    simp only [PyData.canLayAll0, Bool.and_eq_true]
    exact ⟨h d List.mem_cons_self, ih fun x hx => h x (List.mem_cons_of_mem _ hx)⟩
theorem dep_all {n : Nat} {ds : List PyData} (h : ∀ d ∈ ds, d.depth ≤ n) : PyData.depthAll ds ≤ n := by
  induction ds with
  | nil => simp [PyData.depthAll]
  | cons d ds ih =>
    simp only [PyData.depthAll]
    exact Nat.max_le.mpr ⟨h d List.mem_cons_self, ih fun x hx => h x (List.mem_cons_of_mem _ hx)⟩
theorem Shp.tup {n : Nat} {ds : List PyData} (h : ∀ d ∈ ds, Shp n d) : Shp (n + 1) (.tuple ds) :=
  ⟨by simp only [PyData.canLay0]; exact lay_all fun d hd => (h d hd).lay, by simp only [PyData.depth]; exact Nat.succ_le_succ (dep_all fun d hd => (h d hd).dep)⟩
theorem Shp.lst {n : Nat} {ds : List PyData} (h : ∀ d ∈ ds, Shp n d) : Shp (n + 1) (.list ds) :=
  ⟨by simp only [PyData.canLay0]; exact lay_all fun d hd => (h d hd).lay, by simp only [PyData.depth]; exact Nat.succ_le_succ (dep_all fun d hd => (h d hd).dep)⟩
theorem Shp.int (n : Nat) (i : Int) : Shp n (.int i) := ⟨by simp [PyData.canLay0], by simp [PyData.depth]⟩
theorem Shp.str (n : Nat) {x : Str} (h : ∀ c ∈ cds x, c < 128) : Shp n (.str x) := by
  refine ⟨?_, by simp [PyData.depth]⟩
  simp only [PyData.canLay0]
  unfold PyData.strOk
  rw [← Array.all_toList, List.all_eq_true]
  intro c hc
  have := h c hc
  exact decide_eq_true (by omega)
theorem Shp.shaped {d : PyData} (h : Shp 64 d) : SeqAt.shaped d = true := by
  unfold SeqAt.shaped
  rw [Bool.and_eq_true, decide_eq_true_iff]
  exact ⟨h.lay, h.dep⟩
section
variable {K : PySem.W.Frag} {H : Hp} {x y : V} {d : PyData} {Q : VK}
theorem ned (hx : DV K H x d) (hy : DV K H y d) (s : Shp 64 d) (q : Q (.bl false) H) : rNeD K x y H Q := ⟨d, d, hx, hy, s.shaped, s.shaped, by rw [SeqAt.eqv_refl d s.lay]; exact q⟩
end
end L2
namespace L2
theorem Same.at' {H H' : Hp} {a : PySem.Addr} {o : HO} (s : Same H H') (h : H a = some o) : H' a = some o := s a o h
end L2
namespace L2
theorem upd_none {H : Hp} {a p : PySem.Addr} {o : HO} (h : upd H a o p = none) : p ≠ a ∧ H p = none := by
  unfold upd at h
  by_cases e : p = a
  · rw [if_pos e] at h; cases h
  · rw [if_neg e] at h; exact ⟨e, h⟩
end L2
namespace L2
end L2
namespace L2
end L2
namespace L2
open PySem
theorem SqF.nw {K : PySem.W.Frag} {H : Hp} {a p : Addr} {xs : List V} {u : HO} (hp : H p = none) (h : SqF K H a xs) : SqF K (L2.upd H p u) a xs := h.new hp
theorem SqF.sm {K : PySem.W.Frag} {H H' : Hp} {a : Addr} {xs : List V} (s : Same H H') (h : SqF K H a xs) : SqF K H' a xs := h.same s
namespace Hs
variable {H H' : Hp} {L L' : List (Addr × HO)} {a p : Addr} {o o' : HO}
end Hs
end L2
namespace L2
theorem upd_at {H : Hp} {a b : PySem.Addr} {o u : HO} (n : b ≠ a) (h : H b = some o) : upd H a u b = some o := by rw [upd_ne n]; exact h
end L2

/-! ### sum, sorted, reversed -/
namespace L2
open PySem PySem.Spec PyProof.Rows
theorem of_strs : ∀ {ws : List Str} {us : List Value}, StrsAre us ws → Vals (ws.map V.str) us
  | _, _, .nil => .nil
  | _, _, .cons w t r => .cons ⟨t, rfl⟩ (of_strs r)
section
variable {X : Cx}
end
end L2
/-! ### for x in reversed(xs) -/
namespace L2
open PySem PySem.Spec PyProof.Rows
/-- a list of n items from behind -/
def Itv (K : PySem.W.Frag) (a : Addr) (n : Nat) : It :=
  ⟨fun i H => ∃ xs, SqL K H a xs ∧ xs.length = n ∧ i < n, fun i H v H' => H' = H ∧ ∀ xs, SqL K H a xs → xs[n - 1 - i]? = some v, fun i _ => i = n⟩
section
variable {X : Cx} {tg : Expr}
def iRev (K : PySem.W.Frag) (ta : TA) : TI := fun σ H R => ta σ H fun vs H1 => ∃ a xs, vs = [.ref a] ∧ SqL K H1 a xs ∧ R (Itv K a xs.length) H1
end
end L2
/-! ### max(xs, default=d) of whole numbers -/
namespace L2
open PySem PySem.Spec PyProof.Rows
/-- the greatest of these and m -/
def mxF (m : Int) (ns : List Int) : Int := ns.foldl (fun a b => if a < b then b else a) m
/-- the greatest one, or d -/
def mxD (d : Int) : List Int → Int
  | [] => d
  | n :: ns => mxF n ns
/-- what the loop keeps -/
def kept : List Value → Array Value
  | [] => #[]
  | v :: _ => #[v, v]
section
variable {P : Program} {w : World} {A : Around} {s : Shared} {R : Result → Shared → Prop}
/-- one step of a built-in's own loop -/
theorem code_by {id : String} {B : Builtin} {args : Args} (e : entryFor table id = some B) (p : plainId id = true) (h : wpAny (model P w) A.in1 (B args)
    (fun fin s' => match fin with | .done f => R (.ok f) s' | .again c' => c'.quiet = true ∧ codeAny (model P w) A c' R s') (fun e s' => R (.error e) s') s) : codeAny (model P w) A (.builtin id args) R s :=
  codeAny_builtin e (by rw [Around.under_plainId p]; exact h)
end
section
variable {X : Cx} {k : Str}
/-- a call of a value that is known, with values and one by name -/
def CallKw (X : Cx) (f : Value) (k : Str) (r : List V → V → Hp → VK → Prop) : Prop :=
  ∀ (pins : List (Addr × Obj)) (s : Shared) (σ : St) (H : Hp) (xs : List V) (us : List Value) (x : V) (u : Value) (Q : VK), Inv X pins σ H s → Vals xs us → RelV x u → r xs x H Q →
    wpAny (model X.prog X.w) X.A (call f us [(k, u)]) (EP X pins σ Q) X.xe s
def tCK (r : List V → V → Hp → VK → Prop) (t : TA) (tk : TE) : TE := fun σ H Q => t σ H fun vs H1 => tk σ H1 fun v H2 => r vs v H2 Q
end
end L2

/-! ### x in xs, by their data -/
namespace L2
open PySem PySem.Spec PyProof.Rows
section
variable {X : Cx}
def rInD (K : PySem.W.Frag) : R2 := fun x y H Q => ∃ dx ds, DV K H x dx ∧ DV K H y (.list ds) ∧ Shp 63 dx ∧ Shp 63 (.list ds) ∧ Q (.bl (ds.any fun z => PyData.eqv z dx)) H
end
end L2

/-! ### f-strings: the text itself is left open -/
namespace L2
open PySem PySem.Spec PyProof.Rows
/-- parts of a text, n signs or fewer ahead of them -/
abbrev TF := Nat → St → Hp → VK → Prop
/-- signs that can be written -/
def okS (x : Str) : Prop := ∀ c ∈ x.cps.toList, c < 16 ^ 8
section
variable {X : Cx}
def PF (X : Cx) (es : List Expr) (t : TF) : Prop :=
  ∀ (n : Nat) (out : Str) (pins : List (Addr × Obj)) (s : Shared) (σ : St) (H : Hp) (Q : VK), out.length ≤ n → Inv X pins σ H s → t n σ H Q → wpAny (model X.prog X.w) X.A (joinParts out (evalEach es X.env)) (EP X pins σ Q) X.xe s
def fNil : TF := fun n _ H Q => n ≤ sizeLine ∧ ∀ y : Str, Q (.str y) H
def fLit (k : Nat) (t : TF) : TF := fun n σ H Q => n + k ≤ sizeLine ∧ t (n + k) σ H Q
def fRep (te : TE) (t : TF) : TF := fun n σ H Q => te σ H fun v H1 => ∃ x, v = .str x ∧ okS x ∧ x.length ≤ 1000 ∧ n + 10002 ≤ sizeLine ∧ t (n + 10002) σ H1 Q
def fInt (te : TE) (t : TF) : TF := fun n σ H Q => te σ H fun v H1 => ∃ i, v = .int i ∧ 0 ≤ i ∧ i < 1000 ∧ n + 3 ≤ sizeLine ∧ t (n + 3) σ H1 Q
theorem len_app (x y : Str) : (x ++ y).length = x.length + y.length := strLen_append x y
end
end L2
namespace L2
theorem szB {n : Nat} (h : n ≤ 1000000) : n ≤ PySem.sizeLine := Nat.le_trans h (by decide)
end L2
namespace L2
open PySem
/-- a written constant is no starred one -/
theorem se_c {c : Const} {j : Nat} {p : Pos} {es : List Expr} {env : Env} : starEach (.Constant c j p :: es) env = (false, eval (.Constant c j p) env) :: starEach es env := rfl
end L2

/-! ### an object made under try; whole numbers in f-strings -/
namespace L2
open PySem PySem.Spec PyProof.Rows
section
variable {X : Cx} {k : Nat} {f C : Addr} {fd : FuncData} {ps : List Str} {sp : Sp} {dvs : List V} {ds : List Value} {x : Str} {p pos : Pos} {e : Expr} {es : List Expr} {t : TA}
end
end L2

/-! ### a method called under try -/
namespace L2
open PySem PySem.Spec PyProof.Rows
section
variable {X : Cx} {k : Nat} {f C : Addr} {fd : FuncData} {ps : List Str} {sp : Sp} {dvs : List V} {ds : List Value} {m : Str} {pos apos : Pos} {e o : Expr} {es : List Expr} {ta : TE} {t : TA}
end
end L2

/-! ### a pair of texts in an f-string -/
namespace L2
open PySem PySem.Spec PyProof.Rows
section
variable {X : Cx}
def fPair (te : TE) (t : TF) : TF := fun n σ H Q => te σ H fun v H1 => ∃ (a : Addr) (x y : Str), v = .ref a ∧ H1 a = some (.tup [.str x, .str y]) ∧ okS x ∧ okS y ∧ x.length ≤ 1000 ∧ y.length ≤ 1000 ∧ n + 20008 ≤ sizeLine ∧ t (n + 20008) σ H1 Q
end
end L2

/-! ### for i, x in enumerate(xs) -/
namespace L2
open PySem PySem.Spec PyProof.Rows
/-- a list with its numbers -/
def Ite (K : PySem.W.Frag) (a : Addr) : It :=
  ⟨fun i H => ∃ xs x, SqL K H a xs ∧ xs[i]? = some x,
   fun i H v H' => ∃ T x, H T = none ∧ v = .ref T ∧ H' = upd H T (.tup [.int (i : Int), x]) ∧ ∀ xs, SqL K H a xs → xs[i]? = some x,
   fun i H => ∃ xs, SqL K H a xs ∧ xs.length ≤ i⟩
section
variable {X : Cx}
def iEnum (K : PySem.W.Frag) (ta : TA) : TI := fun σ H R => ta σ H fun vs H1 => ∃ a, vs = [.ref a] ∧ (∃ xs, SqL K H1 a xs) ∧ R (Ite K a) H1
end
end L2
/-! ### for i in reversed(range(n)) -/
namespace PySem
section
variable {prog : Program} {w : World} {A : Around} {E : Value → Shared → Prop} {s : Shared}
def downObj (n : Int) : Obj := { cls := .type "range_iterator", data := .fields #[rawInt (n - 1), rawInt n, rawInt (-1)] }
end
end PySem
namespace L2
open PySem PySem.Spec PyProof.Rows
def Itd (n : Nat) : It := ⟨fun i _ => i < n, fun i H v H' => H' = H ∧ v = .int ((n : Int) - 1 - (i : Int)), fun i _ => n ≤ i⟩
section
variable {X : Cx} {tg : Expr}
def iDown (ta : TA) : TI := fun σ H R => ta σ H fun vs H1 => ∃ n : Nat, vs = [.int (n : Int)] ∧ n < 1000000 ∧ R (Itd n) H1
end
end L2
/-! ### min(xs) of whole numbers -/
namespace L2
open PySem PySem.Spec PyProof.Rows
/-- the least of these and m -/
def mnF (m : Int) (ns : List Int) : Int := ns.foldl (fun a b => if b < a then b else a) m
/-- the least one, or d -/
def mnD (d : Int) : List Int → Int
  | [] => d
  | n :: ns => mnF n ns
section
variable {P : Program} {w : World} {A : Around} {s : Shared} {R : Result → Shared → Prop}
end
section
variable {X : Cx} {k : Str}
end
end L2

namespace L2
open PySem PySem.Spec PyProof.Rows

/-! ### lists of pairs as tables -/
section
variable {κ : Type} [DecidableEq κ]
def valV (kvs : List (κ × V)) (k : κ) : Option V := (kvs.find? fun kv => decide (kv.1 = k)).map (·.2)
/-- in its place, or at the end -/
def putK (kvs : List (κ × V)) (k : κ) (v : V) : List (κ × V) :=
  if (kvs.any fun kv => decide (kv.1 = k)) = true then kvs.map (fun kv => if kv.1 = k then (kv.1, v) else kv) else kvs ++ [(k, v)]
def dropK (kvs : List (κ × V)) (k : κ) : List (κ × V) := kvs.filter fun kv => decide (kv.1 ≠ k)

theorem valV_pos {p : κ × V} {r : List (κ × V)} {k : κ} (e : p.1 = k) : valV (p :: r) k = some p.2 := by simp [valV, List.find?_cons, e]
theorem valV_neg {p : κ × V} {r : List (κ × V)} {k : κ} (e : ¬ p.1 = k) : valV (p :: r) k = valV r k := by simp [valV, List.find?_cons, e]
theorem valV_any (k : κ) : ∀ kvs : List (κ × V), (kvs.any fun kv => decide (kv.1 = k)) = (valV kvs k).isSome
  | [] => rfl
  | p :: r => by
    rw [List.any_cons]
    by_cases e : p.1 = k
    · simp only [valV_pos e, decide_eq_true e, Bool.true_or, Option.isSome_some]
    · rw [valV_neg e, decide_eq_false e, Bool.false_or]; exact valV_any k r
theorem length_putK (kvs : List (κ × V)) (k : κ) (v : V) : (putK kvs k v).length ≤ kvs.length + 1 := by
  unfold putK
  split
  · rw [List.length_map]; omega
  · rw [List.length_append, List.length_cons, List.length_nil]; omega
theorem putK_new {kvs : List (κ × V)} {k : κ} (v : V) (h : valV kvs k = none) : putK kvs k v = kvs ++ [(k, v)] := by
  unfold putK
  rw [valV_any, h]
  exact if_neg (by decide)

theorem RelO.isSome_eq {o : Option V} {u : Option Value} (r : RelO o u) : o.isSome = u.isSome := by
  cases o with
  | none => cases u with
    | none => rfl
    | some _ => exact (show False from r).elim
  | some _ => cases u with
    | none => exact (show False from r).elim
    | some _ => rfl
/-- raw tables of the same keys -/
theorem KV.val {kvs : List (κ × V)} {vs : List (κ × Value)} (r : KV kvs vs) (k : κ) : RelO (valV kvs k) (valueAt vs k) := by
  unfold KV at r
  induction r with
  | nil => exact True.intro
  | @cons p q ps qs h t ih =>
    obtain ⟨h1, h2⟩ := h
    by_cases e : p.1 = k
    · have e' : q.1 = k := h1.symm.trans e
      have b : valueAt (q :: qs) k = some q.2 := by simp [valueAt, List.find?_cons, e']
      rw [valV_pos e, b]; exact h2
    · have e' : ¬ q.1 = k := fun z => e (h1.trans z)
      have b : valueAt (q :: qs) k = valueAt qs k := by simp [valueAt, List.find?_cons, e']
      rw [valV_neg e, b]; exact ih
theorem KV.any {kvs : List (κ × V)} {vs : List (κ × Value)} (r : KV kvs vs) (k : κ) : (kvs.any fun kv => decide (kv.1 = k)) = vs.any fun kv => decide (kv.1 = k) := by
  unfold KV at r
  induction r with
  | nil => rfl
  | cons h t ih => rw [List.any_cons, List.any_cons, ih, h.1]
theorem KV.repl {kvs : List (κ × V)} {vs : List (κ × Value)} (r : KV kvs vs) (k : κ) {y : V} {u : Value} (ry : RelV y u) :
    KV (kvs.map fun kv => if kv.1 = k then (kv.1, y) else kv) (vs.map fun kv => if kv.1 = k then (kv.1, u) else kv) := by
  unfold KV at r ⊢
  induction r with
  | nil => exact .nil
  | @cons p q ps qs h t ih =>
    rw [List.map_cons, List.map_cons]
    refine .cons ?_ ih
    obtain ⟨h1, h2⟩ := h
    by_cases e : p.1 = k
    · rw [if_pos e, if_pos (h1.symm.trans e)]; exact ⟨h1, ry⟩
    · rw [if_neg e, if_neg (fun z => e (h1.trans z))]; exact ⟨h1, h2⟩
theorem KV.put {kvs : List (κ × V)} {vs : List (κ × Value)} (r : KV kvs vs) (k : κ) {y : V} {u : Value} (ry : RelV y u) : KV (putK kvs k y) (stored vs k u) := by
  unfold putK stored
  rw [r.any k]
  by_cases e : (vs.any fun kv => decide (kv.1 = k)) = true
  · rw [if_pos e, if_pos e]; exact r.repl k ry
  · rw [if_neg e, if_neg e]; exact Paired.snoc r ⟨rfl, ry⟩
theorem KV.length {kvs : List (κ × V)} {vs : List (κ × Value)} (r : KV kvs vs) : kvs.length = vs.length := Paired.length r
end


/-! ### a tracked dict, its keys ints and texts or tuples of these -/
theorem kV_is {P : Program} {w : World} {k : Key} {u : Value} (r : RelV (kV k) u) : (mixKind P w).is k u = true := by
  cases k with
  | inl i => obtain ⟨t, e⟩ := (show ∃ t, u = Value.int i t from r); subst e; exact mixKind_int P w i t
  | inr x => obtain ⟨t, e⟩ := (show ∃ t, u = Value.str x t from r); subst e; exact mixKind_str P w x t
theorem items_are {P : Program} {w : World} : ∀ {ks : List Key} {us : List Value}, Vals (ks.map kV) us → ItemsAre (mixKind P w) ks us
  | [], _, r => by rw [List.map_nil] at r; cases r; exact .nil
  | k :: ks, _, r => by
    rw [List.map_cons] at r
    cases r with
    | cons h t => exact .cons (kV_is h) (items_are t)

/-- raw entries of a dict with tuple keys -/
abbrev KT (H : Hp) : List (List Key × V) → List (List Key × Addr × Value) → Prop := Paired fun p q => p.1 = q.1 ∧ H q.2.1 = some (.tup (p.1.map kV)) ∧ RelV p.2 q.2.2
theorem KT.val {H : Hp} {kvs : List (List Key × V)} {xs : List (List Key × Addr × Value)} (r : KT H kvs xs) (k : List Key) : RelO (valV kvs k) ((atKey xs k).map (·.2)) := by
  induction r with
  | nil => exact True.intro
  | @cons p q ps qs h t ih =>
    obtain ⟨h1, _, h2⟩ := h
    by_cases e : p.1 = k
    · have e' : q.1 = k := h1.symm.trans e
      have b : atKey (q :: qs) k = some q.2 := by simp [atKey, List.find?_cons, e']
      rw [valV_pos e, b]; exact h2
    · have e' : ¬ q.1 = k := fun z => e (h1.trans z)
      have b : atKey (q :: qs) k = atKey qs k := by simp [atKey, List.find?_cons, e']
      rw [valV_neg e, b]; exact ih
theorem KT.repl {H : Hp} {kvs : List (List Key × V)} {xs : List (List Key × Addr × Value)} (r : KT H kvs xs) (k : List Key) {y : V} {u : Value} (ry : RelV y u) :
    KT H (kvs.map fun kv => if kv.1 = k then (kv.1, y) else kv) (xs.map (putAt k u)) := by
  induction r with
  | nil => exact .nil
  | @cons p q ps qs h t ih =>
    rw [List.map_cons, List.map_cons]
    refine .cons ?_ ih
    obtain ⟨h1, h2, h3⟩ := h
    unfold putAt
    by_cases e : p.1 = k
    · rw [if_pos e, if_pos (h1.symm.trans e)]; exact ⟨h1, h2, ry⟩
    · rw [if_neg e, if_neg (fun z => e (h1.trans z))]; exact ⟨h1, h2, h3⟩
theorem KT.put {H : Hp} {kvs : List (List Key × V)} {xs : List (List Key × Addr × Value)} (r : KT H kvs xs) (k : List Key) {b : Addr} {y : V} {u : Value} (hb : H b = some (.tup (k.map kV))) (ry : RelV y u) :
    KT H (putK kvs k y) (storedH xs k b u) := by
  have e : (kvs.any fun kv => decide (kv.1 = k)) = (atKey xs k).isSome := by
    rw [valV_any, (r.val k).isSome_eq, Option.isSome_map]
  unfold putK storedH
  rw [e]
  by_cases q : (atKey xs k).isSome = true
  · rw [if_pos q, if_pos q]; exact r.repl k ry
  · rw [if_neg q, if_neg q]; exact Paired.snoc r ⟨rfl, hb, ry⟩
theorem KT.keeps {H H' : Hp} {kvs : List (List Key × V)} {xs : List (List Key × Addr × Value)} (r : KT H kvs xs) (ht : ∀ b ys, H b = some (.tup ys) → H' b = some (.tup ys)) : KT H' kvs xs :=
  Paired.mapP r fun _ _ z => ⟨z.1, ht _ _ z.2.1, z.2.2⟩

section
variable {P : Program} {w : World} {H : Hp} {h : Heap} {a : Addr}
theorem rd_of {u : HO} (ok : HOk P w H h) (e : Rd H a u) : ObjOk P w H h a u := e.ok ok
theorem dk_rd {kvs : List (Key × V)} (ok : HOk P w H h) (e : Rd H a (.dK kvs)) : kvs.length ≤ sizeLine ∧ (a == sysModules) = false ∧ ∃ vs, KV kvs vs ∧ h.DictOf (mixKind P w) a vs :=
  show ObjOk P w H h a (.dK kvs) from rd_of ok e
theorem dk_of {kvs : List (Key × V)} (ok : HOk P w H h) (e : H a = some (.dK kvs)) : kvs.length ≤ sizeLine ∧ (a == sysModules) = false ∧ ∃ vs, KV kvs vs ∧ h.DictOf (mixKind P w) a vs := dk_rd ok (.inl e)
/-- a tracked tuple of ints and texts is a key -/
theorem key_of {ks : List Key} (ok : HOk P w H h) (e : H a = some (.tup (ks.map kV))) : (tupleKind (mixKind P w)).is h ks a := by
  obtain ⟨_, its, r, o, h1, h2, n, h3⟩ := (show ObjOk P w H h a (.tup (ks.map kV)) from ok a _ e)
  exact ⟨o, its.toArray, n, h1, h2, h3, by simpa using items_are r⟩
theorem dt_rd {kvs : List (List Key × V)} (ok : HOk P w H h) (e : Rd H a (.dT kvs)) : kvs.length ≤ sizeLine ∧ (a == sysModules) = false ∧
    ∃ xs, KT H kvs xs ∧ h.DictOfH (tupleKind (mixKind P w)) a xs := by
  obtain ⟨z, y, xs, r, o, es, ep, h1, h2, h3, h4, h5⟩ := (show ObjOk P w H h a (.dT kvs) from rd_of ok e)
  refine ⟨z, y, xs, r, o, es, ep, h1, h2, h3, h4, fun x hx => ?_, h5⟩
  have all : ∀ {l : List (List Key × V)} {m : List (List Key × Addr × Value)}, KT H l m → ∀ x ∈ m, (tupleKind (mixKind P w)).is h x.1 x.2.1 := by
    intro l m q
    induction q with
    | nil => intro x hx; exact nomatch hx
    | @cons p q ps qs hq t ih =>
      intro x hx
      rcases List.mem_cons.mp hx with e | hx
      · subst e
        exact key_of ok (by rw [← hq.1]; exact hq.2.1)
      · exact ih x hx
  exact all r x hx
theorem dt_of {kvs : List (List Key × V)} (ok : HOk P w H h) (e : H a = some (.dT kvs)) : kvs.length ≤ sizeLine ∧ (a == sysModules) = false ∧
    ∃ xs, KT H kvs xs ∧ h.DictOfH (tupleKind (mixKind P w)) a xs := dt_rd ok (.inl e)
end

/-- what the dict at a holds at the key y -/
def DGet (H : Hp) (a : Addr) (y : V) (r : Option V) : Prop :=
  (∃ kvs k, Rd H a (.dK kvs) ∧ y = kV k ∧ r = valV kvs k) ∨ ∃ kvs k b, Rd H a (.dT kvs) ∧ y = .ref b ∧ H b = some (.tup (k.map kV)) ∧ r = valV kvs k
/-- the heap behind a[y] = v -/
def DPut (H : Hp) (a : Addr) (y v : V) (H' : Hp) : Prop :=
  (∃ kvs k, H a = some (.dK kvs) ∧ y = kV k ∧ kvs.length < sizeLine ∧ H' = upd H a (.dK (putK kvs k v))) ∨
  ∃ kvs k b, H a = some (.dT kvs) ∧ y = .ref b ∧ H b = some (.tup (k.map kV)) ∧ kvs.length < sizeLine ∧ H' = upd H a (.dT (putK kvs k v))
theorem DGet.k {H : Hp} {a : Addr} {kvs : List (Key × V)} {k : Key} (e : H a = some (.dK kvs)) : DGet H a (kV k) (valV kvs k) := .inl ⟨kvs, k, .inl e, rfl, rfl⟩
theorem DPut.k {H : Hp} {a : Addr} {kvs : List (Key × V)} {k : Key} {v : V} (e : H a = some (.dK kvs)) (hl : kvs.length < sizeLine) : DPut H a (kV k) v (upd H a (.dK (putK kvs k v))) := .inl ⟨kvs, k, e, rfl, hl, rfl⟩
section
variable {X : Cx} {pins : List (Addr × Obj)} {σ : St} {H : Hp} {s : Shared} {a : Addr} {y v : V} {u r : Value} {o : Option V} {A : Around} {E : Value → Shared → Prop}

theorem Inv.big (I : Inv X pins σ H s) : sysModules < s.heap.objs.size := by
  have h : mainGlobals < s.heap.objs.size := (I.mod.glob.keeps I.bk).lt
  exact Nat.lt_trans (by decide) h

/-- d[y], there -/
theorem d_getItem {Q : Value → Shared → Prop} (hu : A.units + 1 < cLine) (I : Inv X pins σ H s) (g : DGet H a y (some v)) (ry : RelV y u) (h : ∀ w' s', Inv X pins σ H s' → RelV v w' → Q w' s') :
    wpAny (model X.prog X.w) A (getItem (.ref a) u) Q E s := by
  rcases g with ⟨kvs, k, e, ey, l⟩ | ⟨kvs, k, b, e, ey, eb, l⟩
  · subst ey
    obtain ⟨z, hd, vs, rel, dd⟩ := dk_rd I.hok e
    obtain ⟨w', hw, rw'⟩ := RelO.some_of (v := v) (o := valueAt vs k) (by rw [l]; exact rel.val k)
    exact wpAny_getItem_of (kV_is ry) dd.mapOf hw (h w' _ (I.tok _) rw')
  · subst ey
    cases (show u = Value.ref b from ry)
    obtain ⟨z, hd, xs, rel, dd⟩ := dt_rd I.hok e
    obtain ⟨w', hw, rw'⟩ := RelO.some_of (v := v) (o := (atKey xs k).map (·.2)) (by rw [l]; exact rel.val k)
    obtain ⟨p, hp, hp2⟩ := Option.map_eq_some_iff.mp hw
    refine wpAny_getItem_heap (tupleKind_room_in1 hu) (key_of I.hok eb) dd hp ?_
    rw [hp2]
    exact h w' _ (I.tok _) rw'
/-- a dict's object is replaced -/
theorem d_write {h' : Heap} {t' : Nat} {ob : HO} (I : Inv X pins σ H s) (mu : Mut (H a)) (hs : Heap.SameBut a s.heap h') (he : ∃ q, h'.get? a = some q) (new : ObjOk X.prog X.w (upd H a ob) h' a ob) :
    Inv X pins σ (upd H a ob) { s with heap := h', toks := t' } :=
  I.write (x := a) (e := a) mu (.inl rfl) (fun b q hb z => (hs.2 b hb).trans z) he new
theorem dk_new {P : Program} {w : World} {H' : Hp} {h' : Heap} {kvs : List (Key × V)} {vs : List (Key × Value)} (z : kvs.length ≤ sizeLine) (hd : (a == sysModules) = false) (rel : KV kvs vs) (dd : h'.DictOf (mixKind P w) a vs) :
    ObjOk P w H' h' a (.dK kvs) := ⟨z, hd, vs, rel, dd⟩
/-- d[y] = v -/
theorem d_setItem {H' : Hp} {Q : Unit → Shared → Prop} (hu : A.units + 1 < cLine) (I : Inv X pins σ H s) (g : DPut H a y v H') (ry : RelV y u) (rv : RelV v r) (h : ∀ s', Inv X pins σ H' s' → Q () s') :
    wpAny (model X.prog X.w) A (setItem (.ref a) u r) Q E s := by
  rcases g with ⟨kvs, k, e, ey, l, eH⟩ | ⟨kvs, k, b, e, ey, eb, l, eH⟩
  · subst ey eH
    obtain ⟨z, hd, vs, rel, dd⟩ := dk_of I.hok e
    have hz : vs.length ≤ sizeLine := by rw [← rel.length]; exact z
    have hl : (putK kvs k v).length ≤ sizeLine := by have := length_putK kvs k v; omega
    refine wpAny_setItem_pairs (hsz := hz) (kV_is ry) dd fun h' dd' hs => h _ ?_
    have he : ∃ q, h'.get? a = some q := let ⟨q, _, _, hq, _⟩ := dd'; ⟨q, hq⟩
    exact d_write I (by rw [e]; exact True.intro) hs he (dk_new hl hd (rel.put k rv) dd')
  · subst ey eH
    cases (show u = Value.ref b from ry)
    obtain ⟨z, hd, xs, rel, dd⟩ := dt_of I.hok e
    have hz : xs.length ≤ sizeLine := by rw [← Paired.length rel]; exact z
    have hl : (putK kvs k v).length ≤ sizeLine := by have := length_putK kvs k v; omega
    refine wpAny_setItem_heap (hsz := hz) (tupleKind_room_in1 hu) (key_of I.hok eb) dd fun h' dd' hs => h _ ?_
    obtain ⟨q, es, ep, hq, h2, h3, h4, _, h5⟩ := dd'
    refine d_write I (by rw [e]; exact True.intro) hs ⟨q, hq⟩ ⟨hl, hd, _, (rel.put k eb rv).keeps fun c ys ec => ?_, q, es, ep, hq, h2, h3, h4, h5⟩
    rw [upd_ne (ne_of ec e (fun z => nomatch z))]
    exact ec
end

section
variable {X : Cx} {pins : List (Addr × Obj)} {σ : St} {H : Hp} {s : Shared} {a : Addr} {kvs : List (Key × V)} {k : Key} {u : Value} {A : Around} {E : Value → Shared → Prop}
end


/-! ### readings and rules -/
/-- the element of a subscription, not a slice -/
def NoSl (i : Expr) : Prop := ∀ ov iv, subscripted i false ov iv = operate [ov, iv] (getItem ov iv)
theorem subD_of {prog : Program} {w : World} {A : Around} {E : Value → Shared → Prop} {s : Shared} {env : Env} {value slice : Expr} {pos : Pos} {T id : String} {Q : Value → Shared → Prop}
    (hl : typeLookup (.type T) "__getitem__" = pure (some (.builtin id))) (hs : NoSl slice)
    (h : wpAny (model prog w) A (eval value env) (fun o s₁ => wpAny (model prog w) A (eval slice env) (fun i s₂ => s₂.TypeIs o T ∧ wpAny (model prog w) A (getItem o i) Q E s₂) E s₁) E s) :
    wpAny (model prog w) A (eval (.Subscript value slice pos) env) Q E s := by
  refine Subscript_ (wpAny_mono h (fun o s₁ h₁ => wpAny_mono h₁ (fun i s₂ h₂ => ?_) fun _ _ x => x) fun _ _ x => x)
  obtain ⟨hT, h₂⟩ := h₂
  unfold subscriptTail
  refine wpAny_bind ?_
  rw [getitemInPython_of_ne hT.not_modules]
  refine wpAny_bind (wpAny_specialOf hT hl ?_)
  have fin : wpAny (model prog w) A (subscripted slice false o i) (fun r s₃ => wpAny (model prog w) A (letTemporaryGo value o r >>= fun _ => pure r) Q E s₃) E s₂ := by
    rw [hs o i]
    exact wpAny_operating (wpAny_mono h₂ (fun r s₃ h₃ => wpAny_bind (wpAny_letTemporaryGo (wpAny_pure h₃))) fun _ _ x => x)
  first
    | exact wpAny_pure (wpAny_bind fin)
    | exact wpAny_bind (wpAny_pure (wpAny_bind fin))
    | exact wpAny_bind fin

theorem dict_typeIs {X : Cx} {pins : List (Addr × Obj)} {σ : St} {H : Hp} {s : Shared} {a : Addr} {y : V} {o : Option V} (I : Inv X pins σ H s) (g : DGet H a y o) : s.TypeIs (.ref a) "dict" := by
  rcases g with ⟨kvs, k, e, _, _⟩ | ⟨kvs, k, b, e, _, _, _⟩
  · obtain ⟨_, _, vs, _, dd⟩ := dk_rd I.hok e
    exact dd.typeIs
  · obtain ⟨_, _, xs, _, dd⟩ := dt_rd I.hok e
    exact dd.typeIs
/-- d[y] -/
def tDGet (td ty : TE) : TE := fun σ H Q => td σ H fun x H1 => ty σ H1 fun y H2 => ∃ a v, x = .ref a ∧ DGet H2 a y (some v) ∧ Q v H2
/-- y in d, y not in d -/
def tDIn (ty td : TE) : TE := fun σ H Q => ty σ H fun y H1 => td σ H1 fun x H2 => ∃ a o, x = .ref a ∧ DGet H2 a y o ∧ Q (.bl o.isSome) H2
def tDNotIn (ty td : TE) : TE := fun σ H Q => ty σ H fun y H1 => td σ H1 fun x H2 => ∃ a o, x = .ref a ∧ DGet H2 a y o ∧ Q (.bl (!o.isSome)) H2
/-- d[y] = v -/
def sDPut (td ty tv : TE) : TS := fun D σ H => tv σ H fun v H1 => td σ H1 fun x H2 => ty σ H2 fun y H3 => ∃ a H4, x = .ref a ∧ DPut H3 a y v H4 ∧ D.nx σ H4
/-- d[y] op= v -/
def sDAug (td ty tv : TE) (rd : V → V → Hp → VK → Prop) : TS := fun D σ H => td σ H fun x H1 => ty σ H1 fun y H2 => ∃ a v, x = .ref a ∧ DGet H2 a y (some v) ∧
  tv σ H2 fun y2 H3 => rd v y2 H3 fun z H4 => ∃ H5, DPut H4 a y z H5 ∧ D.nx σ H5
/-- del d[y] -/
def sDDel (td ty : TE) : TS := fun D σ H => td σ H fun x H1 => ty σ H1 fun y H2 => ∃ a kvs k, x = .ref a ∧ H2 a = some (.dK kvs) ∧ y = kV k ∧ (valV kvs k).isSome = true ∧ D.nx σ (upd H2 a (.dK (dropK kvs k)))

section
variable {X : Cx} {o i e value : Expr} {pos pos' tpos : Pos} {td ty tv : TE}
theorem pe_dget (hu : X.A.units + 1 < cLine) (ho : PE X o td) (hi : PE X i ty) (hs : NoSl i) : PE X (.Subscript o i pos) (tDGet td ty) := by
  intro pins s σ H Q I h
  refine subD_of PySem.F.slot_dict_getitem.lookup hs (thn (ho pins s σ H _ I h) fun u s1 ⟨x, H1, I1, rx, q1⟩ => thn (hi pins s1 σ H1 _ I1 q1) fun iv s2 ⟨y, H2, I2, ry, a, v, ex, g, q2⟩ => ?_)
  subst ex
  obtain rfl : u = Value.ref a := rx
  exact ⟨dict_typeIs I2 g, d_getItem hu I2 g ry fun w' s3 I3 rw' => ⟨v, H2, I3, rw', q2⟩⟩
theorem ps_dput (hu : X.A.units + 1 < cLine) (ho : PE X o td) (hi : PE X i ty) (hv : PE X value tv) (hs : swapsWith value (some (.Subscript o i pos')) pos.line X.env = pure false) :
    PS X (.Assign [.Subscript o i pos'] value pos) (sDPut td ty tv) := by
  intro pins s σ H D I h
  refine wpAny_Assign_Subscript (thn (hv pins s σ H _ I h) fun r s1 ⟨v, H1, I1, rv, q1⟩ => thn (ho pins s1 σ H1 _ I1 q1) fun u s2 ⟨x, H2, I2, rx, q2⟩ => thn (hi pins s2 σ H2 _ I2 q2) fun iv s3 ⟨y, H3, I3, ry, a, H4, ex, g, q3⟩ => ?_) hs
  subst ex
  obtain rfl : u = Value.ref a := rx
  exact d_setItem hu I3 g ry rv fun s4 I4 => ⟨σ, H4, I4, q3⟩
end


/-! ### displays -/
theorem dk_empty {P : Program} {w : World} {H : Hp} (h : Heap) (hb : sysModules < h.objs.size) : ObjOk P w H (h.push { cls := .type "dict", data := .dict #[] }) h.objs.size (.dK []) :=
  ⟨Nat.zero_le _, beq_eq_false_iff_ne.mpr (Ne.symm (Nat.ne_of_lt hb)), [], .nil, Heap.DictOf.new h⟩
/-- {}, to be a dict of the kind that is wanted -/
def tDNewK : TE := fun _ H Q => ∀ p, H p = none → Q (.ref p) (upd H p (.dK []))
def tDNewT : TE := fun _ H Q => ∀ p, H p = none → Q (.ref p) (upd H p (.dT []))
section
variable {X : Cx} {pos : Pos}
theorem pe_dnewK : PE X (.Dict [] [] pos) tDNewK := fun pins s σ H Q I h =>
  wpAny_Dict_empty ⟨.ref s.heap.objs.size, _, I.laid (a := s.heap.objs.size) (o := .dK []) (t' := s.toks) (fun _ _ q => Heap.get?_push_of_some _ q) (Nat.le_refl _) (dk_empty s.heap I.big), rfl, h _ (I.hok.fresh (Nat.le_refl _))⟩
end

/-- the pairs of a display, from the left -/
def tPairs : List (TE × TE) → St → Hp → (List (V × V) → Hp → Prop) → Prop
  | [], _, H, Q => Q [] H
  | (tk, tv) :: r, σ, H, Q => tk σ H fun x H1 => tv σ H1 fun y H2 => tPairs r σ H2 fun ps H3 => Q ((x, y) :: ps) H3
abbrev VV : List (V × V) → List (Value × Value) → Prop := Paired fun p q => RelV p.1 q.1 ∧ RelV p.2 q.2
def PPs (X : Cx) (pos : Pos) (keys : List (Option Expr)) (values : List Expr) (trs : List (TE × TE)) : Prop :=
  ∀ (pins : List (Addr × Obj)) (s : Shared) (σ : St) (H : Hp) (Q : List (V × V) → Hp → Prop), Inv X pins σ H s → tPairs trs σ H Q →
    wpAny (model X.prog X.w) X.A (evalPairs (pairTrees keys values X.env pos)) (fun vs s' => ∃ ps H', Inv X pins σ H' s' ∧ VV ps vs ∧ Q ps H') X.xe s
def mergeK (kvs more : List (Key × V)) : List (Key × V) := more.foldl (fun acc kv => putK acc kv.1 kv.2) kvs
/-- {k: v, ..} with keys ints and texts; the new dict stands empty while the pairs are made -/
def tDisp (trs : List (TE × TE)) : TE := fun σ H Q => ∀ p, H p = none → tPairs trs σ (upd H p (.dK [])) fun ps H2 => H2 p = some (.dK []) ∧ ∃ kvs : List (Key × V), ps = kvs.map (fun kv => (kV kv.1, kv.2)) ∧ kvs.length ≤ 15 ∧ Q (.ref p) (upd H2 p (.dK (mergeK [] kvs)))
/-! ### methods -/
/-- a method call o.m(e) of a built-in, with one argument: what must be seen of the text -/
structure M1 (X : Cx) (o : Expr) (m : Str) (apos : Pos) (e : Expr) (cpos : Pos) : Prop where
  base : attributeBase o m X.env (eval o X.env) = eval o X.env
  few : ((backTo cpos (starEach [e] X.env)).all (fun x => !x.1) && (backToKw cpos (keywordEach [] X.env)).all (fun x => x.1.isSome)
    && decide (([e] : List Expr).length + ([] : List Keyword).length + (if ([] : List Keyword).isEmpty then 0 else 1) < 30)) = true
  line : (apos.endLine == cpos.line) = true
  trees : backTo cpos (starEach [e] X.env) = [(false, eval e X.env)]
structure M2 (X : Cx) (o : Expr) (m : Str) (apos : Pos) (e f : Expr) (cpos : Pos) : Prop where
  base : attributeBase o m X.env (eval o X.env) = eval o X.env
  few : ((backTo cpos (starEach [e, f] X.env)).all (fun x => !x.1) && (backToKw cpos (keywordEach [] X.env)).all (fun x => x.1.isSome)
    && decide (([e, f] : List Expr).length + ([] : List Keyword).length + (if ([] : List Keyword).isEmpty then 0 else 1) < 30)) = true
  line : (apos.endLine == cpos.line) = true
  trees : backTo cpos (starEach [e, f] X.env) = [(false, eval e X.env), (false, eval f X.env)]

/-- a is a dict, whatever its keys -/
def IsD (H : Hp) (a : Addr) : Prop := (∃ kvs, Rd H a (.dK kvs)) ∨ ∃ kvs, Rd H a (.dT kvs)
section
variable {X : Cx} {pins : List (Addr × Obj)} {σ : St} {H : Hp} {s : Shared} {a : Addr} {y d : V} {u r : Value} {o : Option V} {A : Around} {E : Value → Shared → Prop}
end

def tDGet1 (td ty : TE) : TE := fun σ H Q => td σ H fun x H1 => ∃ a, x = .ref a ∧ IsD H1 a ∧ ty σ H1 fun y H2 => ∃ o, DGet H2 a y o ∧ Q (o.getD .non) H2
def tDGet2 (td ty tx : TE) : TE := fun σ H Q => td σ H fun x H1 => ∃ a, x = .ref a ∧ IsD H1 a ∧ ty σ H1 fun y H2 => tx σ H2 fun z H3 => ∃ o, DGet H3 a y o ∧ Q (o.getD z) H3
/-- d.pop(k): there; d.pop(k, x): there or not -/
def tDPop1 (td ty : TE) : TE := fun σ H Q => td σ H fun x H1 => ∃ a, x = .ref a ∧ IsD H1 a ∧ ty σ H1 fun y H2 => ∃ kvs k v, H2 a = some (.dK kvs) ∧ y = kV k ∧ valV kvs k = some v ∧ Q v (upd H2 a (.dK (dropK kvs k)))
def tDPop2 (td ty tx : TE) : TE := fun σ H Q => td σ H fun x H1 => ∃ a, x = .ref a ∧ IsD H1 a ∧ ty σ H1 fun y H2 => tx σ H2 fun z H3 => ∃ kvs k, H3 a = some (.dK kvs) ∧ y = kV k ∧
  (∀ v, valV kvs k = some v → Q v (upd H3 a (.dK (dropK kvs k)))) ∧ (valV kvs k = none → Q z H3)
section
variable {X : Cx} {o e f : Expr} {apos cpos : Pos} {td ty tx : TE}
end

/-! ### dict(d): a copy -/
section
variable {X : Cx} {pins : List (Addr × Obj)} {σ : St} {H : Hp} {s : Shared} {a : Addr} {kvs : List (Key × V)} {A : Around} {E : Value → Shared → Prop}
end


section
variable {X : Cx} {pins : List (Addr × Obj)} {σ : St} {H : Hp} {s : Shared} {a : Addr} {y : V} {u : Value} {A : Around} {E : Value → Shared → Prop}
end
end L2
namespace L2
open PySem PySem.Spec PyProof.Rows
/-! ### a dict's pairs: keys that differ -/
section
variable {κ : Type} [DecidableEq κ]
end
end L2
/-! ### dicts that are walked, and sorted -/
namespace L2
open PySem PySem.Spec PyProof.Rows
/-- a dict while it is walked: its record stays -/
abbrev FzD (P : Program) (w : World) (a : Addr) (kvs : List (Key × V)) (ep : Nat) : HO := .ext fun h => ∃ vs, KV kvs vs ∧ h.DictAt (mixKind P w) a vs ep ∧ (a == sysModules) = false
theorem Inv.freeze {X : Cx} {pins : List (Addr × Obj)} {σ : St} {H : Hp} {s : Shared} {a : Addr} {kvs : List (Key × V)} (I : Inv X pins σ H s) (e : H a = some (.dK kvs)) :
    ∃ ep vs, KV kvs vs ∧ s.heap.DictAt (mixKind X.prog X.w) a vs ep ∧ (a == sysModules) = false ∧ Inv X pins σ (upd H a (FzD X.prog X.w a kvs ep)) s := by
  obtain ⟨z, hd, vs, rel, dd⟩ := dk_of I.hok e
  obtain ⟨ep, da⟩ := dd.dictAt
  obtain ⟨o, es, ho, r⟩ := id da
  refine ⟨ep, vs, rel, da, hd, ?_⟩
  exact d_write (t' := s.toks) I (by rw [e]; exact True.intro) ⟨rfl, fun _ _ => rfl⟩ ⟨o, ho⟩ ⟨⟨vs, rel, da, hd⟩, ⟨o, ho⟩, fun h1 h2 ⟨us, r1, d1, l1⟩ k => ⟨us, r1, d1.at' k, l1⟩⟩
def Ikx (P : Program) (w : World) (a : Addr) (kvs : List (Key × V)) (ep : Nat) : It :=
  ⟨fun i H => H a = some (FzD P w a kvs ep) ∧ i < kvs.length, fun i H v H' => H' = H ∧ ∃ k, (kvs.map (·.1))[i]? = some k ∧ v = kV k, fun i H => H a = some (FzD P w a kvs ep) ∧ kvs.length ≤ i⟩
section
variable {X : Cx} {tg : Expr}
def iDk (P : Program) (w : World) (tl : TE) : TI := fun σ H R => tl σ H fun x H1 => ∃ a kvs, x = .ref a ∧ H1 a = some (.dK kvs) ∧ ∀ ep, R (Ikx P w a kvs ep) (upd H1 a (FzD P w a kvs ep))
/-- d[y] of a dict that is walked -/
def tDGetF (P : Program) (w : World) (td ty : TE) : TE := fun σ H Q => td σ H fun x H1 => ty σ H1 fun y H2 => ∃ a kvs ep k v, x = .ref a ∧ y = kV k ∧ H2 a = some (FzD P w a kvs ep) ∧ valV kvs k = some v ∧ Q v H2
end
end L2

/-! ### a text's beginning, and where a text is found in it -/
namespace L2
open PySem PySem.Spec PyProof.Rows
section
variable {X : Cx}
def rStarts : V → List V → Hp → VK → Prop := fun x vs H Q => ∃ a b, x = .str a ∧ vs = [.str b] ∧ Q (.bl (Txt.startswith a b)) H
theorem mt_startswith : MtR X "str.startswith" rStarts := by
  intro pins s σ H x vs v us Q I rx rv h
  obtain ⟨a, b, rfl, rfl, q⟩ := h
  obtain ⟨t, rfl⟩ := rx
  obtain ⟨u, rfl, ru⟩ := vals1 rv
  obtain ⟨t', rfl⟩ := ru
  exact SC.startswith ⟨.bl _, H, I, rfl, q⟩
def rFind : V → List V → Hp → VK → Prop := fun x vs H Q => ∃ a b, x = .str a ∧ vs = [.str b] ∧ Q (.int (Txt.find a b)) H
def rIntT : List V → Hp → VK → Prop := fun xs H Q => ∃ x n, xs = [.str x] ∧ PySem.intText? x = some n ∧ x.length ≤ 640 ∧ Q (.int n) H
end
theorem starts_iff (a b : Str) : Txt.startswith a b = true ↔ cds b <+: cds a := by
  unfold Txt.startswith
  rw [Bool.and_eq_true, decide_eq_true_eq, StrLaws.subAt_eq, List.drop_zero, beq_iff_eq, Nat.zero_add]
  show b.length ≤ a.length ∧ (cds a).take b.length = cds b ↔ _
  rw [← cds_len b, List.prefix_iff_eq_take]
  constructor
  · rintro ⟨_, h⟩
    exact h.symm
  · intro h
    refine ⟨?_, h.symm⟩
    have := congrArg List.length h
    rw [List.length_take, cds_len] at this
    rw [cds_len]
    rw [cds_len] at this
    omega
end L2
/-! ### a text parted -/
namespace L2
open PySem PySem.Spec PyProof.Rows
def part3 (x y : Str) : Str × Str × Str := match Builtin.Str.occurrences x y 0 x.length 1 with
  | i :: _ => (Builtin.Str.strSub x 0 i, y, Builtin.Str.strSub x (i + y.length) x.length)
  | [] => (x, Str.empty, Str.empty)
section
variable {X : Cx}
def rPart : V → List V → Hp → VK → Prop := fun v vs H Q => ∃ x y, v = .str x ∧ vs = [.str y] ∧ (y.length == 0) = false ∧ x.length ≤ sizeLine ∧ ∀ p, H p = none → Q (.ref p) (upd H p (.tup [.str (part3 x y).1, .str (part3 x y).2.1, .str (part3 x y).2.2]))
end
end L2
/-! ### what a list gone through from behind gives, all at once -/
namespace L2
open PySem PySem.Spec PyProof.Rows
end L2

/-! ### the texts of a list from behind, joined -/
namespace L2
open PySem PySem.Spec PyProof.Rows
section
variable {X : Cx}
def tJR (K : PySem.W.Frag) (to : TE) (ta : TA) : TE := fun σ H Q => to σ H fun x H1 => ∃ z, x = .str z ∧ ta σ H1 fun vs H2 => ∃ (l : Addr) (ws : List Str), vs = [.ref l] ∧ SqL K H2 l (ws.map V.str) ∧ (ws.map (·.length)).sum + ws.length * z.length ≤ 16777216 ∧ Q (.str (Txt.join z ws.reverse)) H2
end
end L2

/-! ### try: a statement of calls, except C as n: .. -/
namespace L2
open PySem PySem.Spec PyProof.Rows
/-- a statement that may raise, by what is wanted then -/
def PSx (X : Cx) (st : Stmt) (tx : St → Hp → VK → (Value → Hp → Prop) → Prop) : Prop :=
  ∀ (pins : List (Addr × Obj)) (s : Shared) (σ : St) (H : Hp) (Q : VK) (Ex : Value → Hp → Prop), Inv X pins σ H s → tx σ H Q Ex →
    wpAny (model X.prog X.w) X.A (exec st X.env) (fun fl s' => fl = .next ∧ ∃ v H1, Inv X pins σ H1 s' ∧ Q v H1) (fun ev s' => ∃ H1 s1, Inv X pins σ H1 s1 ∧ CXe X.prog X.w X.stack H1 s1 (fun cls _ H' => Ex cls H') ev s') s
end L2
/-! ### a list of written texts -/
namespace L2
open PySem PySem.Spec PyProof.Rows
/-- the texts of a list of constants -/
def strsOf : List Expr → Option (List Str)
  | [] => some []
  | .Constant (.str x) _ _ :: es => (strsOf es).map (x :: ·)
  | _ => none
def tStrs (ws : List Str) : TA := fun _ H Q => Q (ws.map V.str) H
end L2

/-! ### sorting asks what it will: the outcome is a permutation -/
namespace L2
open PySem PySem.Spec PyProof.Rows PySem.W
/-- what all ends of a tree of questions have; the questions are of places below n -/
def AllT {α : Type} (n : Nat) (R : α → Prop) : KasT α → Prop
  | .ret a => R a
  | .ask i j k => i < n ∧ j < n ∧ ∀ b, AllT n R (k b)
abbrev Pm (n : Nat) (p : Array Nat) : Prop := p.Perm (List.toArray (List.range n))
end L2
namespace L2
open PySem PySem.Spec PyProof.Rows PySem.W
section
variable {prog : Program} {w : World} {A : Around} {E : Value → Shared → Prop} {s : Shared}
/-- the heap while a list is sorted -/
def offH (h : Heap) (a : Addr) (vs : List Value) : Heap := ((h.update a (Obj.mapSeq fun _ => #[])).push (seqObj "tuple" vs.toArray 0)).push (seqObj "list" #[] 0)
/-- the heap when the sorting begins -/
def inH (h : Heap) (vs : List Value) : Heap := ((h.push (seqObj "list" #[] 0)).update h.objs.size (Obj.mapSeq (· ++ vs.toArray))).push (seqObj "list" vs.toArray 0)
/-- pairs of texts, as they lie -/
def Pairs (h : Heap) (vs : List Value) : Prop := ∀ v ∈ vs, ∃ a o n x y t u, v = .ref a ∧ h.get? a = some o ∧ o.cls = .type "tuple" ∧ o.data = .seq #[.str x t, .str y u] n
end
section
variable {X : Cx}
end
end L2

/-! ### the tables of sets that are only added to -/
namespace L2
open PySem
/-- a table without gaps that were once filled, its places rising -/
structure Lit (t : SetTable) : Prop where
  up : t.place.toList.Pairwise (· < ·)
  no : t.dummies = #[]
theorem rise_get {xs : Array Nat} (h : xs.toList.Pairwise (· < ·)) {i j : Nat} (ij : i < j) (hj : j < xs.size) (d : Nat) : xs.getD i d < xs.getD j d := by
  have hi : i < xs.size := Nat.lt_trans ij hj
  have e1 : xs.getD i d = xs[i] := by simp [Array.getD, hi]
  have e2 : xs.getD j d = xs[j] := by simp [Array.getD, hj]
  rw [e1, e2]
  have := List.pairwise_iff_getElem.mp h i j (by simpa using hi) (by simpa using hj) ij
  simpa using this
theorem below_go {xs : Array Nat} {j : Nat} (h : xs.toList.Pairwise (· < ·)) : ∀ (fuel lo hi : Nat), lo ≤ hi → hi ≤ xs.size → hi - lo ≤ fuel →
    (∀ i, i < lo → xs.getD i j < j) → (∀ i, hi ≤ i → i < xs.size → j ≤ xs.getD i j) →
    SetTable.below.go xs j fuel lo hi ≤ xs.size ∧ (∀ i, i < SetTable.below.go xs j fuel lo hi → xs.getD i j < j) ∧ (∀ i, SetTable.below.go xs j fuel lo hi ≤ i → i < xs.size → j ≤ xs.getD i j)
  | 0, lo, hi, l1, l2, l3, a, b => by
    have e : lo = hi := by omega
    subst e
    exact ⟨l2, a, b⟩
  | fuel + 1, lo, hi, l1, l2, l3, a, b => by
    unfold SetTable.below.go
    split
    · rename_i lt
      have m1 : lo ≤ (lo + hi) / 2 := by omega
      have m2 : (lo + hi) / 2 < hi := by omega
      dsimp only
      split
      · rename_i c
        refine below_go h fuel _ hi (by omega) l2 (by omega) (fun i hi' => ?_) b
        rcases Nat.lt_or_eq_of_le (Nat.le_of_lt_succ hi') with z | z
        · exact Nat.lt_trans (rise_get h z (by omega) j) c
        · rw [z]; exact c
      · rename_i c
        refine below_go h fuel lo _ m1 (by omega) (by omega) a (fun i hi' hs => ?_)
        rcases Nat.lt_or_eq_of_le hi' with z | z
        · exact Nat.le_trans (Nat.le_of_not_lt c) (Nat.le_of_lt (rise_get h z hs j))
        · rw [← z]; exact Nat.le_of_not_lt c
    · have e : lo = hi := by omega
      subst e
      exact ⟨l2, a, b⟩
theorem below_at {xs : Array Nat} (h : xs.toList.Pairwise (· < ·)) (j : Nat) : SetTable.below xs j ≤ xs.size ∧ (∀ i, i < SetTable.below xs j → xs.getD i j < j) ∧ (∀ i, SetTable.below xs j ≤ i → i < xs.size → j ≤ xs.getD i j) :=
  below_go h xs.size 0 xs.size (Nat.zero_le _) (Nat.le_refl _) (by omega) (fun i hi => absurd hi (Nat.not_lt_zero _)) (fun i h1 h2 => absurd h2 (Nat.not_lt.mpr h1))
theorem has_none (j : Nat) : SetTable.has #[] j = false := by
  unfold SetTable.has
  simp
/-- the first place not below the next one of a place is the one behind it -/
theorem below_next {xs : Array Nat} (h : xs.toList.Pairwise (· < ·)) {i : Nat} (hi : i < xs.size) : SetTable.below xs (xs.getD i 0 + 1) = i + 1 := by
  obtain ⟨a, b, c⟩ := below_at h (xs.getD i 0 + 1)
  have ge : ∀ k d, k < xs.size → xs.getD k d = xs.getD k 0 := fun k d hk => by simp [Array.getD, hk]
  rcases Nat.lt_trichotomy (SetTable.below xs (xs.getD i 0 + 1)) (i + 1) with z | z | z
  · have := c i (Nat.le_of_lt_succ z) hi
    rw [ge i (xs.getD i 0 + 1) hi] at this
    omega
  · exact z
  · have k : i + 1 < xs.size := Nat.lt_of_lt_of_le z a
    have b1 := b (i + 1) z
    rw [ge (i + 1) (xs.getD i 0 + 1) k] at b1
    have b2 := rise_get h (show i < i + 1 from Nat.lt_succ_self i) k 0
    omega
theorem below_zero {xs : Array Nat} (h : xs.toList.Pairwise (· < ·)) : SetTable.below xs 0 = 0 := by
  obtain ⟨a, b, c⟩ := below_at h 0
  rcases Nat.eq_zero_or_pos (SetTable.below xs 0) with z | z
  · exact z
  · exact absurd (b 0 z) (Nat.not_lt_zero _)
theorem take_lt {xs : Array Nat} {p j : Nat} (hp : p ≤ xs.size) (h : ∀ i, i < p → xs.getD i j < j) : ∀ x ∈ xs.toList.take p, x < j := by
  intro x hx
  obtain ⟨i, hi, rfl⟩ := List.mem_iff_getElem.mp hx
  have l1 : i < p := by rw [List.length_take] at hi; omega
  have l2 : i < xs.size := by omega
  have := h i l1
  simpa [Array.getD, l2] using this
theorem drop_ge {xs : Array Nat} {p j : Nat} (h : ∀ i, p ≤ i → i < xs.size → j ≤ xs.getD i j) : ∀ x ∈ xs.toList.drop p, j ≤ x := by
  intro x hx
  obtain ⟨i, hi, rfl⟩ := List.mem_iff_getElem.mp hx
  rw [List.length_drop, Array.length_toList] at hi
  have l2 : p + i < xs.size := by omega
  have := h (p + i) (Nat.le_add_right _ _) l2
  simpa [Array.getD, l2] using this
theorem insert_up {xs : Array Nat} {j : Nat} (h : xs.toList.Pairwise (· < ·)) (n : xs[SetTable.below xs j]? ≠ some j) : (SetTable.insertAt xs (SetTable.below xs j) j).toList.Pairwise (· < ·) := by
  obtain ⟨a, b, c⟩ := below_at h j
  generalize SetTable.below xs j = p at *
  rw [SetTable.toList_insertAt]
  have t1 := take_lt a b
  have t2 := drop_ge c
  have sp : xs.toList = xs.toList.take p ++ xs.toList.drop p := (List.take_append_drop p xs.toList).symm
  have h' := h
  rw [sp, List.pairwise_append] at h'
  obtain ⟨w1, w2, w3⟩ := h'
  have gt : ∀ x ∈ xs.toList.drop p, j < x := by
    intro x hx
    rcases Nat.lt_or_eq_of_le (t2 x hx) with z | z
    · exact z
    · exfalso
      subst z
      obtain ⟨i, hi, e⟩ := List.mem_iff_getElem.mp hx
      cases i with
      | zero =>
        apply n
        rw [List.length_drop, Array.length_toList] at hi
        have : p < xs.size := by omega
        rw [Array.getElem?_eq_getElem this]
        simpa using e
      | succ i =>
        have l0 : 0 < (xs.toList.drop p).length := Nat.lt_of_le_of_lt (Nat.zero_le _) hi
        have lt := List.pairwise_iff_getElem.mp w2 0 (i + 1) l0 hi (Nat.succ_pos _)
        rw [e] at lt
        exact absurd (t2 _ (List.getElem_mem l0)) (Nat.not_le.mpr lt)
  rw [List.pairwise_append, List.pairwise_cons]
  refine ⟨w1, ⟨gt, w2⟩, fun x hx y hy => ?_⟩
  rcases List.mem_cons.mp hy with rfl | hy
  · exact t1 x hx
  · exact w3 x hx y hy
theorem Lit.slot {t : SetTable} (h : Lit t) (j : Nat) : t.slot j ≠ .dummy ∧ (t.slot j = .empty → t.place[SetTable.below t.place j]? ≠ some j) := by
  unfold SetTable.slot
  rw [h.no, has_none]
  dsimp only
  split
  · exact ⟨fun z => (by cases z), fun z => (by cases z)⟩
  · rename_i c
    refine ⟨fun z => ?_, fun _ e => c (by rw [e]; exact beq_self_eq_true _)⟩
    rw [if_neg Bool.false_ne_true] at z
    cases z
theorem Lit.probe {t : SetTable} (L : Lit t) (h : Int) : ∀ (fuel : Nat) (p : SetTable.Probe), p.dummy = none → ∀ m, SetTable.probe.go t (fun _ => h + 1) h fuel p = some m → ∃ j, m = .empty j none ∧ t.slot j = .empty
  | 0, p, _, m, e => by cases e
  | fuel + 1, p, d, m, e => by
    unfold SetTable.probe.go at e
    have adv : (t.advance p).dummy = none := by
      unfold SetTable.advance
      split
      · exact d
      · exact d
    split at e
    · rename_i z
      obtain rfl := Option.some.inj e
      exact ⟨p.j, by rw [d], z⟩
    · rename_i z
      exact absurd z (L.slot _).1
    · rename_i i z
      rw [if_neg (fun z => absurd (eq_of_beq z) (by omega))] at e
      exact Lit.probe L h fuel _ adv m e
theorem Lit.free {t : SetTable} (L : Lit t) {h : Int} {j : Nat} {b : Bool} (e : t.freeSlot h = some (j, b)) : t.place[SetTable.below t.place j]? ≠ some j := by
  unfold SetTable.freeSlot at e
  split at e
  · rename_i k d z
    obtain ⟨j', e1, e2⟩ := L.probe h _ _ rfl _ z
    cases e1
    cases e
    exact (L.slot _).2 e2
  · cases e
theorem standIn_lit (t : SetTable) (n : Nat) : Lit (t.standIn n) ∧ (t.standIn n).led = t.led :=
  ⟨⟨by show (Array.range n).toList.Pairwise (· < ·); rw [Array.toList_range]; exact List.pairwise_lt_range, rfl⟩, rfl⟩
theorem orStandIn_lit {t : SetTable} (L : Lit t) (n : Nat) : Lit (t.orStandIn n) ∧ (t.orStandIn n).led = t.led := by
  unfold SetTable.orStandIn
  split
  · exact ⟨L, rfl⟩
  · exact standIn_lit t n
theorem put_lit {t : SetTable} (L : Lit t) {j : Nat} (n : t.place[SetTable.below t.place j]? ≠ some j) : Lit (t.put j).1 ∧ (t.put j).1.led = t.led := by
  refine ⟨⟨insert_up L.up n, ?_⟩, rfl⟩
  show (if SetTable.has t.dummies j = true then _ else t.dummies) = _
  rw [L.no, has_none]
  rfl
theorem layNew_lit {t : SetTable} (L : Lit t) (es : Array (Int × Value)) (h : Int) (x : Value) : Lit (layNew t es h x).2.1 ∧ (layNew t es h x).2.1.led = t.led := by
  unfold layNew
  split
  · rename_i j b e
    obtain ⟨a, c⟩ := put_lit L (L.free e)
    obtain ⟨a2, c2⟩ := orStandIn_lit a (SetTable.insertAt es (t.put j).2 (h, x)).size
    exact ⟨a2, c2.trans c⟩
  · exact standIn_lit t _
theorem live_up (f : Nat → Option Nat) : ∀ l : List Nat, l.Pairwise (· < ·) → ((l.filterMap fun j => (f j).map fun k => (j, k)).map (·.1)).Pairwise (· < ·)
  | [], _ => List.Pairwise.nil
  | a :: l, h => by
    obtain ⟨h1, h2⟩ := List.pairwise_cons.mp h
    have ih := live_up f l h2
    rw [List.filterMap_cons]
    cases e : f a with
    | none => exact ih
    | some k =>
      show (List.map _ ((a, k) :: _)).Pairwise _
      rw [List.map_cons, List.pairwise_cons]
      refine ⟨fun b hb => ?_, ih⟩
      obtain ⟨q, hq, rfl⟩ := List.mem_map.mp hb
      obtain ⟨c, hc, e2⟩ := List.mem_filterMap.mp hq
      obtain ⟨k2, _, rfl⟩ := Option.map_eq_some_iff.mp e2
      exact h1 _ hc
theorem relayAll_lit (t : SetTable) (es : Array (Int × Value)) (n : Nat) : Lit (relayAll t es n).2.1 ∧ (relayAll t es n).2.1.led = t.led := by
  unfold relayAll
  split
  · rename_i t' order e
    dsimp only
    split
    · unfold SetTable.relaid SetTable.laid at e
      obtain ⟨owner, _, e⟩ := Option.bind_eq_some_iff.mp e
      cases e
      refine ⟨⟨?_, rfl⟩, rfl⟩
      exact live_up (fun j => owner.getD j none) _ List.pairwise_lt_range
    · exact standIn_lit t _
  · exact standIn_lit t _
theorem fresh_lit (f m : Nat) (led : Bool) : Lit (SetTable.fresh f m led) := ⟨List.Pairwise.nil, rfl⟩
theorem plain_lit {t : SetTable} (L : Lit t) (b : Bool) : Lit { t with plain := b } := ⟨L.up, L.no⟩
end L2


/-! ### sets that can be gone through -/
namespace L2
open PySem PySem.Spec PyProof.Rows
/-- the entries of a set and their keys -/
inductive EK (P : Program) (w : World) : List (Int × Value) → List Key → Prop
  | nil : EK P w [] []
  | cons {x : Value} {k : Key} {es : List (Int × Value)} {ks : List Key} : (mixKind P w).is k x = true → x.scannable = true → EK P w es ks → EK P w (((mixKind P w).hash k, x) :: es) (k :: ks)
section
variable {P : Program} {w : World}
theorem EK.length {es : List (Int × Value)} {ks : List Key} (h : EK P w es ks) : es.length = ks.length := by
  induction h with
  | nil => rfl
  | cons _ _ _ ih => rw [List.length_cons, List.length_cons, ih]
theorem EK.elems {es : List (Int × Value)} {ks : List Key} (h : EK P w es ks) : ElemsOf (mixKind P w) es := by
  induction h with
  | nil => exact fun e he => (by cases he)
  | cons h1 h2 _ ih =>
    intro e he
    rcases List.mem_cons.mp he with rfl | he
    · exact ⟨⟨_, h1, rfl⟩, h2⟩
    · exact ih e he
theorem EK.mem {es : List (Int × Value)} {ks : List Key} (h : EK P w es ks) (k : Key) : k ∈ ks ↔ ∃ e ∈ es, (mixKind P w).is k e.2 = true := by
  induction h with
  | nil => exact ⟨fun z => (by cases z), fun ⟨e, z, _⟩ => (by cases z)⟩
  | @cons x k' es ks h1 _ _ ih =>
    rw [List.mem_cons, ih]
    constructor
    · rintro (rfl | ⟨e, he, q⟩)
      · exact ⟨_, List.mem_cons_self, h1⟩
      · exact ⟨e, List.mem_cons_of_mem _ he, q⟩
    · rintro ⟨e, he, q⟩
      rcases List.mem_cons.mp he with rfl | he
      · exact .inl ((mixKind P w).inj x k k' q h1)
      · exact .inr ⟨e, he, q⟩
theorem EK.perm {es es' : List (Int × Value)} (p : es'.Perm es) : ∀ {ks : List Key}, EK P w es ks → ∃ ks', ks'.Perm ks ∧ EK P w es' ks' := by
  induction p with
  | nil => exact fun h => ⟨_, .refl _, h⟩
  | cons u _ ih =>
    intro ks h
    cases h with
    | cons h1 h2 h =>
      obtain ⟨ks', p', h'⟩ := ih h
      exact ⟨_ :: ks', p'.cons _, .cons h1 h2 h'⟩
  | swap u v l =>
    intro ks h
    cases h with
    | cons h1 h2 h =>
      cases h with
      | cons h3 h4 h => exact ⟨_, .swap _ _ _, .cons h3 h4 (.cons h1 h2 h)⟩
  | trans _ _ ih1 ih2 =>
    intro ks h
    obtain ⟨k1, p1, h1⟩ := ih2 h
    obtain ⟨k2, p2, h2⟩ := ih1 h1
    exact ⟨k2, p2.trans p1, h2⟩
theorem EK.snoc {es : List (Int × Value)} {ks : List Key} {x : Value} {k : Key} (h : EK P w es ks) (h1 : (mixKind P w).is k x = true) (h2 : x.scannable = true) : EK P w (es ++ [((mixKind P w).hash k, x)]) (ks ++ [k]) := by
  induction h with
  | nil => exact .cons h1 h2 .nil
  | cons a b _ ih => exact .cons a b ih
/-- the world's word on how sets are gone through -/
abbrev byT (w : World) : Bool := w.params.followText "set-order"
/-- a set that was only added to: what it holds, in some order -/
def SetX (P : Program) (w : World) (h : Heap) (a : Addr) (ds : List Key) : Prop :=
  ∃ o es ep t ks, h.get? a = some o ∧ o.ExactSet ∧ o.data = .set es ep t ∧ EK P w es.toList ks ∧ ks.Perm ds ∧ es.size < scanBound ∧ t.fits es.size = true ∧ Lit t ∧ t.led = !byT w
theorem SetX.moved {h h' : Heap} {a : Addr} {ds : List Key} (x : SetX P w h a ds) (k : ∀ o, h.get? a = some o → h'.get? a = some o) : SetX P w h' a ds := by
  obtain ⟨o, es, ep, t, ks, ho, rest⟩ := x
  exact ⟨o, es, ep, t, ks, k o ho, rest⟩
/-- a set whose places rise -/
def SetY (P : Program) (w : World) (h : Heap) (a : Addr) (ds : List Key) : Prop :=
  ∃ o es ep t ks, h.get? a = some o ∧ o.ExactSet ∧ o.data = .set es ep t ∧ EK P w es.toList ks ∧ ks.Perm ds ∧ es.size < scanBound ∧ t.fits es.size = true ∧ t.place.toList.Pairwise (· < ·) ∧ t.led = !byT w
theorem SetX.y {h : Heap} {a : Addr} {ds : List Key} (x : SetX P w h a ds) : SetY P w h a ds := by
  obtain ⟨o, es, ep, t, ks, h1, h2, h3, h4, h5, h6, h7, L, h8⟩ := x
  exact ⟨o, es, ep, t, ks, h1, h2, h3, h4, h5, h6, h7, L.up, h8⟩
theorem SetY.setOf {h : Heap} {a : Addr} {ds : List Key} (x : SetY P w h a ds) : h.SetOf (mixKind P w) a (memK ds) ds.length := by
  obtain ⟨o, es, ep, t, ks, ho, hex, hd, ek, pm, hb, hf, _, _⟩ := x
  refine ⟨o, es, ep, t, ho, hex, hd, ek.elems, fun k => ?_, hb, hf, ?_⟩
  · rw [memK_iff, ← pm.mem_iff]
    exact ek.mem k
  · rw [← Array.length_toList, ek.length, pm.length_eq]
theorem SetY.moved {h h' : Heap} {a : Addr} {ds : List Key} (x : SetY P w h a ds) (k : ∀ o, h.get? a = some o → h'.get? a = some o) : SetY P w h' a ds := by
  obtain ⟨o, es, ep, t, ks, ho, rest⟩ := x
  exact ⟨o, es, ep, t, ks, k o ho, rest⟩
variable {A : Around} {E : Value → Shared → Prop} {s : Shared}
theorem put_x {a : Addr} {o : Obj} {es es' : Array (Int × Value)} {ep : Nat} {t t' : SetTable} {Q : Unit → Shared → Prop} (ho : s.heap.get? a = some o) (hd : o.data = .set es ep t) (hb : es'.size < scanBound)
    (h : ∀ h', Heap.SameBut a s.heap h' → h'.get? a = some { o with data := .set es' (ep + 1) t' } → Q () { s with heap := h' }) : wpAny (model P w) A (storeSet a es' t') Q E s := by
  have e := putSet_of es' t' hd
  refine wpAny_storeSet_of ho hd (h _ (Heap.SameBut.update s.heap a _) ?_) (fits_of_scanBound hb)
  rw [Heap.get?_update_self (Obj.putSet es' t') ho (by rw [e]; rfl), e]
theorem add_x {a : Addr} {ds : List Key} {k : Key} {x : Value} {Q : Bool → Shared → Prop} (hk : (mixKind P w).is k x = true) (hx : x.scannable = true) (S : SetX P w s.heap a ds) (hr : ds.length + 1 < scanBound)
    (h : ∀ b h', Heap.SameBut a s.heap h' → SetX P w h' a (addK ds k) → Q b { s with heap := h' }) : wpAny (model P w) A (setAddHashed a x ((mixKind P w).hash k)) Q E s := by
  obtain ⟨o, es, ep, t, ks, ho, hex, hd, ek, pm, hb, hf, L, led⟩ := S
  have hel := ek.elems
  have sz : es.size = ds.length := by rw [← Array.length_toList, ek.length, pm.length_eq]
  have gw : ∀ (b : Bool) (s1 : Shared) (Q' : Unit → Shared → Prop), Q' () s1 →
      wpAny (model P w) A (match b with
        | true => rule "set.scan.the-table-gave-way"
        | false => pure ()) Q' E s1 := fun b s1 Q' q => by
    cases b
    · exact wpAny_pure q
    · exact wpAny_rule q
  unfold setAddHashed setAddHashedIn
  refine wpAny_holding (wpAny_bind (wpAny_setState_of ho hd hf ?_))
  dsimp only
  rw [byScan_of hx hb hel, if_pos rfl]
  unfold setAddByScan
  refine wpAny_bind (wpAny_bind (wpAny_rule (wpAny_bind (wpAny_setScan_of hk ho hd hf hel ?_))))
  cases hr2 : es.toList.findIdx? fun e => (mixKind P w).is k e.2 with
  | some j =>
    have km : k ∈ ds := by
      obtain ⟨hj, pj, _⟩ := List.findIdx?_eq_some_iff_getElem.mp hr2
      exact pm.mem_iff.mp ((ek.mem k).mpr ⟨_, List.getElem_mem hj, pj⟩)
    have ea : addK ds k = ds := by unfold addK; rw [if_pos (memK_iff.mpr km)]
    refine wpAny_pure (wpAny_pure ?_)
    exact h false s.heap (Heap.SameBut.refl a s.heap) (by rw [ea]; exact ⟨o, es, ep, t, ks, ho, hex, hd, ek, pm, hb, hf, L, led⟩)
  | none =>
    have km : k ∉ ds := fun z => by
      obtain ⟨e, he, q⟩ := (ek.mem k).mp (pm.mem_iff.mpr z)
      have := List.findIdx?_eq_none_iff.mp hr2 e he
      rw [q] at this
      cases this
    have ea : addK ds k = ds ++ [k] := by unfold addK; rw [if_neg (fun z => km (memK_iff.mp z))]
    obtain ⟨L1, led1⟩ := layNew_lit L es ((mixKind P w).hash k) x
    have p1 := layNew_perm t es ((mixKind P w).hash k) x
    have f1 := layNew_fits t es ((mixKind P w).hash k) x
    dsimp only
    generalize layNew t es ((mixKind P w).hash k) x = Z at L1 led1 p1 f1 ⊢
    obtain ⟨es1, t1, wd, gv⟩ := Z
    dsimp only at L1 led1 p1 f1 ⊢
    rw [Array.toList_push] at p1
    obtain ⟨ks1, q1, ek1⟩ := (ek.snoc hk hx).perm p1
    have c1 : ks1.Perm (addK ds k) := by rw [ea]; exact q1.trans (pm.append_right [k])
    have s1 : es1.size = ds.length + 1 := by rw [← Array.length_toList, ek1.length, c1.length_eq, ea, List.length_append]; rfl
    have b1 : es1.size < scanBound := by omega
    have led2 := led1.trans led
    refine wpAny_bind (gw gv _ _ ?_)
    have fin : ∀ t2 : SetTable, Lit t2 → t2.led = (!byT w) → t2.fits es1.size = true → wpAny (model P w) A (do
        storeSet a es1 t2
        if (!wd && t2.tooFull) = true then
          let (es3, t3, gave) := relayAll t2 es1 (SetTable.grown es1.size)
          (match gave with | true => rule "set.scan.the-table-gave-way" | false => pure () : Sem Unit)
          storeSet a es3 t3
        return some true) (fun r s' => wpAny (model P w) A (match r with | some added => pure added | none => setAddHashedIn a x ((mixKind P w).hash k) 99999) Q E s') E s := by
      intro t2 L2 led2 f2
      refine wpAny_bind (put_x ho hd b1 fun h1 sb1 e1 => ?_)
      split
      · obtain ⟨L3, led3⟩ := relayAll_lit t2 es1 (SetTable.grown es1.size)
        have p3 := relayAll_perm t2 es1 (SetTable.grown es1.size)
        have f3 := relayAll_fits t2 es1 (SetTable.grown es1.size)
        generalize relayAll t2 es1 (SetTable.grown es1.size) = Z at L3 led3 p3 f3 ⊢
        obtain ⟨es3, t3, g3⟩ := Z
        dsimp only at L3 led3 p3 f3 ⊢
        obtain ⟨ks3, q3, ek3⟩ := ek1.perm p3
        have b3 : es3.size < scanBound := by rw [← Array.length_toList, p3.length_eq, Array.length_toList]; exact b1
        refine wpAny_bind (gw g3 _ _ (wpAny_bind (put_x (s := { s with heap := h1 }) e1 rfl b3 fun h3 sb3 e3 => ?_)))
        exact wpAny_pure (wpAny_pure (h true h3 (sb1.trans sb3) ⟨_, es3, _, t3, ks3, e3, hex, rfl, ek3, q3.trans c1, b3, f3, L3, led3.trans led2⟩))
      · exact wpAny_pure (wpAny_pure (h true h1 sb1 ⟨_, es1, _, t2, ks1, e1, hex, rfl, ek1, c1, b1, f2, L2, led2⟩))
    split
    · rw [hashByValue_scannable 8 hx]
      refine wpAny_bind (wpAny_pure ?_)
      split
      · exact fin t1 L1 led2 f1
      · exact fin _ (plain_lit L1 false) led2 (SetTable.fits_plain_off f1)
    · refine wpAny_bind (wpAny_pure ?_)
      rw [if_pos rfl]
      exact fin t1 L1 led2 f1
end
end L2


/-! ### a set gone through: its iterator -/
namespace L2
open PySem PySem.Spec PyProof.Rows
theorem slot_si_next : Slot "set_iterator" "__next__" "set_iterator.__next__" := .of (owner := "set_iterator") (n := "__next__") (by rw [typeLookup_type, builtinLookup_eq_fast]; kernel_rfl) (by decide +kernel) (by decide +kernel) (by decide +kernel) (by first | exact .inl (by decide +kernel) | exact .inr (by decide +kernel)) (by rw [isSubtype_type]; kernel_rfl)
theorem slot_si_iter : Slot "set_iterator" "__iter__" "set_iterator.__iter__" := .of (owner := "set_iterator") (n := "__iter__") (by rw [typeLookup_type, builtinLookup_eq_fast]; kernel_rfl) (by decide +kernel) (by decide +kernel) (by decide +kernel) (by first | exact .inl (by decide +kernel) | exact .inr (by decide +kernel)) (by rw [isSubtype_type]; kernel_rfl)
theorem entry_si_next : entryFor table "set_iterator.__next__" = some Builtin.«set_iterator.__next__» := entryFor_of_tree (by kernel_rfl)
theorem entry_si_iter : entryFor table "set_iterator.__iter__" = some Builtin.«dict_keyiterator.__iter__» := entryFor_alias (id' := "dict_keyiterator.__iter__") (by kernel_rfl) rfl (by decide +kernel) (by kernel_rfl)
theorem owner_si : Manifest.owners.lookup (String.ofList ['r', 'o', 't', 'a', 'r', 'e', 't', 'i', '_', 't', 'e', 's'].reverse) = some Manifest.sig_set_iterator := by kernel_rfl
theorem args_si_next (a : Value) : argsOk "set_iterator.__next__" ⟨[a], []⟩ := by unfold argsOk; rw [signature?_of (id := "set_iterator.__next__") (n := ['_', '_', 't', 'x', 'e', 'n', '_', '_']) (o := ['r', 'o', 't', 'a', 'r', 'e', 't', 'i', '_', 't', 'e', 's']) (by kernel_rfl) owner_si]; kernel_rfl
theorem args_si_iter (a : Value) : argsOk "set_iterator.__iter__" ⟨[a], []⟩ := by unfold argsOk; rw [signature?_of (id := "set_iterator.__iter__") (n := ['_', '_', 'r', 'e', 't', 'i', '_', '_']) (o := ['r', 'o', 't', 'a', 'r', 'e', 't', 'i', '_', 't', 'e', 's']) (by kernel_rfl) owner_si]; kernel_rfl
theorem entry_set_it : entryFor table "set.__iter__" = some Builtin.«frozenset.__iter__» := entryFor_alias (id' := "frozenset.__iter__") (by kernel_rfl) rfl (by decide +kernel) (by kernel_rfl)
/-- an iterator of a set -/
def SIt (h : Heap) (it S : Addr) (f : Value) (i n ep : Nat) : Prop := ∃ o, h.get? it = some o ∧ o.cls = .type "set_iterator" ∧ o.data = .fields #[f, .int i 0, .ref S, .int n 0, .int ep 0]
/-- a set as it lies -/
def SAt (h : Heap) (S : Addr) (es : Array (Int × Value)) (ep : Nat) (t : SetTable) : Prop := ∃ o, h.get? S = some o ∧ o.ExactSet ∧ o.data = .set es ep t ∧ t.fits es.size = true
theorem SIt.at {h h' : Heap} {it S : Addr} {f : Value} {i n ep : Nat} (x : SIt h it S f i n ep) (k : ∀ o, h.get? it = some o → h'.get? it = some o) : SIt h' it S f i n ep := let ⟨o, e, r⟩ := x; ⟨o, k o e, r⟩
theorem SAt.at {h h' : Heap} {S : Addr} {es : Array (Int × Value)} {ep : Nat} {t : SetTable} (x : SAt h S es ep t) (k : ∀ o, h.get? S = some o → h'.get? S = some o) : SAt h' S es ep t := let ⟨o, e, r⟩ := x; ⟨o, k o e, r⟩
theorem SIt.ty {s : Shared} {it S : Addr} {f : Value} {i n ep : Nat} (x : SIt s.heap it S f i n ep) : s.TypeIs (.ref it) "set_iterator" := let ⟨o, e, c, _⟩ := x; ⟨o, e, c⟩
section
variable {P : Program} {w : World} {A : Around} {E : Value → Shared → Prop} {s : Shared}
theorem si_self {it S : Addr} {f : Value} {i n ep : Nat} {Q : Value → Shared → Prop} (x : SIt s.heap it S f i n ep) (h : Q (.ref it) s) : wpAny (model P w) A (pyIter (.ref it)) Q E s := by
  refine wpAny_pyIter_slot x.ty slot_si_iter (wpAny_call_entry slot_si_iter x.ty entry_si_iter ?_ (args_si_iter _))
  show wpAny _ _ (ret (.ref it)) _ _ s
  exact wpAny_pure ⟨_, rfl, "set_iterator", _, x.ty, slot_si_next.lookup, h⟩
/-- an iterator with one field set -/
theorem SIt.set {h : Heap} {it : Addr} {o : Obj} {vs : Array Value} {j : Nat} {v : Value} (ho : h.get? it = some o) (hc : o.cls = .type "set_iterator") (hd : o.data = .fields vs) :
    ∃ o', (h.update it (Obj.mapFields (·.setIfInBounds j v))).get? it = some o' ∧ o'.cls = .type "set_iterator" ∧ o'.data = .fields (vs.setIfInBounds j v) :=
  ⟨_, Heap.get?_update_self _ ho (Obj.isFreed_of_fields (Obj.data_mapFields hd _)), (Obj.cls_mapFields ..).trans hc, Obj.data_mapFields hd _⟩
theorem si_slot {it S : Addr} {a b i n ep : Nat} {es : Array (Int × Value)} {t : SetTable} {v : Value} {Q : Option Value → Shared → Prop} (x : SIt s.heap it S (.int a 0) i n ep) (y : SAt s.heap S es ep t) (hn : es.size = n)
    (st : ∀ (A : Around) (E : Value → Shared → Prop) (Q : Option (Value × Nat) → Shared → Prop), Q (some (v, b)) s → wpAny (model P w) A (setNext S a i ep) Q E s)
    (h : ∀ h', Heap.SameBut it s.heap h' → SIt h' it S (.int b 0) (i + 1) n ep → Q (some v) { s with heap := h' }) : wpAny (model P w) A (pyNext (.ref it)) Q E s := by
  obtain ⟨o, ho, hc, hd⟩ := id x
  obtain ⟨oS, hoS, _, hdS, hfS⟩ := id y
  unfold pyNext
  refine wpAny_bind (wpAny_attempt (wpAny_callSpecial?_slot (name := Str.ofString "__next__") x.ty slot_si_next (wpAny_call_entry slot_si_next x.ty entry_si_next ?_ (args_si_next _))))
  unfold Builtin.«set_iterator.__next__»
  refine wpAny_bind (m := slotArgs "__next__" 0 _) (wpAny_pure (wpAny_bind (wpAny_fieldsOf ho hd ?_)))
  dsimp only
  refine wpAny_bind (wpAny_setEntries_of hoS hdS hfS ?_)
  rw [if_neg (by rw [hn]; simp)]
  dsimp only [Int.toNat_natCast]
  refine wpAny_bind (st _ _ _ ?_)
  dsimp only
  obtain ⟨o1, e1, c1, d1⟩ := SIt.set (j := 0) (v := rawInt b) ho hc hd
  refine wpAny_bind (wpAny_setField ho hd (by simp) (wpAny_bind (wpAny_setField e1 d1 (by simp) ?_)))
  obtain ⟨o2, e2, c2, d2⟩ := SIt.set (j := 1) (v := rawInt ((i : Int) + 1)) e1 c1 d1
  exact wpAny_pure ⟨_, rfl, wpAny_pure (h _ ((Heap.SameBut.update ..).trans (Heap.SameBut.update ..)) ⟨o2, e2, c2, by rw [d2]; simp [rawInt]⟩)⟩
theorem si_end {it S : Addr} {a i n ep : Nat} {es : Array (Int × Value)} {t : SetTable} {Q : Option Value → Shared → Prop} (hh : A.handled = none) (x : SIt s.heap it S (.int a 0) i n ep) (y : SAt s.heap S es ep t) (hn : es.size = n)
    (st : ∀ (A : Around) (E : Value → Shared → Prop) (Q : Option (Value × Nat) → Shared → Prop), Q none s → wpAny (model P w) A (setNext S a i ep) Q E s)
    (h : ∀ h', Heap.ExtBut it s.heap h' → Q none { s with heap := h' }) : wpAny (model P w) A (pyNext (.ref it)) Q E s := by
  obtain ⟨o, ho, hc, hd⟩ := id x
  obtain ⟨oS, hoS, _, hdS, hfS⟩ := id y
  unfold pyNext
  refine wpAny_bind (wpAny_attempt (wpAny_callSpecial?_slot (name := Str.ofString "__next__") x.ty slot_si_next (wpAny_call_entry slot_si_next x.ty entry_si_next ?_ (args_si_next _))))
  unfold Builtin.«set_iterator.__next__»
  refine wpAny_bind (m := slotArgs "__next__" 0 _) (wpAny_pure (wpAny_bind (wpAny_fieldsOf ho hd ?_)))
  dsimp only
  refine wpAny_bind (wpAny_setEntries_of hoS hdS hfS ?_)
  rw [if_neg (by rw [hn]; simp)]
  dsimp only [Int.toNat_natCast]
  refine wpAny_bind (st _ _ _ ?_)
  dsimp only
  refine wpAny_bind (wpAny_setField ho hd (by simp) ?_)
  refine wpAny_bind ?_
  simp only [newExc, newTuple]
  refine wpAny_bind (wpAny_newObj_type ?_ (by size_fits))
  refine wpAny_bind (m := firstArgMember _ _) (wpAny_of_eq (a := Value.none) (by first | rfl | (simp only [firstArgMember]; rfl)) (wpAny_newObj_type ?_ (by size_fits)))
  simp only [raiseNew]
  refine wpAny_bind (wpAny_handled ?_)
  rw [show A.in1.handled = none from hh]
  refine wpAny_bind (m := pure _) (wpAny_pure (wpAny_throw ?_))
  refine wpAny_bind (m := isInstance _ _) (wpAny_isInstance (T := "StopIteration") (b := true) ⟨_, Heap.get?_push_size _ rfl, rfl⟩ isSubtype_stop ?_)
  exact wpAny_pure (h _ (((Heap.SameBut.update ..).extBut.push _).push _))
/-- a tuple of places -/
def PAt (h : Heap) (tp : Addr) (ps : List Nat) : Prop := ∃ o k, h.get? tp = some o ∧ o.data = .seq (ps.map fun (i : Nat) => rawInt i).toArray k
theorem PAt.at {h h' : Heap} {tp : Addr} {ps : List Nat} (x : PAt h tp ps) (k : ∀ o, h.get? tp = some o → h'.get? tp = some o) : PAt h' tp ps := let ⟨o, n, e, r⟩ := x; ⟨o, n, k o e, r⟩
theorem si_drawn {it S tp : Addr} {i n ep p : Nat} {ps : List Nat} {es : Array (Int × Value)} {t : SetTable} {e : Int × Value} {Q : Option Value → Shared → Prop} (x : SIt s.heap it S (.ref tp) i n ep) (y : SAt s.heap S es ep t) (z : PAt s.heap tp ps) (hn : es.size = n)
    (hp : ps[i]? = some p) (he : es[p]? = some e)
    (h : ∀ h', Heap.SameBut it s.heap h' → SIt h' it S (.ref tp) (i + 1) n ep → Q (some e.2) { s with heap := h' }) : wpAny (model P w) A (pyNext (.ref it)) Q E s := by
  obtain ⟨o, ho, hc, hd⟩ := id x
  obtain ⟨oS, hoS, _, hdS, hfS⟩ := id y
  obtain ⟨oT, kT, hoT, hdT⟩ := z
  unfold pyNext
  refine wpAny_bind (wpAny_attempt (wpAny_callSpecial?_slot (name := Str.ofString "__next__") x.ty slot_si_next (wpAny_call_entry slot_si_next x.ty entry_si_next ?_ (args_si_next _))))
  unfold Builtin.«set_iterator.__next__»
  refine wpAny_bind (m := slotArgs "__next__" 0 _) (wpAny_pure (wpAny_bind (wpAny_fieldsOf ho hd ?_)))
  dsimp only
  refine wpAny_bind (wpAny_setEntries_of hoS hdS hfS ?_)
  rw [if_neg (by rw [hn]; simp)]
  dsimp only [Int.toNat_natCast]
  refine wpAny_bind (wpAny_seqItems hoT hdT ?_)
  have e0 : ((ps.map fun (i : Nat) => rawInt i).toArray)[i]? = some (rawInt p) := by simp [hp]
  dsimp only
  rw [e0]
  dsimp only [rawInt]
  have nd : ∀ (A : Around) (E : Value → Shared → Prop) (Q : Value → Shared → Prop), Q e.2 s → wpAny (model P w) A (setNextDrawn S p ep) Q E s := fun A E Q q => by
    unfold setNextDrawn
    refine wpAny_bind (wpAny_setState_of hoS hdS hfS ?_)
    dsimp only
    rw [if_neg (by simp), he]
    exact wpAny_pure q
  refine wpAny_bind (nd _ _ _ (wpAny_bind (wpAny_setField ho hd (by simp) ?_)))
  obtain ⟨o2, e2, c2, d2⟩ := SIt.set (j := 1) (v := rawInt ((i : Int) + 1)) ho hc hd
  exact wpAny_pure ⟨_, rfl, wpAny_pure (h _ (Heap.SameBut.update ..) ⟨o2, e2, c2, by rw [d2]; simp [rawInt]⟩)⟩
theorem si_drawn_end {it S tp : Addr} {i n ep : Nat} {ps : List Nat} {es : Array (Int × Value)} {t : SetTable} {Q : Option Value → Shared → Prop} (hh : A.handled = none) (x : SIt s.heap it S (.ref tp) i n ep) (y : SAt s.heap S es ep t) (z : PAt s.heap tp ps) (hn : es.size = n)
    (hp : ps.length ≤ i) (h : ∀ h', Heap.ExtBut it s.heap h' → Q none { s with heap := h' }) : wpAny (model P w) A (pyNext (.ref it)) Q E s := by
  obtain ⟨o, ho, hc, hd⟩ := id x
  obtain ⟨oS, hoS, _, hdS, hfS⟩ := id y
  obtain ⟨oT, kT, hoT, hdT⟩ := z
  unfold pyNext
  refine wpAny_bind (wpAny_attempt (wpAny_callSpecial?_slot (name := Str.ofString "__next__") x.ty slot_si_next (wpAny_call_entry slot_si_next x.ty entry_si_next ?_ (args_si_next _))))
  unfold Builtin.«set_iterator.__next__»
  refine wpAny_bind (m := slotArgs "__next__" 0 _) (wpAny_pure (wpAny_bind (wpAny_fieldsOf ho hd ?_)))
  dsimp only
  refine wpAny_bind (wpAny_setEntries_of hoS hdS hfS ?_)
  rw [if_neg (by rw [hn]; simp)]
  dsimp only [Int.toNat_natCast]
  refine wpAny_bind (wpAny_seqItems hoT hdT ?_)
  have e0 : ((ps.map fun (i : Nat) => rawInt i).toArray)[i]? = none := by simp [hp]
  dsimp only
  rw [e0]
  dsimp only
  obtain ⟨o2, e2, c2, d2⟩ := SIt.set (j := 0) (v := rawInt 0) ho hc hd
  refine wpAny_bind (wpAny_setField ho hd (by simp) (wpAny_bind (wpAny_setField e2 d2 (by simp) ?_)))
  refine wpAny_bind ?_
  simp only [newExc, newTuple]
  refine wpAny_bind (wpAny_newObj_type ?_ (by size_fits))
  refine wpAny_bind (m := firstArgMember _ _) (wpAny_of_eq (a := Value.none) (by first | rfl | (simp only [firstArgMember]; rfl)) (wpAny_newObj_type ?_ (by size_fits)))
  simp only [raiseNew]
  refine wpAny_bind (wpAny_handled ?_)
  rw [show A.in1.handled = none from hh]
  refine wpAny_bind (m := pure _) (wpAny_pure (wpAny_throw ?_))
  refine wpAny_bind (m := isInstance _ _) (wpAny_isInstance (T := "StopIteration") (b := true) ⟨_, Heap.get?_push_size _ rfl, rfl⟩ isSubtype_stop ?_)
  exact wpAny_pure (h _ ((((Heap.SameBut.update ..).trans (Heap.SameBut.update ..)).extBut.push _).push _))
end
end L2


/-! ### a set gone through: in which order -/
namespace L2
open PySem PySem.Spec PyProof.Rows
theorem take_out {α : Type} : ∀ {l : List α} {i : Nat} (h : i < l.length), (l[i] :: l.eraseIdx i).Perm l
  | _ :: _, 0, _ => .refl _
  | x :: l, i + 1, h => (List.Perm.swap x (l[i]'(Nat.lt_of_succ_lt_succ h)) (l.eraseIdx i)).trans ((take_out (Nat.lt_of_succ_lt_succ h)).cons x)
theorem pick_go {α : Type} (next : Nat → Nat) : ∀ (fuel k : Nat) (left : List α) (out : Array α), left.length = fuel → (pickOrder.go next fuel k left out).toList.Perm (out.toList ++ left)
  | 0, _, left, out, hl => by
    obtain rfl := List.length_eq_zero_iff.mp hl
    rw [List.append_nil]
    exact .refl _
  | fuel + 1, k, left, out, hl => by
    have lt : next k % left.length < left.length := Nat.mod_lt _ (by omega)
    unfold pickOrder.go
    rw [List.getElem?_eq_getElem lt]
    dsimp only
    have ih := pick_go next fuel (k + 1) (left.eraseIdx (next k % left.length)) (out.push left[next k % left.length]) (by rw [List.length_eraseIdx_of_lt lt, hl]; rfl)
    refine ih.trans ?_
    rw [Array.toList_push, List.append_assoc]
    exact List.Perm.append_left _ (take_out lt)
theorem pick_perm {α : Type} (next : Nat → Nat) (xs : Array α) : (pickOrder next xs).toList.Perm xs.toList := by
  have := pick_go next xs.size 0 xs.toList #[] (by simp)
  simpa [pickOrder] using this
section
variable {P : Program} {w : World} {A : Around} {E : Value → Shared → Prop} {s : Shared}
theorem ite_no {α : Type} {c : Prop} [Decidable c] {m1 m2 : Sem α} {Q : α → Shared → Prop} (h : ¬ c) (q : wpAny (model P w) A m2 Q E s) : wpAny (model P w) A (if c then m1 else m2) Q E s := by
  rw [if_neg h]
  exact q
theorem choose_any {n : Nat} {src : Source} {Q : Nat → Shared → Prop} (hn : n ≠ 0) (h : ∀ i d, i < n → Q i { s with drawn := d }) : wpAny (model P w) A (choose src n) Q E s := fun _ _ _ => ⟨hn, h _ _ (Nat.mod_lt _ (Nat.pos_of_ne_zero hn))⟩
theorem draw_perm {α : Type} : ∀ (n : Nat) (xs : List α) (s : Shared) (Q : List α → Shared → Prop), xs.length = n → (∀ ys d, ys.Perm xs → Q ys { s with drawn := d }) → wpAny (model P w) A (drawOrder n xs) Q E s
  | 0, xs, s, Q, hl, h => by
    obtain rfl := List.length_eq_zero_iff.mp hl
    exact wpAny_pure (h [] s.drawn (.refl _))
  | n + 1, [], s, Q, hl, h => by cases hl
  | n + 1, x :: xs, s, Q, hl, h => by
    unfold drawOrder
    refine wpAny_bind (choose_any (by simp) fun i d lt => ?_)
    rw [List.getElem?_eq_getElem lt]
    dsimp only
    refine wpAny_bind (draw_perm n _ _ _ (by rw [List.length_eraseIdx_of_lt lt, hl]; rfl) fun ys d' p => ?_)
    exact wpAny_pure (h _ d' ((p.cons _).trans (take_out lt)))
theorem by_text {Q : Bool → Shared → Prop} (h : Q (byT w) s) : wpAny (model P w) A setsByText Q E s := by
  unfold setsByText
  exact wpAny_bind (wpAny_askSetting (wpAny_pure h))
theorem next_text {S : Addr} {es : Array (Int × Value)} {ep i a : Nat} {t : SetTable} {Q : Option (Value × Nat) → Shared → Prop} (ht : byT w = true) (y : SAt s.heap S es ep t)
    (q : Q ((pickOrder (w.params.setOrder S ep) es)[i]?.map fun e => (e.2, a)) s) : wpAny (model P w) A (setNext S a i ep) Q E s := by
  obtain ⟨o, ho, _, hd, hf⟩ := y
  unfold setNext
  refine wpAny_bind (wpAny_setState_of ho hd hf (wpAny_bind (by_text ?_)))
  rw [ht]
  dsimp only
  rw [if_pos rfl, if_neg (by simp)]
  refine wpAny_bind ?_
  unfold setWalk
  refine wpAny_bind (wpAny_setState_of ho hd hf (wpAny_bind (by_text ?_)))
  rw [ht, if_pos rfl]
  exact wpAny_bind (wpAny_askSetting (wpAny_pure (wpAny_pure q)))
theorem next_place {S : Addr} {es : Array (Int × Value)} {ep i a : Nat} {t : SetTable} {Q : Option (Value × Nat) → Shared → Prop} (ht : byT w = false) (y : SAt s.heap S es ep t) (np : (!t.plain && decide (es.size > 1)) = false) (led : t.led = true)
    (q : Q (match es[SetTable.below t.place a]?, t.place[SetTable.below t.place a]? with | some (_, x), some j => some (x, j + 1) | _, _ => none) s) : wpAny (model P w) A (setNext S a i ep) Q E s := by
  obtain ⟨o, ho, _, hd, hf⟩ := y
  unfold setNext
  refine wpAny_bind (wpAny_setState_of ho hd hf (wpAny_bind (by_text ?_)))
  rw [ht]
  dsimp only
  rw [if_neg (by simp)]
  refine ite_no (fun z => absurd (show (!t.plain && decide (es.size > 1)) = true from z) (by rw [np]; simp)) ?_
  exact wpAny_bind (ite_no (fun z => absurd (show (!t.led && !es.isEmpty) = true from z) (by rw [led]; simp)) (wpAny_pure (wpAny_pure q)))
theorem walk_slots {it S : Addr} {n ep : Nat} {es : Array (Int × Value)} {t : SetTable} {sl : Nat → Nat} {order : List Value} (hn : es.size = n) (ne : S ≠ it) (hh : A.handled = none) (ol : order.length = n)
    (st : ∀ i v, order[i]? = some v → ∀ (s : Shared) (A : Around) (E : Value → Shared → Prop) (Q : Option (Value × Nat) → Shared → Prop), SAt s.heap S es ep t → Q (some (v, sl (i + 1))) s → wpAny (model P w) A (setNext S (sl i) i ep) Q E s)
    (en : ∀ (s : Shared) (A : Around) (E : Value → Shared → Prop) (Q : Option (Value × Nat) → Shared → Prop), SAt s.heap S es ep t → Q none s → wpAny (model P w) A (setNext S (sl n) n ep) Q E s) :
    WalksS P w A it [it, S] [it] (fun a b => b = a) n (fun i v => order[i]? = some v) (fun i s => SIt s.heap it S (.int (sl i) 0) i n ep ∧ SAt s.heap S es ep t) where
  sub := fun b hb => by rw [List.mem_singleton.mp hb]; exact List.mem_cons_self
  grefl := fun _ => rfl
  gtrans := fun _ _ _ x y => y.trans x
  frame := fun i s h' tk x _ k => ⟨x.1.at fun o e => k it List.mem_cons_self o e, x.2.at fun o e => k S (List.mem_cons_of_mem _ (List.mem_singleton.mpr rfl)) o e⟩
  item := fun i s Q E hi x q => by
    have e := List.getElem?_eq_getElem (l := order) (i := i) (by omega)
    refine si_slot x.1 x.2 hn (fun A E Q q => st i _ e s A E Q x.2 q) fun h' sb x' => ?_
    exact q _ _ e ⟨x', x.2.at fun o e => (sb.2 S ne).trans e⟩ ⟨fun b o nb e => (sb.2 b fun z => nb (List.mem_singleton.mpr z)).trans e, rfl, rfl, rfl, Nat.le_refl _⟩
  done := fun s Q E x q => si_end hh x.1 x.2 hn (fun A E Q q => en s A E Q x.2 q) fun h' xb => q _ ⟨fun b o nb e => xb b o (fun z => nb (List.mem_singleton.mpr z)) e, rfl, rfl, rfl, Nat.le_refl _⟩
  self := fun i s Q E x q => si_self x.1 q
theorem walk_drawn {it S tp : Addr} {n ep : Nat} {es : Array (Int × Value)} {t : SetTable} {ps : List Nat} {order : List Value} (hn : es.size = n) (ne : S ≠ it) (nt : tp ≠ it) (hh : A.handled = none) (pl : ps.length = n)
    (st : ∀ i, i < n → ∃ p e, ps[i]? = some p ∧ es[p]? = some e ∧ order[i]? = some e.2) :
    WalksS P w A it [it, S, tp] [it] (fun a b => b = a) n (fun i v => order[i]? = some v) (fun i s => SIt s.heap it S (.ref tp) i n ep ∧ SAt s.heap S es ep t ∧ PAt s.heap tp ps) where
  sub := fun b hb => by rw [List.mem_singleton.mp hb]; exact List.mem_cons_self
  grefl := fun _ => rfl
  gtrans := fun _ _ _ x y => y.trans x
  frame := fun i s h' tk x _ k => ⟨x.1.at fun o e => k it List.mem_cons_self o e, x.2.1.at fun o e => k S (List.mem_cons_of_mem _ List.mem_cons_self) o e, x.2.2.at fun o e => k tp (List.mem_cons_of_mem _ (List.mem_cons_of_mem _ List.mem_cons_self)) o e⟩
  item := fun i s Q E hi x q => by
    obtain ⟨p, e, e1, e2, e3⟩ := st i hi
    refine si_drawn x.1 x.2.1 x.2.2 hn e1 e2 fun h' sb x' => ?_
    exact q _ _ e3 ⟨x', x.2.1.at fun o e => (sb.2 S ne).trans e, x.2.2.at fun o e => (sb.2 tp nt).trans e⟩ ⟨fun b o nb e => (sb.2 b fun z => nb (List.mem_singleton.mpr z)).trans e, rfl, rfl, rfl, Nat.le_refl _⟩
  done := fun s Q E x q => si_drawn_end hh x.1 x.2.1 x.2.2 hn (by omega) fun h' xb => q _ ⟨fun b o nb e => xb b o (fun z => nb (List.mem_singleton.mpr z)) e, rfl, rfl, rfl, Nat.le_refl _⟩
  self := fun i s Q E x q => si_self x.1 q
/-- a walk through a set: what it gives, in some order -/
def WalkX (P : Program) (w : World) (s : Shared) (S it : Addr) (ds : List Key) (s' : Shared) : Prop :=
  ∃ (fp : List Addr) (St : Nat → Shared → Prop) (es : List (Int × Value)) (ks : List Key), EK P w es ks ∧ ks.Perm ds ∧ (∀ b ∈ fp, b = S ∨ s.heap.objs.size ≤ b) ∧ s.heap.objs.size ≤ it ∧ St 0 s' ∧
    (∀ A : Around, A.handled = none → WalksS P w A it fp [it] (fun a b => b = a) ds.length (fun i v => (es.map (·.2))[i]? = some v) St) ∧
    (∀ b o, s.heap.get? b = some o → s'.heap.get? b = some o) ∧ s'.gens = s.gens ∧ s'.os = s.os ∧ s'.toks = s.toks
theorem up_len {t : SetTable} {n : Nat} (h : t.fits n = true) : t.place.size = n := by
  unfold SetTable.fits at h
  rw [Bool.and_eq_true, beq_iff_eq] at h
  exact h.1
theorem iter_x {S : Addr} {ds : List Key} {Q : Value → Shared → Prop} (X : SetY P w s.heap S ds) (h : ∀ it s', WalkX P w s S it ds s' → Q (.ref it) s') : wpAny (model P w) A (pyIter (.ref S)) Q E s := by
  obtain ⟨o, es, ep, t, ks, ho, hex, hd, ek, pm, hb, hf, L, led⟩ := X
  have hn : es.size = ds.length := by rw [← Array.length_toList, ek.length, pm.length_eq]
  have hT : s.TypeIs (.ref S) "set" := ⟨o, ho, hex.1⟩
  have y : SAt s.heap S es ep t := ⟨o, ho, hex, hd, hf⟩
  have lt := Heap.lt_size ho
  refine wpAny_pyIter_slot hT F.slot_set_iter (wpAny_call_entry F.slot_set_iter hT entry_set_it ?_ (F.args_set_iter_1 _))
  unfold Builtin.«frozenset.__iter__» Builtin.Frozenset.slot0 Builtin.Frozenset.sizeOf
  refine wpAny_bind (m := _) (wpAny_bind (m := slotArgs "__iter__" 0 _) (wpAny_pure (wpAny_pure ?_)))
  refine wpAny_bind (wpAny_bind (wpAny_setEntries_of ho hd hf (wpAny_pure ?_)))
  have dr : ∀ (A : Around) (E : Value → Shared → Prop) (Q : Bool → Shared → Prop), Q (!byT w && (!t.plain && decide (es.size > 1))) s → wpAny (model P w) A (setDrawn S) Q E s := fun A E Q q => by
    unfold setDrawn
    exact wpAny_bind (wpAny_setState_of ho hd hf (wpAny_bind (by_text (wpAny_pure q))))
  refine wpAny_bind (dr _ _ _ ?_)
  have slots : ∀ (sl : Nat → Nat) (es' : List (Int × Value)) (ks' : List Key), EK P w es' ks' → ks'.Perm ds → sl 0 = 0 →
      (∀ i v, (es'.map (·.2))[i]? = some v → ∀ (s : Shared) (A : Around) (E : Value → Shared → Prop) (Q : Option (Value × Nat) → Shared → Prop), SAt s.heap S es ep t → Q (some (v, sl (i + 1))) s → wpAny (model P w) A (setNext S (sl i) i ep) Q E s) →
      (∀ (s : Shared) (A : Around) (E : Value → Shared → Prop) (Q : Option (Value × Nat) → Shared → Prop), SAt s.heap S es ep t → Q none s → wpAny (model P w) A (setNext S (sl ds.length) ds.length ep) Q E s) →
      Q (.ref s.heap.objs.size) { s with heap := s.heap.push { cls := .type "set_iterator", data := .fields #[rawInt 0, rawInt 0, .ref S, rawInt es.size, rawInt ep] } } := by
    intro sl es' ks' ek' pm' s0 st en
    have hl : (es'.map (·.2)).length = ds.length := by rw [List.length_map, ek'.length, pm'.length_eq]
    refine h _ _ ⟨_, _, es', ks', ek', pm', ?_, Nat.le_refl _, ⟨⟨_, Heap.get?_push_size _ rfl, rfl, ?_⟩, y.at fun o e => Heap.get?_push_of_some _ e⟩, fun A hh => walk_slots hn (Nat.ne_of_lt lt) hh hl st en, fun b o e => Heap.get?_push_of_some _ e, rfl, rfl, rfl⟩
    · intro b hb
      rcases List.mem_cons.mp hb with rfl | hb
      · exact .inr (Nat.le_refl _)
      · exact .inl (List.mem_singleton.mp hb)
    · rw [s0, hn]
      rfl
  cases bt : byT w with
  | true =>
    rw [Bool.not_true, Bool.false_and, if_neg Bool.false_ne_true]
    refine wpAny_bind (m := pure _) (wpAny_pure ?_)
    refine wpAny_bind (wpAny_setEpoch_of ho hd hf ?_)
    refine wpAny_bind (m := newFields _ _) ?_
    unfold newFields
    refine wpAny_newObj_type (wpAny_pure ⟨_, rfl, "set_iterator", _, ⟨_, Heap.get?_push_size _ rfl, rfl⟩, slot_si_next.lookup, ?_⟩)
    have pp := pick_perm (w.params.setOrder S ep) es
    obtain ⟨ks', p', ek'⟩ := ek.perm pp
    have pl : (pickOrder (w.params.setOrder S ep) es).size = ds.length := by rw [← Array.length_toList, pp.length_eq, Array.length_toList, hn]
    refine slots (fun _ => 0) _ ks' ek' (p'.trans pm) rfl (fun i v e s A E Q y q => next_text bt y ?_) (fun s A E Q y q => next_text bt y ?_)
    · rw [List.getElem?_map] at e
      obtain ⟨x, ex, rfl⟩ := Option.map_eq_some_iff.mp e
      rw [← Array.getElem?_toList, ex]
      exact q
    · rw [Array.getElem?_eq_none (by omega)]
      exact q
  | false =>
    rw [Bool.not_false, Bool.true_and]
    have ld : t.led = true := by rw [led, bt]; rfl
    cases np : (!t.plain && decide (es.size > 1)) with
    | false =>
      rw [if_neg Bool.false_ne_true]
      refine wpAny_bind (m := pure _) (wpAny_pure ?_)
      refine wpAny_bind (wpAny_setEpoch_of ho hd hf ?_)
      refine wpAny_bind (m := newFields _ _) ?_
      unfold newFields
      refine wpAny_newObj_type (wpAny_pure ⟨_, rfl, "set_iterator", _, ⟨_, Heap.get?_push_size _ rfl, rfl⟩, slot_si_next.lookup, ?_⟩)
      have pz := up_len hf
      have bl : ∀ i, i ≤ es.size → SetTable.below t.place (match i with | 0 => 0 | j + 1 => t.place.getD j 0 + 1) = i := fun i hi => by
        cases i with
        | zero => exact below_zero L
        | succ j => exact below_next L (by omega)
      refine slots (fun i => match i with | 0 => 0 | j + 1 => t.place.getD j 0 + 1) es.toList ks ek pm rfl (fun i v e s A E Q y q => next_place bt y np ld ?_) (fun s A E Q y q => next_place bt y np ld ?_)
      · rw [List.getElem?_map] at e
        obtain ⟨⟨hx, x⟩, ex, rfl⟩ := Option.map_eq_some_iff.mp e
        rw [Array.getElem?_toList] at ex
        have li : i < es.size := (Array.getElem?_eq_some_iff.mp ex).1
        have lp : i < t.place.size := by omega
        rw [bl i (Nat.le_of_lt li), ex, Array.getElem?_eq_getElem lp]
        dsimp only
        have eg : t.place.getD i 0 = t.place[i] := by simp [Array.getD, lp]
        rw [← eg]
        exact q
      · rw [bl ds.length (by omega), Array.getElem?_eq_none (by omega)]
        exact q
    | true =>
      rw [if_pos rfl]
      refine wpAny_bind (draw_perm es.size (List.range es.size) _ _ List.length_range fun ps d p => ?_)
      have pl : ps.length = ds.length := by rw [p.length_eq, List.length_range, hn]
      refine wpAny_bind (wpAny_newTuple ?_ (by rw [List.length_map, pl]; exact fits_of_scanBound (by omega)))
      have ho1 := Heap.get?_push_of_some { cls := .type "tuple", data := .seq (ps.map fun (i : Nat) => rawInt i).toArray } ho
      refine wpAny_bind (wpAny_setEpoch_of ho1 hd hf ?_)
      refine wpAny_bind (m := newFields _ _) ?_
      unfold newFields
      refine wpAny_newObj_type (wpAny_pure ⟨_, rfl, "set_iterator", _, ⟨_, Heap.get?_push_size _ rfl, rfl⟩, slot_si_next.lookup, ?_⟩)
      have pe : (ps.filterMap fun i => es[i]?).Perm es.toList := by
        have := p.filterMap fun i => es[i]?
        rwa [filterMap_getElem?_range] at this
      obtain ⟨ks', p', ek'⟩ := ek.perm pe
      have at1 : ∀ (q : List Nat) (i : Nat), (∀ x ∈ q, x < es.size) → i < q.length → ∃ x e, q[i]? = some x ∧ es[x]? = some e ∧ ((q.filterMap fun i => es[i]?).map (·.2))[i]? = some e.2 := by
        intro q
        induction q with
        | nil => exact fun i _ hi => absurd hi (Nat.not_lt_zero _)
        | cons x q ih =>
          intro i hq hi
          have ex := Array.getElem?_eq_getElem (hq x List.mem_cons_self)
          rw [List.filterMap_cons_some ex]
          cases i with
          | zero => exact ⟨x, _, rfl, ex, rfl⟩
          | succ i => exact ih i (fun y hy => hq y (List.mem_cons_of_mem _ hy)) (Nat.lt_of_succ_lt_succ hi)
      have lq : ∀ x ∈ ps, x < es.size := fun x hx => List.mem_range.mp (p.mem_iff.mp hx)
      refine h _ _ ⟨_, _, _, ks', ek', p'.trans pm, ?_, ?_, ⟨⟨_, Heap.get?_push_size _ rfl, rfl, ?_⟩, y.at fun o e => Heap.get?_push_of_some _ (Heap.get?_push_of_some _ e), ⟨_, _, Heap.get?_push_of_some _ (Heap.get?_push_size _ rfl), rfl⟩⟩, fun A hh => walk_drawn hn ?_ ?_ hh pl fun i hi => at1 ps i lq (by omega), fun b o e => Heap.get?_push_of_some _ (Heap.get?_push_of_some _ e), rfl, rfl, rfl⟩
      · intro b hb
        rcases List.mem_cons.mp hb with rfl | hb
        · exact .inr (by rw [Heap.size_push]; exact Nat.le_succ _)
        · rcases List.mem_cons.mp hb with rfl | hb
          · exact .inl rfl
          · rw [List.mem_singleton.mp hb]
            exact .inr (Nat.le_refl _)
      · rw [Heap.size_push]
        exact Nat.le_succ _
      · rw [Heap.size_push]
        exact Nat.ne_of_lt (Nat.lt_succ_of_lt lt)
      · rw [Heap.size_push]
        exact Nat.ne_of_lt (Nat.lt_succ_self _)
      · rw [hn]
        rfl
end
end L2


/-! ### sets made, filled, collected -/
namespace L2
open PySem PySem.Spec PyProof.Rows
section
variable {P : Program} {w : World} {A : Around} {E : Value → Shared → Prop} {s : Shared} {R : Result → Shared → Prop}
theorem fill_x {It S : Addr} {fp wr : List Addr} {ks : List Key} {Pv : Nat → Value → Prop} {St : Nat → Shared → Prop} (W : WalksS P w A.in1 It fp wr (fun a b => b = a) ks.length Pv St) (hS : S ∉ fp)
    (hv : ∀ i v, Pv i v → ∃ k, ks[i]? = some k ∧ (mixKind P w).is k v = true ∧ v.scannable = true) (hb : ks.length + 1 < scanBound) :
    ∀ (m i : Nat) (s : Shared), ks.length - i = m → i ≤ ks.length → St i s → SetX P w s.heap S (dd (ks.take i)) →
      (∀ s', Moved (S :: wr) (fun a b => b = a) s s' → SetX P w s'.heap S (dd ks) → R (.ok (.ret .none)) s') →
      codeAny (model P w) A (.builtin "set.update.loop" ⟨[.ref S, .ref It], []⟩) R s := by
  have sw : S ∉ wr := fun q => hS (W.sub _ q)
  have wider : ∀ b ∈ wr, b ∈ S :: wr := fun b q => List.mem_cons_of_mem _ q
  intro m
  induction m with
  | zero =>
    intro i s hm hi st X fin
    obtain rfl : i = ks.length := by omega
    refine codeAny_builtin PyProof.Rows.F.entry_set_update_loop ?_
    rw [Around.under_plainId PyProof.Rows.F.plain_set_update_loop _]
    refine wpAny_bind (m := pyNext (.ref It)) (W.done s _ _ st fun s' mv => ?_)
    rw [List.take_length] at X
    exact wpAny_pure (fin s' (mv.mono wider) (X.moved fun o e => mv.heap S o sw e))
  | succ m ih =>
    intro i s hm hi st X fin
    have lt : i < ks.length := by omega
    refine codeAny_builtin PyProof.Rows.F.entry_set_update_loop ?_
    rw [Around.under_plainId PyProof.Rows.F.plain_set_update_loop _]
    refine wpAny_bind (m := pyNext (.ref It)) (W.item i s _ _ lt st fun v s' hP st' mv => ?_)
    obtain ⟨k, hk, his, hsc⟩ := hv i v hP
    have X' := X.moved (fun o e => mv.heap S o sw e)
    refine wpAny_bind (m := holding [v] (setAdd S v)) (wpAny_holding ?_)
    unfold setAdd
    refine wpAny_holding (wpAny_bind ((mixKind P w).pyHash (k := k) his ?_))
    have room : (dd (ks.take i)).length + 1 < scanBound := by
      have h1 := dd_len (ks.take i)
      rw [List.length_take] at h1
      omega
    refine add_x (s := { s' with toks := s'.toks + 1 }) his hsc X' room fun _ h' sb X2 => ?_
    rw [← dd_take hk] at X2
    refine wpAny_pure ⟨plainId_quiet PyProof.Rows.F.plain_set_update_loop _, ih (i + 1) _ (by omega) lt (W.frame _ s' _ _ st' (Nat.le_succ _) fun b q o e => ?_) X2 fun s2 mv2 fin2 => ?_⟩
    · exact (sb.2 b fun (z : b = S) => hS (z ▸ q)).trans e
    · refine fin s2 (Moved.trans W.gtrans ((mv.mono wider).then_heap (Nat.le_succ _) fun b o q e => ?_) mv2) fin2
      exact (sb.2 b fun (z : b = S) => q (by rw [z]; exact List.mem_cons_self)).trans e
theorem fill_list {id : String} {S l : Addr} {its : Array Value} {ks : List Key} {Q : Unit → Shared → Prop} (hh : A.handled = none) (hS : s.heap.get? S = some (fr (!byT w))) (hl : s.heap.IsList l its) (hn : its.size = ks.length)
    (hv : ∀ (i : Nat) v, its[i]? = some v → ∃ k, ks[i]? = some k ∧ (mixKind P w).is k v = true ∧ v.scannable = true) (hb : ks.length + 1 < scanBound)
    (h : ∀ (h' : Heap) (tk : Nat), SetX P w h' S (dd ks) → (∀ b o, b ≠ S → s.heap.get? b = some o → h'.get? b = some o) → Q () { s with heap := h', toks := tk }) :
    wpAny (model P w) A (Builtin.Frozenset.updateFrom id S (.ref l)) Q E s := by
  obtain ⟨⟨_, od, _, osl⟩, ol, rfl, nl, rfl⟩ := hl
  have l1 : s.heap.IsList l its := ⟨_, ol, rfl, nl, rfl⟩
  have n1 := PySem.F.sub_list_set
  have n2 := PySem.F.sub_list_frozenset
  have n3 : (Value.type "list" == Value.type "dict") = false := rfl
  unfold Builtin.Frozenset.updateFrom
  generalize e : pyIter = I
  wp_walk
  subst e
  have lt := Heap.lt_size ol
  refine wpAny_pyIter_list l1 (wpAny_bind (wpAny_runValue ?_))
  have it := (Walks.list (prog := P) (w := w) (A := A.in1) hh s.heap.objs.size l (Nat.ne_of_lt lt) its).toS
  rw [hn] at it
  have sS : S < s.heap.objs.size := Heap.lt_size hS
  have sl : S ≠ l := fun z => by
    subst z
    have z2 : some (Value.type "set") = some (Value.type "list") := congrArg (Option.map Obj.cls) (hS.symm.trans ol)
    exact absurd z2 (by decide)
  refine fill_x it (fun q => ?_) hv hb _ 0 _ rfl (Nat.zero_le _) ⟨⟨_, Heap.get?_push_size _ rfl, rfl, rfl⟩, l1.push _⟩ ?_ ?_
  · rcases q with _ | ⟨_, _ | ⟨_, q⟩⟩
    · exact Nat.lt_irrefl _ sS
    · exact sl rfl
    · cases q
  · exact ⟨_, #[], 0, _, [], Heap.get?_push_of_some _ hS, ⟨rfl, rfl, rfl⟩, rfl, .nil, .refl _, by decide, by rfl, fresh_lit 0 0 _, rfl⟩
  · rintro ⟨h', g', d', tk', os'⟩ ⟨mv1, mv2, mv3, mv4⟩ fin
    dsimp only at mv1 mv2 mv3 mv4 fin
    subst mv2 mv3 mv4
    refine wpAny_pure (h _ _ fin fun b o nb e => mv1 b o (fun q => ?_) (Heap.get?_push_of_some _ e))
    have lb := Heap.lt_size e
    rcases q with _ | ⟨_, _ | ⟨_, q⟩⟩
    · exact nb rfl
    · exact Nat.lt_irrefl _ lb
    · cases q
/-- the first half of a call of set: an empty one, led as the world says -/
theorem new_x (a : Value) {Q : Value → Shared → Prop} (h : Q (.ref s.heap.objs.size) { s with heap := s.heap.push (fr (!byT w)) }) : codeAny (model P w) A (.call (.builtin "set.__new__") ⟨[.type "set", a], []⟩) (wants Q E) s := by
  refine codeAny_of_tree ?_
  show wpAny _ A.in1 (checkBuiltinCall "set.__new__" _ >>= fun _ => again (.builtin "set.__new__" ⟨[.type "set", a], []⟩)) _ _ s
  refine wpAny_bind (wpAny_of_eq (PySem.F.newCall_set_1 a) (wpAny_pure ⟨plainId_quiet PySem.F.plain_set_new _, codeAny_builtin PySem.F.entry_set_new ?_⟩))
  rw [Around.under_plainId PySem.F.plain_set_new _]
  unfold Builtin.«set.__new__» Builtin.Frozenset.newClass
  have hsub := sub_set_self
  obtain ⟨hp, g, d, tk, os⟩ := s
  dsimp only at h ⊢
  wp_walk
  refine wpAny_askSetting (wpAny_pure ?_)
  dsimp only
  unfold newObj
  exact wpAny_bind (wpAny_alloc (wpAny_pure (wpAny_pure h)))
theorem made_x {l : Addr} {its : Array Value} {ks : List Key} {Q : Value → Shared → Prop} (hh : A.handled = none) (hl : s.heap.IsList l its) (hn : its.size = ks.length)
    (hv : ∀ (i : Nat) v, its[i]? = some v → ∃ k, ks[i]? = some k ∧ (mixKind P w).is k v = true ∧ v.scannable = true) (hb : ks.length + 1 < scanBound)
    (h : ∀ (h' : Heap) (tk : Nat), SetX P w h' s.heap.objs.size (dd ks) → (∀ b o, s.heap.get? b = some o → h'.get? b = some o) → Q (.ref s.heap.objs.size) { s with heap := h', toks := tk }) :
    wpAny (model P w) A (call (.type "set") [.ref l]) Q E s := by
  refine made_by PySem.F.called_set (PySem.F.typeCall_set_1 _) (new_x _ (Q := fun v s1 => v = .ref s.heap.objs.size ∧ s1 = { s with heap := s.heap.push (fr (!byT w)) }) ⟨rfl, rfl⟩) ?_
  rintro _ _ ⟨rfl, rfl⟩
  have at0 : (s.heap.push (fr (!byT w))).get? s.heap.objs.size = some (fr (!byT w)) := Heap.get?_push_size _ rfl
  have ty : Shared.TypeIs { s with heap := s.heap.push (fr (!byT w)) } (.ref s.heap.objs.size) "set" := ⟨_, at0, rfl⟩
  refine ⟨ty, codeAny_call_builtin PySem.F.called_set.init.plain PySem.F.entry_set_init (check_set_init_1 ty ?_)⟩
  unfold Builtin.«set.__init__» noKeywords
  generalize e : @Builtin.Frozenset.updateFrom = U
  wp_walk
  subst e
  refine fill_list (by simp [hh]) at0 (hl.push _) hn hv hb fun h' tk fin kp' => ?_
  exact wpAny_pure ⟨rfl, h h' tk fin fun b o e => kp' b o (Nat.ne_of_lt (Heap.lt_size e)) (Heap.get?_push_of_some _ e)⟩
theorem hint_set {r : Addr} {Q : Bool → Shared → Prop} (hT : s.TypeIs (.ref r) "set") (h : Q false s) : wpAny (model P w) A (Builtin.List.listLengthHint (.ref r)) Q E s := by
  unfold Builtin.List.listLengthHint
  refine wpAny_bind (wpAny_specialOf hT PySem.F.slot_set_len.lookup ?_)
  have sp : splitId "set.__len__" = some ("set", "__len__") := by decide +kernel
  simp only [sp]
  refine wpAny_bind (wpAny_isInstance (T := "set") (b := true) hT (by rw [isSubtype_type]; kernel_rfl) ?_)
  rw [if_neg (by decide)]
  first
  | rw [if_pos (by decide +kernel)]
  | rw [if_pos (by rfl)]
  refine wpAny_bind (wpAny_typeOf hT ?_)
  exact wpAny_pure h
theorem ite_ok {α : Type} {c : Prop} [Decidable c] {m1 m2 : Sem α} {Q : α → Shared → Prop} (h : c) (q : wpAny (model P w) A m1 Q E s) : wpAny (model P w) A (if c then m1 else m2) Q E s := by
  rw [if_pos h]
  exact q
theorem collect_x {S : Addr} {ds : List Key} {Q : List Value → Shared → Prop} (hh : A.handled = none) (X : SetY P w s.heap S ds) (hn : ds.length ≤ sizeLine)
    (h : ∀ (s' : Shared) (es : List (Int × Value)) (ks : List Key), EK P w es ks → ks.Perm ds → (∀ b o, s.heap.get? b = some o → s'.heap.get? b = some o) → s.heap.objs.size < s'.heap.objs.size → s'.gens = s.gens → s'.os = s.os → Q (es.map (·.2)) s') : wpAny (model P w) A (collect (.ref S)) Q E s := by
  have tS : s.TypeIs (.ref S) "set" := by
    obtain ⟨o, _, _, _, _, ho, hex, _⟩ := X
    exact ⟨o, ho, hex.1⟩
  have lS : S < s.heap.objs.size := by
    obtain ⟨o, _, _, _, _, ho, _⟩ := X
    exact Heap.lt_size ho
  have at0 : (s.heap.push { cls := .type "list", data := .seq #[] }).get? s.heap.objs.size = some { cls := .type "list", data := .seq #[] } := Heap.get?_push_size _ rfl
  have X1 : SetY P w (s.heap.push { cls := .type "list", data := .seq #[] }) S ds := X.moved fun o e => Heap.get?_push_of_some _ e
  have t1 : Shared.TypeIs { s with heap := s.heap.push { cls := .type "list", data := .seq #[] } } (.ref S) "set" := by
    obtain ⟨o, _, _, _, _, ho, hex, _⟩ := X1
    exact ⟨o, ho, hex.1⟩
  unfold collect
  refine wpAny_bind (wpAny_runValue (code_by entry_proto_collect' PySem.F.plain_proto_collect (wpAny_bind (m := newList []) (wpAny_newList (wpAny_pure ⟨plainId_quiet PySem.F.plain_list_iadd _, code_by entry_list_iadd' PySem.F.plain_list_iadd ?_⟩) (Nat.zero_le _)))))
  show wpAny _ _ (Builtin.List.listExtendWith (.ref s.heap.objs.size) (.ref S) (.ref s.heap.objs.size)) _ _ _
  unfold Builtin.List.listExtendWith
  have ns : Builtin.List.listSameRef (.ref s.heap.objs.size) (.ref S) = false := by simp [Builtin.List.listSameRef, Nat.ne_of_gt lS]
  refine wpAny_bind (wpAny_typeOf t1 ?_)
  rw [ns]
  refine wpAny_bind (iter_x (s := { s with heap := s.heap.push { cls := .type "list", data := .seq #[] } }) X1 fun it s1 ⟨fp, St, es, ks, ek, pm, hfp, hit, st, W, kp1, g1, o1, k1⟩ => ?_)
  have t2 : s1.TypeIs (.ref S) "set" := by
    obtain ⟨o, _, _, _, _, ho, hex, _⟩ := X1
    exact ⟨o, kp1 _ _ ho, hex.1⟩
  refine wpAny_bind (wpAny_holding (hint_set t2 ?_))
  have L1 := kp1 _ _ at0
  have nf : s.heap.objs.size ∉ fp := fun q => by
    rcases hfp _ q with e | e
    · rw [e] at lS
      exact Nat.lt_irrefl _ lS
    · rw [Heap.size_push] at e
      exact Nat.not_succ_le_self _ e
  have ni : s.heap.objs.size < it := by
    rw [Heap.size_push] at hit
    exact hit
  refine ite_ok (by decide +kernel) (wpAny_bind (wpAny_rule (wpAny_bind ?_)))
  show wpAny _ _ (updateSeq s.heap.objs.size (·.push .none) >>= fun _ => updateSeq s.heap.objs.size (·.pop)) _ _ _
  refine wpAny_bind (wpAny_updateSeq L1 rfl ?_)
  have L2 := Heap.get?_update_self (Obj.mapSeq (·.push Value.none)) L1 rfl
  refine wpAny_updateSeq (hz := by seq_fits) L2 rfl ?_
  have L3 := Heap.get?_update_self (Obj.mapSeq (·.pop)) L2 rfl
  have W1 := W A.in1 (by simpa using hh)
  have keep : ∀ b o, b ≠ s.heap.objs.size → s1.heap.get? b = some o → ((s1.heap.update s.heap.objs.size (Obj.mapSeq (·.push Value.none))).update s.heap.objs.size (Obj.mapSeq (·.pop))).get? b = some o := fun b o nb e => (Heap.get?_update_other _ _ (Ne.symm nb)).trans ((Heap.get?_update_other _ _ (Ne.symm nb)).trans e)
  refine wpAny_pure ⟨plainId_quiet PySem.F.plain_extend_loop _, codeAny_extend_loopS W1 hn _ nf _ ds.length 0 _ _ _ rfl (Nat.zero_le _) (W1.frame 0 s1 _ s1.toks st (Nat.le_refl _) fun b hb o e => keep b o (fun z => nf (z ▸ hb)) e) L3 (ItemsOf.nil _) fun s' acc c mv hS' hacc => ?_⟩
  have ea : acc.toList = es.map (·.2) := by
    apply List.ext_getElem?
    intro j
    have ls : (es.map (·.2)).length = ds.length := by rw [List.length_map, ek.length, pm.length_eq]
    by_cases lj : j < acc.size
    · have e := Array.getElem?_eq_getElem lj
      rw [Array.getElem?_toList, e, hacc.2 j _ e]
    · rw [List.getElem?_eq_none (by rw [Array.length_toList]; omega), List.getElem?_eq_none (by rw [ls, ← hacc.1]; omega)]
  refine wpAny_bind (wpAny_load hS' (wpAny_pure ?_))
  rw [ea]
  refine h s' es ks ek pm (fun b o e => ?_) (Heap.lt_size hS') (mv.gens.trans g1) (mv.os.trans o1)
  have lb := Heap.lt_size e
  refine mv.heap b o (fun q => ?_) (keep b o (Nat.ne_of_lt lb) (kp1 _ _ (Heap.get?_push_of_some _ e)))
  rcases List.mem_cons.mp q with z | z
  · exact Nat.ne_of_lt lb z
  · exact Nat.ne_of_lt (Nat.lt_trans lb ni) (List.mem_singleton.mp z)
end
end L2


/-! ### set(xs), len, sorted of it -/
namespace L2
open PySem PySem.Spec PyProof.Rows
/-- a set that can be gone through, in the heap -/
abbrev SetXO (P : Program) (w : World) (a : Addr) (ds : List Key) : HO := .ext fun h => SetY P w h a ds
/-- texts, each once, as they come -/
def ddS (ws : List Str) : List Str := ws.foldl (fun acc w => if w ∈ acc then acc else acc ++ [w]) []
def ddI (ns : List Int) : List Int := ns.foldl (fun acc w => if w ∈ acc then acc else acc ++ [w]) []
theorem dd_of {α : Type} [DecidableEq α] (f : α → Key) (inj : ∀ x y, f x = f y → x = y) : ∀ (ws acc : List α), (ws.map f).foldl addK (acc.map f) = (ws.foldl (fun acc w => if w ∈ acc then acc else acc ++ [w]) acc).map f
  | [], acc => rfl
  | x :: ws, acc => by
    rw [List.map_cons, List.foldl_cons, List.foldl_cons]
    have m : memK (acc.map f) (f x) = true ↔ x ∈ acc := by
      rw [memK_iff, List.mem_map]
      exact ⟨fun ⟨y, hy, e⟩ => inj _ _ e ▸ hy, fun h => ⟨x, h, rfl⟩⟩
    by_cases h : x ∈ acc
    · have e : addK (acc.map f) (f x) = acc.map f := by unfold addK; rw [if_pos (m.mpr h)]
      rw [e, if_pos h]
      exact dd_of f inj ws acc
    · have e : addK (acc.map f) (f x) = (acc ++ [x]).map f := by unfold addK; rw [if_neg (fun z => h (m.mp z)), List.map_append]; rfl
      rw [e, if_neg h]
      exact dd_of f inj ws _
theorem dd_strs (ws : List Str) : dd (ws.map Sum.inr) = (ddS ws).map Sum.inr := dd_of Sum.inr (fun _ _ e => Sum.inr.inj e) ws []
theorem once_nodup {α : Type} [DecidableEq α] : ∀ (ws acc : List α), acc.Nodup → (ws.foldl (fun acc w => if w ∈ acc then acc else acc ++ [w]) acc).Nodup
  | [], acc, h => h
  | y :: ws, acc, h => by
    rw [List.foldl_cons]
    refine once_nodup ws _ ?_
    split
    · exact h
    · rename_i n
      rw [List.nodup_append]
      exact ⟨h, List.nodup_cons.mpr ⟨List.not_mem_nil, List.nodup_nil⟩, fun a ha b hb e => n (by rw [List.mem_singleton.mp hb] at e; rw [← e]; exact ha)⟩
theorem once_same {α : Type} [DecidableEq α] : ∀ (ws acc : List α), (acc ++ ws).Nodup → ws.foldl (fun acc w => if w ∈ acc then acc else acc ++ [w]) acc = acc ++ ws
  | [], acc, _ => (List.append_nil _).symm
  | y :: ws, acc, h => by
    have n : y ∉ acc := fun z => (List.nodup_append.mp h).2.2 y z y List.mem_cons_self rfl
    rw [List.foldl_cons, if_neg n, once_same ws _ (by rw [List.append_assoc]; exact h), List.append_assoc]
    rfl
theorem once_len {α : Type} [DecidableEq α] : ∀ (ws acc : List α), (ws.foldl (fun acc w => if w ∈ acc then acc else acc ++ [w]) acc).length ≤ acc.length + ws.length
  | [], acc => Nat.le_refl _
  | y :: ws, acc => by
    rw [List.foldl_cons, List.length_cons]
    have h := once_len ws (if y ∈ acc then acc else acc ++ [y])
    have h2 : (if y ∈ acc then acc else acc ++ [y]).length ≤ acc.length + 1 := by
      split
      · exact Nat.le_succ _
      · rw [List.length_append]; exact Nat.le_refl _
    omega
theorem ddS_nodup (ws : List Str) : (ddS ws).Nodup := once_nodup ws [] List.nodup_nil
theorem ddS_same {ws : List Str} (h : ws.Nodup) : ddS ws = ws := once_same ws [] h
theorem ddS_len (ws : List Str) : (ddS ws).length ≤ ws.length := by have := once_len ws []; rwa [List.length_nil, Nat.zero_add] at this
def getS : Key → Option Str
  | .inr x => some x
  | .inl _ => none
def getI : Key → Option Int
  | .inl x => some x
  | .inr _ => none
theorem perm_strs {ks : List Key} {ws : List Str} (p : ks.Perm (ws.map Sum.inr)) : ∃ vs : List Str, ks = vs.map Sum.inr ∧ vs.Perm ws := by
  have key : ∀ k ∈ ks, ∃ x, k = Sum.inr x := fun k hk => by
    obtain ⟨x, _, e⟩ := List.mem_map.mp (p.mem_iff.mp hk)
    exact ⟨x, e.symm⟩
  have e : ks = (ks.filterMap getS).map Sum.inr := by
    clear p
    induction ks with
    | nil => rfl
    | cons k ks ih =>
      obtain ⟨x, rfl⟩ := key k List.mem_cons_self
      rw [show List.filterMap getS (Sum.inr x :: ks) = x :: List.filterMap getS ks from rfl, List.map_cons, ← ih fun k hk => key k (List.mem_cons_of_mem _ hk)]
  refine ⟨_, e, ?_⟩
  have q := p.filterMap getS
  rw [List.filterMap_map] at q
  have e2 : ws.filterMap (getS ∘ Sum.inr) = ws := List.filterMap_some
  rwa [e2] at q
section
variable {P : Program} {w : World}
theorem EK.strs : ∀ {ws : List Str} {es : List (Int × Value)}, EK P w es (ws.map Sum.inr) → StrsAre (es.map (·.2)) ws
  | [], _, h => by cases h; exact .nil
  | x :: ws, _, h => by
    cases h with
    | cons h1 h2 h =>
      rcases keyIs_shape (show keyIs (Sum.inr x) _ = true from h1) with ⟨i, t, e, _⟩ | ⟨y, t, e, rfl⟩
      · cases e
      · cases e
        exact .cons x t (EK.strs h)
end
theorem Inv.other {X : Cx} {pins : List (Addr × Obj)} {σ : St} {H : Hp} {s : Shared} (I : Inv X pins σ H s) (d : Drawn) : Inv X pins σ H { s with drawn := d } := ⟨I.ok, I.os, I.bare, I.base, I.loc, I.cell, I.free, I.freeC, I.pin, I.hok, I.len⟩
section
variable {X : Cx}
theorem call_setX (hc : X.calm = true) : CallR X (.type "set") (fun xs H Q => ∃ (p : Addr) (ks : List Key), xs = [.ref p] ∧ SqL X.K H p (ks.map kV) ∧ ks.length ≤ 4000 ∧ ∀ q, H q = none → Q (.ref q) (upd H q (SetXO X.prog X.w q (dd ks)))) := by
  intro pins s σ H xs us Q I r h
  obtain ⟨p, ks, rfl, hp, hz, q⟩ := h
  obtain ⟨u, rfl, ru⟩ := vals1 r
  cases ru
  obtain ⟨its, rv, pl, _⟩ := I.list hp
  have hl := rv.length
  rw [List.length_map] at hl
  refine made_x (ks := ks) (I.ok.hd hc) pl.isList (by simp [← hl]) (fun i v e => vals_keys rv (by simpa using e)) (by unfold scanBound; omega) fun h' tk set kp => ?_
  refine ⟨.ref s.heap.objs.size, _, I.laid (t' := tk) (o := SetXO X.prog X.w s.heap.objs.size (dd ks)) kp (Nat.le_refl _) ?_, rfl, q _ (I.hok.fresh (Nat.le_refl _))⟩
  refine ⟨set.y, ?_, fun h1 h2 a b => SetY.moved a b⟩
  obtain ⟨o, _, _, _, _, e, _⟩ := set
  exact ⟨o, e⟩
theorem call_setS (hc : X.calm = true) : CallR X (.type "set") (fun xs H Q => ∃ (p : Addr) (ws : List Str), xs = [.ref p] ∧ SqL X.K H p (ws.map V.str) ∧ ws.length ≤ 4000 ∧ ∀ q, H q = none → Q (.ref q) (upd H q (SetXO X.prog X.w q ((ddS ws).map Sum.inr)))) := by
  intro pins s σ H xs us Q I r h
  obtain ⟨p, ws, rfl, hp, hz, q⟩ := h
  refine call_setX hc pins s σ H _ us Q I r ⟨p, ws.map Sum.inr, rfl, ?_, by rw [List.length_map]; exact hz, fun y hy => ?_⟩
  · rw [List.map_map]
    exact hp
  · rw [dd_strs]
    exact q y hy
theorem call_sortedSS (hc : X.calm = true) : CallR X (.builtin "sorted") (fun xs H Q => ∃ (p : Addr) (ws : List Str), xs = [.ref p] ∧ H p = some (SetXO X.prog X.w p (ws.map Sum.inr)) ∧ ws.length < 64 ∧ ∀ (q : Addr) (ws' : List Str), H q = none → ws'.Perm ws → sortedS ws' = true → Q (.ref q) (upd H q (.lst (ws'.map V.str)))) := by
  intro pins s σ H xs us Q I r h
  obtain ⟨p, ws, rfl, hp, h64, q⟩ := h
  obtain ⟨u, rfl, ru⟩ := vals1 r
  cases ru
  obtain ⟨sx, _⟩ := I.hok p _ hp
  refine Calls.call_function_entry kind_sorted plain_sorted entry_sorted (args_sorted1 _) ?_
  unfold Builtin.«sorted»
  refine wpAny_bind (m := checkCount _ _ _ _) (wpAny_pure (wpAny_bind (collect_x (A := X.A.in1) (I.ok.hd hc) sx (by rw [List.length_map]; exact szB (by omega)) fun s' es ks ek pm kp' hz hg ho => ?_)))
  obtain ⟨vs, rfl, pv⟩ := perm_strs pm
  have hS := ek.strs
  have la : (es.map (·.2)).length = vs.length := by rw [List.length_map, ek.length, List.length_map]
  have lv := pv.length_eq
  obtain ⟨h', g', d', tk, os'⟩ := s'
  dsimp only at kp' hz hg ho
  subst hg ho
  have I2 := I.other d'
  refine wpAny_bind (wpAny_newList ?_ (by rw [la]; exact szB (by omega)))
  have hL : (h'.push (seqObj "list" (es.map (·.2)).toArray 0)).get? h'.objs.size = some (seqObj "list" (es.map (·.2)).toArray 0) := Heap.get?_push_size _ rfl
  have hz := Nat.le_of_lt hz
  refine wpAny_bind (wpAny_holding (wpAny_call_entry slot_list_sort ⟨_, hL, rfl⟩ entry_list_sort (list_sort_treeK strKind_oneLt hL hS.keysOf (fun a b rest e => keyKind_strs (by rw [← e]; exact hS)) (by omega) fun st' a1 a2 => ⟨_, rfl, ?_⟩) (args_list_sort _)))
  obtain ⟨ws', b1, b2, b3⟩ := sorted_out_str hS a1 a2
  obtain ⟨n, en⟩ := sortedHeap_at (out := (arrOf st').map (·.2)) hL
  refine wpAny_pure ⟨_, rfl, .ref h'.objs.size, _, I2.laid (t' := tk) (o := .lst (ws'.map V.str)) (fun b o e => ?_) hz ⟨?_, _, n, of_strs b1, ?_⟩, rfl, q _ ws' (I.hok.fresh hz) (b2.trans pv) b3⟩
  · have lt := Heap.lt_size (kp' b o e)
    rw [sortedHeap_old (Nat.ne_of_lt lt) (by rw [Heap.size_push]; exact Nat.lt_succ_of_lt lt)]
    exact Heap.get?_push_of_some _ (kp' b o e)
  · rw [List.length_map, b2.length_eq, lv]
    exact szB (by omega)
  · rw [Array.toArray_toList]
    exact en
end
end L2

/-! ### sorted(set(..)) of keys of one kind -/
namespace L2
open PySem PySem.Spec PyProof.Rows
/-- texts alone, or whole numbers alone -/
def Kin (ds : List Key) : Prop := (∃ ws : List Str, ds = ws.map Sum.inr) ∨ (∃ ns : List Int, ds = ns.map Sum.inl)
def SrtK (fs : List Key) : Prop := (∃ ws : List Str, fs = ws.map Sum.inr ∧ sortedS ws = true) ∨ (∃ ns : List Int, fs = ns.map Sum.inl ∧ ns.Pairwise (· ≤ ·))
end L2

/-! ### sorting by a strict order: the outcome rises -/
namespace L2
open PySem PySem.Spec PyProof.Rows PySem.W
def ev {α : Type} (lt : Nat → Nat → Bool) : KasT α → α
  | .ret a => a
  | .ask i j k => ev lt (k (lt i j))
/-- a strict order of the numbers below n -/
structure Sto (n : Nat) (lt : Nat → Nat → Bool) : Prop where
  tr : ∀ i j k, lt i j = true → lt j k = true → lt i k = true
  irr : ∀ i, lt i i = false
  tot : ∀ i j, i < n → j < n → i ≠ j → lt i j = true ∨ lt j i = true
section
variable {n : Nat} {lt : Nat → Nat → Bool}
/-- the first k rise -/
def Up (lt : Nat → Nat → Bool) (p : Array Nat) (k : Nat) : Prop := ∀ i j, i < j → j < k → lt (p.getD i 0) (p.getD j 0) = true
def Dn (lt : Nat → Nat → Bool) (p : Array Nat) (k : Nat) : Prop := ∀ i j, i < j → j < k → lt (p.getD j 0) (p.getD i 0) = true
end
end L2

/-! ### sorted of pairs of texts whose firsts differ -/
namespace L2
open PySem PySem.Spec PyProof.Rows PySem.W
section
variable {prog : Program} {w : World} {A : Around} {E : Value → Shared → Prop} {s : Shared}
/-- an order of places, and the list so ordered -/
def OutBy (lt : Nat → Nat → Bool) (vs : List Value) (out : Array Value) (p : Array Nat) : Prop := Pm vs.length p ∧ Up lt p vs.length ∧ out.toList = p.toList.map fun i => vs.getD i Value.none
/-- the order of texts by their numbers -/
def ltBy (ws : List Str) (i j : Nat) : Bool := decide ((ws.getD i Str.empty).cps.toList < (ws.getD j Str.empty).cps.toList)
/-- the pairs as they lie, with their firsts -/
def PairsW (h : Heap) (vs : List Value) (ws : List Str) : Prop := vs.length = ws.length ∧ ∀ (i : Nat) (v : Value), vs[i]? = some v → ∃ a o n x y t u, ws[i]? = some x ∧ v = .ref a ∧ h.get? a = some o ∧ o.cls = .type "tuple" ∧ o.data = .seq #[.str x t, .str y u] n
end
section
variable {X : Cx}
end
end L2

/-! ### for k, v in d.items(), for v in d.values() -/
namespace L2
open PySem PySem.Spec PyProof.Rows
theorem KV.at {kvs : List (Key × V)} {vs : List (Key × Value)} (h : KV kvs vs) {i : Nat} {k : Key} {u : Value} (e : vs[i]? = some (k, u)) : ∃ x, kvs[i]? = some (k, x) ∧ RelV x u := by
  induction h generalizing i with
  | nil => cases i <;> cases e
  | @cons p q _ _ a _ ih =>
    cases i with
    | zero =>
      obtain rfl : q = (k, u) := Option.some.inj e
      refine ⟨p.2, ?_, a.2⟩
      show some p = some (k, p.2)
      rw [← show p.1 = k from a.1]
    | succ i => exact ih e
/-- a dict's pairs, one by one -/
def Iti (P : Program) (w : World) (a : Addr) (kvs : List (Key × V)) (ep : Nat) : It :=
  ⟨fun i H => H a = some (FzD P w a kvs ep) ∧ i < kvs.length, fun i H v H' => ∃ T k x, H T = none ∧ v = .ref T ∧ kvs[i]? = some (k, x) ∧ H' = upd H T (.tup [kV k, x]), fun i H => H a = some (FzD P w a kvs ep) ∧ kvs.length ≤ i⟩
/-- a dict's values, one by one -/
def Itw (P : Program) (w : World) (a : Addr) (kvs : List (Key × V)) (ep : Nat) : It :=
  ⟨fun i H => H a = some (FzD P w a kvs ep) ∧ i < kvs.length, fun i H v H' => H' = H ∧ ∃ k, kvs[i]? = some (k, v), fun i H => H a = some (FzD P w a kvs ep) ∧ kvs.length ≤ i⟩
theorem turn_values {P : Program} {w : World} {K : PySem.W.Frag} {tg : Expr} (a it : Addr) (kvs : List (Key × V)) (ep : Nat) : Turn P w K tg (Itw P w a kvs ep) [it] it (fun i h => h.IsValIter it a i kvs.length ep) where
  mem := List.mem_singleton.mpr rfl
  obj := fun i h st b hb => by
    obtain rfl := List.mem_singleton.mp hb
    obtain ⟨o, e, _, d⟩ := st
    exact ⟨o, e, fun v z => by rw [d] at z; cases z⟩
  keep := fun i h h' st k => by
    obtain ⟨o, e, r⟩ := st
    exact ⟨o, k it (List.mem_singleton.mpr rfl) o e, r⟩
  item := by
    intro X hP hw hK hc i pins s σ H E I hf st hg
    subst hP hw hK
    obtain ⟨e, hi⟩ := hg
    obtain ⟨⟨vs, rel, da, lo⟩, _, _⟩ := I.hok a _ e
    have hl := KV.length rel
    rw [hl] at st
    obtain ⟨⟨k, u⟩, hx⟩ : ∃ p, vs[i]? = some p := ⟨_, List.getElem?_eq_getElem (by omega)⟩
    obtain ⟨x, hkx, rx⟩ := KV.at rel hx
    obtain ⟨f0, f1, f2, f3, f4, f5⟩ := hf it (List.mem_singleton.mpr rfl)
    refine wpAny_pyNext_values_item st da hx fun h' st' sb => ?_
    obtain ⟨o, e1, c, d⟩ := id st'
    rw [← hl] at st'
    exact ⟨u, rfl, go_of (s := { s with heap := h' }) e1 c d (by decide) ⟨x, H, I.turned (t' := s.toks) (fun b o hb e => (sb.2 b hb).trans e) f0 f1 f3 f4 f5, rx, ⟨rfl, k, hkx⟩, st', fun b hb => (hf b hb).1⟩⟩
  done := by
    intro X hP hw hK hc i pins s σ H E I hf st hg
    subst hP hw hK
    obtain ⟨e, hi⟩ := hg
    obtain ⟨⟨vs, rel, da, lo⟩, _, _⟩ := I.hok a _ e
    have hl := KV.length rel
    rw [hl] at st
    obtain ⟨f0, f1, f2, f3, f4, f5⟩ := hf it (List.mem_singleton.mpr rfl)
    exact wpAny_pyNext_values_end (I.ok.hd hc) st da (List.getElem?_eq_none (by omega)) fun h' eb => ⟨rfl, I.turned (t' := s.toks) (fun b o hb e => eb b o hb e) f0 f1 f3 f4 f5⟩
  self := fun _ _ _ _ _ st h => wpAny_pyIter_valiter st h
section
variable {X : Cx}
/-- a dict, walked before or not -/
def iDict (P : Program) (w : World) (J : Addr → List (Key × V) → Nat → It) (tl : TE) : TI := fun σ H R => tl σ H fun x H1 => ∃ a kvs, x = .ref a ∧ ((H1 a = some (.dK kvs) ∧ ∀ ep, R (J a kvs ep) (upd H1 a (FzD P w a kvs ep))) ∨ ∃ ep, H1 a = some (FzD P w a kvs ep) ∧ R (J a kvs ep) H1)
theorem pi_values {tg : Expr} {l : Expr} {tl : TE} {apos pos : Pos} (hl : PE X l tl) (hb : attributeBase l "values" X.env (eval l X.env) = eval l X.env) (hn : (apos.endLine == pos.line) = true) :
    PI X tg (.Call (.Attribute l "values" apos) [] [] pos) (iDict X.prog X.w (Itw X.prog X.w) tl) := by
  intro pins s σ H R I h
  refine wpAny_Call_method (T := "dict") (id := "dict.values") hb rfl hn PySem.F.plainAttrs_dict PySem.F.slot_dict_values PySem.F.type_dict_values (thn (hl pins s σ H _ I h) fun v s1 ⟨x, H1, I1, r1, q1⟩ => ?_)
  obtain ⟨a, kvs, e, q⟩ := q1
  subst e
  cases r1
  have fin : ∀ (ep : Nat) (H2 : Hp), Inv X pins σ H2 s1 → H2 a = some (FzD X.prog X.w a kvs ep) → R (Itw X.prog X.w a kvs ep) H2 →
      s1.TypeIs (.ref a) "dict" ∧ (∀ b, Value.ref a = .ref b → ∃ ob, s1.heap.get? b = some ob ∧ ob.dict = none) ∧ wpAny (model X.prog X.w) X.A (callWith pos (.builtin "dict.values") [.ref a] [] []) (fun v s2 => wpAny (model X.prog X.w) X.A (pyIter v) (PIE X pins σ tg R) X.xe s2) X.xe s1 := by
    intro ep H2 I2 hq r
    obtain ⟨⟨vs, rel, da, lo⟩, _, _⟩ := I2.hok a _ hq
    refine ⟨da.dictOf.typeIs, da.dictOf.mapOf.noDict, ?_⟩
    refine method_meetsIn PySem.F.slot_dict_values PySem.F.entry_dict_values rfl (PySem.evalArgs_none ⟨rfl, da.dictOf.typeIs, PySem.F.args_dict_values_1 _, _, meets_dict_values (mixKind X.prog X.w) a lo, ⟨vs, da.dictOf⟩, ?_⟩)
    refine wpAny_pyIter_values (knd := mixKind X.prog X.w) ⟨_, Heap.get?_push_size _ rfl, rfl, rfl⟩ (da.push _) ?_
    have k2 : ∀ b o, s1.heap.get? b = some o → ((s1.heap.push { cls := .type "dict_values", data := .fields #[.ref a] }).push { cls := .type "dict_valueiterator", data := .fields #[.ref a, .int 0 0, .int vs.length 0, .int ep 0] }).get? b = some o := fun b o e => Heap.get?_push_of_some _ (Heap.get?_push_of_some _ e)
    refine ⟨_, _, _, _, H2, rfl, I2.kept (t' := s1.toks) k2, turn_values a _ kvs ep, ?_, fun b hb => ?_, r⟩
    · rw [KV.length rel]
      exact ⟨_, Heap.get?_push_size _ rfl, rfl, rfl⟩
    · obtain rfl := List.mem_singleton.mp hb
      have le : s1.heap.objs.size ≤ (s1.heap.push { cls := .type "dict_values", data := .fields #[.ref a] }).objs.size := by rw [Heap.size_push]; exact Nat.le_succ _
      exact I2.fpOk le (I2.hok.fresh le)
  rcases q with ⟨hq, q⟩ | ⟨ep, hq, q⟩
  · obtain ⟨ep, vs, rel, da, lo, I2⟩ := I1.freeze hq
    exact fin ep _ I2 upd_same (q ep)
  · exact fin ep H1 I1 hq q
theorem for_values {P : Program} {w : World} {a : Addr} {kvs : List (Key × V)} {ep : Nat} {g : TG} {tb : TS} {D : Ends} {σ : St} {H : Hp} (Pv : Nat → St → Hp → Prop) (h0 : Pv 0 σ H) (hl : ∀ i σ H, i ≤ kvs.length → Pv i σ H → H a = some (FzD P w a kvs ep))
    (hs : ∀ i k x σ H, kvs[i]? = some (k, x) → Pv i σ H → g x σ H fun σ2 H2 => tb { D with nx := Pv (i + 1), ct := Pv (i + 1), bk := D.nx } σ2 H2) (hd : ∀ σ H, Pv kvs.length σ H → D.nx σ H) :
    ∃ W : Nat → Nat → St → Hp → Prop, (∃ m, W 0 m σ H) ∧ ∀ i m σ H, W i m σ H →
      ((Itw P w a kvs ep).stop i H ∧ D.nx σ H) ∨ ((Itw P w a kvs ep).go i H ∧ ∃ N : St → Hp → Prop, (∀ σ' H', N σ' H' → ∃ m', m' < m ∧ W (i + 1) m' σ' H') ∧ ∀ x H', (Itw P w a kvs ep).yld i H x H' → g x σ H' fun σ2 H2 => tb { D with nx := N, ct := N, bk := D.nx } σ2 H2) := by
  refine ⟨fun i m σ H => m + i = kvs.length ∧ Pv i σ H, ⟨kvs.length, rfl, h0⟩, fun i m σ H ⟨hm, p⟩ => ?_⟩
  have q1 := hl i σ H (by omega) p
  rcases Nat.eq_zero_or_pos m with z | z
  · exact .inl ⟨⟨q1, by omega⟩, hd σ H ((show i = kvs.length by omega) ▸ p)⟩
  · refine .inr ⟨⟨q1, by omega⟩, Pv (i + 1), fun σ' H' p' => ⟨m - 1, by omega, by omega, p'⟩, fun x H' y => ?_⟩
    obtain ⟨rfl, k, hk⟩ := y
    exact hs i k x σ _ hk p
end
end L2

/-! ### a text times a whole number -/
namespace L2
open PySem PySem.Spec PyProof.Rows
/-- a text, so many times -/
def repS (x : Str) (k : Int) : Str := ⟨((List.replicate k.toNat x.cps.toList).flatten).toArray⟩
section
variable {X : Cx}
end
end L2

/-! ### xs[i] op= e, xs a list -/
namespace L2
open PySem PySem.Spec PyProof.Rows
section
variable {X : Cx}
end
end L2

/-! ### sorting what already rises: one run, nothing moves -/
namespace L2
open PySem PySem.Spec PyProof.Rows PySem.W
/-- the places as they stand -/
abbrev ids (n : Nat) : Array Nat := List.toArray (List.range n)
section
variable {prog : Program} {w : World} {A : Around} {E : Value → Shared → Prop} {κ : SortKind} {it : Array Keyed} {s : Shared}
end
section
variable {X : Cx}
end
end L2

/-! ### what a piece of the machine leaves of the objects' dicts -/
namespace L2
open PySem
/-- no call, and no update that changes an object's dict or frees it -/
def Soft {α : Type} : Sem α → Prop
  | .rule _ k => Soft (k ())
  | .at _ k => Soft (k ())
  | .point _ k => Soft (k ())
  | .load _ _ k => ∀ o, Soft (k o)
  | .update _ _ f k => (∀ o, (f o).dict = o.dict ∧ (f o).isFreed = o.isFreed) ∧ Soft (k ())
  | .alloc _ k => ∀ a, Soft (k a)
  | .loadIfAlive _ k => ∀ o, Soft (k o)
  | .fresh k => ∀ x, Soft (k x)
  | .ask k => ∀ x, Soft (k x)
  | .handled _ k => ∀ x, Soft (k x)
  | .stack k => ∀ l, Soft (k l)
  | .pure _ | .raise _ | .unsupported _ | .finish _ => True
  | .register _ _ => True
  | _ => False
/-- every object is there still, with its dict -/
def KeptD (h h' : Heap) : Prop := ∀ b o, h.get? b = some o → ∃ o', h'.get? b = some o' ∧ o'.dict = o.dict
end L2

/-! ### a class of exceptions with an __init__ of its own -/
namespace L2
open PySem PySem.Spec PyProof.Rows
/-- what an exception is when it has just been made, or while its __init__ runs -/
abbrev excObj (C t : Addr) (od : Option Addr) : Obj := { cls := .ref C, dict := od, data := .fields #[.ref t, .none, .none, .none, .bool false, .none] }
section
variable {prog : Program} {w : World} {A : Around} {E : Value → Shared → Prop} {h : Heap} {g : Array GenState} {d : Drawn} {t : Nat} {os : OsState}
variable {nm q : Str} {C N f : Addr} {bs bm bmB : List Value} {hdct : Bool} {sn : List Str} {sub : List Value} {ab : Bool} {col : Option Bool} {dd : Option Addr} {k0 k1 k2 k3 k5 : Option Value} {B newId initId : String} {mN : Str → Option Value} {us : List Value}
end
end L2

/-! ### self.x = v, self an exception without a dict -/
namespace L2
open PySem PySem.Spec PyProof.Rows Builtin Builtin.ObjectAttr
section
variable {prog : Program} {w : World} {A : Around} {E : Value → Shared → Prop} {h : Heap} {g : Array GenState} {d : Drawn} {t : Nat} {os : OsState}
variable {nm q : Str} {C N x t0 : Addr} {bs bm bmB : List Value} {sn : List Str} {sub : List Value} {ab : Bool} {col : Option Bool} {dd : Option Addr} {k0 k1 k2 k3 k5 : Option Value} {B newId : String} {K : PySem.W.Frag} {name : Str} {v : Value}
end
end L2

/-! ### e.x, e an exception with a dict -/
namespace L2
open PySem PySem.Spec PyProof.Rows
section
variable {prog : Program} {w : World} {A : Around} {E : Value → Shared → Prop} {h : Heap} {g : Array GenState} {d : Drawn} {t : Nat} {os : OsState} {a C dx : Addr} {o : Obj} {vs : Array Value} {K : PySem.W.Frag} {name : Str} {v : Value} {mA : Str → Option Value}
end
end L2

/-! ### the rules -/
namespace L2
open PySem PySem.Spec PyProof.Rows
abbrev VB : List Value := [.type "ValueError", .type "Exception", .type "BaseException", .type "object"]
/-- an exception while its __init__ runs: its class, its dict -/
abbrev exN (ea C : Addr) (od : Option Addr) : HO := .ext fun h => ∃ t : Addr, h.get? ea = some (excObj C t od)
/-- a class of exceptions below ValueError, its instances have a dict -/
def excD (K : PySem.W.Frag) (C : Addr) : Bool := match K.lookup C with
  | some o => (match o.data with
    | .cls cd => o.cls == .type "type" && (cd.mro == .ref C :: cd.mro.tail && (o.slots.toList == [o.slots.getD 0 none, o.slots.getD 1 none, o.slots.getD 2 none, o.slots.getD 3 none, some (.builtin "ValueError.__new__"), o.slots.getD 5 none] && (cd.hasDel == false && (cd.hasDict && PySem.W.tailIn K VB cd.mro.tail))))
    | _ => false)
  | none => false
/-- what the top says of a class of exceptions with an __init__ of its own -/
structure ExcN (K : PySem.W.Frag) (mg : Str → Option Value) (x : Str) (C f : Addr) : Prop where
  at' : mg x = some (.ref C)
  ob : excD K C = true
  init : PySem.W.findIn K (.ref C) "__init__" = some (some (.ref f))
  fn : PySem.W.isFn K (.ref f) = true
  kp : PySem.W.keepIn K (.ref C) = true
  sa : PySem.W.findIn K (.ref C) "__setattr__" = some (some (.builtin "object.__setattr__"))
  hd : PySem.W.hasDictIn K C = true
  i : ExcI K C
/-- ValueError.__init__, read from the class above -/
structure ClsI (K : PySem.W.Frag) (C : Addr) : Prop where
  sg : PySem.W.specialIn K (.ref C) "__getattribute__" = some (some (.builtin "type.__getattribute__"))
  rd : PySem.W.readsIn K C (.type "type") = true
  fc : PySem.W.findCls K (.ref C) (.type "type") "__init__" = some (.val (.builtin "ValueError.__init__"))
section
variable {X : Cx} {C Cp : Addr} {o value e : Expr} {es : List Expr} {f : Str} {pos apos pos' : Pos} {ta tv : TE} {t : TA}
/-- Base.__init__(self, ..), self an exception -/
def tBaseI (K : PySem.W.Frag) (Cp : Addr) (ta : TE) (t : TA) : TE := fun σ H Q => ta σ H fun x H1 => x = .ref Cp ∧ t σ H1 fun vs H2 => ∃ ea C od ws, vs = .ref ea :: ws ∧ H2 ea = some (exN ea C od) ∧ excD K C = true ∧ ws.length ≤ sizeLine ∧ Q .non H2
/-- self.f = value, self an exception without a dict -/
def sFldN (K : PySem.W.Frag) (ta tv : TE) (f : Str) : TS := fun D σ H => tv σ H fun y H1 => ta σ H1 fun x H2 => ∃ ea C, x = .ref ea ∧ H2 ea = some (exN ea C none) ∧ excD K C = true ∧ PySem.W.findIn K (.ref C) "__setattr__" = some (some (.builtin "object.__setattr__")) ∧ NoAttr K C f ∧ PySem.W.mroIn K C (.type "object") = some true ∧
  ∀ d, H2 d = none → d ≠ ea → D.nx σ (upd (upd H2 ea (exN ea C (some d))) d (.xd [(f, y)]))
/-- e.f, e an exception that is held, f in its dict -/
def tFldE (K : PySem.W.Frag) (ta : TE) (f : Str) : TE := fun σ H Q => ta σ H fun x H1 => ∃ ea C da fs v, x = .ref ea ∧ H1 ea = some (.ext fun h => ∃ (o : Obj) (vs : Array Value), h.get? ea = some o ∧ o.cls = .ref C ∧ o.data = .fields vs ∧ o.dict = some da) ∧ H1 da = some (.xd fs) ∧ fs.lookup f = some v ∧ ExcI K C ∧ NoAttr K C f ∧ PySem.W.hasDictIn K C = true ∧ Q v H1
end
end L2

/-! ### an exception with a dict: made, raised, passed on, caught -/
namespace L2
open PySem PySem.Spec PyProof.Rows
/-- the abstract heap without the object at a -/
def offE (H : Hp) (a : Addr) : Hp := fun b => if b = a then none else H b
/-- how an exception lies behind a call, its dict told -/
def CXd (P : Program) (w : World) : CXT := fun outer H s E e s' => ∃ (ea : Addr) (cls : Value) (H' : Hp) (B : Heap) (a0 : Value) (od : Option Addr), e = .ref ea ∧ Fly P w outer H s cls H' ea B a0 s' ∧ (∃ o, s'.heap.get? ea = some o ∧ o.dict = od) ∧ E cls od H'
section
variable {X : Cx} {pins : List (Addr × Obj)} {σ : St} {H : Hp} {s s' : Shared} {M : Model} {E : Value → Shared → Prop} {Q : Unit → Shared → Prop}
end
section
variable {P : Program} {w : World} {K : PySem.W.Frag} {mg : Str → Option Value} {base : Heap}
end
end L2

namespace L2
open PySem PySem.Spec PyProof.Rows
section
variable {X : Cx} {CX : CXT} {k : Nat} {f C : Addr} {fd : FuncData} {ps : List Str} {sp : Sp} {E : XK} {x : Str} {p pos : Pos} {e : Expr} {es : List Expr} {t : TA} {te : TE}
/-- C(e, ..), C a class of exceptions with an __init__ of its own -/
def tMakeN (C : Addr) (sp : Sp) (E : XK) (t : TA) : TE := fun σ H Q => t σ H fun vs H1 => vs.length ≤ sizeLine ∧ ∀ ea, H1 ea = none → sp (.ref ea :: vs) (upd H1 ea (exN ea C none)) (fun v H2 => v = .non ∧ Q (.ref ea) H2) E
end
section
variable {P : Program} {w : World} {K : PySem.W.Frag} {mg : Str → Option Value} {base : Heap} {N : List Str} {qual : Str} {scope : Scope} {f : Addr} {cd : Value} {A : Around} {outer : List Env} {s₀ : Shared} {H₀ : Hp} {E : XK} {e : Expr} {te : TE} {pos : Pos}
/-- raise e, e a new exception with an __init__ of its own -/
def tRaiseV (K : PySem.W.Frag) (H₀ : Hp) (E : XK) (te : TE) : TS := fun _ σ H => te σ H fun x H1 => ∃ ea C od, x = .ref ea ∧ H1 ea = some (exN ea C od) ∧ excD K C = true ∧ H₀ ea = none ∧ E (.ref C) od (offE H1 ea)
end
end L2

/-! ### try: f(..) except C as n: .., the exception's dict told -/
namespace L2
open PySem PySem.Spec PyProof.Rows
/-- an exception that is held, its dict -/
abbrev exOD (ea : Addr) (cls : Value) (od : Option Addr) : HO := .ext fun h => ∃ (o : Obj) (vs : Array Value), h.get? ea = some o ∧ o.cls = cls ∧ o.data = .fields vs ∧ o.dict = od
def PExd (X : Cx) (e : Expr) (tx : St → Hp → VK → (Value → Option Addr → Hp → Prop) → Prop) : Prop :=
  ∀ (pins : List (Addr × Obj)) (s : Shared) (σ : St) (H : Hp) (Q : VK) (Ex : Value → Option Addr → Hp → Prop), Inv X pins σ H s → tx σ H Q Ex →
    wpAny (model X.prog X.w) X.A (eval e X.env) (EP X pins σ Q) (fun ev s' => ∃ H1 s1, Inv X pins σ H1 s1 ∧ CXd X.prog X.w X.stack H1 s1 Ex ev s') s
section
variable {X : Cx} {k : Nat} {f : Addr} {fd : FuncData} {ps : List Str} {sp : Sp} {dvs : List V} {ds : List Value} {x : Str} {p pos : Pos} {e : Expr} {es : List Expr} {t : TA}
end
def tTryAsD (K : PySem.W.Frag) (tx : St → Hp → VK → (Value → Option Addr → Hp → Prop) → Prop) (C : Addr) (i : Nat) (tb : Addr → TS) : TS := fun D σ H => tx σ H (fun _ H1 => D.nx σ H1) fun cls od H1 =>
  PySem.W.exmOne K cls (.ref C) = some true ∧ ∀ ea, H1 ea = none → tb ea { nx := fun _ _ => False, rt := D.rt } (σ.set i (some (.ref ea))) (upd H1 ea (exOD ea cls od))
end L2

namespace L2
open PySem PySem.Spec PyProof.Rows
end L2

namespace L2
open PySem PySem.Spec PyProof.Rows
section
variable {X : Cx} {k : Nat} {f C1 C2 : Addr} {fd : FuncData} {ps : List Str} {sp : Sp} {m : Str} {pos apos : Pos} {e o : Expr} {es : List Expr} {ta : TE} {t : TA}
end
end L2

namespace L2
open PySem PySem.Spec PyProof.Rows
end L2

namespace L2
open PySem PySem.Spec PyProof.Rows
/-- raise C(e, ..), C a class of exceptions without an __init__ of its own, where dicts are told -/
def tRaiseD (t : TA) (C : Addr) (E : XK) : TS := fun _ σ H => t σ H fun vs H1 => vs.length ≤ sizeLine ∧ ∀ od, E (.ref C) od H1
section
variable {P : Program} {w : World} {K : PySem.W.Frag} {mg : Str → Option Value} {base : Heap} {N : List Str} {qual : Str} {scope : Scope} {f C : Addr} {cd : Value} {A : Around} {outer : List Env} {s₀ : Shared} {H₀ : Hp} {E : XK} {x : Str} {e : Expr} {es : List Expr} {t : TA} {np cpos pos : Pos}
end
end L2

/-! ### a set laid anew: there is always a free slot -/
namespace L2
open PySem
/-- the slots' walk, once the hash is used up -/
def lp (m i : Nat) : Nat := (i * 5 + 1) % m
def lpn (m : Nat) : Nat → Nat → Nat
  | 0, i => i
  | n + 1, i => lpn m n (lp m i)
theorem lpn_add (m : Nat) : ∀ a b i, lpn m (a + b) i = lpn m b (lpn m a i)
  | 0, b, i => by rw [Nat.zero_add]; rfl
  | a + 1, b, i => by rw [Nat.add_right_comm]; exact lpn_add m a b _
def Msk (mask : Nat) : Prop := mask = 7 ∨ mask = 15 ∨ mask = 31 ∨ mask = 63 ∨ mask = 127
/-- from 0 every slot is met, and then 0 again -/
theorem lp_zero {mask : Nat} (h : Msk mask) : (∀ j, j < mask + 1 → ∃ n, n < mask + 1 ∧ lpn (mask + 1) n 0 = j) ∧ lpn (mask + 1) (mask + 1) 0 = 0 := by
  have key : ∀ k : Nat, (List.range (k + 1)).all (fun j => (List.range (k + 1)).any fun n => lpn (k + 1) n 0 == j) = true → ∀ j, j < k + 1 → ∃ n, n < k + 1 ∧ lpn (k + 1) n 0 = j := fun k e j hj => by
    have := List.all_eq_true.mp e j (List.mem_range.mpr hj)
    obtain ⟨n, hn, q⟩ := List.any_eq_true.mp this
    exact ⟨n, List.mem_range.mp hn, eq_of_beq q⟩
  rcases h with rfl | rfl | rfl | rfl | rfl
  · exact ⟨key 7 (by decide +kernel), by decide +kernel⟩
  · exact ⟨key 15 (by decide +kernel), by decide +kernel⟩
  · exact ⟨key 31 (by decide +kernel), by decide +kernel⟩
  · exact ⟨key 63 (by decide +kernel), by decide +kernel⟩
  · exact ⟨key 127 (by decide +kernel), by decide +kernel⟩
theorem lp_all {mask : Nat} (h : Msk mask) {i j : Nat} (hi : i < mask + 1) (hj : j < mask + 1) : ∃ n, n < mask + 1 ∧ lpn (mask + 1) n i = j := by
  obtain ⟨z, e0⟩ := lp_zero h
  obtain ⟨a, ha, ea⟩ := z i hi
  obtain ⟨b, hb, eb⟩ := z j hj
  by_cases c : a ≤ b
  · refine ⟨b - a, by omega, ?_⟩
    rw [← ea, ← lpn_add, show a + (b - a) = b by omega, eb]
  · refine ⟨mask + 1 - a + b, by omega, ?_⟩
    rw [← ea, ← lpn_add, show a + (mask + 1 - a + b) = (mask + 1) + b by omega, lpn_add, e0, eb]
theorem leap0 (mask i : Nat) : SetTable.leap mask i 0 = (lp (mask + 1) i, 0) := by unfold SetTable.leap lp; simp
theorem find_range {p : Nat → Bool} {n k : Nat} (h : (List.range n).find? p = some k) : k < n ∧ p k = true := ⟨List.mem_range.mp (List.mem_of_find?_eq_some h), List.find?_some h⟩
/-- a slot that is found is free -/
theorem free_is {mask : Nat} {owner : Array (Option Nat)} : ∀ (fuel i pt j : Nat), SetTable.layClean.free mask owner fuel i pt = some j → (owner.getD j (some 0)).isNone = true
  | 0, _, _, _, h => by cases h
  | fuel + 1, i, pt, j, h => by
    unfold SetTable.layClean.free at h
    split at h
    · rename_i k e
      obtain rfl := Option.some.inj h
      exact (find_range e).2
    · exact free_is fuel _ _ _ h
theorem free_at {mask : Nat} {owner : Array (Option Nat)} {fuel i pt : Nat} (h : (owner.getD i (some 0)).isNone = true) : ∃ j, SetTable.layClean.free mask owner (fuel + 1) i pt = some j := by
  unfold SetTable.layClean.free
  have : ∃ k, (List.range (SetTable.runEnd mask i + 1 - i)).find? (fun k => (owner.getD (i + k) (some 0)).isNone) = some k := by
    have l : 0 < SetTable.runEnd mask i + 1 - i := by unfold SetTable.runEnd; split <;> omega
    refine Option.isSome_iff_exists.mp (List.find?_isSome.mpr ⟨0, List.mem_range.mpr l, ?_⟩)
    rw [Nat.add_zero]
    exact h
  obtain ⟨k, e⟩ := this
  rw [e]
  exact ⟨_, rfl⟩
theorem free_step {mask : Nat} {owner : Array (Option Nat)} {fuel i pt : Nat} (h : ∃ j, SetTable.layClean.free mask owner fuel (SetTable.leap mask i pt).1 (SetTable.leap mask i pt).2 = some j) : ∃ j, SetTable.layClean.free mask owner (fuel + 1) i pt = some j := by
  unfold SetTable.layClean.free
  split
  · exact ⟨_, rfl⟩
  · exact h
theorem free_zero {mask : Nat} {owner : Array (Option Nat)} {j0 : Nat} (hj : (owner.getD j0 (some 0)).isNone = true) : ∀ (n fuel i : Nat), lpn (mask + 1) n i = j0 → ∃ j, SetTable.layClean.free mask owner (n + 1 + fuel) i 0 = some j
  | 0, fuel, i, e => by
    have e : i = j0 := e
    rw [e, Nat.add_comm]
    exact free_at hj
  | n + 1, fuel, i, e => by
    rw [show n + 1 + 1 + fuel = (n + 1 + fuel) + 1 by omega]
    refine free_step ?_
    rw [leap0]
    exact free_zero hj n fuel _ e
theorem leap_lt (mask i pt : Nat) : (SetTable.leap mask i pt).1 < mask + 1 := Nat.mod_lt _ (Nat.succ_pos _)
theorem leap_pt (mask i pt : Nat) : (SetTable.leap mask i pt).2 = pt / 32 := rfl
theorem free_down {mask : Nat} (hm : Msk mask) {owner : Array (Option Nat)} {j0 : Nat} (hj : (owner.getD j0 (some 0)).isNone = true) (h0 : j0 < mask + 1) : ∀ (n i pt : Nat), i < mask + 1 → pt < 32 ^ n → ∀ fuel, n + (mask + 1) ≤ fuel → ∃ j, SetTable.layClean.free mask owner fuel i pt = some j
  | 0, i, pt, hi, hp, fuel, hf => by
    obtain rfl : pt = 0 := by have : pt < 1 := hp; omega
    obtain ⟨n, hn, e⟩ := lp_all hm hi h0
    have := free_zero hj n (fuel - (n + 1)) i e
    rwa [show n + 1 + (fuel - (n + 1)) = fuel by omega] at this
  | n + 1, i, pt, hi, hp, fuel, hf => by
    obtain ⟨f, rfl⟩ : ∃ f, fuel = f + 1 := ⟨fuel - 1, by omega⟩
    refine free_step (free_down hm hj h0 n _ _ (leap_lt _ _ _) ?_ f (by omega))
    rw [leap_pt]
    rw [Nat.pow_succ] at hp
    exact Nat.div_lt_of_lt_mul (by rw [Nat.mul_comm]; exact hp)
theorem free_some {mask : Nat} (hm : Msk mask) {owner : Array (Option Nat)} {j0 : Nat} (hj : (owner.getD j0 (some 0)).isNone = true) (h0 : j0 < mask + 1) (h : Int) : ∃ j, SetTable.layClean.free mask owner (SetTable.turns mask) (SetTable.bits h % (mask + 1)) (SetTable.bits h) = some j := by
  refine free_down hm hj h0 13 _ _ (Nat.mod_lt _ (Nat.succ_pos _)) ?_ _ (by unfold SetTable.turns; omega)
  have : SetTable.bits h < 2 ^ 64 := by
    unfold SetTable.bits
    have := Int.emod_lt_of_pos h (show (0 : Int) < 2 ^ 64 by decide)
    have := Int.emod_nonneg h (show (2 ^ 64 : Int) ≠ 0 by decide)
    omega
  exact Nat.lt_of_lt_of_le this (by decide)
/-- the slots' owners: those laid so far, each once -/
structure Own (mask n : Nat) (owner : Array (Option Nat)) : Prop where
  sz : owner.size = mask + 1
  pm : (owner.toList.filterMap id).Perm (List.range n)
theorem own_new (mask : Nat) : Own mask 0 (Array.replicate (mask + 1) none) := ⟨by simp, by simp⟩
theorem own_free {mask n : Nat} {owner : Array (Option Nat)} (h : Own mask n owner) (hn : n ≤ mask) : ∃ j0, j0 < mask + 1 ∧ (owner.getD j0 (some 0)).isNone = true := by
  apply Classical.byContradiction
  intro c
  have all : ∀ x ∈ owner.toList, x.isSome = true := fun x hx => by
    obtain ⟨i, hi, e⟩ := List.mem_iff_getElem.mp hx
    rw [Array.length_toList] at hi
    cases x with
    | some _ => rfl
    | none =>
      exfalso
      refine c ⟨i, by rw [← h.sz]; exact hi, ?_⟩
      have e2 : owner[i] = none := by simpa using e
      simp [Array.getD, hi, e2]
  have l : (owner.toList.filterMap id).length = owner.toList.length := by
    generalize owner.toList = l at all
    induction l with
    | nil => rfl
    | cons x l ih =>
      have hx := all x List.mem_cons_self
      obtain ⟨y, rfl⟩ := Option.isSome_iff_exists.mp hx
      rw [List.filterMap_cons_some (f := id) (b := y) rfl, List.length_cons, List.length_cons, ih fun z hz => all z (List.mem_cons_of_mem _ hz)]
  rw [h.pm.length_eq, List.length_range, Array.length_toList, h.sz] at l
  omega
theorem fm_set {l : List (Option Nat)} {j k : Nat} (hj : l[j]? = some none) : ((l.set j (some k)).filterMap id).Perm (k :: l.filterMap id) := by
  induction l generalizing j with
  | nil => cases hj
  | cons x l ih =>
    cases j with
    | zero =>
      obtain rfl : x = none := Option.some.inj hj
      exact List.Perm.refl _
    | succ j =>
      rw [List.set_cons_succ]
      cases x with
      | none => exact ih hj
      | some y =>
        rw [List.filterMap_cons_some (f := id) (b := y) rfl, List.filterMap_cons_some (f := id) (b := y) rfl]
        exact ((ih hj).cons y).trans (.swap _ _ _)
theorem own_step {mask n j : Nat} {owner : Array (Option Nat)} (h : Own mask n owner) (hj : (owner.getD j (some 0)).isNone = true) : Own mask (n + 1) (owner.setIfInBounds j (some n)) := by
  have lt : j < owner.size := by
    apply Classical.byContradiction
    intro c
    simp [Array.getD, c] at hj
  have e : owner.toList[j]? = some none := by
    rw [Array.getElem?_toList, Array.getElem?_eq_getElem lt]
    simp [Array.getD, lt] at hj
    rw [hj]
  refine ⟨by rw [Array.size_setIfInBounds]; exact h.sz, ?_⟩
  rw [Array.toList_setIfInBounds, List.range_succ]
  exact (fm_set e).trans ((h.pm.cons n).trans (List.perm_append_singleton n _).symm)
theorem lay_go {mask : Nat} (hm : Msk mask) : ∀ (hs : List Int) (n : Nat) (owner : Array (Option Nat)), Own mask n owner → n + hs.length ≤ mask → ∃ o2, hs.foldl (fun acc h => do
    let (owner, k) ← acc
    let j ← SetTable.layClean.free mask owner (SetTable.turns mask) (SetTable.bits h % (mask + 1)) (SetTable.bits h)
    pure (owner.setIfInBounds j (some k), k + 1)) (some (owner, n)) = some (o2, n + hs.length) ∧ Own mask (n + hs.length) o2
  | [], n, owner, h, _ => ⟨owner, rfl, h⟩
  | x :: hs, n, owner, h, hl => by
    rw [List.length_cons] at hl
    obtain ⟨j0, h0, hj0⟩ := own_free h (by omega)
    obtain ⟨j, ej⟩ := free_some hm hj0 h0 x
    have st := own_step h (free_is _ _ _ _ ej)
    obtain ⟨o2, e2, g⟩ := lay_go hm hs (n + 1) _ st (by omega)
    refine ⟨o2, ?_, by rw [List.length_cons, show n + (hs.length + 1) = n + 1 + hs.length by omega]; exact g⟩
    rw [List.foldl_cons, List.length_cons, show n + (hs.length + 1) = n + 1 + hs.length by omega, ← e2]
    congr 1
    show (SetTable.layClean.free mask owner (SetTable.turns mask) (SetTable.bits x % (mask + 1)) (SetTable.bits x)).bind _ = _
    rw [ej]
    rfl
theorem lay_some {mask : Nat} (hm : Msk mask) (hs : Array Int) (hl : hs.size ≤ mask) : ∃ owner, SetTable.layClean mask hs = some owner ∧ Own mask hs.size owner := by
  obtain ⟨o2, e, g⟩ := lay_go hm hs.toList 0 _ (own_new mask) (by rw [Array.length_toList]; omega)
  rw [Nat.zero_add, Array.length_toList] at g e
  refine ⟨o2, ?_, g⟩
  unfold SetTable.layClean
  rw [← Array.foldl_toList]
  rw [e]
  rfl
/-- the table that is laid: its places rise, its order holds each once -/
theorem laid_some {mask : Nat} (hm : Msk mask) (fi mo : Nat) (led plain : Bool) (hs : Array Int) (hl : hs.size ≤ mask) : ∃ t order, SetTable.laid mask fi mo led plain hs = some (t, order) ∧ t.mask = mask ∧ t.dummies = #[] ∧ t.led = led ∧ t.place.toList.Pairwise (· < ·) ∧ t.place.size = hs.size ∧ order.toList.Perm (List.range hs.size) := by
  obtain ⟨owner, e, g⟩ := lay_some hm hs hl
  have ef : ∀ (l : List (Option Nat)) (b : Nat) (w : Array (Option Nat)), (∀ i, i < l.length → w.getD (b + i) none = l.getD i none) → ((List.range' b l.length).filterMap fun j => (w.getD j none).map (j, ·)).map (·.2) = l.filterMap id := by
    intro l
    induction l with
    | nil => intro b w _; rfl
    | cons x l ih =>
      intro b w hw
      have h0 := hw 0 (Nat.succ_pos _)
      have ih2 := ih (b + 1) w fun i hi => by rw [show b + 1 + i = b + (i + 1) by omega]; exact hw (i + 1) (Nat.succ_lt_succ hi)
      rw [List.length_cons, List.range'_succ]
      have h0 : w.getD b none = x := h0
      cases x with
      | none => rw [List.filterMap_cons_none (by rw [h0]; rfl)]; exact ih2
      | some y => rw [List.filterMap_cons_some (b := (b, y)) (by rw [h0]; rfl), List.map_cons, ih2]; rfl
  have e2 := ef owner.toList 0 owner fun i hi => by
    rw [Array.length_toList] at hi
    simp [Array.getD, hi]
  rw [Array.length_toList, g.sz, ← List.range_eq_range'] at e2
  refine ⟨_, _, by unfold SetTable.laid; rw [e]; rfl, rfl, rfl, rfl, ?_, ?_, ?_⟩
  · show ((List.map (·.1) ((List.range (mask + 1)).filterMap fun j => (owner.getD j none).map (j, ·))).toArray).toList.Pairwise (· < ·)
    rw [List.toList_toArray]
    have up : (List.range (mask + 1)).Pairwise (· < ·) := List.pairwise_lt_range
    generalize List.range (mask + 1) = l at up
    clear e2 ef
    induction l with
    | nil => exact .nil
    | cons a l ih =>
      obtain ⟨h1, h2⟩ := List.pairwise_cons.mp up
      have ih := ih h2
      cases c : (owner.getD a none).map (a, ·) with
      | none => rw [List.filterMap_cons_none (f := fun j => (owner.getD j none).map (j, ·)) c]; exact ih
      | some z =>
        rw [List.filterMap_cons_some (f := fun j => (owner.getD j none).map (j, ·)) c, List.map_cons]
        refine List.pairwise_cons.mpr ⟨fun y hy => ?_, ih⟩
        obtain ⟨q, hq, rfl⟩ := List.mem_map.mp hy
        obtain ⟨j, hj, ej⟩ := List.mem_filterMap.mp hq
        obtain ⟨v, _, rfl⟩ := Option.map_eq_some_iff.mp ej
        obtain ⟨v2, _, rfl⟩ := Option.map_eq_some_iff.mp c
        exact h1 j hj
  · show ((List.map (·.1) ((List.range (mask + 1)).filterMap fun j => (owner.getD j none).map (j, ·))).toArray).size = hs.size
    have := congrArg List.length e2
    rw [List.length_map, g.pm.length_eq, List.length_range] at this
    rw [List.size_toArray, List.length_map]
    exact this
  · show ((List.map (·.2) ((List.range (mask + 1)).filterMap fun j => (owner.getD j none).map (j, ·))).toArray).toList.Perm _
    rw [List.toList_toArray, e2]
    exact g.pm
/-- the elements in the table's order -/
theorem order_perm {α : Type} (es : Array α) {order : Array Nat} (p : order.toList.Perm (List.range es.size)) : (order.filterMap (es[·]?)).toList.Perm es.toList := by
  rw [Array.toList_filterMap]
  have := p.filterMap (es[·]?)
  rwa [filterMap_getElem?_range] at this
end L2

/-! ### one set less another -/
namespace L2
open PySem PySem.Spec PyProof.Rows
section
variable {P : Program} {w : World} {A : Around} {E : Value → Shared → Prop} {s : Shared}
/-- a set, to the letter -/
def SetZ (P : Program) (w : World) (h : Heap) (a : Addr) (es : Array (Int × Value)) (ep : Nat) (t : SetTable) (ks : List Key) : Prop :=
  ∃ o, h.get? a = some o ∧ o.ExactSet ∧ o.data = .set es ep t ∧ EK P w es.toList ks ∧ es.size < scanBound ∧ t.fits es.size = true ∧ t.place.toList.Pairwise (· < ·) ∧ t.led = !byT w
theorem SetZ.y {h : Heap} {a : Addr} {es : Array (Int × Value)} {ep : Nat} {t : SetTable} {ks ds : List Key} (x : SetZ P w h a es ep t ks) (p : ks.Perm ds) : SetY P w h a ds := by
  obtain ⟨o, h1, h2, h3, h4, h5, h6, h7, h8⟩ := x
  exact ⟨o, es, ep, t, ks, h1, h2, h3, h4, p, h5, h6, h7, h8⟩
theorem SetY.z {h : Heap} {a : Addr} {ds : List Key} (x : SetY P w h a ds) : ∃ es ep t ks, SetZ P w h a es ep t ks ∧ ks.Perm ds := by
  obtain ⟨o, es, ep, t, ks, h1, h2, h3, h4, p, h5, h6, h7, h8⟩ := x
  exact ⟨es, ep, t, ks, ⟨o, h1, h2, h3, h4, h5, h6, h7, h8⟩, p⟩
theorem SetZ.moved {h h' : Heap} {a : Addr} {es : Array (Int × Value)} {ep : Nat} {t : SetTable} {ks : List Key} (x : SetZ P w h a es ep t ks) (k : ∀ o, h.get? a = some o → h'.get? a = some o) : SetZ P w h' a es ep t ks := by
  obtain ⟨o, ho, rest⟩ := x
  exact ⟨o, k o ho, rest⟩
theorem SetZ.ty {a : Addr} {es : Array (Int × Value)} {ep : Nat} {t : SetTable} {ks : List Key} (x : SetZ P w s.heap a es ep t ks) : s.TypeIs (.ref a) "set" := by
  obtain ⟨o, ho, ex, _⟩ := x
  exact ⟨o, ho, ex.1⟩
theorem SetZ.state {a : Addr} {es : Array (Int × Value)} {ep : Nat} {t : SetTable} {ks : List Key} {Q : (Array (Int × Value) × Nat × SetTable) → Shared → Prop} (x : SetZ P w s.heap a es ep t ks) (h : Q (es, ep, t) s) : wpAny (model P w) A (setState a) Q E s := by
  obtain ⟨o, ho, _, hd, _, _, hf, _⟩ := x
  exact wpAny_setState_of ho hd hf h
theorem SetZ.size {a : Addr} {h : Heap} {es : Array (Int × Value)} {ep : Nat} {t : SetTable} {ks : List Key} (x : SetZ P w h a es ep t ks) : es.size = ks.length := by
  obtain ⟨o, ho, _, hd, ek, _⟩ := x
  rw [← Array.length_toList, ek.length]
theorem SetZ.entries {a : Addr} {es : Array (Int × Value)} {ep : Nat} {t : SetTable} {ks : List Key} {Q : Array (Int × Value) → Shared → Prop} (x : SetZ P w s.heap a es ep t ks) (h : Q es s) : wpAny (model P w) A (setEntries a) Q E s := by
  unfold setEntries
  exact wpAny_bind (x.state (wpAny_pure h))
theorem SetZ.epoch {a : Addr} {es : Array (Int × Value)} {ep : Nat} {t : SetTable} {ks : List Key} {Q : Nat → Shared → Prop} (x : SetZ P w s.heap a es ep t ks) (h : Q ep s) : wpAny (model P w) A (setEpoch a) Q E s := by
  unfold setEpoch
  exact wpAny_bind (x.state (wpAny_pure h))
/-- stored anew -/
theorem SetZ.put {a : Addr} {es es' : Array (Int × Value)} {ep : Nat} {t t' : SetTable} {ks ks' : List Key} {Q : Unit → Shared → Prop} (x : SetZ P w s.heap a es ep t ks) (ek : EK P w es'.toList ks') (hb : es'.size < scanBound) (hf : t'.fits es'.size = true) (up : t'.place.toList.Pairwise (· < ·)) (led : t'.led = !byT w)
    (h : ∀ h', Heap.SameBut a s.heap h' → SetZ P w h' a es' (ep + 1) t' ks' → Q () { s with heap := h' }) : wpAny (model P w) A (storeSet a es' t') Q E s := by
  obtain ⟨o, ho, ex, hd, _⟩ := x
  exact put_x ho hd hb fun h' sb e => h h' sb ⟨_, e, ex, rfl, ek, hb, hf, up, led⟩
/-- a new set -/
theorem new_set {Q : Value → Shared → Prop} (h : ∀ h', s.heap.objs.size + 1 = h'.objs.size → (∀ b o, s.heap.get? b = some o → h'.get? b = some o) → SetZ P w h' s.heap.objs.size #[] 0 (.fresh 0 0 (!byT w)) [] → Q (.ref s.heap.objs.size) { s with heap := h' }) : wpAny (model P w) A (newSet (.type "set")) Q E s := by
  unfold newSet
  refine wpAny_bind (by_text ?_)
  dsimp only
  simp only [newObj]
  exact wpAny_bind (wpAny_alloc (wpAny_pure (h _ (by rw [Heap.size_push]) (fun b o e => Heap.get?_push_of_some _ e) ⟨_, Heap.get?_push_size _ rfl, ⟨rfl, rfl, rfl⟩, rfl, .nil, by decide, rfl, .nil, rfl⟩)))
theorem isi_set {v : Value} {Q : Bool → Shared → Prop} (hT : s.TypeIs v "set") (h : Q true s) : wpAny (model P w) A (isInstance v (.type "set")) Q E s := wpAny_isInstance hT sub_set_self h
theorem any_set {v : Value} {Q : Bool → Shared → Prop} (hT : s.TypeIs v "set") (h : Q true s) : wpAny (model P w) A (Builtin.Frozenset.isAnySet v) Q E s := by
  unfold Builtin.Frozenset.isAnySet
  refine wpAny_bind (isi_set hT ?_)
  exact wpAny_pure h
theorem base_set {a : Addr} {Q : Value → Shared → Prop} (hT : s.TypeIs (.ref a) "set") (h : Q (.type "set") s) : wpAny (model P w) A (Builtin.Frozenset.baseOf a) Q E s := by
  unfold Builtin.Frozenset.baseOf
  exact wpAny_bind (isi_set hT (wpAny_pure h))
theorem size_set {a : Addr} {es : Array (Int × Value)} {ep : Nat} {t : SetTable} {ks : List Key} {Q : Nat → Shared → Prop} (x : SetZ P w s.heap a es ep t ks) (h : Q es.size s) : wpAny (model P w) A (Builtin.Frozenset.sizeOf a) Q E s := by
  unfold Builtin.Frozenset.sizeOf
  exact wpAny_bind (x.entries (wpAny_pure h))
theorem unch {id : String} {a : Addr} {es : Array (Int × Value)} {ep : Nat} {t : SetTable} {ks : List Key} {Q : Unit → Shared → Prop} (x : SetZ P w s.heap a es ep t ks) (h : Q () s) : wpAny (model P w) A (Builtin.Frozenset.unchanged id a ep) Q E s := by
  unfold Builtin.Frozenset.unchanged
  refine wpAny_bind (x.epoch ?_)
  rw [bne_self_eq_false]
  exact wpAny_pure h
theorem quiet_go {es : List (Int × Value)} {ks : List Key} (h : EK P w es ks) : ∀ e ∈ es, ∀ b, e.2 ≠ .ref b := fun e he b z => by
  have := (h.elems e he).2
  rw [z] at this
  cases this
theorem quiet_sets {sets : List Addr} {Q : Bool → Shared → Prop} (hs : ∀ a ∈ sets, ∃ es ep t ks, SetZ P w s.heap a es ep t ks) (h : Q true s) : wpAny (model P w) A (setsQuiet sets) Q E s := by
  unfold setsQuiet
  refine wpAny_bind (m := forIn sets _ _) (wpAny_forIn_list _ (fun rest b s' => b.1 = none ∧ s' = s ∧ ∀ a ∈ rest, ∃ es ep t ks, SetZ P w s.heap a es ep t ks) _ ?_ ?_ _ _ ⟨rfl, rfl, hs⟩)
  · rintro a rest b s' ⟨hb, rfl, hr⟩
    obtain ⟨es, ep, t, ks, z⟩ := hr a List.mem_cons_self
    refine wpAny_bind (z.entries ?_)
    obtain ⟨o, _, _, _, ek, _⟩ := id z
    have nq := quiet_go ek
    refine wpAny_bind (m := forIn es _ _) (PySem.MeetsSeq2.wpAny_forIn_array _ (fun rest b s2 => b.1 = none ∧ s2 = s' ∧ ∀ e ∈ rest, ∀ b, e.2 ≠ .ref b) _ ?_ ?_ _ _ ⟨rfl, rfl, nq⟩)
    · rintro ⟨hsh, x⟩ rest2 b2 s2 ⟨hb2, rfl, hr2⟩
      have nx := hr2 _ List.mem_cons_self
      cases x with
      | ref c => exact absurd rfl (nx c)
      | _ => exact wpAny_pure ⟨rfl, rfl, fun e he => hr2 e (List.mem_cons_of_mem _ he)⟩
    · rintro ⟨b2, u⟩ s2 ⟨hb2, rfl, _⟩
      dsimp only at hb2
      subst hb2
      exact wpAny_pure ⟨rfl, rfl, fun c hc => hr c (List.mem_cons_of_mem _ hc)⟩
  · rintro ⟨b, u⟩ s' ⟨hb, rfl, _⟩
    dsimp only at hb
    subst hb
    exact wpAny_pure h
/-- a set gone through in some order -/
theorem walk_z {a : Addr} {es : Array (Int × Value)} {ep : Nat} {t : SetTable} {ks : List Key} {Q : Array (Int × Value) → Shared → Prop} (z : SetZ P w s.heap a es ep t ks) (hd : byT w = true ∨ (t.led && t.plain) = true ∨ es.size ≤ 1)
    (h : ∀ es' d, es'.toList.Perm es.toList → Q es' { s with drawn := d }) : wpAny (model P w) A (setWalk a) Q E s := by
  unfold setWalk
  refine wpAny_bind (z.state (wpAny_bind (by_text ?_)))
  cases hT : byT w with
  | true =>
    rw [if_pos rfl]
    exact wpAny_bind (wpAny_askSetting (wpAny_pure (h _ s.drawn (pick_perm _ _))))
  | false =>
    have led : t.led = true := by obtain ⟨o, _, _, _, _, _, _, _, led⟩ := z; rw [led, hT]; rfl
    have dn : (!t.plain && decide (es.size > 1)) = false := by
      rcases hd with q | q | q
      · rw [hT] at q; cases q
      · rw [led, Bool.true_and] at q
        rw [q]; rfl
      · rw [decide_eq_false (by omega), Bool.and_false]
    rw [if_neg Bool.false_ne_true]
    refine ite_no (fun q => ?_) ?_
    · have q : (!t.plain && decide (es.size > 1)) = true := q
      rw [dn] at q
      cases q
    refine wpAny_bind ?_
    show wpAny (model P w) A (if (!t.led && decide (es.size > 1)) = true then (unsupported "set:maker-not-led" : Sem Unit) else pure ()) _ E s
    rw [led]
    exact wpAny_pure (wpAny_pure (h es s.drawn (.refl _)))
/-- a set gone through while nobody sees it; the one that is filled may be marked -/
theorem unseen_z {a : Addr} {others : List Addr} {filled : Option Addr} {es : Array (Int × Value)} {ep : Nat} {t : SetTable} {ks : List Key} {Q : Array (Int × Value) → Shared → Prop} (z : SetZ P w s.heap a es ep t ks) (ho : ∀ b ∈ others, ∃ es ep t ks, SetZ P w s.heap b es ep t ks)
    (h0 : ∀ es' d, es'.toList.Perm es.toList → Q es' { s with drawn := d })
    (hf : filled = none ∨ ∃ f ef epf tf kf, filled = some f ∧ SetZ P w s.heap f ef epf tf kf ∧ ∀ h' t', Heap.SameBut f s.heap h' → SetZ P w h' f ef (epf + 1) t' kf → t'.dummies = tf.dummies → Q es { s with heap := h' }) : wpAny (model P w) A (setWalkUnseen a others filled) Q E s := by
  unfold setWalkUnseen
  refine wpAny_bind (z.state (wpAny_bind (by_text ?_)))
  dsimp only
  by_cases c : byT w = true ∨ (t.led && t.plain) = true ∨ es.size ≤ 1
  · refine ite_ok ?_ (walk_z z c h0)
    rcases c with c | c | c
    · rw [c]; rfl
    · rw [c]; simp
    · simp [c]
  · have n1 : byT w = false := by cases e : byT w with | true => exact absurd (.inl e) c | false => rfl
    have n2 : (t.led && t.plain) = false := by cases e : (t.led && t.plain) with | true => exact absurd (.inr (.inl e)) c | false => rfl
    have n3 : ¬ es.size ≤ 1 := fun q => c (.inr (.inr q))
    refine ite_no (by rw [n1, n2]; simp [n3]) ?_
    refine wpAny_bind (quiet_sets (fun b hb => ?_) ?_)
    · rcases List.mem_cons.mp hb with rfl | hb
      · exact ⟨_, _, _, _, z⟩
      · exact ho b hb
    refine ite_no (by simp) ?_
    refine wpAny_bind (wpAny_rule ?_)
    rcases hf with rfl | ⟨f, ef, epf, tf, kf, rfl, zf, h1⟩
    · exact wpAny_pure (h0 es s.drawn (.refl _))
    · dsimp only
      refine wpAny_bind (zf.state ?_)
      dsimp only
      split
      · obtain ⟨of', g1, g2, g3, g4, g5, g6, g7, g8⟩ := id zf
        have tl : t.led = !byT w := by obtain ⟨o, _, _, _, _, _, _, _, led⟩ := z; exact led
        refine wpAny_bind (zf.put (ks' := kf) g4 g5 g6 g7 (by show (tf.led && t.led) = _; rw [g8, tl, Bool.and_self]) fun h' sb zf' => ?_)
        exact wpAny_pure (h1 h' _ sb zf' rfl)
      · exact wpAny_pure (h0 es s.drawn (.refl _))
theorem SetZ.x {h : Heap} {a : Addr} {es : Array (Int × Value)} {ep : Nat} {t : SetTable} {ks ds : List Key} (z : SetZ P w h a es ep t ks) (p : ks.Perm ds) (d : t.dummies = #[]) : SetX P w h a ds := by
  obtain ⟨o, h1, h2, h3, h4, h5, h6, h7, h8⟩ := z
  exact ⟨o, es, ep, t, ks, h1, h2, h3, h4, p, h5, h6, ⟨h7, d⟩, h8⟩
theorem EK.split {e : Int × Value} {es : List (Int × Value)} {ks : List Key} (h : EK P w (e :: es) ks) : ∃ k kr, ks = k :: kr ∧ (mixKind P w).is k e.2 = true ∧ e.2.scannable = true ∧ e.1 = (mixKind P w).hash k ∧ EK P w es kr := by
  cases h with
  | cons h1 h2 h3 => exact ⟨_, _, rfl, h1, h2, rfl, h3⟩
/-- what is added one by one, unless the other holds it -/
theorem addK_new {ds : List Key} {k : Key} (h : k ∉ ds) : addK ds k = ds ++ [k] := by unfold addK; rw [if_neg (fun z => h (memK_iff.mp z))]
/-- the direct road -/
theorem diff_direct {nm : String} {a o : Addr} {es eo : Array (Int × Value)} {ep epo : Nat} {t tb : SetTable} {ks ds ko dso : List Key} {Q : Value → Shared → Prop} (z : SetZ P w s.heap a es ep t ks) (pk : ks.Perm ds) (nd : ds.Nodup) (zo : SetZ P w s.heap o eo epo tb ko) (po : ko.Perm dso)
    (h : ∀ s', s'.gens = s.gens → s'.os = s.os → s'.toks = s.toks → s.heap.objs.size < s'.heap.objs.size → (∀ b o, s.heap.get? b = some o → s'.heap.get? b = some o) → SetY P w s'.heap s.heap.objs.size (ds.filter fun k => !memK dso k) → Q (.ref s.heap.objs.size) s') (hsz : ks.length < 1000) (sm : ¬ es.size / 4 > eo.size) :
    wpAny (model P w) A (Builtin.Frozenset.difference nm a (.ref o)) Q E s := by
  unfold Builtin.Frozenset.difference
  dsimp only
  refine wpAny_bind (any_set zo.ty ?_)
  refine ite_no (by simp) ?_
  refine wpAny_bind (wpAny_pure ?_)
  refine ite_no (by simp) (ite_ok rfl ?_)
  refine wpAny_bind (size_set zo (wpAny_bind (size_set z ?_)))
  refine ite_no sm ?_
  refine wpAny_bind (base_set z.ty (wpAny_bind (new_set fun h1 hz1 old1 zr => ?_)))
  refine wpAny_bind (wpAny_pure ?_)
  have lt : ∀ {b x}, s.heap.get? b = some x → b ≠ s.heap.objs.size := fun e => Nat.ne_of_lt (Heap.lt_size e)
  have z1 : SetZ P w h1 a es ep t ks := z.moved fun x e => old1 a x e
  have zo1 : SetZ P w h1 o eo epo tb ko := zo.moved fun x e => old1 o x e
  have na : a ≠ s.heap.objs.size := by obtain ⟨x, e, _⟩ := id z; exact lt e
  have no : o ≠ s.heap.objs.size := by obtain ⟨x, e, _⟩ := id zo; exact lt e
  refine wpAny_bind (SetZ.epoch (s := { s with heap := h1 }) z1 ?_)
  refine wpAny_bind (m := holding _ _) (wpAny_holding ?_)
  refine wpAny_bind (ite_ok rfl ?_)
  have nk : ks.Nodup := pk.nodup_iff.mpr nd
  have fin : ∀ (es' : Array (Int × Value)) (h2 : Heap) (d2 : Drawn), es'.toList.Perm es.toList → h2.objs.size = h1.objs.size → (∀ b, b ≠ s.heap.objs.size → h2.get? b = h1.get? b) → SetX P w h2 s.heap.objs.size [] →
      wpAny (model P w) A (do
        forIn es' PUnit.unit fun x __s => do
          holding [x.snd]
            (if true = true then do
              let __do_lift ← setFind o x.snd x.fst
              let there ← pure __do_lift.isSome
              if (!there) = true then do
                  let _ ← setAddHashed s.heap.objs.size x.snd x.fst
                  pure ()
                else pure ()
            else do
              let __do_lift ← dictFind o x.snd x.fst
              let there ← pure __do_lift.isSome
              if (!there) = true then do
                  let _ ← setAddHashed s.heap.objs.size x.snd x.fst
                  pure ()
                else pure ())
          Builtin.Frozenset.unchanged nm a ep
          pure (ForInStep.yield PUnit.unit)
        pure ()) (fun _ s' => wpAny (model P w) A (pure (Value.ref s.heap.objs.size)) Q E s') E { s with heap := h2, drawn := d2 } := by
    intro es' h2 d2 pe hz2 same2 x2
    obtain ⟨o1, _, _, _, ek, _⟩ := id z
    obtain ⟨ka, pa, eka⟩ := ek.perm pe
    have nka : ka.Nodup := pa.nodup_iff.mpr nk
    have la : ka.length < 1000 := by rw [pa.length_eq]; exact hsz
    refine wpAny_bind (m := forIn es' _ _) (PySem.MeetsSeq2.wpAny_forIn_array _ (fun rest _ s' => ∃ h' d' kp kr, s' = { s with heap := h', drawn := d' } ∧ ka = kp ++ kr ∧ EK P w rest kr ∧ h'.objs.size = h1.objs.size ∧ (∀ b, b ≠ s.heap.objs.size → h'.get? b = h1.get? b) ∧ SetX P w h' s.heap.objs.size (kp.filter fun k => !memK dso k)) _ ?_ ?_ _ _ ⟨h2, d2, [], ka, rfl, rfl, eka, hz2, same2, x2⟩)
    · rintro ⟨hh, x⟩ rest u s' ⟨h', d', kp, kr, rfl, ek2, er, hz', same', x'⟩
      obtain ⟨k, kr', rfl, i1, i2, i3, er'⟩ := er.split
      dsimp only at i1 i2 i3
      subst i3
      have zo' : SetZ P w h' o eo epo tb ko := zo1.moved fun x e => by rw [same' o no]; exact e
      have z' : SetZ P w h' a es ep t ks := z1.moved fun x e => by rw [same' a na]; exact e
      have kn : k ∉ kp := fun q => by
        rw [ek2] at nka
        exact (List.nodup_append.mp nka).2.2 k q k List.mem_cons_self rfl
      have lk : (kp.filter fun k => !memK dso k).length + 1 < scanBound := by
        have := List.length_filter_le (fun k => !memK dso k) kp
        rw [ek2, List.length_append] at la
        exact Nat.lt_of_le_of_lt (show _ ≤ 1000 by omega) (by decide)
      refine wpAny_bind (m := holding _ _) (wpAny_holding (ite_ok rfl ?_))
      dsimp only
      have so : Heap.SetOf (mixKind P w) h' o (memK dso) dso.length := SetY.setOf (zo'.y po)
      refine wpAny_bind (wpAny_setFind_of (knd := mixKind P w) (k := k) (x := x) (S := memK dso) (n := dso.length) i1 i2 so fun r hr => ?_)
      refine wpAny_bind (wpAny_pure ?_)
      have step : ∀ h3, h3.objs.size = h1.objs.size → (∀ b, b ≠ s.heap.objs.size → h3.get? b = h1.get? b) → SetX P w h3 s.heap.objs.size ((kp ++ [k]).filter fun k => !memK dso k) → ∃ h' dd kp kr, ({ s with heap := h3, drawn := d' } : Shared) = { s with heap := h', drawn := dd } ∧ ka = kp ++ kr ∧ EK P w rest kr ∧ h'.objs.size = h1.objs.size ∧ (∀ b, b ≠ s.heap.objs.size → h'.get? b = h1.get? b) ∧ SetX P w h' s.heap.objs.size (kp.filter fun k => !memK dso k) := fun h3 hz3 same3 x3 => ⟨h3, d', kp ++ [k], kr', rfl, by rw [ek2, List.append_assoc]; rfl, er', hz3, same3, x3⟩
      have z3 : ∀ h3 : Heap, (∀ b, b ≠ s.heap.objs.size → h3.get? b = h1.get? b) → SetZ P w h3 a es ep t ks := fun h3 same3 => z1.moved fun x e => by rw [same3 a na]; exact e
      cases c : memK dso k with
      | true =>
        rw [hr, c]
        refine ite_no (by simp) (wpAny_pure ?_)
        refine wpAny_bind (unch (s := { s with heap := h', drawn := d' }) (z3 h' same') (wpAny_pure (step h' hz' same' ?_)))
        rw [List.filter_append, show [k].filter (fun k => !memK dso k) = [] by simp [c], List.append_nil]
        exact x'
      | false =>
        rw [hr, c]
        refine ite_ok rfl (wpAny_bind (add_x i1 i2 x' lk fun b h3 sb x3 => wpAny_pure ?_))
        have same3 : ∀ b, b ≠ s.heap.objs.size → h3.get? b = h1.get? b := fun b hb => (sb.2 b hb).trans (same' b hb)
        refine wpAny_bind (unch (s := { s with heap := h3, drawn := d' }) (z3 h3 same3) (wpAny_pure (step h3 (sb.1.trans hz') same3 ?_)))
        rw [addK_new fun q => kn (List.mem_filter.mp q).1] at x3
        rw [List.filter_append, show [k].filter (fun k => !memK dso k) = [k] by simp [c]]
        exact x3
    · rintro u s' ⟨h', d', kp, kr, rfl, ek2, er, hz', same', x'⟩
      cases er
      rw [List.append_nil] at ek2
      subst ek2
      refine wpAny_pure (wpAny_pure (h _ rfl rfl rfl (by show _ < h'.objs.size; omega) (fun b x e => ?_) ?_))
      · show h'.get? b = some x
        rw [same' b (lt e)]
        exact old1 b x e
      · have y := x'.y
        obtain ⟨o2, es2, ep2, t2, ks2, y1, y2, y3, y4, y5, y6⟩ := y
        exact ⟨o2, es2, ep2, t2, ks2, y1, y2, y3, y4, y5.trans ((pa.trans pk).filter _), y6⟩
  refine unseen_z (s := { s with heap := h1 }) z1 (fun b hb => ?_) (fun es' d pe => ?_) (.inr ⟨_, _, _, _, _, rfl, zr, fun h2 t2 sb z2 d2 => ?_⟩)
  · rcases List.mem_cons.mp hb with rfl | hb
    · exact ⟨_, _, _, _, zo1⟩
    · rw [List.mem_singleton.mp hb]
      exact ⟨_, _, _, _, zr⟩
  · exact fin es' h1 d pe rfl (fun _ _ => rfl) (zr.x (.refl _) rfl)
  · exact fin es h2 s.drawn (.refl _) sb.1 (fun b hb => sb.2 b hb) (z2.x (.refl _) d2)
theorem msk_size : ∀ n, n < 64 → 5 ≤ n → Msk (SetTable.sizeAbove (n * 2) - 1) ∧ n ≤ SetTable.sizeAbove (n * 2) - 1 ∧ SetTable.sizeAbove (n * 2) ≤ 1000 := by
  have h : ∀ n : Fin 64, 5 ≤ n.val → ((SetTable.sizeAbove (n.val * 2) - 1 = 7 ∨ SetTable.sizeAbove (n.val * 2) - 1 = 15 ∨ SetTable.sizeAbove (n.val * 2) - 1 = 31 ∨ SetTable.sizeAbove (n.val * 2) - 1 = 63 ∨ SetTable.sizeAbove (n.val * 2) - 1 = 127) ∧ n.val ≤ SetTable.sizeAbove (n.val * 2) - 1 ∧ SetTable.sizeAbove (n.val * 2) ≤ 1000) := by decide +kernel
  exact fun n hn => h ⟨n, hn⟩
/-- room made in a new set -/
theorem room_z {a : Addr} {ep n : Nat} {t : SetTable} {Q : Unit → Shared → Prop} (z : SetZ P w s.heap a #[] ep t []) (ht : t = .fresh 0 0 (!byT w)) (hn : n < 64)
    (h : ∀ h' ep' t', Heap.SameBut a s.heap h' → SetZ P w h' a #[] ep' t' [] → Msk t'.mask → n ≤ t'.mask → t'.place = #[] → t'.dummies = #[] → Q () { s with heap := h' }) : wpAny (model P w) A (setRoomFor a n) Q E s := by
  unfold setRoomFor
  refine wpAny_bind (z.state ?_)
  subst ht
  by_cases c : 5 ≤ n
  · obtain ⟨m1, m2, m3⟩ := msk_size n hn c
    have e : (SetTable.fresh 0 0 (!byT w)).roomFor n = some (n * 2) := by
      unfold SetTable.roomFor SetTable.fill SetTable.fresh
      dsimp only
      rw [if_pos (by show (0 + 0 + n) * 5 ≥ 7 * 3; omega)]
      show some ((0 + n) * 2) = some (n * 2)
      rw [Nat.zero_add]
    dsimp only
    rw [e]
    dsimp only
    unfold setRelay
    refine wpAny_bind (z.state ?_)
    refine ite_no (fun q => ?_) ?_
    · exact absurd (Nat.le_trans m3 (by decide : 1000 ≤ sizeLine)) (Nat.not_le.mpr q)
    obtain ⟨t2, order, e2, tm, td, tl, tu, ts, to⟩ := laid_some m1 0 (SetTable.movedTo (.fresh 0 0 (!byT w)) (SetTable.sizeAbove (n * 2) - 1)) (!byT w) true #[] (Nat.zero_le _)
    have e3 : (SetTable.fresh 0 0 (!byT w)).relaid ((#[] : Array (Int × Value)).map (·.1)) (n * 2) = some (t2, order) := by unfold SetTable.relaid; rw [Array.map_empty]; exact e2
    rw [e3]
    have oe : order = #[] := by
      have := to.length_eq
      rw [Array.length_toList] at this
      exact Array.size_eq_zero_iff.mp this
    subst oe
    have pe : t2.place = #[] := Array.size_eq_zero_iff.mp ts
    refine wpAny_bind (wpAny_pure ?_)
    refine z.put (ks' := []) .nil (by decide) ?_ (by rw [pe]; exact .nil) tl fun h' sb z' => h h' _ t2 sb z' (by rw [tm]; exact m1) (by rw [tm]; exact m2) pe td
    unfold SetTable.fits SetTable.fill
    rw [pe, td]
    simp
  · have e : (SetTable.fresh 0 0 (!byT w)).roomFor n = none := by
      unfold SetTable.roomFor SetTable.fill SetTable.fresh
      dsimp only
      rw [if_neg (by show ¬ (0 + 0 + n) * 5 ≥ 7 * 3; omega)]
    dsimp only
    rw [e]
    exact wpAny_pure (h s.heap _ _ (Heap.SameBut.refl a s.heap) z (.inl rfl) (by show n ≤ 7; omega) rfl rfl)
/-- a copy in a new set -/
theorem merge_z {a r : Addr} {es : Array (Int × Value)} {ep : Nat} {t : SetTable} {ks : List Key} {Q : Unit → Shared → Prop} (z : SetZ P w s.heap a es ep t ks) (zr : SetZ P w s.heap r #[] 0 (.fresh 0 0 (!byT w)) []) (ne : a ≠ r) (h0 : 0 < ks.length) (hn : ks.length < 64)
    (h : ∀ h' er ep' t' kr, Heap.SameBut r s.heap h' → SetZ P w h' r er ep' t' kr → kr.Perm ks → t'.dummies = #[] → Q () { s with heap := h' }) : wpAny (model P w) A (setMerge r a (pure ())) Q E s := by
  have sz := z.size
  unfold setMerge
  refine ite_no (fun q => ne (eq_of_beq q).symm) ?_
  refine wpAny_bind (z.state ?_)
  refine ite_no (fun q => by have q := Array.isEmpty_iff_size_eq_zero.mp q; omega) ?_
  refine wpAny_bind (room_z zr rfl (by omega) fun h1 ep1 t1 sb1 z1 m1 m2 pe de => ?_)
  refine wpAny_bind (SetZ.state (s := { s with heap := h1 }) z1 ?_)
  have za : SetZ P w h1 a es ep t ks := z.moved fun x e => (sb1.2 a ne).trans e
  obtain ⟨o1, _, _, _, ek, hb, hf, up, led⟩ := id za
  have l1 : t1.led = !byT w := by obtain ⟨o, _, _, _, _, _, _, _, led⟩ := z1; exact led
  dsimp only
  have fl : t1.fill = 0 := by unfold SetTable.fill; rw [pe, de]; rfl
  unfold SetTable.road
  rw [fl]
  rw [if_neg (by decide)]
  by_cases c : (t1.mask == t.mask && t.dummies.isEmpty) = true
  · rw [if_pos c]
    have dm : t.dummies = #[] := by
      have := (Bool.and_eq_true_iff.mp c).2
      simpa using this
    refine SetZ.put (s := { s with heap := h1 }) (ks' := ks) z1 ek hb hf up (by show (t1.led && t.led) = _; rw [l1, led, Bool.and_self]) fun h2 sb2 z2 => h h2 _ _ _ _ ⟨sb2.1.trans sb1.1, fun b hb => (sb2.2 b hb).trans (sb1.2 b hb)⟩ z2 (.refl _) dm
  · rw [if_neg c]
    obtain ⟨t2, order, e2, tm, td, tl, tu, ts, to⟩ := laid_some m1 t1.finger t1.moves (t1.led && t.led) (t1.plain && t.plain) (es.map (·.1)) (by rw [Array.size_map]; exact m2)
    dsimp only
    rw [e2]
    rw [Array.size_map] at to ts
    have op := order_perm es to
    have os : (order.filterMap (es[·]?)).size = es.size := by rw [← Array.length_toList, op.length_eq, Array.length_toList]
    obtain ⟨kr, pk, ekr⟩ := ek.perm op
    refine wpAny_bind ?_
    show wpAny (model P w) A (if ((order.filterMap (es[·]?)).size != es.size) = true then _ else pure (order.filterMap (es[·]?), t2)) _ E _
    refine ite_no (by rw [os]; simp) (wpAny_pure ?_)
    refine SetZ.put (s := { s with heap := h1 }) (ks' := kr) z1 ekr (by rw [os]; exact hb) ?_ tu (by rw [tl, l1, led, Bool.and_self]) fun h2 sb2 z2 => h h2 _ _ _ _ ⟨sb2.1.trans sb1.1, fun b hb => (sb2.2 b hb).trans (sb1.2 b hb)⟩ z2 pk td
    unfold SetTable.fits SetTable.fill
    rw [os, ts, td, tm, beq_self_eq_true]
    simp
    omega
theorem eraseAt_list {α : Type} (xs : Array α) (i : Nat) : (SetTable.eraseAt xs i).toList = xs.toList.eraseIdx i := by
  unfold SetTable.eraseAt
  rw [Array.toList_append, Array.toList_extract, Array.toList_extract, List.eraseIdx_eq_take_drop_succ]
  simp [List.extract]
  exact List.take_of_length_le (by rw [List.length_drop, Array.length_toList]; exact Nat.le_refl _)
theorem EK.eraseIdx {es : List (Int × Value)} {ks : List Key} (h : EK P w es ks) : ∀ i, EK P w (es.eraseIdx i) (ks.eraseIdx i) := by
  induction h with
  | nil => intro i; exact .nil
  | cons h1 h2 h3 ih =>
    intro i
    cases i with
    | zero => exact h3
    | succ i => exact .cons h1 h2 (ih i)
theorem EK.at' {es : List (Int × Value)} {ks : List Key} (h : EK P w es ks) : ∀ {i : Nat} {e : Int × Value}, es[i]? = some e → ∃ k, ks[i]? = some k ∧ (mixKind P w).is k e.2 = true := by
  induction h with
  | nil => intro i e q; cases q
  | cons h1 h2 h3 ih =>
    intro i e q
    cases i with
    | zero => obtain rfl := Option.some.inj q; exact ⟨_, rfl, h1⟩
    | succ i => exact ih q
theorem is_one {k k' : Key} {x : Value} (h : (mixKind P w).is k x = true) (h' : (mixKind P w).is k' x = true) : k = k' := by
  rcases keyIs_shape (show keyIs k x = true from h) with ⟨i, t, rfl, rfl⟩ | ⟨y, t, rfl, rfl⟩
  · rcases keyIs_shape (show keyIs k' (.int i t) = true from h') with ⟨i', t', rfl, e⟩ | ⟨y', t', _, e⟩
    · injection e with e _; rw [e]
    · cases e
  · rcases keyIs_shape (show keyIs k' (.str y t) = true from h') with ⟨i', t', _, e⟩ | ⟨y', t', rfl, e⟩
    · cases e
    · injection e with e _; rw [e]
theorem no_filter {l : List Key} {k : Key} (h : k ∉ l) : l.filter (fun q => decide (q ≠ k)) = l := List.filter_eq_self.mpr fun q hq => decide_eq_true fun (e : q = k) => h (e ▸ hq)
theorem erase_filter : ∀ {l : List Key} {j : Nat} {k : Key}, l.Nodup → l[j]? = some k → l.eraseIdx j = l.filter (fun q => decide (q ≠ k))
  | [], _, _, _, e => by cases e
  | a :: l, 0, k, n, e => by
    obtain rfl : a = k := Option.some.inj e
    have n2 := List.nodup_cons.mp n
    rw [List.filter_cons_of_neg (by simp), no_filter n2.1]
    rfl
  | a :: l, j + 1, k, n, e => by
    have n2 := List.nodup_cons.mp n
    have e : l[j]? = some k := e
    have ne : a ≠ k := fun z => n2.1 (z ▸ List.mem_of_getElem? e)
    rw [List.filter_cons_of_pos (p := fun q => decide (q ≠ k)) (decide_eq_true ne), ← erase_filter n2.2 e]
    rfl
/-- one taken out -/
theorem discard_z {r : Addr} {er : Array (Int × Value)} {ep : Nat} {t : SetTable} {kr : List Key} {k : Key} {x : Value} {Q : Bool → Shared → Prop} (z : SetZ P w s.heap r er ep t kr) (nd : kr.Nodup) (i1 : (mixKind P w).is k x = true) (i2 : x.scannable = true)
    (h : ∀ b h' er' ep' t' kr', Heap.SameBut r s.heap h' → SetZ P w h' r er' ep' t' kr' → kr' = kr.filter (fun q => decide (q ≠ k)) → t'.mask = t.mask → t'.dummies.size ≤ t.dummies.size + 1 → Q b { s with heap := h' }) : wpAny (model P w) A (setDiscardHashed r x ((mixKind P w).hash k)) Q E s := by
  obtain ⟨o, ho, hex, hd, ek, hb, hf, up, led⟩ := id z
  have hel := ek.elems
  unfold setDiscardHashed
  refine wpAny_bind (m := setFind _ _ _) ?_
  unfold setFind setFindIn
  refine wpAny_bind (z.state ?_)
  dsimp only
  rw [byScan_of i2 hb hel, if_pos rfl]
  refine wpAny_bind (wpAny_rule (wpAny_bind (wpAny_setScan_of i1 ho hd hf hel ?_)))
  cases e : er.toList.findIdx? fun e => (mixKind P w).is k e.2 with
  | none =>
    have kn : k ∉ kr := fun q => by
      obtain ⟨y, hy, q⟩ := (ek.mem k).mp q
      have := List.findIdx?_eq_none_iff.mp e y hy
      rw [q] at this
      cases this
    refine wpAny_pure (wpAny_pure ?_)
    refine h false s.heap er ep t kr (Heap.SameBut.refl r s.heap) z ?_ rfl (Nat.le_succ _)
    exact (no_filter kn).symm
  | some j =>
    obtain ⟨hj, pj, _⟩ := List.findIdx?_eq_some_iff_getElem.mp e
    obtain ⟨k', ek', ik'⟩ := ek.at' (List.getElem?_eq_getElem hj)
    obtain rfl : k = k' := is_one pj ik'
    obtain ⟨kj, ekj⟩ := List.getElem?_eq_some_iff.mp ek'
    have sp : t.place.size = er.size := up_len hf
    have jp : j < t.place.size := by rw [sp, ← Array.length_toList]; exact hj
    dsimp only
    rw [Nat.zero_add]
    refine wpAny_pure (wpAny_bind (z.state ?_))
    dsimp only
    have de : t.drop j = { t with place := SetTable.eraseAt t.place j, dummies := SetTable.insertAt t.dummies (SetTable.below t.dummies t.place[j]) t.place[j] } := by
      unfold SetTable.drop
      rw [Array.getElem?_eq_getElem jp]
    have l1 : (SetTable.eraseAt er j).size = er.size - 1 := by rw [← Array.length_toList, eraseAt_list, List.length_eraseIdx, if_pos hj, Array.length_toList]
    have l2 : (SetTable.eraseAt t.place j).size = t.place.size - 1 := by rw [← Array.length_toList, eraseAt_list, List.length_eraseIdx, if_pos (by rw [Array.length_toList]; exact jp), Array.length_toList]
    have l3 : (SetTable.insertAt t.dummies (SetTable.below t.dummies t.place[j]) t.place[j]).size = t.dummies.size + 1 := by
      have := (SetTable.insertAt_perm t.dummies (SetTable.below t.dummies t.place[j]) t.place[j]).length_eq
      rw [Array.length_toList, Array.length_toList, Array.size_push] at this
      exact this
    have fm : t.fill ≤ t.mask := by
      unfold SetTable.fits at hf
      have := (Bool.and_eq_true_iff.mp hf).2
      exact of_decide_eq_true this
    have ek2 := ek.eraseIdx j
    rw [← eraseAt_list] at ek2
    refine wpAny_bind (z.put (ks' := kr.eraseIdx j) (t' := t.drop j) ek2 (by rw [l1]; omega) ?_ ?_ (by rw [de]; exact led) fun h' sb z' => ?_)
    · rw [de]
      unfold SetTable.fits SetTable.fill
      dsimp only
      rw [l1, l2, l3, sp, beq_self_eq_true, Bool.true_and]
      unfold SetTable.fill at fm
      exact decide_eq_true (by omega)
    · rw [de]
      show (SetTable.eraseAt t.place j).toList.Pairwise (· < ·)
      rw [eraseAt_list]
      exact up.sublist (List.eraseIdx_sublist _ _)
    · refine wpAny_bind (wpAny_point (wpAny_pure (h true h' _ _ _ _ sb z' ?_ (by rw [de]) (by rw [de]; show (SetTable.insertAt _ _ _).size ≤ _; rw [l3]; exact Nat.le_refl _))))
      exact erase_filter nd ek'
/-- the road by a copy -/
theorem diff_copy {nm : String} {a o : Addr} {es eo : Array (Int × Value)} {ep epo : Nat} {t tb : SetTable} {ks ds ko dso : List Key} {Q : Value → Shared → Prop} (z : SetZ P w s.heap a es ep t ks) (pk : ks.Perm ds) (nd : ds.Nodup) (zo : SetZ P w s.heap o eo epo tb ko) (po : ko.Perm dso)
    (h : ∀ s', s'.gens = s.gens → s'.os = s.os → s'.toks = s.toks → s.heap.objs.size < s'.heap.objs.size → (∀ b o, s.heap.get? b = some o → s'.heap.get? b = some o) → SetY P w s'.heap s.heap.objs.size (ds.filter fun k => !memK dso k) → Q (.ref s.heap.objs.size) s') (hsz : ks.length < 64) (sm : es.size / 4 > eo.size) :
    wpAny (model P w) A (Builtin.Frozenset.difference nm a (.ref o)) Q E s := by
  have sz := z.size
  have szo := zo.size
  unfold Builtin.Frozenset.difference
  dsimp only
  refine wpAny_bind (any_set zo.ty ?_)
  refine ite_no (by simp) ?_
  refine wpAny_bind (wpAny_pure ?_)
  refine ite_no (by simp) (ite_ok rfl ?_)
  refine wpAny_bind (size_set zo (wpAny_bind (size_set z ?_)))
  refine ite_ok sm (wpAny_bind (wpAny_rule ?_))
  have lt : ∀ {b x}, s.heap.get? b = some x → b ≠ s.heap.objs.size := fun e => Nat.ne_of_lt (Heap.lt_size e)
  have na : a ≠ s.heap.objs.size := by obtain ⟨x, e, _⟩ := id z; exact lt e
  have no : o ≠ s.heap.objs.size := by obtain ⟨x, e, _⟩ := id zo; exact lt e
  refine wpAny_bind (m := Builtin.Frozenset.copyOf a) ?_
  unfold Builtin.Frozenset.copyOf
  refine wpAny_bind (base_set z.ty (wpAny_bind (new_set fun h1 hz1 old1 zr => ?_)))
  refine wpAny_bind (wpAny_pure ?_)
  have z1 : SetZ P w h1 a es ep t ks := z.moved fun x e => old1 a x e
  refine wpAny_bind (merge_z (s := { s with heap := h1 }) z1 zr na (by omega) hsz fun h2 er ep2 t2 kr sb2 z2 pr dm => wpAny_pure ?_)
  refine wpAny_bind (wpAny_pure ?_)
  have zo2 : SetZ P w h2 o eo epo tb ko := zo.moved fun x e => by rw [sb2.2 o no]; exact old1 o x e
  have nkr : kr.Nodup := (pr.trans pk).nodup_iff.mpr nd
  refine wpAny_bind (m := holding _ _) (wpAny_holding ?_)
  unfold Builtin.Frozenset.differenceUpdate
  refine ite_no (fun q => by have := eq_of_beq q; injection this with this; exact no this) ?_
  refine wpAny_bind (any_set (s := { s with heap := h2 }) zo2.ty ?_)
  refine ite_ok rfl ?_
  refine wpAny_bind (wpAny_pure ?_)
  refine wpAny_bind (size_set (s := { s with heap := h2 }) zo2 (wpAny_bind (size_set (s := { s with heap := h2 }) z2 ?_)))
  have szr := z2.size
  have lkr := pr.length_eq
  dsimp only
  refine ite_no (by omega) ?_
  refine wpAny_bind (SetZ.epoch (s := { s with heap := h2 }) zo2 ?_)
  refine wpAny_bind (m := holding _ _) (wpAny_holding (wpAny_bind ?_))
  have fmask : kr.length ≤ t2.mask := by
    obtain ⟨_, _, _, _, _, _, hf, _⟩ := id z2
    have f1 := up_len hf
    have f2 : t2.fill ≤ t2.mask := by
      unfold SetTable.fits at hf
      exact of_decide_eq_true (Bool.and_eq_true_iff.mp hf).2
    unfold SetTable.fill at f2
    omega
  refine unseen_z (s := { s with heap := h2 }) zo2 (fun b hb => ?_) (fun eo' d2 pe => ?_) (.inl rfl)
  · rw [List.mem_singleton.mp hb]
    exact ⟨_, _, _, _, z2⟩
  obtain ⟨o1, _, _, _, eko, _⟩ := id zo2
  obtain ⟨ka, pa, eka⟩ := eko.perm pe
  refine wpAny_bind (m := forIn eo' _ _) (PySem.MeetsSeq2.wpAny_forIn_array _ (fun rest _ s' => ∃ h' kp kq er' ep' t', s' = { s with heap := h', drawn := d2 } ∧ ka = kp ++ kq ∧ EK P w rest kq ∧ Heap.SameBut s.heap.objs.size h2 h' ∧ SetZ P w h' s.heap.objs.size er' ep' t' (kr.filter fun k => !memK kp k) ∧ t'.mask = t2.mask ∧ t'.dummies.size ≤ kp.length) _ ?_ ?_ _ _ ⟨h2, [], ka, er, ep2, t2, rfl, rfl, eka, Heap.SameBut.refl _ _, ?_, rfl, by rw [dm]; exact Nat.le_refl _⟩)
  · rintro ⟨hh, x⟩ rest u s' ⟨h', kp, kq, er', ep', t', rfl, e1, er1, sb', z', tm, td⟩
    obtain ⟨k, kq', rfl, i1, i2, i3, er2⟩ := er1.split
    dsimp only at i1 i2 i3
    subst i3
    dsimp only
    refine wpAny_bind (m := holding _ _) (wpAny_holding (discard_z (s := { s with heap := h', drawn := d2 }) z' (nkr.filter _) i1 i2 fun b h3 er3 ep3 t3 kr3 sb3 z3 e3 m3 d3 => ?_))
    have sb4 : Heap.SameBut s.heap.objs.size h2 h3 := ⟨sb3.1.trans sb'.1, fun c hc => (sb3.2 c hc).trans (sb'.2 c hc)⟩
    have zo3 : SetZ P w h3 o eo epo tb ko := zo2.moved fun x e => (sb4.2 o no).trans e
    refine wpAny_bind (unch (s := { s with heap := h3, drawn := d2 }) zo3 (wpAny_pure ⟨h3, kp ++ [k], kq', er3, ep3, t3, rfl, by rw [e1, List.append_assoc]; rfl, er2, sb4, ?_, m3.trans tm, by rw [List.length_append]; show _ ≤ kp.length + 1; omega⟩))
    have ef : (kr.filter fun q => !memK (kp ++ [k]) q) = kr3 := by
      rw [e3, List.filter_filter]
      refine List.filter_congr fun q _ => ?_
      have m1 := memK_iff (acc := kp ++ [k]) (k := q)
      have m2 := memK_iff (acc := kp) (k := q)
      rw [Bool.eq_iff_iff]
      simp only [Bool.not_eq_true', Bool.and_eq_true, decide_eq_true_eq, ← Bool.not_eq_true, m1, m2, List.mem_append, List.mem_singleton, not_or]
      exact ⟨fun ⟨a, b⟩ => ⟨b, a⟩, fun ⟨a, b⟩ => ⟨b, a⟩⟩
    rw [ef]
    exact z3
  · rintro u s' ⟨h', kp, kq, er', ep', t', rfl, e1, er1, sb', z', tm, td⟩
    cases er1
    rw [List.append_nil] at e1
    subst e1
    refine wpAny_pure ?_
    unfold setTidy
    refine wpAny_bind (SetZ.state (s := { s with heap := h', drawn := d2 }) z' ?_)
    have la := pa.length_eq
    refine ite_no (fun q => ?_) ?_
    · have q : (decide (t'.dummies.size > t'.mask / 4)) = true := q
      have q := of_decide_eq_true q
      rw [tm] at q
      omega
    refine wpAny_pure (wpAny_pure (h _ rfl rfl rfl (by show _ < h'.objs.size; rw [sb'.1, sb2.1]; show _ < h1.objs.size; omega) (fun b x e => ?_) ?_))
    · show h'.get? b = some x
      rw [sb'.2 b (lt e), sb2.2 b (lt e)]
      exact old1 b x e
    · refine z'.y ?_
      have ef : (kr.filter fun q => !memK ka q) = kr.filter fun q => !memK dso q := List.filter_congr fun q _ => by
        have m1 := memK_iff (acc := ka) (k := q)
        have m2 := memK_iff (acc := dso) (k := q)
        congr 1
        rw [Bool.eq_iff_iff, m1, m2]
        exact (pa.trans po).mem_iff
      rw [ef]
      exact (pr.trans pk).filter _
  · have ef : (kr.filter fun k => !memK [] k) = kr := List.filter_eq_self.mpr fun q _ => rfl
    rw [ef]
    exact z2
theorem entry_set_sub : entryFor table "set.__sub__" = some Builtin.«frozenset.__sub__» := entryFor_alias (id' := "frozenset.__sub__") (by kernel_rfl) rfl (by decide +kernel) (by kernel_rfl)
end
section
variable {X : Cx}
/-- set(a) - set(b) -/
theorem op_setdiff : OpR X (binaryOp .Sub) (fun x y H Q => ∃ (p q : Addr) (ds es : List Key), x = .ref p ∧ y = .ref q ∧ H p = some (SetXO X.prog X.w p ds) ∧ H q = some (SetXO X.prog X.w q es) ∧ ds.Nodup ∧ ds.length < 64 ∧ ∀ r, H r = none → Q (.ref r) (upd H r (SetXO X.prog X.w r (ds.filter fun k => !memK es k)))) := by
  intro pins s σ H x y v u Q I rx ry h
  obtain ⟨p, q, ds, dso, rfl, rfl, hp, hq, nd, l64, k⟩ := h
  cases (show v = PySem.Value.ref p from rx)
  cases (show u = PySem.Value.ref q from ry)
  obtain ⟨sx, _⟩ := I.hok p _ hp
  obtain ⟨sy, _⟩ := I.hok q _ hq
  obtain ⟨es, ep, t, ks, z, pk⟩ := SetY.z sx
  obtain ⟨eo, epo, tb, ko, zo, po⟩ := SetY.z sy
  refine wpAny_binaryOp_same (T := "set") (id := "set.__sub__") z.ty zo.ty PySem.F.fills_set_sub PySem.F.slot_set_sub ?_
  refine wpAny_call_entry PySem.F.slot_set_sub z.ty entry_set_sub ?_ (PySem.F.args_set_sub_2 _ _)
  unfold Builtin.«frozenset.__sub__»
  have fin : ∀ s' : Shared, s'.gens = s.gens → s'.os = s.os → s'.toks = s.toks → s.heap.objs.size < s'.heap.objs.size → (∀ b o, s.heap.get? b = some o → s'.heap.get? b = some o) → SetY X.prog X.w s'.heap s.heap.objs.size (ds.filter fun k => !memK dso k) → Value.ref s.heap.objs.size ≠ .notImplemented ∧ EP X pins σ Q (.ref s.heap.objs.size) s' := fun s' h1 h2 h3 h4 h5 h6 => by
    refine ⟨(by intro z; cases z), ?_⟩
    obtain ⟨h', g', d', tk, os'⟩ := s'
    dsimp only at h1 h2 h3 h4 h5 h6
    subst h1 h2 h3
    refine ⟨.ref s.heap.objs.size, _, (I.other d').laid (t' := s.toks) (o := SetXO X.prog X.w s.heap.objs.size (ds.filter fun k => !memK dso k)) h5 (Nat.le_refl _) ⟨h6, ?_, fun h1 h2 a b => SetY.moved a b⟩, rfl, k _ (I.hok.fresh (Nat.le_refl _))⟩
    obtain ⟨o, _, _, _, _, e, _⟩ := h6
    exact ⟨o, e⟩
  have body : wpAny (model X.prog X.w) X.A.in1 (Builtin.Frozenset.difference (toString "frozenset." ++ toString "__sub__") p (.ref q)) (fun v s' => v ≠ .notImplemented ∧ EP X pins σ Q v s') X.xe s := by
    by_cases c : es.size / 4 > eo.size
    · exact diff_copy z pk nd zo po fin (by rw [pk.length_eq]; exact l64) c
    · exact diff_direct z pk nd zo po fin (by rw [pk.length_eq]; omega) c
  show wpAny (model X.prog X.w) X.A.in1 (Builtin.Frozenset.slot1 "__sub__" ⟨[.ref p, .ref q], []⟩ >>= _) _ _ s
  refine wpAny_bind (wpAny_of_eq (show Builtin.Frozenset.slot1 "__sub__" ⟨[.ref p, .ref q], []⟩ = pure (Value.ref p, Value.ref q) from rfl) ?_)
  dsimp only
  refine wpAny_bind (m := andM _ _) ?_
  unfold andM
  refine wpAny_bind (any_set z.ty ?_)
  refine any_set zo.ty ?_
  refine ite_no (by simp) (wpAny_bind (wpAny_pure (wpAny_bind (wpAny_mono body (fun v s' g => ?_) fun _ _ g => g))))
  exact wpAny_pure ⟨v, rfl, g.1, g.2⟩
/-- the same, of texts -/
theorem op_setdiffS : OpR X (binaryOp .Sub) (fun x y H Q => ∃ (p q : Addr) (as bs : List Str), x = .ref p ∧ y = .ref q ∧ H p = some (SetXO X.prog X.w p (as.map Sum.inr)) ∧ H q = some (SetXO X.prog X.w q (bs.map Sum.inr)) ∧ as.Nodup ∧ as.length < 64 ∧ ∀ r, H r = none → Q (.ref r) (upd H r (SetXO X.prog X.w r ((as.filter fun x => decide (x ∉ bs)).map Sum.inr)))) := by
  intro pins s σ H x y v u Q I rx ry h
  obtain ⟨p, q, as, bs, e1, e2, hp, hq, nd, l64, k⟩ := h
  have inj : ∀ a b : Str, (Sum.inr a : Key) = Sum.inr b → a = b := fun a b e => Sum.inr.inj e
  refine op_setdiff pins s σ H x y v u Q I rx ry ⟨p, q, as.map Sum.inr, bs.map Sum.inr, e1, e2, hp, hq, List.Pairwise.map _ (fun a b ne e => ne (inj a b e)) nd, by rw [List.length_map]; exact l64, fun r hr => ?_⟩
  have ef : ((as.map Sum.inr).filter fun k => !memK (bs.map Sum.inr) k) = (as.filter fun x => decide (x ∉ bs)).map (Sum.inr : Str → Key) := by
    rw [List.filter_map]
    congr 1
    refine List.filter_congr fun x _ => ?_
    show (!memK (bs.map Sum.inr) (Sum.inr x)) = decide (x ∉ bs)
    have m := memK_iff (acc := bs.map (Sum.inr : Str → Key)) (k := Sum.inr x)
    have m2 : (Sum.inr x : Key) ∈ bs.map (Sum.inr : Str → Key) ↔ x ∈ bs := by
      rw [List.mem_map]
      exact ⟨fun ⟨y, hy, e⟩ => inj _ _ e ▸ hy, fun h => ⟨x, h, rfl⟩⟩
    rw [m2] at m
    by_cases c : x ∈ bs
    · rw [m.mpr c]; simp [c]
    · have : memK (bs.map Sum.inr) (Sum.inr x) = false := by cases e : memK (bs.map (Sum.inr : Str → Key)) (Sum.inr x) with | true => exact absurd (m.mp e) c | false => rfl
      rw [this]; simp [c]
  rw [ef]
  exact k r hr
end
end L2

/-! ### min(xs) of pairs of whole numbers -/
namespace L2
open PySem PySem.Spec PyProof.Rows
/-- a pair of whole numbers lies there -/
def TpI (h : Heap) (c : Addr × Int × Int) : Prop := ∃ o n t u, h.get? c.1 = some o ∧ o.cls = .type "tuple" ∧ o.data = .seq #[.int c.2.1 t, .int c.2.2 u] n
section
variable {P : Program} {w : World} {A : Around} {E : Value → Shared → Prop} {s : Shared}
theorem tup_lt_tree {c d : Addr × Int × Int} {R : PySem.Fin → Shared → Prop} (hx : TpI s.heap c) (hy : TpI s.heap d) (h : R (.done (.ret (.bool (decide (c.2.1 < d.2.1 ∨ c.2.1 = d.2.1 ∧ c.2.2 < d.2.2))))) s) :
    wpAny (model P w) A (Builtin.«tuple.__lt__» ⟨[.ref c.1, .ref d.1], []⟩) R E s := by
  obtain ⟨oa, na, t1, t2, hoa, hca, hda⟩ := hx
  obtain ⟨ob, nb, u1, u2, hob, hcb, hdb⟩ := hy
  show wpAny _ _ (isInstance (.ref d.1) (.type "tuple") >>= _) _ _ s
  refine wpAny_bind (wpAny_isInstance ⟨_, hob, hcb⟩ isSubtype_tuple_tuple ?_)
  simp only [Bool.not_true, Bool.false_eq_true, if_false]
  refine wpAny_bind (wpAny_tupleItemsOf hoa hda ?_)
  refine wpAny_bind (wpAny_tupleItemsOf hob hdb ?_)
  refine wpAny_bind ?_
  show wpAny _ _ (forIn [(Value.int c.2.1 t1, Value.int d.2.1 u1), (Value.int c.2.2 t2, Value.int d.2.2 u2)] _ _) _ _ s
  rw [List.forIn_cons]
  refine wpAny_bind (wpAny_bind (wpAny_eqBool_int ?_))
  by_cases e1 : c.2.1 = d.2.1
  · rw [beq_iff_eq.mpr e1]
    simp only [Bool.not_true, Bool.false_eq_true, if_false]
    refine wpAny_pure ?_
    show wpAny _ _ (forIn [(Value.int c.2.2 t2, Value.int d.2.2 u2)] _ _) _ _ s
    rw [List.forIn_cons]
    refine wpAny_bind (wpAny_bind (wpAny_eqBool_int ?_))
    by_cases e2 : c.2.2 = d.2.2
    · rw [beq_iff_eq.mpr e2]
      simp only [Bool.not_true, Bool.false_eq_true, if_false]
      refine wpAny_pure ?_
      show wpAny _ _ (forIn [] _ _) _ _ s
      rw [List.forIn_nil]
      refine wpAny_pure (wpAny_pure ?_)
      rw [decide_eq_false (by omega)] at h
      exact h
    · rw [beq_eq_false_iff_ne.mpr e2]
      simp only [Bool.not_false, if_true]
      refine wpAny_bind (wpAny_rule (wpAny_bind (PySem.P.lt_int ?_)))
      have : decide (c.2.1 < d.2.1 ∨ c.2.1 = d.2.1 ∧ c.2.2 < d.2.2) = decide (c.2.2 < d.2.2) := decide_eq_decide.mpr (by omega)
      rw [this] at h
      exact wpAny_bind (wpAny_pure (wpAny_pure (wpAny_pure (wpAny_pure h))))
  · rw [beq_eq_false_iff_ne.mpr e1]
    simp only [Bool.not_false, if_true]
    refine wpAny_bind (wpAny_rule (wpAny_bind (PySem.P.lt_int ?_)))
    have : decide (c.2.1 < d.2.1 ∨ c.2.1 = d.2.1 ∧ c.2.2 < d.2.2) = decide (c.2.1 < d.2.1) := decide_eq_decide.mpr (by omega)
    rw [this] at h
    exact wpAny_bind (wpAny_pure (wpAny_pure (wpAny_pure (wpAny_pure h))))
theorem tup_lt {c d : Addr × Int × Int} {Q : Value → Shared → Prop} (hu : A.units < cLine) (hx : TpI s.heap c) (hy : TpI s.heap d) (h : Q (.bool (decide (c.2.1 < d.2.1 ∨ c.2.1 = d.2.1 ∧ c.2.2 < d.2.2))) s) :
    wpAny (model P w) A (richCompare .Lt (.ref c.1) (.ref d.1)) Q E s := by
  have tx : s.TypeIs (.ref c.1) "tuple" := by obtain ⟨o, _, _, _, ho, hc, _⟩ := hx; exact ⟨_, ho, hc⟩
  have ty : s.TypeIs (.ref d.1) "tuple" := by obtain ⟨o, _, _, _, ho, hc, _⟩ := hy; exact ⟨_, ho, hc⟩
  exact wpAny_richCompare_same_room (op := .Lt) tx ty F.slot_tuple_lt (wpAny_call_entry F.slot_tuple_lt tx F.entry_tuple_lt (tup_lt_tree hx hy ⟨_, rfl, (fun e => nomatch e), h⟩) (F.args_tuple_lt_2 _ _)) hu
end
section
variable {P : Program} {w : World} {A : Around} {s : Shared} {R : Result → Shared → Prop}
theorem TpI.at {h h' : Heap} {c : Addr × Int × Int} (x : TpI h c) (k : ∀ o, h.get? c.1 = some o → h'.get? c.1 = some o) : TpI h' c := by
  obtain ⟨o, n, t, u, e, r⟩ := x
  exact ⟨o, n, t, u, k o e, r⟩
theorem minP_fill {It S l : Addr} {us : Array Value} (hh : A.handled = none) (hu : A.units + 20 < cLine) (n1 : l ≠ It) (n2 : S ≠ It) (n3 : S ≠ l) :
    ∀ (rs : List (Addr × Int × Int)) (i : Nat) (s : Shared) (m : Addr × Int × Int) (c : Nat), (∀ (j : Nat) n, rs[j]? = some n → us[i + j]? = some (.ref n.1)) → (∀ n ∈ m :: rs, TpI s.heap n ∧ n.1 ≠ It ∧ n.1 ≠ S) → i + rs.length = us.size → s.heap.IsListIter It l i → s.heap.IsList l us →
      s.heap.get? S = some { cls := .type "list", dict := none, data := .seq #[.ref m.1, .ref m.1] c, slots := #[] } →
      (∀ (n : Addr × Int × Int) (h' : Heap) (tk : Nat), n ∈ m :: rs → (∀ x ∈ m :: rs, n.2.1 ≤ x.2.1) → (∀ a o, a ≠ It → a ≠ S → s.heap.get? a = some o → h'.get? a = some o) → R (.ok (.ret (.ref n.1))) { s with heap := h', toks := tk }) →
      codeAny (model P w) A (.builtin "min.loop" ⟨[.ref It, .none, .ref S], []⟩) R s := by
  intro rs
  have nm : (toString "min" ++ toString ".loop" : String) = "min.loop" := by decide
  induction rs with
  | nil =>
    intro i s m c hv ht hn hi hl hS fin
    refine code_by PySem.F.entry_min_loop PySem.F.plain_min_loop (wpAny_bind (m := seqItems? (.ref S)) (wpAny_seqItems hS rfl ?_))
    refine wpAny_bind (m := tryCatch (pyNext (.ref It)) _) (wpAny_tryCatch (wpAny_pyNext_list_end (by simpa using hh) hi hl (by simp; simp at hn; omega) fun h' eb => ?_))
    have hS' := eb S _ n2 hS
    refine wpAny_bind (m := updateSeq S fun _ => #[]) (wpAny_updateSeq hS' rfl ?_ (show 2 ≤ sizeLine from sz))
    refine wpAny_bind (m := letGo _ _) (wpAny_letGo (wpAny_pure ?_))
    exact fin m _ s.toks List.mem_cons_self (fun x hx => by rw [List.mem_singleton.mp hx]; exact Int.le_refl _) fun a o x y e => (Heap.get?_update_other _ _ (Ne.symm y)).trans (eb a o x e)
  | cons n ns ih =>
    intro i s m c hv ht hn hi hl hS fin
    have htn := hv 0 n rfl
    refine code_by PySem.F.entry_min_loop PySem.F.plain_min_loop (wpAny_bind (m := seqItems? (.ref S)) (wpAny_seqItems hS rfl ?_))
    refine wpAny_bind (m := tryCatch (pyNext (.ref It)) _) (wpAny_tryCatch (wpAny_pyNext_list_item hi hl htn fun h' hi' sb => ?_))
    have hS' := (sb.2 S n2).trans hS
    have hl' := hl.at fun o e => (sb.2 l n1).trans e
    have hv' : ∀ (j : Nat) m, ns[j]? = some m → us[i + 1 + j]? = some (.ref m.1) := fun j m e => by
      rw [← hv (j + 1) m (by simpa using e)]
      congr 1
      omega
    have hn' : i + 1 + ns.length = us.size := by simp at hn; omega
    have tt : ∀ x ∈ m :: n :: ns, TpI h' x ∧ x.1 ≠ It ∧ x.1 ≠ S := fun x hx => ⟨(ht x hx).1.at fun o e => (sb.2 _ (ht x hx).2.1).trans e, (ht x hx).2⟩
    have tm := (tt m List.mem_cons_self).1
    have tn := (tt n (List.mem_cons_of_mem _ List.mem_cons_self)).1
    refine wpAny_bind (m := tryCatch (holding [.ref n.1, .ref n.1] _) _) (wpAny_tryCatch (wpAny_holding (wpAny_bind (m := richCompare .Lt (.ref n.1) (.ref m.1)) (tup_lt (by first | omega | (simp; omega)) tn tm ?_))))
    generalize hd : decide (n.2.1 < m.2.1 ∨ n.2.1 = m.2.1 ∧ n.2.2 < m.2.2) = b
    refine wpAny_bind (m := holding [.bool b] (truthy (.bool b))) (wpAny_holding (wpAny_truthy_bool ?_))
    refine wpAny_bind (m := letGo _ _) (wpAny_letGo (wpAny_pure ?_))
    cases b with
    | true =>
      have lt := of_decide_eq_true hd
      rw [if_pos rfl]
      refine wpAny_bind (m := updateSeq S fun _ => #[.ref n.1, .ref n.1]) (wpAny_updateSeq hS' rfl ?_ (show 2 ≤ sizeLine from sz))
      refine wpAny_bind (m := letGo _ _) (wpAny_letGo ?_)
      rw [nm]
      refine wpAny_pure ⟨plainId_quiet PySem.F.plain_min_loop _, ih (i + 1) _ n _ hv' (fun x hx => ?_) hn' ?_ ?_ (Heap.get?_update_self _ hS' rfl) fun v h2 tk mv lv k => ?_⟩
      · have y := tt x (List.mem_cons_of_mem _ hx)
        exact ⟨y.1.at fun o e => (Heap.get?_update_other _ _ (Ne.symm y.2.2)).trans e, y.2⟩
      · exact hi'.at fun o e => (Heap.get?_update_other _ _ n2).trans e
      · exact hl'.at fun o e => (Heap.get?_update_other _ _ n3).trans e
      · refine fin v h2 tk (List.mem_cons_of_mem _ mv) (fun x hx => ?_) fun a o x y e => k a o x y ((Heap.get?_update_other _ _ (Ne.symm y)).trans ((sb.2 a x).trans e))
        rcases List.mem_cons.mp hx with rfl | hx
        · have := lv n List.mem_cons_self
          omega
        · exact lv x hx
    | false =>
      have lt := of_decide_eq_false hd
      rw [if_neg (by decide)]
      refine wpAny_bind (m := letGo _ _) (wpAny_letGo ?_)
      rw [nm]
      refine wpAny_pure ⟨plainId_quiet PySem.F.plain_min_loop _, ih (i + 1) _ m _ hv' (fun x hx => ?_) hn' hi' hl' hS' fun v h2 tk mv lv k => ?_⟩
      · rcases List.mem_cons.mp hx with rfl | hx
        · exact tt _ List.mem_cons_self
        · exact tt x (List.mem_cons_of_mem _ (List.mem_cons_of_mem _ hx))
      · refine fin v h2 tk ?_ (fun x hx => ?_) fun a o x y e => k a o x y ((sb.2 a x).trans e)
        · rcases List.mem_cons.mp mv with rfl | z
          · exact List.mem_cons_self
          · exact List.mem_cons_of_mem _ (List.mem_cons_of_mem _ z)
        · rcases List.mem_cons.mp hx with rfl | hx
          · exact lv _ List.mem_cons_self
          · rcases List.mem_cons.mp hx with rfl | hx
            · have := lv m List.mem_cons_self
              omega
            · exact lv x (List.mem_cons_of_mem _ hx)
end
section
variable {X : Cx}
theorem minP_run {pins : List (Addr × Obj)} {s : Shared} {σ : St} {H : Hp} {Q : VK} {p : Addr} {cs : List (Addr × Int × Int)} (hc : X.calm = true) (hu : X.A.units + 64 < cLine) (I : Inv X pins σ H s) (hp : SqL X.K H p (cs.map fun c => V.ref c.1)) (ne : cs ≠ []) (ht : ∀ c ∈ cs, H c.1 = some (.tup [.int c.2.1, .int c.2.2])) (q : ∀ n ∈ cs, (∀ x ∈ cs, n.2.1 ≤ x.2.1) → Q (.ref n.1) H) :
    wpAny (model X.prog X.w) X.A.in1 (do let it ← pyIter (.ref p); again (.builtin "min.loop" ⟨[it, .none, ← newList []], []⟩))
      (fun fin s' => match fin with
        | .done f => (match (Except.ok f : Result) with | .ok (.ret v) => EP X pins σ Q v s' | .ok _ => False | .error e => X.xe e s')
        | .again c' => c'.quiet = true ∧ codeAny (model X.prog X.w) X.A c' (fun r s' => match r with | .ok (.ret v) => EP X pins σ Q v s' | .ok _ => False | .error e => X.xe e s') s') X.xe s := by
  have tp : ∀ c ∈ cs, TpI s.heap c := fun c hc => by
    obtain ⟨its2, r2, ⟨o, eo, oc, n, od⟩, _⟩ := I.tuple (SqT.of (ht c hc))
    obtain ⟨v1, v2, rfl, ⟨t1, rfl⟩, ⟨t2, rfl⟩⟩ := r2.two
    exact ⟨o, n, t1, t2, eo, oc, od⟩
  obtain ⟨n, ns, rfl⟩ := List.exists_cons_of_ne_nil ne
  obtain ⟨its, rv, pl, hz2⟩ := I.list hp
  have hl := rv.length
  rw [List.length_map] at hl
  obtain ⟨o, nn, e, _⟩ := id pl
  have lt := Heap.lt_size e
  have nm : (toString "min" ++ toString ".loop" : String) = "min.loop" := by decide
  have hv : ∀ (j : Nat) m, (n :: ns)[j]? = some m → its.toArray[j]? = some (.ref m.1) := fun j m e => by
    obtain ⟨v, ev, rv'⟩ := rv.get (by rw [List.getElem?_map, e]; rfl)
    have rv' : v = Value.ref m.1 := rv'
    subst rv'
    simpa using ev
  have ht0 := hv 0 n rfl
  refine wpAny_bind (wpAny_pyIter_list pl.isList (wpAny_bind (wpAny_newList ?_ (Nat.zero_le _))))
  have z : (s.heap.push { cls := .type "list_iterator", data := .fields #[.ref p, .int 0 0] }).objs.size = s.heap.objs.size + 1 := Heap.size_push ..
  have n1 : p ≠ s.heap.objs.size := Nat.ne_of_lt lt
  have n2 : (s.heap.push { cls := .type "list_iterator", data := .fields #[.ref p, .int 0 0] }).objs.size ≠ s.heap.objs.size := by rw [z]; omega
  have n3 : (s.heap.push { cls := .type "list_iterator", data := .fields #[.ref p, .int 0 0] }).objs.size ≠ p := by
    rw [z]
    exact fun y => absurd lt (by rw [← y]; exact Nat.not_lt.mpr (Nat.le_succ _))
  refine wpAny_pure ⟨plainId_quiet PySem.F.plain_min_loop _, ?_⟩
  have hS0 := Heap.get?_push_size (s.heap.push { cls := .type "list_iterator", data := .fields #[.ref p, .int 0 0] }) (o := { cls := .type "list", data := .seq #[] }) rfl
  refine code_by PySem.F.entry_min_loop PySem.F.plain_min_loop (wpAny_bind (m := seqItems? _) (wpAny_seqItems hS0 rfl ?_))
  have hi0 : ((s.heap.push { cls := .type "list_iterator", data := .fields #[.ref p, .int 0 0] }).push { cls := .type "list", data := .seq #[] }).IsListIter s.heap.objs.size p 0 := Heap.IsListIter.at ⟨_, Heap.get?_push_size _ rfl, rfl, rfl⟩ fun o e => Heap.get?_push_of_some _ e
  have hl0 : ((s.heap.push { cls := .type "list_iterator", data := .fields #[.ref p, .int 0 0] }).push { cls := .type "list", data := .seq #[] }).IsList p its.toArray := (pl.isList.push _).push _
  refine wpAny_bind (m := tryCatch (pyNext (.ref s.heap.objs.size)) _) (wpAny_tryCatch (wpAny_pyNext_list_item hi0 hl0 ht0 fun h' hi' sb => ?_))
  have hS' := (sb.2 _ n2).trans hS0
  have hl' := hl0.at fun o e => (sb.2 p n1).trans e
  have old : ∀ b o, s.heap.get? b = some o → b ≠ s.heap.objs.size ∧ b ≠ (s.heap.push { cls := .type "list_iterator", data := .fields #[.ref p, .int 0 0] }).objs.size ∧ h'.get? b = some o := fun b o e => by
    have b1 : b ≠ s.heap.objs.size := Nat.ne_of_lt (Heap.lt_size e)
    refine ⟨b1, ?_, (sb.2 b b1).trans (Heap.get?_push_of_some _ (Heap.get?_push_of_some _ e))⟩
    rw [z]
    exact Nat.ne_of_lt (Nat.lt_succ_of_lt (Heap.lt_size e))
  refine wpAny_bind (m := updateSeq _ fun _ => #[.ref n.1, .ref n.1]) (wpAny_updateSeq hS' rfl ?_ (show 0 ≤ sizeLine from sz))
  rw [nm]
  refine wpAny_pure ⟨plainId_quiet PySem.F.plain_min_loop _, minP_fill (l := p) (us := its.toArray) (I.ok.hd hc) (by omega) n1 n2 n3 ns 1 _ n _ (fun j m e => ?_) (fun x hx => ?_) ?_ ?_ ?_ (Heap.get?_update_self _ hS' rfl) fun v h2 tk mv lv k => ?_⟩
  · rw [← hv (j + 1) m (by simpa using e)]
    congr 1
    omega
  · have tx := tp x hx
    obtain ⟨o, _, _, _, e, _⟩ := id tx
    have y := old _ _ e
    exact ⟨tx.at fun o e => (Heap.get?_update_other _ _ (Ne.symm y.2.1)).trans (old _ _ e).2.2, y.1, y.2.1⟩
  · rw [List.size_toArray, ← hl, List.length_cons]
    omega
  · exact hi'.at fun o e => (Heap.get?_update_other _ _ n2).trans e
  · exact hl'.at fun o e => (Heap.get?_update_other _ _ n3).trans e
  · refine ⟨.ref v.1, H, I.kept (t' := tk) fun b o e => ?_, rfl, q v mv lv⟩
    obtain ⟨b1, b2, b3⟩ := old b o e
    exact k b o b1 b2 ((Heap.get?_update_other _ _ (Ne.symm b2)).trans b3)
/-- min(e) of pairs of whole numbers: one of the least -/
theorem call_minP (hc : X.calm = true) (hu : X.A.units + 64 < cLine) : CallR X (.builtin "min") (fun xs H Q => ∃ (p : Addr) (cs : List (Addr × Int × Int)), xs = [.ref p] ∧ SqL X.K H p (cs.map fun c => V.ref c.1) ∧ cs ≠ [] ∧ (∀ c ∈ cs, H c.1 = some (.tup [.int c.2.1, .int c.2.2])) ∧ ∀ n ∈ cs, (∀ x ∈ cs, n.2.1 ≤ x.2.1) → Q (.ref n.1) H) := by
  intro pins s σ H xs us Q I r h
  obtain ⟨p, cs, rfl, hp, ne, ht, q⟩ := h
  obtain ⟨u, rfl, ru⟩ := vals1 r
  cases ru
  refine kmk_tree PySem.F.kind_min PySem.F.plain_min PySem.F.entry_min (PySem.F.args_min1 _) ?_
  refine wpAny_bind (m := Builtin.Builtins.bindParams "min" ["key", "default"] 0 ⟨[], []⟩) (wpAny_of_eq (a := [none, none]) rfl ?_)
  have nm : (toString "min" ++ toString ".loop" : String) = "min.loop" := by decide
  refine wpAny_bind (m := pure (Value.ref p)) (wpAny_pure ?_)
  rw [nm]
  exact minP_run hc hu I hp ne ht q
theorem call_len_dK : CallR X (.builtin "len") (fun xs H Q => ∃ (q : Addr) (kvs : List (Key × V)), xs = [.ref q] ∧ H q = some (.dK kvs) ∧ Q (.int kvs.length) H) := by
  intro pins s σ H xs us Q I r h
  obtain ⟨p, kvs, rfl, hp, q⟩ := h
  obtain ⟨u, rfl, ru⟩ := vals1 r
  cases ru
  obtain ⟨z, hd, vs, kv, dd⟩ := dk_of I.hok hp
  have hl : kvs.length = vs.length := kv.length
  have hsl : sizeLine = 16777216 := sizeLine_eq
  exact call_len_dict hd dd (by omega) ⟨.int kvs.length, H, I.tok _, ⟨_, by rw [hl]⟩, q⟩
end
end L2

/-! ### try: a statement of calls, except C as n: .., the exception's dict told -/
namespace L2
open PySem PySem.Spec PyProof.Rows
def PSxd (X : Cx) (st : Stmt) (tx : St → Hp → VK → (Value → Option Addr → Hp → Prop) → Prop) : Prop :=
  ∀ (pins : List (Addr × Obj)) (s : Shared) (σ : St) (H : Hp) (Q : VK) (Ex : Value → Option Addr → Hp → Prop), Inv X pins σ H s → tx σ H Q Ex →
    wpAny (model X.prog X.w) X.A (exec st X.env) (fun fl s' => fl = .next ∧ ∃ v H1, Inv X pins σ H1 s' ∧ Q v H1) (fun ev s' => ∃ H1 s1, Inv X pins σ H1 s1 ∧ CXd X.prog X.w X.stack H1 s1 Ex ev s') s
end L2

namespace Lw
open PySem L2
def top (i : Nat) : Stmt := PySem.Challenge.pw_prunepath_k38_ladders.main.body.getD i (.Pass ⟨0, 0, 0, 0⟩)
abbrev s_greatest_divisor : Stmt := top 1
abbrev s_plus : Stmt := top 2
abbrev s_minus : Stmt := top 3
abbrev s_trees_by_place : Stmt := top 5
abbrev s_common_bottom : Stmt := top 6
abbrev s_lifted : Stmt := top 7
abbrev s_in_whole_costs : Stmt := top 8
abbrev s_cost_by_change : Stmt := top 10
abbrev s_best_pair : Stmt := top 12
abbrev s_rungs : Stmt := top 13
abbrev s_ladder : Stmt := top 14
abbrev s_law_cell : Stmt := top 16
abbrev s_law_next : Stmt := top 17
abbrev s_law_ratio : Stmt := top 18
abbrev s_law_alike : Stmt := top 19
abbrev s_law_joined : Stmt := top 20
abbrev s_law_tree : Stmt := top 21
abbrev s_law_level : Stmt := top 22
abbrev s_law_handed : Stmt := top 23
abbrev s_law_drawn : Stmt := top 24
abbrev s_law_sum : Stmt := top 25
abbrev s_law_many_ends : Stmt := top 26
abbrev s_law_ends : Stmt := top 27
abbrev s_law_is_pruning : Stmt := top 28
abbrev s_law_rung : Stmt := top 29
abbrev s_law : Stmt := top 30
set_option genInjectivity false in
set_option genSizeOf false in
structure Tx (K : PySem.W.Frag) (mg : Str → Option Value) where
  f_greatest_divisor : Addr
  d_greatest_divisor : FuncData
  F_greatest_divisor : Fun K "greatest_divisor" "greatest_divisor" s_greatest_divisor f_greatest_divisor d_greatest_divisor
  b_greatest_divisor : Binds K d_greatest_divisor ["one", "other"] []
  m_greatest_divisor : mg "greatest_divisor" = some (.ref f_greatest_divisor)
  f_plus : Addr
  d_plus : FuncData
  F_plus : Fun K "plus" "plus" s_plus f_plus d_plus
  b_plus : Binds K d_plus ["one", "other"] []
  m_plus : mg "plus" = some (.ref f_plus)
  f_minus : Addr
  d_minus : FuncData
  F_minus : Fun K "minus" "minus" s_minus f_minus d_minus
  b_minus : Binds K d_minus ["one", "other"] []
  m_minus : mg "minus" = some (.ref f_minus)
  f_trees_by_place : Addr
  d_trees_by_place : FuncData
  F_trees_by_place : Fun K "trees_by_place" "trees_by_place" s_trees_by_place f_trees_by_place d_trees_by_place
  b_trees_by_place : Binds K d_trees_by_place ["tree"] []
  m_trees_by_place : mg "trees_by_place" = some (.ref f_trees_by_place)
  f_common_bottom : Addr
  d_common_bottom : FuncData
  F_common_bottom : Fun K "common_bottom" "common_bottom" s_common_bottom f_common_bottom d_common_bottom
  b_common_bottom : Binds K d_common_bottom ["tree"] []
  m_common_bottom : mg "common_bottom" = some (.ref f_common_bottom)
  f_lifted : Addr
  d_lifted : FuncData
  F_lifted : Fun K "lifted" "lifted" s_lifted f_lifted d_lifted
  b_lifted : Binds K d_lifted ["tree", "bottom"] []
  m_lifted : mg "lifted" = some (.ref f_lifted)
  f_in_whole_costs : Addr
  d_in_whole_costs : FuncData
  F_in_whole_costs : Fun K "in_whole_costs" "in_whole_costs" s_in_whole_costs f_in_whole_costs d_in_whole_costs
  b_in_whole_costs : Binds K d_in_whole_costs ["tree"] []
  m_in_whole_costs : mg "in_whole_costs" = some (.ref f_in_whole_costs)
  f_cost_by_change : Addr
  d_cost_by_change : FuncData
  F_cost_by_change : Fun K "cost_by_change" "cost_by_change" s_cost_by_change f_cost_by_change d_cost_by_change
  b_cost_by_change : Binds K d_cost_by_change ["known", "own", "before", "places"] []
  m_cost_by_change : mg "cost_by_change" = some (.ref f_cost_by_change)
  f_best_pair : Addr
  d_best_pair : FuncData
  F_best_pair : Fun K "best_pair" "best_pair" s_best_pair f_best_pair d_best_pair
  b_best_pair : Binds K d_best_pair ["yes", "no", "leaves"] []
  m_best_pair : mg "best_pair" = some (.ref f_best_pair)
  f_rungs : Addr
  d_rungs : FuncData
  F_rungs : Fun K "rungs" "rungs" s_rungs f_rungs d_rungs
  b_rungs : Binds K d_rungs ["whole"] []
  m_rungs : mg "rungs" = some (.ref f_rungs)
  f_ladder : Addr
  d_ladder : FuncData
  F_ladder : Fun K "ladder" "ladder" s_ladder f_ladder d_ladder
  b_ladder : Binds K d_ladder ["tree"] []
  m_ladder : mg "ladder" = some (.ref f_ladder)
  f_law_cell : Addr
  d_law_cell : FuncData
  F_law_cell : Fun K "_law_cell" "_law_cell" s_law_cell f_law_cell d_law_cell
  b_law_cell : Binds K d_law_cell ["_law_script", "_law_k"] []
  m_law_cell : mg "_law_cell" = some (.ref f_law_cell)
  f_law_next : Addr
  d_law_next : FuncData
  F_law_next : Fun K "_law_next" "_law_next" s_law_next f_law_next d_law_next
  b_law_next : Binds K d_law_next ["_law_cell_here", "_law_k"] []
  m_law_next : mg "_law_next" = some (.ref f_law_next)
  f_law_ratio : Addr
  d_law_ratio : FuncData
  F_law_ratio : Fun K "_law_ratio" "_law_ratio" s_law_ratio f_law_ratio d_law_ratio
  b_law_ratio : Binds K d_law_ratio ["_law_top", "_law_bottom"] []
  m_law_ratio : mg "_law_ratio" = some (.ref f_law_ratio)
  f_law_alike : Addr
  d_law_alike : FuncData
  F_law_alike : Fun K "_law_alike" "_law_alike" s_law_alike f_law_alike d_law_alike
  b_law_alike : Binds K d_law_alike ["_law_found", "_law_due"] []
  m_law_alike : mg "_law_alike" = some (.ref f_law_alike)
  f_law_joined : Addr
  d_law_joined : FuncData
  F_law_joined : Fun K "_law_joined" "_law_joined" s_law_joined f_law_joined d_law_joined
  b_law_joined : Binds K d_law_joined ["_law_pile", "_law_gain"] []
  m_law_joined : mg "_law_joined" = some (.ref f_law_joined)
  f_law_tree : Addr
  d_law_tree : FuncData
  F_law_tree : Fun K "_law_tree" "_law_tree" s_law_tree f_law_tree d_law_tree
  b_law_tree : Binds K d_law_tree ["_law_cells", "_law_scale"] []
  m_law_tree : mg "_law_tree" = some (.ref f_law_tree)
  f_law_level : Addr
  d_law_level : FuncData
  F_law_level : Fun K "_law_level" "_law_level" s_law_level f_law_level d_law_level
  b_law_level : Binds K d_law_level ["_law_cell_here", "_law_many", "_law_scale"] []
  m_law_level : mg "_law_level" = some (.ref f_law_level)
  f_law_handed : Addr
  d_law_handed : FuncData
  F_law_handed : Fun K "_law_handed" "_law_handed" s_law_handed f_law_handed d_law_handed
  b_law_handed : Binds K d_law_handed ["_law_tree_here", "_law_bottom"] []
  m_law_handed : mg "_law_handed" = some (.ref f_law_handed)
  f_law_drawn : Addr
  d_law_drawn : FuncData
  F_law_drawn : Fun K "_law_drawn" "_law_drawn" s_law_drawn f_law_drawn d_law_drawn
  b_law_drawn : Binds K d_law_drawn ["_law_tree_here", "_law_place", "_law_cell_here"] []
  m_law_drawn : mg "_law_drawn" = some (.ref f_law_drawn)
  f_law_sum : Addr
  d_law_sum : FuncData
  F_law_sum : Fun K "_law_sum" "_law_sum" s_law_sum f_law_sum d_law_sum
  b_law_sum : Binds K d_law_sum ["_law_tree_here", "_law_places"] []
  m_law_sum : mg "_law_sum" = some (.ref f_law_sum)
  f_law_many_ends : Addr
  d_law_many_ends : FuncData
  F_law_many_ends : Fun K "_law_many_ends" "_law_many_ends" s_law_many_ends f_law_many_ends d_law_many_ends
  b_law_many_ends : Binds K d_law_many_ends ["_law_tree_here"] []
  m_law_many_ends : mg "_law_many_ends" = some (.ref f_law_many_ends)
  f_law_ends : Addr
  d_law_ends : FuncData
  F_law_ends : Fun K "_law_ends" "_law_ends" s_law_ends f_law_ends d_law_ends
  b_law_ends : Binds K d_law_ends ["_law_tree_here", "_law_place"] []
  m_law_ends : mg "_law_ends" = some (.ref f_law_ends)
  f_law_is_pruning : Addr
  d_law_is_pruning : FuncData
  F_law_is_pruning : Fun K "_law_is_pruning" "_law_is_pruning" s_law_is_pruning f_law_is_pruning d_law_is_pruning
  b_law_is_pruning : Binds K d_law_is_pruning ["_law_tree_here", "_law_places"] []
  m_law_is_pruning : mg "_law_is_pruning" = some (.ref f_law_is_pruning)
  f_law_rung : Addr
  d_law_rung : FuncData
  F_law_rung : Fun K "_law_rung" "_law_rung" s_law_rung f_law_rung d_law_rung
  b_law_rung : Binds K d_law_rung ["_law_rung_here", "_law_tree_here", "_law_bottom", "_law_many"] []
  m_law_rung : mg "_law_rung" = some (.ref f_law_rung)
  f_law : Addr
  d_law : FuncData
  F_law : Fun K "law" "law" s_law f_law d_law
  b_law : Binds K d_law ["_law_script"] []
  m_law : mg "law" = some (.ref f_law)
  z_abs : mg "abs" = none
  z_bool : mg "bool" = none
  z_int : mg "int" = none
  z_isinstance : mg "isinstance" = none
  z_len : mg "len" = none
  z_list : mg "list" = none
  z_max : mg "max" = none
  z_min : mg "min" = none
  z_range : mg "range" = none
  z_set : mg "set" = none
  z_sorted : mg "sorted" = none
  z_tuple : mg "tuple" = none
theorem sc_greatest_divisor : FnScope ["one", "other", "larger", "smaller", "rest"] ["one", "other"] (defScope s_greatest_divisor) := ⟨rfl, rfl, rfl, by decide +kernel, rfl, by decide +kernel, by decide +kernel⟩
theorem sc_plus : FnScope ["one", "other", "shared", "lift", "top", "divisor"] ["one", "other"] (defScope s_plus) := ⟨rfl, rfl, rfl, by decide +kernel, rfl, by decide +kernel, by decide +kernel⟩
theorem sc_minus : FnScope ["one", "other"] ["one", "other"] (defScope s_minus) := ⟨rfl, rfl, rfl, by decide +kernel, rfl, by decide +kernel, by decide +kernel⟩
theorem sc_trees_by_place : FnScope ["tree", "found", "waiting", "step", "place", "part"] ["tree"] (defScope s_trees_by_place) := ⟨rfl, rfl, rfl, by decide +kernel, rfl, by decide +kernel, by decide +kernel⟩
theorem sc_common_bottom : FnScope ["tree", "shared", "part", "bottom"] ["tree"] (defScope s_common_bottom) := ⟨rfl, rfl, rfl, by decide +kernel, rfl, by decide +kernel, by decide +kernel⟩
theorem sc_lifted : FnScope ["tree", "bottom", "lift"] ["tree", "bottom"] (defScope s_lifted) := ⟨rfl, rfl, rfl, by decide +kernel, rfl, by decide +kernel, by decide +kernel⟩
theorem sc_in_whole_costs : FnScope ["tree"] ["tree"] (defScope s_in_whole_costs) := ⟨rfl, rfl, rfl, by decide +kernel, rfl, by decide +kernel, by decide +kernel⟩
theorem sc_cost_by_change : FnScope ["known", "own", "before", "places", "place"] ["known", "own", "before", "places"] (defScope s_cost_by_change) := ⟨rfl, rfl, rfl, by decide +kernel, rfl, by decide +kernel, by decide +kernel⟩
theorem sc_best_pair : FnScope ["yes", "no", "leaves", "fewest", "most", "pairs", "found", "places"] ["yes", "no", "leaves"] (defScope s_best_pair) := ⟨rfl, rfl, rfl, by decide +kernel, rfl, by decide +kernel, by decide +kernel⟩
theorem sc_rungs : FnScope ["whole", "told", "yes", "no", "leaves"] ["whole"] (defScope s_rungs) := ⟨rfl, rfl, rfl, by decide +kernel, rfl, by decide +kernel, by decide +kernel⟩
theorem sc_ladder : FnScope ["tree", "known", "own", "before", "told", "rung", "places"] ["tree"] (defScope s_ladder) := ⟨rfl, rfl, rfl, by decide +kernel, rfl, by decide +kernel, by decide +kernel⟩
theorem sc_law_cell : FnScope ["_law_script", "_law_k"] ["_law_script", "_law_k"] (defScope s_law_cell) := ⟨rfl, rfl, rfl, by decide +kernel, rfl, by decide +kernel, by decide +kernel⟩
theorem sc_law_next : FnScope ["_law_cell_here", "_law_k"] ["_law_cell_here", "_law_k"] (defScope s_law_next) := ⟨rfl, rfl, rfl, by decide +kernel, rfl, by decide +kernel, by decide +kernel⟩
theorem sc_law_ratio : FnScope ["_law_top", "_law_bottom", "_law_one", "_law_other", "_law_rest"] ["_law_top", "_law_bottom"] (defScope s_law_ratio) := ⟨rfl, rfl, rfl, by decide +kernel, rfl, by decide +kernel, by decide +kernel⟩
theorem sc_law_alike : FnScope ["_law_found", "_law_due", "_law_k"] ["_law_found", "_law_due"] (defScope s_law_alike) := ⟨rfl, rfl, rfl, by decide +kernel, rfl, by decide +kernel, by decide +kernel⟩
theorem sc_law_joined : FnScope ["_law_pile", "_law_gain", "_law_far", "_law_near"] ["_law_pile", "_law_gain"] (defScope s_law_joined) := ⟨rfl, rfl, rfl, by decide +kernel, rfl, by decide +kernel, by decide +kernel⟩
theorem sc_law_tree : FnScope ["_law_cells", "_law_scale", "_law_pile", "_law_cell_here"] ["_law_cells", "_law_scale"] (defScope s_law_tree) := ⟨rfl, rfl, rfl, by decide +kernel, rfl, by decide +kernel, by decide +kernel⟩
theorem sc_law_level : FnScope ["_law_cell_here", "_law_many", "_law_scale", "_law_near", "_law_far"] ["_law_cell_here", "_law_many", "_law_scale"] (defScope s_law_level) := ⟨rfl, rfl, rfl, by decide +kernel, rfl, by decide +kernel, by decide +kernel⟩
theorem sc_law_handed : FnScope ["_law_tree_here", "_law_bottom", "_law_near", "_law_far"] ["_law_tree_here", "_law_bottom"] (defScope s_law_handed) := ⟨rfl, rfl, rfl, by decide +kernel, rfl, by decide +kernel, by decide +kernel⟩
theorem sc_law_drawn : FnScope ["_law_tree_here", "_law_place", "_law_cell_here", "_law_far"] ["_law_tree_here", "_law_place", "_law_cell_here"] (defScope s_law_drawn) := ⟨rfl, rfl, rfl, by decide +kernel, rfl, by decide +kernel, by decide +kernel⟩
theorem sc_law_sum : FnScope ["_law_tree_here", "_law_places", "_law_found", "_law_place", "_law_part", "_law_sign"] ["_law_tree_here", "_law_places"] (defScope s_law_sum) := ⟨rfl, rfl, rfl, by decide +kernel, rfl, by decide +kernel, by decide +kernel⟩
theorem sc_law_many_ends : FnScope ["_law_tree_here"] ["_law_tree_here"] (defScope s_law_many_ends) := ⟨rfl, rfl, rfl, by decide +kernel, rfl, by decide +kernel, by decide +kernel⟩
theorem sc_law_ends : FnScope ["_law_tree_here", "_law_place"] ["_law_tree_here", "_law_place"] (defScope s_law_ends) := ⟨rfl, rfl, rfl, by decide +kernel, rfl, by decide +kernel, by decide +kernel⟩
theorem sc_law_is_pruning : FnScope ["_law_tree_here", "_law_places", "_law_met", "_law_final", "_law_above"] ["_law_tree_here", "_law_places"] (defScope s_law_is_pruning) := ⟨rfl, rfl, rfl, by decide +kernel, rfl, by decide +kernel, by decide +kernel⟩
theorem sc_law_rung : FnScope ["_law_rung_here", "_law_tree_here", "_law_bottom", "_law_many"] ["_law_rung_here", "_law_tree_here", "_law_bottom", "_law_many"] (defScope s_law_rung) := ⟨rfl, rfl, rfl, by decide +kernel, rfl, by decide +kernel, by decide +kernel⟩
theorem sc_law : FnScope ["_law_script", "_law_scale", "_law_bottom", "_law_tree_here", "_law_handed_here", "_law_found", "_law_k", "_law_places", "_law_rung_here", "_law_costs", "_law_again"] ["_law_script"] (defScope s_law) := ⟨rfl, rfl, rfl, by decide +kernel, rfl, by decide +kernel, by decide +kernel⟩

/-- a ratio's two numbers are not too long -/
structure Rz (n : Nat) (q : Rat) : Prop where
  zn : Bz n q.num
  zd : Bz n (q.den : Int)
theorem Rz.mono {m n : Nat} {q : Rat} (h : Rz m q) (hn : m ≤ n) : Rz n q := ⟨h.zn.mono hn, h.zd.mono hn⟩
/-- the tuple of a ratio -/
abbrev rt (q : Rat) : HO := .tup [.int q.num, .int (q.den : Int)]
/-- a new ratio -/
def Nw (H : Hp) (Q : VK) (q : Rat) : Prop := ∀ p, H p = none → Q (.ref p) (upd H p (rt q))
theorem dp (q : Rat) : 0 < (q.den : Int) := by
  have := q.den_pos
  omega
theorem cN (i : Int) {j : Int} (h0 : 0 < j) (h1 : j < 340282366920938463463374607431768211456) : CDivB i j := ⟨h0, (Bz.w (by omega) h1).log2⟩
def sp_is_whole : Sp := fun vs H Q _ => ∃ i : Int, vs = [.int i] ∧ Q (.bl true) H
def sp_greatest_divisor : Sp := fun vs H Q _ => ∃ a b : Int, vs = [.int a, .int b] ∧ b ≠ 0 ∧ Q (.int (M.G a b)) H
def sp_ratio (C : Addr) : Sp := fun vs H Q E => ∃ t b : Int, vs = [.int t, .int b] ∧ Bz 8000 b ∧ ((b = 0 ∧ E (.ref C) none H) ∨ (b ≠ 0 ∧ Nw H Q (Rat.divInt t b)))
theorem rzd {n : Nat} {t b : Int} (hb : b ≠ 0) (zt : Bz n t) (zb : Bz n b) : Rz n (Rat.divInt t b) := by
  rcases Int.lt_or_gt_of_ne hb with h | h
  · exact ⟨by rw [← M.num_neg h]; exact zt.fdiv, by rw [← M.den_neg h]; exact zb.fdiv⟩
  · exact ⟨by rw [← M.num_low h]; exact zt.ediv (Int.le_of_lt (M.G_pos t b)), by rw [← M.den_low h]; exact zb.ediv (Int.le_of_lt (M.G_pos t b))⟩
def sp_law_cell (K : PySem.W.Frag) : Sp := fun vs H Q _ => ∃ (a : Addr) (ns : List Int) (k : Int), vs = [.ref a, .int k] ∧ SqL K H a (ns.map V.int) ∧ 0 ≤ k ∧ ∀ v : Int, Q (.int v) H
def sp_law_ratio : Sp := fun vs H Q _ => ∃ t b : Int, vs = [.int t, .int b] ∧ 0 < b ∧ Bz 8000 b ∧ Nw H Q (Rat.divInt t b)
theorem Nw.low {H : Hp} {Q : VK} {t b : Int} (hb : 0 < b) (q : Nw H Q (Rat.divInt t b)) : ∀ p, H p = none → Q (.ref p) (upd H p (.tup [.int (t / M.G t b), .int (b / M.G t b)])) := by
  rw [M.num_low hb, M.den_low hb]
  exact q
/-! trees -/
inductive Tr where
  | en (w : Int)
  | fk (w : Int) (y n : Tr)
def trD : Tr → PyData
  | .en w => .tuple [.str "end", .int w]
  | .fk w y n => .tuple [.str "fork", .int w, trD y, trD n]
def Tr.lv : Tr → Nat
  | .en _ => 1
  | .fk _ y n => y.lv + n.lv
def Tr.dp : Tr → Nat
  | .en _ => 0
  | .fk _ y n => max y.dp n.dp + 1
theorem Tr.lv_pos : ∀ t : Tr, 0 < t.lv
  | .en _ => Nat.one_pos
  | .fk _ y n => Nat.add_pos_left (lv_pos y) _
theorem Tr.dp_lt : ∀ t : Tr, t.dp < t.lv
  | .en _ => Nat.one_pos
  | .fk _ y n => by
    have h1 := dp_lt y
    have h2 := dp_lt n
    show max y.dp n.dp + 1 < y.lv + n.lv
    omega
abbrev Pi := Tr × Int
def piD (i : Pi) : PyData := .tuple [trD i.1, .int i.2, .int (i.1.lv : Int)]
theorem TV.quad {K : PySem.W.Frag} {H : Hp} {x : V} {a b c d : PyData} (h : TV K H x (.tuple [a, b, c, d])) : ∃ p u v w z, x = .ref p ∧ H p = some (.tup [u, v, w, z]) ∧ TV K H u a ∧ TV K H v b ∧ TV K H w c ∧ TV K H z d := by
  cases h with
  | tup e hs =>
    cases hs with
    | cons h1 hs =>
      cases hs with
      | cons h2 hs =>
        cases hs with
        | cons h3 hs =>
          cases hs with
          | cons h4 hs =>
            cases hs
            exact ⟨_, _, _, _, _, rfl, e, h1, h2, h3, h4⟩
theorem TV.en {K : PySem.W.Frag} {H : Hp} {x : V} {w : Int} (h : TV K H x (trD (.en w))) : ∃ p, x = .ref p ∧ H p = some (.tup [.str "end", .int w]) := by
  obtain ⟨p, u, v, rfl, hp, t1, t2⟩ := TV.pair h
  obtain rfl := t1.strs
  obtain rfl := t2.ints
  exact ⟨p, rfl, hp⟩
theorem TV.fk {K : PySem.W.Frag} {H : Hp} {x : V} {w : Int} {y n : Tr} (h : TV K H x (trD (.fk w y n))) : ∃ p u v, x = .ref p ∧ H p = some (.tup [.str "fork", .int w, u, v]) ∧ TV K H u (trD y) ∧ TV K H v (trD n) := by
  unfold trD at h
  obtain ⟨p, a, b, u, v, rfl, hp, t1, t2, t3, t4⟩ := TV.quad h
  obtain rfl := t1.strs
  obtain rfl := t2.ints
  exact ⟨p, u, v, rfl, hp, t3, t4⟩
theorem TV.fk' {K : PySem.W.Frag} {H : Hp} {p : Addr} {u v : V} {w : Int} {y n : Tr} (hp : H p = some (.tup [.str "fork", .int w, u, v])) (h1 : TV K H u (trD y)) (h2 : TV K H v (trD n)) : TV K H (.ref p) (trD (.fk w y n)) := by
  unfold trD
  exact .tup hp (.cons (.str _) (.cons (.int _) (.cons h1 (.cons h2 .nil))))
theorem TV.en' {K : PySem.W.Frag} {H : Hp} {p : Addr} {w : Int} (hp : H p = some (.tup [.str "end", .int w])) : TV K H (.ref p) (trD (.en w)) := .tup hp (.cons (.str _) (.cons (.int _) .nil))
theorem Same.over {H H' : Hp} {z : Addr} (s : Same H H') (hz : H z = none) (o : HO) : Same H (upd H' z o) := fun a u e => by
  rw [upd_ne (ne_of_none e hz)]
  exact s a u e
theorem TVs.snoc {K : PySem.W.Frag} {H : Hp} : ∀ {xs : List V} {ds : List PyData} {x : V} {d : PyData}, TVs K H xs ds → TV K H x d → TVs K H (xs ++ [x]) (ds ++ [d])
  | _, _, _, _, .nil, t => .cons t .nil
  | _, _, _, _, .cons h hs, t => .cons h (TVs.snoc hs t)
theorem last_ix (n : Nat) : ixN (n + 1) (-1) = some n := by
  unfold ixN
  rw [if_neg (by decide), if_pos (by omega)]
  congr 1
  omega
theorem last_at (ys : List V) (x : V) : atI (ys ++ [x]) (-1) = some x := by
  unfold atI
  rw [List.length_append]
  show (ixN (ys.length + 1) (-1)).bind _ = _
  rw [last_ix]
  show (ys ++ [x])[ys.length]? = some x
  rw [List.getElem?_append_right (Nat.le_refl _), Nat.sub_self]
  rfl
theorem Same.free {H H' : Hp} {p : Addr} (s : Same H H') (h : H' p = none) : H p = none := by
  cases e : H p with
  | none => rfl
  | some o => rw [s p o e] at h; cases h
def sp_pick : Sp := fun vs H Q _ => ∃ c k m : Int, vs = [.int c, .int k, .int m] ∧ 0 ≤ k ∧ k ≤ 60 ∧ 0 < m ∧ m ≤ 1000 ∧ ∀ v : Int, 0 ≤ v → v < m → Q (.int v) H
def sp_worth : Sp := fun vs H Q _ => ∃ c y : Int, vs = [.int c, .int y] ∧ ∀ v : Int, -1000000000000000000000000000000 < v → v < 1000000000000000000000000000000 → Q (.int v) H
def sp_joined (K : PySem.W.Frag) : Sp := fun vs H Q _ => ∃ (c y : Int) (v1 v2 : V) (i1 i2 : Pi), vs = [.int c, v1, v2, .int y] ∧ TV K H v1 (piD i1) ∧ TV K H v2 (piD i2) ∧ i1.1.lv + i2.1.lv ≤ 50 ∧
  ∀ H' v i, Same H H' → TV K H' v (piD i) → i.1.lv = i1.1.lv + i2.1.lv → Q v H'
def sp_tree (K : PySem.W.Frag) : Sp := fun vs H Q _ => ∃ (a : Addr) (ns : List Int) (y : Int), vs = [.ref a, .int y] ∧ H a = some (.lst (ns.map V.int)) ∧ 1 ≤ ns.length ∧ ns.length ≤ 21 ∧ ∀ H' v t, Same H H' → TV K H' v (trD t) → t.lv ≤ 21 → Q v H'
abbrev Bg (n : Int) : Prop := 0 ≤ n ∧ n < 2147483647
def sp_bag : Sp := fun vs H Q _ => ∃ c : Int, vs = [.int c] ∧ ∀ p b0 b1, H p = none → Bg b1 → Q (.ref p) (upd H p (.lst [.int b0, .int b1]))
/-- the places of a pruning at q, and of its forks -/
inductive PI : Tr → Str → List Str → List Str → Prop
  | stop (t : Tr) (q : Str) : PI t q [q] []
  | go {w : Int} {y n : Tr} {q : Str} {ps1 ps2 fs1 fs2 : List Str} : PI y (q ++ "y") ps1 fs1 → PI n (q ++ "n") ps2 fs2 → PI (.fk w y n) q (ps2 ++ ps1) (q :: (fs2 ++ fs1))
theorem PI.len {t : Tr} {q : Str} {ps fs : List Str} (h : PI t q ps fs) : ps.length ≤ t.lv ∧ fs.length + 1 = ps.length := by
  induction h with
  | stop t q => exact ⟨t.lv_pos, rfl⟩
  | @go w y n q ps1 ps2 fs1 fs2 _ _ h1 h2 =>
    rw [List.length_append, List.length_cons, List.length_append]
    show _ ≤ y.lv + n.lv ∧ _
    omega
def sp_pruned (K : PySem.W.Frag) (d : Nat) : Sp := fun vs H Q _ => ∃ (v : V) (q : Str) (b : Addr) (b0 b1 : Int) (t : Tr), vs = [v, .str q, .ref b] ∧ TV K H v (trD t) ∧ t.dp ≤ d ∧ t.lv ≤ 50 ∧ q.length + d ≤ 100 ∧ H b = some (.lst [.int b0, .int b1]) ∧ Bg b1 ∧
  ∀ H' p c0 c1 ps fs, SameB b H H' → H' b = some (.lst [.int c0, .int c1]) → Bg c1 → H p = none → H' p = some (.lst (ps.map V.str)) → PI t q ps fs → Q (.ref p) H'
/-- the bound of a cost -/
def wB (w : Int) : Prop := -100000000000000000000000000000000 < w ∧ w < 100000000000000000000000000000000
def Tr.B : Tr → Prop
  | .en w => wB w
  | .fk w y n => wB w ∧ y.B ∧ n.B
def PiOk (i : Pi) : Prop := i.1.B ∧ ((i.1.lv : Int) * (-1000000000000000000000000000000) ≤ i.2 ∧ i.2 ≤ (i.1.lv : Int) * 1000000000000000000000000000000)
theorem snoc_all {α : Type} {P : α → Prop} {is : List α} {i : α} (h : ∀ x ∈ is, P x) (h2 : P i) : ∀ x ∈ is ++ [i], P x := fun x hx => by
  rcases List.mem_append.mp hx with z | z
  · exact h x z
  · rw [List.mem_singleton.mp z]; exact h2
def sp_joined2 (K : PySem.W.Frag) : Sp := fun vs H Q _ => ∃ (c y : Int) (v1 v2 : V) (i1 i2 : Pi), vs = [.int c, v1, v2, .int y] ∧ TV K H v1 (piD i1) ∧ TV K H v2 (piD i2) ∧ i1.1.lv + i2.1.lv ≤ 50 ∧ PiOk i1 ∧ PiOk i2 ∧
  ∀ H' v i, Same H H' → TV K H' v (piD i) → i.1.lv = i1.1.lv + i2.1.lv → PiOk i → Q v H'
def sp_tree2 (K : PySem.W.Frag) : Sp := fun vs H Q _ => ∃ (a : Addr) (ns : List Int) (y : Int), vs = [.ref a, .int y] ∧ H a = some (.lst (ns.map V.int)) ∧ 1 ≤ ns.length ∧ ns.length ≤ 21 ∧ ∀ H' v t, Same H H' → TV K H' v (trD t) → t.lv ≤ 21 → t.B → Q v H'
/-! prunings cut -/
def bgs (x : Str) (ps : List Str) : List Str := ps.filter fun o => Txt.startswith x o
def kept (ps fs : List Str) : List Str := ps.filter fun x => decide ((bgs x fs).length = 0)
def tops (fs : List Str) : List Str := fs.filter fun x => decide ((bgs x fs).length = 1)
def stepS (x s o : Str) : Str := if Txt.startswith x o = true ∧ o.length < s.length then o else s
def shortest (x : Str) (fs : List Str) : Str := fs.foldl (stepS x) x
def stepM (fs : List Str) (m : List Str) (x : Str) : List Str := if shortest x fs ∈ m then m else m ++ [shortest x fs]
def made (ps fs : List Str) : List Str := ps.foldl (stepM fs) []
theorem mem_bgs {x o : Str} {ps : List Str} : o ∈ bgs x ps ↔ o ∈ ps ∧ cds o <+: cds x := by
  unfold bgs
  rw [List.mem_filter, starts_iff]
theorem pre_app (q s : Str) : cds q <+: cds (q ++ s) := by rw [cds_app]; exact List.prefix_append _ _
theorem yn_apart {q x : Str} (h1 : cds (q ++ "y") <+: cds x) (h2 : cds (q ++ "n") <+: cds x) : False := by
  obtain ⟨r1, e1⟩ := h1
  obtain ⟨r2, e2⟩ := h2
  rw [cds_app, List.append_assoc] at e1 e2
  have e := List.append_cancel_left (e1.trans e2.symm)
  have z1 : cds ("y" : Str) = [121] := by decide +kernel
  have z2 : cds ("n" : Str) = [110] := by decide +kernel
  rw [z1, z2] at e
  injection e with e _
  exact absurd e (by decide)
theorem longer {q x : Str} {s : Str} (hs : s.length = 1) (h : cds (q ++ s) <+: cds x) : ¬ cds x <+: cds q := by
  intro g
  have l1 := h.length_le
  have l2 := g.length_le
  rw [cds_len, cds_len, len_app] at l1
  rw [cds_len, cds_len] at l2
  omega
theorem PI.pre {t : Tr} {q : Str} {ps gs : List Str} (h : PI t q ps gs) : (∀ x ∈ ps, cds q <+: cds x) ∧ (∀ f ∈ gs, cds q <+: cds f) := by
  induction h with
  | stop t q => exact ⟨fun x hx => by rw [List.mem_singleton.mp hx]; exact List.prefix_refl _, fun f hf => by cases hf⟩
  | @go w y n q ps1 ps2 fs1 fs2 _ _ h1 h2 =>
    refine ⟨fun x hx => ?_, fun f hf => ?_⟩
    · rcases List.mem_append.mp hx with hx | hx
      · exact (pre_app q _).trans (h2.1 x hx)
      · exact (pre_app q _).trans (h1.1 x hx)
    · rcases List.mem_cons.mp hf with rfl | hf
      · exact List.prefix_refl _
      · rcases List.mem_append.mp hf with hf | hf
        · exact (pre_app q _).trans (h2.2 f hf)
        · exact (pre_app q _).trans (h1.2 f hf)
theorem ynl : ("y" : Str).length = 1 ∧ ("n" : Str).length = 1 := by decide +kernel
structure Facts (ps gs : List Str) : Prop where
  n1 : ps.Nodup
  n2 : gs.Nodup
  ap : ∀ x ∈ ps, ∀ f ∈ gs, ¬ cds x <+: cds f
  co : ∀ f ∈ gs, ∃ x ∈ ps, cds f <+: cds x
  ne : ps ≠ []
theorem rising_pw : ∀ (p : Str) (l : List Str), PyProof.Rows.risingS p l = true → ∀ x ∈ l, cds p ≤ cds x
  | p, [], _, x, hx => by cases hx
  | p, y :: r, h, x, hx => by
    have h : (!PySem.Spec.ltCps y.cps.toList p.cps.toList && PyProof.Rows.risingS y r) = true := h
    rw [Bool.and_eq_true, Bool.not_eq_true', PyProof.Rows.ltCps_eq, decide_eq_false_iff_not] at h
    have hpy : cds p ≤ cds y := h.1
    rcases List.mem_cons.mp hx with rfl | hx
    · exact hpy
    · exact List.le_trans hpy (rising_pw y r h.2 x hx)
theorem sorted_tail {a : Str} {l : List Str} (h : PyProof.Rows.sortedS (a :: l) = true) : PyProof.Rows.sortedS l = true := by
  cases l with
  | nil => rfl
  | cons b l =>
    have h : (!PySem.Spec.ltCps b.cps.toList a.cps.toList && PyProof.Rows.risingS b l) = true := h
    rw [Bool.and_eq_true] at h
    exact h.2
theorem sorted_one : ∀ {l1 l2 : List Str}, PyProof.Rows.sortedS l1 = true → PyProof.Rows.sortedS l2 = true → l1.Perm l2 → l1 = l2
  | [], l2, _, _, p => (List.nil_perm.mp p).symm
  | a :: l1, [], _, _, p => absurd p.symm (by intro z; have := z.length_eq; cases this)
  | a :: l1, b :: l2, h1, h2, p => by
    have ha : a ∈ b :: l2 := p.mem_iff.mp List.mem_cons_self
    have hb : b ∈ a :: l1 := p.mem_iff.mpr List.mem_cons_self
    have e : a = b := by
      rcases List.mem_cons.mp ha with e | ha
      · exact e
      · rcases List.mem_cons.mp hb with e | hb
        · exact e.symm
        · exact str_ext (List.le_antisymm (rising_pw a l1 h1 b hb) (rising_pw b l2 h2 a ha))
    subst e
    rw [sorted_one (sorted_tail h1) (sorted_tail h2) (List.Perm.cons_inv p)]
theorem filter_take {α : Type} {l : List α} {p : α → Bool} {i : Nat} {a : α} (h : l[i]? = some a) : (l.take (i + 1)).filter p = (l.take i).filter p ++ (if p a = true then [a] else []) := by
  rw [List.take_add_one, h, List.filter_append]
  congr 1
  simp [List.filter_cons]
def Asc (x : Str) : Prop := ∀ c ∈ cds x, c < 128
theorem Asc.app {x y : Str} (h : Asc x) (g : Asc y) : Asc (x ++ y) := fun c hc => by
  rw [cds_app] at hc
  exact (List.mem_append.mp hc).elim (h c) (g c)
theorem PI.asc {t : Tr} {q : Str} {ps gs : List Str} (h : PI t q ps gs) : Asc q → (∀ x ∈ ps, Asc x) ∧ ∀ x ∈ gs, Asc x := by
  have ay : Asc "y" := by unfold Asc; decide +kernel
  have an : Asc "n" := by unfold Asc; decide +kernel
  induction h with
  | stop t q => exact fun a => ⟨fun x hx => by rw [List.mem_singleton.mp hx]; exact a, fun x hx => (by cases hx)⟩
  | @go w y n q ps1 ps2 fs1 fs2 _ _ h1 h2 =>
    intro a
    have h1 := h1 (a.app ay)
    have h2 := h2 (a.app an)
    refine ⟨fun x hx => ?_, fun x hx => ?_⟩
    · rcases List.mem_append.mp hx with hx | hx
      · exact h2.1 x hx
      · exact h1.1 x hx
    · rcases List.mem_cons.mp hx with rfl | hx
      · exact a
      · rcases List.mem_append.mp hx with hx | hx
        · exact h2.2 x hx
        · exact h1.2 x hx
theorem dvS {K : PySem.W.Frag} {H : Hp} {p : Addr} {ps : List Str} (h : H p = some (.lst (ps.map V.str))) : DV K H (.ref p) (.list (ps.map PyData.str)) := .lst (SqL.of h) (TVs.strs ps).dv
theorem shS {n : Nat} {ps : List Str} (h : ∀ x ∈ ps, Asc x) : Shp (n + 1) (.list (ps.map PyData.str)) := .lst fun d hd => by
  obtain ⟨x, hx, rfl⟩ := List.mem_map.mp hd
  exact .str n (h x hx)
structure Okf (fs gs : List Str) : Prop where
  sb : ∀ f ∈ fs, f ∈ gs
  nd : fs.Nodup
  ln : fs.length ≤ gs.length
def sp_beginnings (K : PySem.W.Frag) : Sp := fun vs H Q _ => ∃ (x : Str) (a : Addr) (ps : List Str), vs = [.str x, .ref a] ∧ H a = some (.lst (ps.map V.str)) ∧ ps.length ≤ 100 ∧ ∀ p, H p = none → Q (.ref p) (upd H p (.lst ((bgs x ps).map V.str)))
def sp_cut (K : PySem.W.Frag) : Sp := fun vs H Q _ => ∃ (a b : Addr) (ps fs : List Str), vs = [.ref a, .ref b] ∧ H a = some (.lst (ps.map V.str)) ∧ H b = some (.lst (fs.map V.str)) ∧ ps.length + fs.length < 64 ∧
  ∀ H' p rs, Same H H' → H p = none → H' p = some (.lst (rs.map V.str)) → rs.Perm (kept ps fs ++ tops fs) → PyProof.Rows.sortedS rs = true → Q (.ref p) H'
def sp_due (K : PySem.W.Frag) : Sp := fun vs H Q _ => ∃ (a b : Addr) (ps fs : List Str), vs = [.ref a, .ref b] ∧ H a = some (.lst (ps.map V.str)) ∧ H b = some (.lst (fs.map V.str)) ∧ ps.length < 64 ∧ fs.length ≤ 100 ∧ (∀ x ∈ ps, x.length ≤ 100) ∧ (∀ x ∈ fs, x.length ≤ 100) ∧
  ∀ H' p rs, Same H H' → H p = none → H' p = some (.lst (rs.map V.str)) → rs.Perm (made ps fs) → PyProof.Rows.sortedS rs = true → Q (.ref p) H'
def lkD (u : Str × Int × Int) : PyData := .tuple [.str u.1, .int u.2.1, .int u.2.2]
def sp_links (K : PySem.W.Frag) (d : Nat) : Sp := fun vs H Q _ => ∃ (v : V) (a : Addr) (q : Str) (t : Tr) (ps qs fs : List Str), vs = [v, .ref a, .str q] ∧ TV K H v (trD t) ∧ t.dp ≤ d ∧ t.lv ≤ 50 ∧ q.length + d ≤ 100 ∧ H a = some (.lst (ps.map V.str)) ∧ ps.length ≤ 100 ∧ PI t q qs fs ∧ (∀ x, (x ∈ ps ∧ cds q <+: cds x) ↔ x ∈ qs) ∧
  ∀ H' p l xs (us : List (Str × Int × Int)) (s m : Int), Same H H' → H' p = some (.tup [.int s, .int m, .ref l]) → H' l = some (.lst xs) → TVs K H' xs (us.map lkD) → us.map (·.1) = fs → Q (.ref p) H'
def sp_law (K : PySem.W.Frag) : Sp := fun vs H Q _ => ∃ (a : Addr) (ns : List Int), vs = [.ref a] ∧ SqF K H a (ns.map V.int) ∧ ns.length ≤ 63 ∧ ∀ H', Q (.bl true) H'
theorem cut_some (ns : List Int) (i j : Nat) : ∃ ms : List Int, cutV (ns.map V.int) (some (i : Int)) (some (j : Int)) = ms.map V.int ∧ ms.length ≤ j - i := by
  unfold cutV
  rw [HT.sIx_nat, HT.sIx_nat]
  refine ⟨(ns.drop (min i (ns.map V.int).length)).take (min j (ns.map V.int).length - min i (ns.map V.int).length), ?_, ?_⟩
  · rw [List.map_take, List.map_drop]
  · rw [List.length_take]
    omega
/-! the cheapest pruning -/
def Tr.w : Tr → Int
  | .en w => w
  | .fk w _ _ => w
/-- a pruning of the tree at q, and the sum of its costs -/
inductive PS : Tr → Str → List Str → Int → Prop
  | stop (t : Tr) (q : Str) : PS t q [q] t.w
  | go {w : Int} {y n : Tr} {q : Str} {ps1 ps2 : List Str} {s1 s2 : Int} : PS y (q ++ "y") ps1 s1 → PS n (q ++ "n") ps2 s2 → PS (.fk w y n) q (ps2 ++ ps1) (s1 + s2)
theorem PS.pi {t : Tr} {q : Str} {ps : List Str} {s : Int} (h : PS t q ps s) : ∃ gs, PI t q ps gs := by
  induction h with
  | stop t q => exact ⟨_, .stop t q⟩
  | go _ _ h1 h2 =>
    obtain ⟨g1, h1⟩ := h1
    obtain ⟨g2, h2⟩ := h2
    exact ⟨_, .go h1 h2⟩
def Lies (one other : List Str) : Prop := ∀ x ∈ other, ∃ o ∈ one, cds o <+: cds x
/-- the cheapest pruning by whole numbers: costs times b and c for each leaf -/
def best (b c : Int) : Tr → Str → List Str × Int
  | .en w, q => ([q], w)
  | .fk w y n, q => if ((best b c y (q ++ "y")).2 + (best b c n (q ++ "n")).2) * b + c * ((best b c n (q ++ "n")).1.length + (best b c y (q ++ "y")).1.length - 1) < w * b then ((best b c n (q ++ "n")).1 ++ (best b c y (q ++ "y")).1, (best b c y (q ++ "y")).2 + (best b c n (q ++ "n")).2) else ([q], w)
/-- a tree's costs -/
inductive CQ where
  | en (q : Rat)
  | fk (q : Rat) (y n : CQ)
def CQ.dp : CQ → Nat
  | .en _ => 0
  | .fk _ y n => 1 + max y.dp n.dp
def rtD (q : Rat) : PyData := .tuple [.int q.num, .int (q.den : Int)]
def cqD : CQ → PyData
  | .en q => .tuple [.str "end", rtD q]
  | .fk q y n => .tuple [.str "fork", rtD q, cqD y, cqD n]
inductive CV (K : PySem.W.Frag) (H : Hp) : V → CQ → Prop
  | en {p r : Addr} {q : Rat} : H p = some (.tup [.str "end", .ref r]) → H r = some (rt q) → CV K H (.ref p) (.en q)
  | fk {p r : Addr} {q : Rat} {v1 v2 : V} {y n : CQ} : H p = some (.tup [.str "fork", .ref r, v1, v2]) → H r = some (rt q) → CV K H v1 y → CV K H v2 n → CV K H (.ref p) (.fk q y n)
/-! all places of a tree -/
def plc : Tr → Str → List (Str × Str)
  | .en _, q => [(q, "end")]
  | .fk _ y n, q => (q, ("fork" : Str)) :: (plc y (q ++ "y") ++ plc n (q ++ "n"))
theorem plc_len : ∀ (t : Tr) (q : Str), (plc t q).length + 1 = 2 * t.lv
  | .en _, _ => rfl
  | .fk _ y n, q => by
    have h1 := plc_len y (q ++ "y")
    have h2 := plc_len n (q ++ "n")
    show ((q, ("fork" : Str)) :: (plc y (q ++ "y") ++ plc n (q ++ "n"))).length + 1 = 2 * (y.lv + n.lv)
    rw [List.length_cons, List.length_append]
    omega
def plD (u : Str × Str) : PyData := .tuple [.str u.1, .str u.2]
def tdD (e : Str × Tr) : PyData := .tuple [.str e.1, trD e.2]
def plcs (ts : List (Str × Tr)) : List (Str × Str) := ts.flatMap fun e => plc e.2 e.1
theorem snocT {P : Str × Tr → Prop} {as : List (Str × Tr)} {e : Str × Tr} (h : ∀ x ∈ as, P x) (he : P e) : ∀ x ∈ as ++ [e], P x := fun x hx => by
  rcases List.mem_append.mp hx with z | z
  · exact h x z
  · rw [List.mem_singleton.mp z]; exact he
theorem pop1_at (ys : List V) (x : V) : (ys ++ [x])[(ys ++ [x]).length - 1]? = some x := by
  rw [List.length_append, List.getElem?_append_right (by simp)]
  simp
theorem pop1_rest (ys : List V) (x : V) : (ys ++ [x]).dropLast = ys := by simp
def sp_places (K : PySem.W.Frag) : Sp := fun vs H Q _ => ∃ (v : V) (t : Tr), vs = [v] ∧ TV K H v (trD t) ∧ t.lv ≤ 30 ∧ ∀ H' p xs (us : List (Str × Str)), Same H H' → H p = none → H' p = some (.lst xs) → TVs K H' xs (us.map plD) → us.Perm (plc t "") → Q (.ref p) H'
/-! trees whose costs are ratios over B, or whole numbers where B is 0 -/
def rD (B w : Int) : PyData := if B = 0 then .int w else .tuple [.int (Rat.divInt w B).num, .int ((Rat.divInt w B).den : Int)]
theorem rD_pos {B w : Int} (h : 0 < B) : rD B w = .tuple [.int (Rat.divInt w B).num, .int ((Rat.divInt w B).den : Int)] := if_neg (by omega)
def htD (B : Int) : Tr → PyData
  | .en w => .tuple [.str "end", rD B w]
  | .fk w y n => .tuple [.str "fork", rD B w, htD B y, htD B n]
theorem TV.rD {K : PySem.W.Frag} {H : Hp} {x : V} {B w : Int} (hB : 0 < B) (h : TV K H x (rD B w)) : ∃ c, x = .ref c ∧ H c = some (rt (Rat.divInt w B)) := by
  rw [rD_pos hB] at h
  obtain ⟨p, u, v, rfl, hp, t1, t2⟩ := TV.pair h
  obtain rfl := t1.ints
  obtain rfl := t2.ints
  exact ⟨p, rfl, hp⟩
theorem TV.rD' {K : PySem.W.Frag} {H : Hp} {c : Addr} {B w : Int} (hB : 0 < B) (h : H c = some (rt (Rat.divInt w B))) : TV K H (.ref c) (Lw.rD B w) := by
  rw [rD_pos hB]
  exact .tup h (.cons (.int _) (.cons (.int _) .nil))
theorem TV.hen {K : PySem.W.Frag} {H : Hp} {x : V} {B w : Int} (h : TV K H x (htD B (.en w))) : ∃ p c, x = .ref p ∧ H p = some (.tup [.str "end", c]) ∧ TV K H c (Lw.rD B w) := by
  unfold htD at h
  obtain ⟨p, u, v, rfl, hp, t1, t2⟩ := TV.pair h
  obtain rfl := t1.strs
  exact ⟨p, _, rfl, hp, t2⟩
theorem TV.hfk {K : PySem.W.Frag} {H : Hp} {x : V} {B w : Int} {y n : Tr} (h : TV K H x (htD B (.fk w y n))) : ∃ p c u v, x = .ref p ∧ H p = some (.tup [.str "fork", c, u, v]) ∧ TV K H c (Lw.rD B w) ∧ TV K H u (htD B y) ∧ TV K H v (htD B n) := by
  unfold htD at h
  obtain ⟨p, a, b, u, v, rfl, hp, t1, t2, t3, t4⟩ := TV.quad h
  obtain rfl := t1.strs
  exact ⟨p, b, u, v, rfl, hp, t2, t3, t4⟩
theorem TV.hen' {K : PySem.W.Frag} {H : Hp} {p c : Addr} {B w : Int} (hB : 0 < B) (h : H p = some (.tup [.str "end", .ref c])) (hc : H c = some (rt (Rat.divInt w B))) : TV K H (.ref p) (htD B (.en w)) := by
  unfold htD
  exact .tup h (.cons (.str _) (.cons (TV.rD' hB hc) .nil))
theorem TV.hfk' {K : PySem.W.Frag} {H : Hp} {p c : Addr} {u v : V} {B w : Int} {y n : Tr} (hB : 0 < B) (h : H p = some (.tup [.str "fork", .ref c, u, v])) (hc : H c = some (rt (Rat.divInt w B))) (h1 : TV K H u (htD B y)) (h2 : TV K H v (htD B n)) : TV K H (.ref p) (htD B (.fk w y n)) := by
  unfold htD
  exact .tup h (.cons (.str _) (.cons (TV.rD' hB hc) (.cons h1 (.cons h2 .nil))))
/-! handed trees, all their places -/
def knd : Tr → Str
  | .en _ => "end"
  | .fk _ _ _ => "fork"
def plt : Tr → Str → List (Str × Tr)
  | .en w, q => [(q, .en w)]
  | .fk w y n, q => (q, .fk w y n) :: (plt y (q ++ "y") ++ plt n (q ++ "n"))
theorem plt_plc : ∀ (t : Tr) (q : Str), plc t q = (plt t q).map fun e => (e.1, knd e.2)
  | .en _, _ => rfl
  | .fk w y n, q => by
    show (q, ("fork" : Str)) :: (plc y (q ++ "y") ++ plc n (q ++ "n")) = (q, ("fork" : Str)) :: ((plt y (q ++ "y") ++ plt n (q ++ "n")).map fun e => (e.1, knd e.2))
    rw [plt_plc y, plt_plc n, List.map_append]
theorem plt_pre : ∀ {t : Tr} {q : Str} {e : Str × Tr}, e ∈ plt t q → cds q <+: cds e.1
  | .en _, q, e, h => by rw [List.mem_singleton.mp h]; exact List.prefix_refl _
  | .fk w y n, q, e, h => by
    rcases List.mem_cons.mp h with rfl | h
    · exact List.prefix_refl _
    · rcases List.mem_append.mp h with h | h
      · exact (pre_app _ _).trans (plt_pre h)
      · exact (pre_app _ _).trans (plt_pre h)
theorem plt_nodup : ∀ (t : Tr) (q : Str), ((plt t q).map (·.1)).Nodup
  | .en _, _ => List.nodup_cons.mpr ⟨List.not_mem_nil, List.nodup_nil⟩
  | .fk w y n, q => by
    show (q :: ((plt y (q ++ "y") ++ plt n (q ++ "n")).map (·.1))).Nodup
    rw [List.map_append, List.nodup_cons, List.nodup_append]
    refine ⟨fun z => ?_, plt_nodup y _, plt_nodup n _, fun a ha b hb e => ?_⟩
    · rcases List.mem_append.mp z with z | z
      · obtain ⟨e, he, rfl⟩ := List.mem_map.mp z
        exact longer ynl.1 (plt_pre he) (List.prefix_refl _)
      · obtain ⟨e, he, rfl⟩ := List.mem_map.mp z
        exact longer ynl.2 (plt_pre he) (List.prefix_refl _)
    · obtain ⟨e1, h1, rfl⟩ := List.mem_map.mp ha
      obtain ⟨e2, h2, rfl⟩ := List.mem_map.mp hb
      exact yn_apart (plt_pre h1) (by rw [e]; exact plt_pre h2)
theorem plt_len (t : Tr) (q : Str) : (plt t q).length + 1 = 2 * t.lv := by have := plc_len t q; rw [plt_plc, List.length_map] at this; exact this
def thD (B : Int) (e : Str × Tr) : PyData := .tuple [.str e.1, htD B e.2]
def plts (ts : List (Str × Tr)) : List (Str × Tr) := ts.flatMap fun e => plt e.2 e.1
theorem plts_app (as bs : List (Str × Tr)) : plts (as ++ bs) = plts as ++ plts bs := List.flatMap_append
theorem plts_len : ∀ as : List (Str × Tr), as.length ≤ (plts as).length
  | [] => Nat.le_refl _
  | e :: as => by
    have h := plts_len as
    have h2 := plt_len e.2 e.1
    have h3 := e.2.lv_pos
    show as.length + 1 ≤ (plt e.2 e.1 ++ plts as).length
    rw [List.length_append]
    omega
theorem plt_step {us A B : List (Str × Tr)} (x : Str × Tr) : ((us ++ [x]) ++ (A ++ B)).Perm (us ++ (A ++ (x :: B))) := by
  rw [List.append_assoc]
  exact List.Perm.append_left us (List.perm_middle (l₁ := A) (a := x) (l₂ := B)).symm
/-- a dict of places and trees -/
inductive DT (K : PySem.W.Frag) (B : Int) (H : Hp) : List (Key × V) → List (Str × Tr) → Prop
  | nil : DT K B H [] []
  | cons {v : V} {e : Str × Tr} {kvs : List (Key × V)} {es : List (Str × Tr)} : TV K H v (htD B e.2) → DT K B H kvs es → DT K B H ((.inr e.1, v) :: kvs) (e :: es)
theorem DT.mono {K : PySem.W.Frag} {B : Int} {H H' : Hp} {kvs : List (Key × V)} {es : List (Str × Tr)} (h : DT K B H kvs es) (s : SameT H H') : DT K B H' kvs es := by
  induction h with
  | nil => exact .nil
  | cons t _ ih => exact .cons (t.mono s) ih
theorem DT.snoc {K : PySem.W.Frag} {B : Int} {H : Hp} {kvs : List (Key × V)} {es : List (Str × Tr)} {v : V} {e : Str × Tr} (h : DT K B H kvs es) (t : TV K H v (htD B e.2)) : DT K B H (kvs ++ [(.inr e.1, v)]) (es ++ [e]) := by
  induction h with
  | nil => exact .cons t .nil
  | cons a _ ih => exact .cons a ih
theorem DT.length {K : PySem.W.Frag} {B : Int} {H : Hp} {kvs : List (Key × V)} {es : List (Str × Tr)} (h : DT K B H kvs es) : kvs.length = es.length := by
  induction h with
  | nil => rfl
  | cons _ _ ih => rw [List.length_cons, List.length_cons, ih]
theorem DT.vno {K : PySem.W.Frag} {B : Int} {H : Hp} {kvs : List (Key × V)} {es : List (Str × Tr)} {x : Str} (h : DT K B H kvs es) (n : x ∉ es.map (·.1)) : valV kvs (.inr x) = none := by
  induction h with
  | nil => rfl
  | @cons v e kvs es _ _ ih =>
    rw [List.map_cons, List.mem_cons, not_or] at n
    rw [valV_neg (by intro z; injection z with z; exact n.1 z.symm)]
    exact ih n.2
theorem DT.get {K : PySem.W.Frag} {B : Int} {H : Hp} {kvs : List (Key × V)} {es : List (Str × Tr)} {i : Nat} {k : Key} {v : V} (h : DT K B H kvs es) (e : kvs[i]? = some (k, v)) : ∃ x, es[i]? = some x ∧ k = .inr x.1 ∧ TV K H v (htD B x.2) := by
  induction h generalizing i with
  | nil => cases i <;> cases e
  | @cons v' x kvs es t _ ih =>
    cases i with
    | zero =>
      have e := Option.some.inj e
      cases e
      exact ⟨x, rfl, rfl, t⟩
    | succ i => exact ih e
theorem TVs.lastH {K : PySem.W.Frag} {H : Hp} {B : Int} : ∀ {ys : List V} {ts : List (Str × Tr)}, TVs K H ys (ts.map (thD B)) → 0 < ys.length → ∃ zs y as e, ys = zs ++ [y] ∧ ts = as ++ [e] ∧ TVs K H zs (as.map (thD B)) ∧ TV K H y (thD B e)
  | _, [], h, l => by cases h; exact absurd l (Nat.lt_irrefl 0)
  | _, [e], h, l => by
    cases h with
    | cons h1 h => cases h; exact ⟨[], _, [], e, rfl, rfl, .nil, h1⟩
  | _, e :: e2 :: ts, h, l => by
    cases h with
    | cons h1 h =>
      obtain ⟨zs, y, as, e', rfl, e3, t, ty⟩ := TVs.lastH (ts := e2 :: ts) h (by rw [h.length]; exact Nat.succ_pos _)
      exact ⟨_ :: zs, y, e :: as, e', rfl, by rw [e3]; rfl, .cons h1 t, ty⟩
def sp_trees (K : PySem.W.Frag) : Sp := fun vs H Q _ => ∃ (v : V) (t : Tr) (B : Int), vs = [v] ∧ TV K H v (htD B t) ∧ t.lv ≤ 48 ∧ ∀ H' d kvs es, Same H H' → H d = none → H' d = some (.dK kvs) → DT K B H' kvs es → es.Perm (plt t "") → Q (.ref d) H'
def sp_places2 (K : PySem.W.Frag) : Sp := fun vs H Q _ => ∃ (v : V) (t : Tr), vs = [v] ∧ TV K H v (trD t) ∧ t.lv ≤ 30 ∧ ∀ H' p xs (us : List (Str × Str)), Same H H' → H p = none → H' p = some (.lst xs) → TVs K H' xs (us.map plD) → us.Perm (plc t "") → (us.map (·.1)).Pairwise (fun a b => cds a < cds b) → Q (.ref p) H'
theorem st_dk {H H' : Hp} {z : Addr} {kvs : List (Key × V)} (s : SameT H H') (hz : H' z = some (.dK kvs)) (o : HO) : SameT H (upd H' z o) := fun a xs e => by
  have e2 := s a xs e
  rw [upd_ne (ne_of e2 hz (by intro q; cases q))]
  exact e2
/-! prunings, and whether a list is one -/
def plK (t : Tr) (so : Str) : List Str := ((plc t "").filter fun u => decide (u.2 = so)).map (·.1)
def sp_places_of (K : PySem.W.Frag) : Sp := fun vs H Q _ => ∃ (v : V) (t : Tr) (B : Int) (so : Str), vs = [v, .str so] ∧ TV K H v (htD B t) ∧ t.lv ≤ 30 ∧ ∀ H' p ws, Same H H' → H p = none → H' p = some (.lst (ws.map V.str)) → ws.Perm (plK t so) → PyProof.Rows.sortedS ws = true → Q (.ref p) H'
def sp_ends (K : PySem.W.Frag) : Sp := fun vs H Q _ => ∃ (v : V) (t : Tr) (B : Int), vs = [v] ∧ TV K H v (htD B t) ∧ t.lv ≤ 30 ∧ ∀ H' p ws, Same H H' → H p = none → H' p = some (.lst (ws.map V.str)) → ws.Perm (plK t "end") → PyProof.Rows.sortedS ws = true → Q (.ref p) H'
/-- it is a pruning -/
structure IsP (t : Tr) (ps : List Str) : Prop where
  kn : ∀ x ∈ ps, x ∈ (plc t "").map (·.1)
  up : ps.Pairwise (fun a b => cds a < cds b)
  one : ∀ e ∈ plK t "end", (bgs e ps).length = 1
noncomputable def isP (t : Tr) (ps : List Str) : Bool := by
  classical
  exact decide (IsP t ps)
theorem sorted_pw : ∀ {l : List Str}, PyProof.Rows.sortedS l = true → l.Pairwise (fun a b => cds a ≤ cds b)
  | [], _ => .nil
  | a :: l, h => List.pairwise_cons.mpr ⟨rising_pw a l h, sorted_pw (sorted_tail h)⟩
theorem pw_rising : ∀ {a : Str} {l : List Str}, (a :: l).Pairwise (fun a b => cds a < cds b) → PyProof.Rows.risingS a l = true
  | _, [], _ => rfl
  | a, b :: l, h => by
    have h2 := List.pairwise_cons.mp h
    show (!PySem.Spec.ltCps b.cps.toList a.cps.toList && PyProof.Rows.risingS b l) = true
    rw [pw_rising h2.2, Bool.and_true, Bool.not_eq_true', PyProof.Rows.ltCps_eq, decide_eq_false_iff_not]
    exact List.lt_asymm (h2.1 b List.mem_cons_self)
theorem pw_sorted {l : List Str} (h : l.Pairwise (fun a b => cds a < cds b)) : PyProof.Rows.sortedS l = true := by
  cases l with
  | nil => rfl
  | cons a l => exact pw_rising h
theorem cds_ext {a b : Str} (h : cds a = cds b) : a = b := by
  cases a with | mk x => cases b with | mk y => exact congrArg _ (Array.ext' h)
theorem pw_nodup {l : List Str} (h : l.Pairwise (fun a b => cds a < cds b)) : l.Nodup := h.imp fun {a b} z e => by rw [e] at z; exact List.lt_irrefl _ z
theorem up_of {l : List Str} (h : l.Pairwise (fun a b => cds a ≤ cds b)) (n : l.Nodup) : l.Pairwise (fun a b => cds a < cds b) := (h.and n).imp fun {a b} z => by
  by_cases c : cds a < cds b
  · exact c
  · exact absurd (cds_ext (List.le_antisymm z.1 (List.not_lt.mp c))) z.2
theorem sset_iff {ps ws : List Str} (hp : ws.Perm (ddS ps)) (hs : PyProof.Rows.sortedS ws = true) : ps = ws ↔ ps.Pairwise (fun a b => cds a < cds b) := by
  constructor
  · intro e
    have n : ws.Nodup := hp.nodup_iff.mpr (ddS_nodup ps)
    rw [e]
    exact up_of (sorted_pw hs) n
  · intro h
    rw [ddS_same (pw_nodup h)] at hp
    exact sorted_one (pw_sorted h) hs hp.symm
def sp_isp (K : PySem.W.Frag) : Sp := fun vs H Q _ => ∃ (v : V) (t : Tr) (B : Int) (a : Addr) (ps : List Str), vs = [v, .ref a] ∧ TV K H v (htD B t) ∧ t.lv ≤ 30 ∧ H a = some (.lst (ps.map V.str)) ∧ ps.length < 64 ∧ (∀ x ∈ ps, Asc x) ∧ ∀ H', Same H H' → Q (.bl (isP t ps)) H'
def sp_is : Sp := fun vs H Q _ => ∃ x y : Bool, vs = [.bl x, .bl y] ∧ x = y ∧ Q (.bl true) H
def sp_due25 (K : PySem.W.Frag) : Sp := fun vs H Q _ => ∃ (a b : Addr) (t : Tr) (ps : List Str) (xs : List V) (us : List (Str × Str)), vs = [.ref a, .ref b] ∧ H a = some (.lst (ps.map V.str)) ∧ H b = some (.lst xs) ∧ TVs K H xs (us.map plD) ∧ us.Perm (plc t "") ∧ t.lv ≤ 30 ∧ ps.length < 64 ∧ (∀ x ∈ ps, x.length ≤ 100) ∧ ∀ H', Same H H' → Q (.bl (isP t ps)) H'
theorem plc_long : ∀ {t : Tr} {q : Str} {u : Str × Str}, u ∈ plc t q → u.1.length ≤ q.length + t.dp
  | .en _, q, u, h => by rw [List.mem_singleton.mp h]; exact Nat.le_add_right _ _
  | .fk w y n, q, u, h => by
    have h : u ∈ (q, ("fork" : Str)) :: (plc y (q ++ "y") ++ plc n (q ++ "n")) := h
    show u.1.length ≤ q.length + (max y.dp n.dp + 1)
    rcases List.mem_cons.mp h with rfl | h
    · exact Nat.le_add_right _ _
    · rcases List.mem_append.mp h with h | h
      · have := plc_long h
        rw [len_app, ynl.1] at this
        omega
      · have := plc_long h
        rw [len_app, ynl.2] at this
        omega
def sp_handed (K : PySem.W.Frag) (d : Nat) : Sp := fun vs H Q _ => ∃ (v : V) (t : Tr), vs = [v, .int 1] ∧ TV K H v (trD t) ∧ t.dp ≤ d ∧ t.lv ≤ 30 ∧ ∀ H' x, Same H H' → TV K H' x (htD 1 t) → Q x H'
def sp_spoiled (K : PySem.W.Frag) : Sp := fun vs H Q _ => ∃ (a b : Addr) (c : Int) (ps : List Str) (xs : List V) (us : List (Str × Str)), vs = [.ref a, .ref b, .int c] ∧ H a = some (.lst (ps.map V.str)) ∧ 0 < ps.length ∧ ps.length ≤ 60 ∧ (∀ x ∈ ps, Asc x ∧ x.length ≤ 90) ∧ H b = some (.lst xs) ∧ TVs K H xs (us.map plD) ∧ 0 < us.length ∧ us.length ≤ 60 ∧ (∀ u ∈ us, Asc u.1 ∧ u.1.length ≤ 90) ∧
  ∀ (H' : Hp) (p : Addr) (rs : List Str), Same H H' → H' p = some (.lst (rs.map V.str)) → rs.length < 64 → (∀ x ∈ rs, Asc x ∧ x.length ≤ 100) → Q (.ref p) H'
/-! which lists are prunings -/
theorem plc_pre {t : Tr} {q : Str} {u : Str × Str} (h : u ∈ plc t q) : cds q <+: cds u.1 := by
  rw [plt_plc] at h
  obtain ⟨e, he, rfl⟩ := List.mem_map.mp h
  exact plt_pre he
theorem lt_pre : ∀ {l a b : List Nat}, a < b → l ++ a < l ++ b
  | [], _, _, h => h
  | c :: l, _, _, h => List.cons_lt_cons_iff.mpr (.inr ⟨rfl, lt_pre (l := l) h⟩)
theorem ny_lt {q x y : Str} (hx : cds (q ++ "n") <+: cds x) (hy : cds (q ++ "y") <+: cds y) : cds x < cds y := by
  obtain ⟨r1, e1⟩ := hx
  obtain ⟨r2, e2⟩ := hy
  rw [← e1, ← e2, cds_app, cds_app, List.append_assoc, List.append_assoc]
  refine lt_pre ?_
  have n1 : cds "n" = [110] := by decide +kernel
  have y1 : cds "y" = [121] := by decide +kernel
  rw [n1, y1]
  exact List.cons_lt_cons_iff.mpr (.inl (by decide))
theorem PI.kn {t : Tr} {q : Str} {ps gs : List Str} (h : PI t q ps gs) : ∀ x ∈ ps, x ∈ (plc t q).map (·.1) := by
  induction h with
  | stop t q =>
    intro x hx
    rw [List.mem_singleton.mp hx]
    cases t with
    | en w => exact List.mem_cons_self
    | fk w y n => exact List.mem_cons_self
  | @go w y n q ps1 ps2 fs1 fs2 _ _ h1 h2 =>
    intro x hx
    show x ∈ q :: ((plc y (q ++ "y") ++ plc n (q ++ "n")).map (·.1))
    rw [List.map_append]
    refine List.mem_cons_of_mem _ (List.mem_append.mpr ?_)
    rcases List.mem_append.mp hx with hx | hx
    · exact .inr (h2 x hx)
    · exact .inl (h1 x hx)
theorem PI.up {t : Tr} {q : Str} {ps gs : List Str} (h : PI t q ps gs) : ps.Pairwise (fun a b => cds a < cds b) := by
  induction h with
  | stop t q => exact List.pairwise_singleton _ _
  | @go w y n q ps1 ps2 fs1 fs2 p1 p2 h1 h2 => exact List.pairwise_append.mpr ⟨h2, h1, fun a ha b hb => ny_lt (p2.pre.1 a ha) (p1.pre.1 b hb)⟩
theorem bgs_none {e : Str} {ps : List Str} (h : ∀ x ∈ ps, ¬ cds x <+: cds e) : bgs e ps = [] := by
  rw [List.eq_nil_iff_forall_not_mem]
  intro x hx
  exact h x (mem_bgs.mp hx).1 (mem_bgs.mp hx).2
theorem bgs_app (e : Str) (a b : List Str) : bgs e (a ++ b) = bgs e a ++ bgs e b := List.filter_append _ _
theorem PI.one {t : Tr} {q : Str} {ps gs : List Str} (h : PI t q ps gs) : ∀ u ∈ plc t q, u.2 = Str.ofString "end" → (bgs u.1 ps).length = 1 := by
  induction h with
  | stop t q =>
    intro u hu _
    have : bgs u.1 [q] = [q] := List.filter_eq_self.mpr fun x hx => by
      rw [List.mem_singleton.mp hx]
      exact (starts_iff u.1 q).mpr (plc_pre hu)
    rw [this]
    rfl
  | @go w y n q ps1 ps2 fs1 fs2 p1 p2 h1 h2 =>
    intro u hu e
    have hu : u ∈ (q, Str.ofString "fork") :: (plc y (q ++ "y") ++ plc n (q ++ "n")) := hu
    rw [bgs_app, List.length_append]
    rcases List.mem_cons.mp hu with rfl | hu
    · exact absurd e (show ¬ Str.ofString "fork" = Str.ofString "end" by decide +kernel)
    · rcases List.mem_append.mp hu with hu | hu
      · rw [bgs_none (ps := ps2) fun x hx z => yn_apart (plc_pre hu) ((p2.pre.1 x hx).trans z), h1 u hu e]
        rfl
      · rw [bgs_none (ps := ps1) fun x hx z => yn_apart ((p1.pre.1 x hx).trans z) (plc_pre hu), h2 u hu e]
        rfl
theorem PI.isP {t : Tr} {ps gs : List Str} (h : PI t "" ps gs) : IsP t ps := ⟨h.kn, h.up, fun e he => by
  unfold plK at he
  obtain ⟨u, hu, rfl⟩ := List.mem_map.mp he
  have h2 := List.mem_filter.mp hu
  exact h.one u h2.1 (of_decide_eq_true h2.2)⟩
/-! places and costs -/
def sp_np (CP : Addr) : Sp := fun vs H Q _ => ∃ (ea : Addr) (w : Str), vs = [.ref ea, .str w] ∧ H ea = some (exN ea CP none) ∧ okS w ∧ w.length ≤ 1000 ∧ ∀ d, H d = none → d ≠ ea → Q .non (upd (upd H ea (exN ea CP (some d))) d (.xd [("place", .str w)]))
def Tr.wt : Tr → Int
  | .en w => w
  | .fk w _ _ => w
/-- the tree at a place -/
def Tr.go : Tr → List Nat → Option Tr
  | t, [] => some t
  | .en _, _ :: _ => none
  | .fk _ y n, c :: cs => if c = 121 then y.go cs else if c = 110 then n.go cs else none
theorem cd_yn : cds ("y" : Str) = [121] ∧ cds ("n" : Str) = [110] := by decide +kernel
theorem plt_go : ∀ {t : Tr} {q : Str} {e : Str × Tr}, e ∈ plt t q → ∃ r, cds e.1 = cds q ++ r ∧ t.go r = some e.2
  | .en w, q, e, h => by rw [List.mem_singleton.mp h]; exact ⟨[], (List.append_nil _).symm, rfl⟩
  | .fk w y n, q, e, h => by
    rcases List.mem_cons.mp h with rfl | h
    · exact ⟨[], (List.append_nil _).symm, rfl⟩
    · rcases List.mem_append.mp h with h | h
      · obtain ⟨r, h1, h2⟩ := plt_go h
        exact ⟨121 :: r, by rw [h1, cds_app, cd_yn.1, List.append_assoc]; rfl, h2⟩
      · obtain ⟨r, h1, h2⟩ := plt_go h
        exact ⟨110 :: r, by rw [h1, cds_app, cd_yn.2, List.append_assoc]; rfl, h2⟩
theorem plt_go0 {t u : Tr} {w : Str} (h : (w, u) ∈ plt t "") : t.go (cds w) = some u := by
  obtain ⟨r, h1, h2⟩ := plt_go h
  have h1 : cds w = [] ++ r := h1
  rw [h1]
  exact h2
theorem DT.val {K : PySem.W.Frag} {B : Int} {H : Hp} {kvs : List (Key × V)} {es : List (Str × Tr)} {x : Str} {u : Tr} (h : DT K B H kvs es) (nd : (es.map (·.1)).Nodup) (m : (x, u) ∈ es) : ∃ v, valV kvs (.inr x) = some v ∧ TV K H v (htD B u) := by
  induction h with
  | nil => cases m
  | @cons v e kvs es t _ ih =>
    rw [List.map_cons, List.nodup_cons] at nd
    rcases List.mem_cons.mp m with z | z
    · subst z
      exact ⟨v, valV_pos rfl, t⟩
    · have ne : e.1 ≠ x := fun y => nd.1 (by rw [y]; exact List.mem_map.mpr ⟨(x, u), z, rfl⟩)
      rw [valV_neg (by intro y; injection y with y; exact ne y)]
      exact ih nd.2 z
def sp_cost_at (CP : Addr) (K : PySem.W.Frag) : Sp := fun vs H Q E => ∃ (v : V) (t : Tr) (B : Int) (w : Str), vs = [v, .str w] ∧ TV K H v (htD B t) ∧ t.lv ≤ 30 ∧ okS w ∧ w.length ≤ 1000 ∧ (∀ u H' p, (w, u) ∈ plt t "" → Same H H' → H' p = some (rt (Rat.divInt u.wt B)) → Q (.ref p) H') ∧ ((∀ e ∈ plt t "", e.1 ≠ w) → ∀ H' d, Same H H' → H' d = some (.xd [("place", .str w)]) → E (.ref CP) (some d) H')
def sp_forks (K : PySem.W.Frag) : Sp := fun vs H Q _ => ∃ (v : V) (t : Tr) (B : Int), vs = [v] ∧ TV K H v (htD B t) ∧ t.lv ≤ 30 ∧ ∀ H' p ws, Same H H' → H p = none → H' p = some (.lst (ws.map V.str)) → ws.Perm (plK t "fork") → PyProof.Rows.sortedS ws = true → Q (.ref p) H'
def sp_bottom29 : Sp := fun vs H Q _ => ∃ c : Int, vs = [.int c] ∧ ∀ v : Int, 1 ≤ v → v ≤ 1000000000000000000000000000000 → Q (.int v) H
def sp_handed24 (K : PySem.W.Frag) (d : Nat) : Sp := fun vs H Q _ => ∃ (v : V) (t : Tr) (B : Int), vs = [v, .int B] ∧ TV K H v (trD t) ∧ t.dp ≤ d ∧ t.lv ≤ 30 ∧ 0 < B ∧ Bz 8000 B ∧ ∀ H' x, Same H H' → TV K H' x (htD B t) → Q x H'
def sp_trat (K : PySem.W.Frag) : Sp := fun vs H Q _ => ∃ (v : V) (w : Str) (t u : Tr), vs = [v, .str w] ∧ TV K H v (trD t) ∧ w.length ≤ 1000 ∧ t.go (cds w) = some u ∧ ∀ p k r, H p = some (.tup (.str k :: .int u.wt :: r)) → Q (.ref p) H
def sp_strange (K : PySem.W.Frag) : Sp := fun vs H Q _ => ∃ (f : Addr) (c : Int) (xs : List V) (us : List (Str × Str)), vs = [.ref f, .int c] ∧ H f = some (.lst xs) ∧ TVs K H xs (us.map plD) ∧ 0 < us.length ∧ us.length ≤ 60 ∧ (∀ u ∈ us, Asc u.1 ∧ u.1.length ≤ 90) ∧ ∀ w, okS w → w.length ≤ 300 → Q (.str w) H
def sp_refused24 (K : PySem.W.Frag) : Sp := fun vs H Q _ => ∃ (v : V) (t : Tr) (B : Int) (w : Str), vs = [v, .str w] ∧ TV K H v (htD B t) ∧ t.lv ≤ 30 ∧ okS w ∧ w.length ≤ 1000 ∧ (∀ e ∈ plt t "", e.1 ≠ w) ∧ ∀ H', Same H H' → Q (.bl true) H'
theorem _root_.L2.TV.wt {K : PySem.W.Frag} {H : Hp} {v : V} {u : Tr} (h : TV K H v (trD u)) : ∃ p k r, v = .ref p ∧ H p = some (.tup (.str k :: .int u.wt :: r)) := by
  cases u with
  | en w => obtain ⟨p, rfl, hp⟩ := TV.en h; exact ⟨_, _, _, rfl, hp⟩
  | fk w y n => obtain ⟨p, v1, v2, rfl, hp, _, _⟩ := TV.fk h; exact ⟨_, _, _, rfl, hp⟩
/-! sums of ratios -/
/-- a ratio stands there -/
def Rt (H : Hp) (p : Addr) (r : Rat) : Prop := H p = some (rt r)
/-- two ratios handed in -/
def Two (n : Nat) (vs : List V) (H : Hp) (R : Rat → Rat → Prop) : Prop := ∃ (p1 p2 : Addr) (r1 r2 : Rat), vs = [.ref p1, .ref p2] ∧ Rt H p1 r1 ∧ Rt H p2 r2 ∧ Rz n r1 ∧ Rz n r2 ∧ R r1 r2
def Nw2 (H : Hp) (Q : VK) (q : Rat) : Prop := ∀ p H', H p = none → Same H H' → H' p = some (rt q) → Q (.ref p) H'
def sp_plus : Sp := fun vs H Q _ => Two 700 vs H fun r1 r2 => Nw H Q (r1 + r2)
def sp_minus : Sp := fun vs H Q _ => Two 700 vs H fun r1 r2 => Nw2 H Q (r1 - r2)
def sp_under : Sp := fun vs H Q _ => Two 2000 vs H fun r1 r2 => Q (.bl (decide (r1 < r2))) H
def sp_over (C : Addr) : Sp := fun vs H Q E => Two 2000 vs H fun r1 r2 => (r2 = 0 ∧ E (.ref C) none H) ∨ (r2 ≠ 0 ∧ Nw H Q (r1 / r2))
theorem cGe {t b : Int} (hb : 0 < b) (bz : Bz 8000 b) (i : Int) : CDivB i (M.G t b) := ⟨M.G_pos t b, (bz.le (M.G_le (by omega))).log2⟩
theorem Rz.neg {n : Nat} {r : Rat} (h : Rz n r) : Rz n (-r) := ⟨h.zn.neg, h.zd⟩
theorem Nw.sum {H : Hp} {Q : VK} {q r : Rat} (h : Nw H Q (q + r)) : ∀ p, H p = none → Q (.ref p) (upd H p (.tup [.int ((q.num * ((r.den : Int) / M.G q.den r.den) + r.num * ((q.den : Int) / M.G q.den r.den)) / M.G (q.num * ((r.den : Int) / M.G q.den r.den) + r.num * ((q.den : Int) / M.G q.den r.den)) (M.G q.den r.den)), .int ((q.den : Int) / M.G (q.num * ((r.den : Int) / M.G q.den r.den) + r.num * ((q.den : Int) / M.G q.den r.den)) (M.G q.den r.den) * ((r.den : Int) / M.G q.den r.den))])) := by
  rw [(M.plus_low q r).1, (M.plus_low q r).2]
  exact h
/-! forks inside, links -/
/-- a pruning at q: its places, the links of its forks, the sum of its costs, how many places -/
inductive LK : Tr → Str → List Str → List (Str × Int × Int) → Int → Int → Prop
  | stop (t : Tr) (q : Str) : LK t q [q] [] t.wt 1
  | go {w : Int} {y n : Tr} {q : Str} {ps1 ps2 : List Str} {us1 us2 : List (Str × Int × Int)} {s1 s2 m1 m2 : Int} : LK y (q ++ "y") ps1 us1 s1 m1 → LK n (q ++ "n") ps2 us2 s2 m2 → LK (.fk w y n) q (ps2 ++ ps1) ((q, w - (s1 + s2), m1 + m2 - 1) :: (us2 ++ us1)) (s1 + s2) (m1 + m2)
/-- the places beneath f -/
def und (ps : List Str) (f : Str) : List Str := ps.filter fun x => Txt.startswith x f
/-- the forks that are no leaf and beneath none -/
def insF (t : Tr) (ps : List Str) : List Str := (plK t "fork").filter fun x => decide ((bgs x ps).length = 0)
theorem divInt_sub {a c B : Int} (hB : 0 < B) : Rat.divInt a B - Rat.divInt c B = Rat.divInt (a - c) B := by
  have hb : (B : Rat) ≠ 0 := fun z => by
    have : B = 0 := by exact_mod_cast z
    omega
  rw [Rat.divInt_eq_div, Rat.divInt_eq_div, Rat.divInt_eq_div, Rat.intCast_sub]
  grind
/-- the cost at a place -/
def wA (t : Tr) (x : Str) : Int := match t.go (cds x) with
  | some u => u.wt
  | none => 0
theorem wA_at {t : Tr} : ∀ e ∈ plt t "", wA t e.1 = e.2.wt := fun e he => by
  unfold wA
  rw [plt_go0 (t := t) (w := e.1) (u := e.2) he]
theorem plt_B : ∀ {t : Tr} {q : Str}, t.B → ∀ e ∈ plt t q, -100000000000000000000000000000000 < e.2.wt ∧ e.2.wt < 100000000000000000000000000000000
  | .en w, q, h, e, he => by rw [List.mem_singleton.mp he]; exact h
  | .fk w y n, q, h, e, he => by
    rcases List.mem_cons.mp he with z | z
    · rw [z]; exact h.1
    · rcases List.mem_append.mp z with z | z
      · exact plt_B h.2.1 e z
      · exact plt_B h.2.2 e z
def sp_check_pr (CPr : Addr) (K : PySem.W.Frag) : Sp := fun vs H Q E => ∃ (v : V) (t : Tr) (B : Int) (a : Addr) (ps : List Str), vs = [v, .ref a] ∧ TV K H v (htD B t) ∧ t.lv ≤ 30 ∧ H a = some (.lst (ps.map V.str)) ∧ ps.length < 64 ∧ (∀ x ∈ ps, Asc x) ∧ ((isP t ps = true ∧ ∀ H', Same H H' → Q .non H') ∨ (isP t ps = false ∧ ∀ H' od, Same H H' → E (.ref CPr) od H'))
def sp_finside (K : PySem.W.Frag) : Sp := fun vs H Q _ => ∃ (v : V) (t : Tr) (B : Int) (a : Addr) (ps : List Str), vs = [v, .ref a] ∧ TV K H v (htD B t) ∧ t.lv ≤ 30 ∧ H a = some (.lst (ps.map V.str)) ∧ ps.length < 64 ∧ ∀ H' p rs, Same H H' → H p = none → H' p = some (.lst (rs.map V.str)) → rs.Perm (insF t ps) → PyProof.Rows.sortedS rs = true → Q (.ref p) H'
def sp_inside (CPr : Addr) (K : PySem.W.Frag) : Sp := fun vs H Q E => ∃ (v : V) (t : Tr) (B : Int) (a : Addr) (ps : List Str), vs = [v, .ref a] ∧ TV K H v (htD B t) ∧ t.lv ≤ 30 ∧ H a = some (.lst (ps.map V.str)) ∧ ps.length < 64 ∧ (∀ x ∈ ps, Asc x) ∧ ((isP t ps = true ∧ ∀ H' p rs, Same H H' → H p = none → H' p = some (.lst (rs.map V.str)) → rs.Perm (insF t ps) → PyProof.Rows.sortedS rs = true → Q (.ref p) H') ∨ (isP t ps = false ∧ ∀ H' od, Same H H' → E (.ref CPr) od H'))
def sp_shared : Sp := fun vs H Q _ => ∃ (a : Addr) (r : Rat) (m : Int), vs = [.ref a, .int m] ∧ H a = some (rt r) ∧ 0 < m ∧ m ≤ 100 ∧ Rz 700 r ∧ Nw H Q (Rat.divInt r.num ((r.den : Int) * m))
def sp_linki (K : PySem.W.Frag) : Sp := fun vs H Q _ => ∃ (v : V) (t : Tr) (B : Int) (a : Addr) (ps : List Str) (f : Str), vs = [v, .ref a, .str f] ∧ TV K H v (htD B t) ∧ t.lv ≤ 30 ∧ H a = some (.lst (ps.map V.str)) ∧ ps.length < 64 ∧ (∀ x ∈ ps, x ∈ (plc t "").map (·.1)) ∧ f ∈ (plc t "").map (·.1) ∧ 0 < B ∧ Bz 128 B ∧ t.B ∧ 2 ≤ (und ps f).length ∧
  ∀ H' p, Same H H' → H' p = some (rt (Rat.divInt (wA t f - ((und ps f).map (wA t)).sum) ((((und ps f).length : Int) - 1) * B))) → Q (.ref p) H'
def Lkq (CPr CPl : Addr) (t : Tr) (B : Int) (ps : List Str) (f : Str) (H : Hp) (Q : VK) (E : XK) : Prop := (isP t ps = false ∧ ∀ H' od, Same H H' → E (.ref CPr) od H') ∨ (∃ us s m, LK t "" ps us s m ∧ ((f ∉ us.map (·.1) ∧ okS f ∧ f.length ≤ 1000 ∧ ∀ H' d, Same H H' → H' d = some (.xd [("place", .str f)]) → E (.ref CPl) (some d) H') ∨ (∃ u ∈ us, u.1 = f ∧ ∀ H' p, Same H H' → H' p = some (rt (Rat.divInt u.2.1 (u.2.2 * B))) → Q (.ref p) H')))
def sp_link (CPr CPl : Addr) (K : PySem.W.Frag) : Sp := fun vs H Q E => ∃ (v : V) (t : Tr) (B : Int) (a : Addr) (ps : List Str) (f : Str), vs = [v, .ref a, .str f] ∧ TV K H v (htD B t) ∧ t.lv ≤ 30 ∧ H a = some (.lst (ps.map V.str)) ∧ ps.length < 64 ∧ (∀ x ∈ ps, Asc x) ∧ 0 < B ∧ Bz 128 B ∧ t.B ∧ Lkq CPr CPl t B ps f H Q E
/-- what is refused -/
def Rfq (t : Tr) (ps : List Str) (f : Str) (way : Int) (A1 A2 : Prop) : Prop := (isP t ps = false ∧ A1) ∨ (way = 1 ∧ (∃ us s m, LK t "" ps us s m ∧ f ∉ us.map (·.1)) ∧ okS f ∧ f.length ≤ 1000 ∧ A2)
def sp_asked (CPr CPl : Addr) (K : PySem.W.Frag) : Sp := fun vs H Q E => ∃ (v : V) (t : Tr) (B : Int) (a : Addr) (ps : List Str) (f : Str) (way : Int), vs = [v, .ref a, .str f, .int way] ∧ TV K H v (htD B t) ∧ t.lv ≤ 30 ∧ H a = some (.lst (ps.map V.str)) ∧ ps.length < 64 ∧ (∀ x ∈ ps, Asc x) ∧ 0 < B ∧ Bz 128 B ∧ t.B ∧ Rfq t ps f way (∀ H' od, Same H H' → E (.ref CPr) od H') (∀ H' d, Same H H' → H' d = some (.xd [("place", .str f)]) → E (.ref CPl) (some d) H')
def sp_refusal (K : PySem.W.Frag) : Sp := fun vs H Q E => ∃ (v : V) (t : Tr) (B : Int) (a : Addr) (ps : List Str) (f : Str) (way : Int), vs = [v, .ref a, .str f, .int way] ∧ TV K H v (htD B t) ∧ t.lv ≤ 30 ∧ H a = some (.lst (ps.map V.str)) ∧ ps.length < 64 ∧ (∀ x ∈ ps, Asc x) ∧ 0 < B ∧ Bz 128 B ∧ t.B ∧ Rfq t ps f way (∀ H', Same H H' → Q (.str "places") H') (∀ H', Same H H' → Q (.str "place") H')
def sp_links30 (K : PySem.W.Frag) (d : Nat) : Sp := fun vs H Q _ => ∃ (v : V) (a : Addr) (q : Str) (t : Tr) (ps qs fs : List Str), vs = [v, .ref a, .str q] ∧ TV K H v (trD t) ∧ t.dp ≤ d ∧ t.lv ≤ 50 ∧ q.length + d ≤ 100 ∧ H a = some (.lst (ps.map V.str)) ∧ ps.length ≤ 100 ∧ PI t q qs fs ∧ (∀ x, (x ∈ ps ∧ cds q <+: cds x) ↔ x ∈ qs) ∧
  ∀ H' p l xs (us : List (Str × Int × Int)) (s m : Int), Same H H' → H' p = some (.tup [.int s, .int m, .ref l]) → H' l = some (.lst xs) → TVs K H' xs (us.map lkD) → us.map (·.1) = fs → LK t q qs us s m → Q (.ref p) H'
theorem _root_.L2.TV.hw {K : PySem.W.Frag} {H : Hp} {v : V} {B : Int} {u : Tr} (hB : 0 < B) (h : TV K H v (htD B u)) : ∃ p k c r, v = .ref p ∧ H p = some (.tup (.str k :: .ref c :: r)) ∧ H c = some (rt (Rat.divInt u.wt B)) := by
  cases u with
  | en w => obtain ⟨p, c, rfl, hp, hc⟩ := TV.hen h; obtain ⟨c2, rfl, hc2⟩ := TV.rD hB hc; exact ⟨p, _, c2, _, rfl, hp, hc2⟩
  | fk w y n => obtain ⟨p, c, a, b, rfl, hp, hc, _, _⟩ := TV.hfk h; obtain ⟨c2, rfl, hc2⟩ := TV.rD hB hc; exact ⟨p, _, c2, _, rfl, hp, hc2⟩
theorem dt_at {K : PySem.W.Frag} {B : Int} (hB : 0 < B) {H : Hp} {d : Addr} {kvs : List (Key × V)} {es : List (Str × Tr)} {t : Tr} (hd : H d = some (.dK kvs)) (dt : DT K B H kvs es) (pm : es.Perm (plt t "")) {x : Str} (hx : x ∈ (plc t "").map (·.1)) :
    ∃ p k c r, DGet H d (.str x) (some (.ref p)) ∧ H p = some (.tup (.str k :: .ref c :: r)) ∧ H c = some (rt (Rat.divInt (wA t x) B)) := by
  have nd : (es.map (·.1)).Nodup := (pm.map (·.1)).nodup_iff.mpr (plt_nodup t "")
  rw [plt_plc, List.map_map] at hx
  obtain ⟨⟨x', u⟩, he, ex⟩ := List.mem_map.mp hx
  obtain rfl : x' = x := ex
  obtain ⟨v, ev, tv⟩ := dt.val nd (pm.mem_iff.mpr he)
  obtain ⟨p, k, c, r, rfl, hp, hc⟩ := tv.hw hB
  have g : DGet H d (.str x') (valV kvs (.inr x')) := DGet.k (k := .inr x') hd
  rw [ev] at g
  exact ⟨p, k, c, r, g, hp, by rw [wA_at _ he]; exact hc⟩
theorem at_1 {k : Str} {c : Addr} {r : List V} : atI (V.str k :: V.ref c :: r) 1 = some (.ref c) := by
  have e : atI (V.str k :: V.ref c :: r) ((1 : Nat) : Int) = some (.ref c) := atI_nat rfl
  exact e
theorem wA_B {t : Tr} {x : Str} (h : t.B) (hx : x ∈ (plc t "").map (·.1)) : -100000000000000000000000000000000 < wA t x ∧ wA t x < 100000000000000000000000000000000 := by
  rw [plt_plc, List.map_map] at hx
  obtain ⟨e, he, rfl⟩ := List.mem_map.mp hx
  have := plt_B h e he
  show -100000000000000000000000000000000 < wA t e.1 ∧ wA t e.1 < 100000000000000000000000000000000
  rw [wA_at e he]
  exact this
theorem sumB {W : Str → Int} : ∀ {l : List Str}, (∀ x ∈ l, -100000000000000000000000000000000 < W x ∧ W x < 100000000000000000000000000000000) → -(l.length : Int) * 100000000000000000000000000000000 ≤ (l.map W).sum ∧ (l.map W).sum ≤ (l.length : Int) * 100000000000000000000000000000000
  | [], _ => ⟨Int.le_refl _, Int.le_refl _⟩
  | x :: l, h => by
    have h1 := h x List.mem_cons_self
    have h2 := sumB fun y hy => h y (List.mem_cons_of_mem x hy)
    rw [List.map_cons, List.sum_cons, List.length_cons]
    omega
theorem tr_end : ∀ (t : Tr) (q : Str), ∃ u ∈ plc t q, u.2 = Str.ofString "end"
  | .en _, q => ⟨_, List.mem_singleton.mpr rfl, rfl⟩
  | .fk w y n, q => by
    obtain ⟨u, hu, e⟩ := tr_end y (q ++ "y")
    exact ⟨u, List.mem_cons_of_mem _ (List.mem_append_left _ hu), e⟩
theorem PI.end' {t : Tr} {q : Str} {ps gs : List Str} (h : PI t q ps gs) : ∀ x ∈ ps, ∃ u ∈ plc t q, u.2 = Str.ofString "end" ∧ cds x <+: cds u.1 := by
  induction h with
  | stop t q =>
    intro x hx
    rw [List.mem_singleton.mp hx]
    obtain ⟨u, hu, e⟩ := tr_end t q
    exact ⟨u, hu, e, plc_pre hu⟩
  | @go w y n q ps1 ps2 fs1 fs2 p1 p2 h1 h2 =>
    intro x hx
    rcases List.mem_append.mp hx with hx | hx
    · obtain ⟨u, hu, e⟩ := h2 x hx
      exact ⟨u, List.mem_cons_of_mem _ (List.mem_append_right _ hu), e⟩
    · obtain ⟨u, hu, e⟩ := h1 x hx
      exact ⟨u, List.mem_cons_of_mem _ (List.mem_append_left _ hu), e⟩
theorem atV {l : List V} {i : Int} (h0 : 0 ≤ i) (h1 : i < (l.length : Int)) : atI l i = some (l.getD i.toNat .non) := by
  have e : atI l ((i.toNat : Nat) : Int) = some (l.getD i.toNat .non) := atI_nat (by rw [List.getElem?_eq_getElem (show i.toNat < l.length by omega), List.getD_eq_getElem?_getD, List.getElem?_eq_getElem (show i.toNat < l.length by omega)]; rfl)
  rw [show ((i.toNat : Nat) : Int) = i by omega] at e
  exact e
/-! the cheapest of all -/
def sp_under29 : Sp := fun vs H Q _ => ∃ (a b : Addr) (t1 b1 t2 b2 : Int), vs = [.ref a, .ref b] ∧ H a = some (.tup [.int t1, .int b1]) ∧ H b = some (.tup [.int t2, .int b2]) ∧ Bz 8000 t1 ∧ Bz 8000 b1 ∧ Bz 8000 t2 ∧ Bz 8000 b2 ∧ Q (.bl (decide (t1 * b2 < t2 * b1))) H
def sp_usum : Sp := fun vs H Q _ => ∃ (a b : Addr) (t1 b1 t2 b2 : Int), vs = [.ref a, .ref b] ∧ H a = some (.tup [.int t1, .int b1]) ∧ H b = some (.tup [.int t2, .int b2]) ∧ Bz 8000 t1 ∧ Bz 8000 b1 ∧ Bz 8000 t2 ∧ Bz 8000 b2 ∧ ∀ p, H p = none → Q (.ref p) (upd H p (.tup [.int (t1 * b2 + t2 * b1), .int (b1 * b2)]))
def sp_check_price : Sp := fun vs H Q _ => ∃ (a : Addr) (t b : Int), vs = [.ref a] ∧ H a = some (.tup [.int t, .int b]) ∧ 0 ≤ t ∧ Bz 8000 t ∧ Bz 8000 b ∧ ∀ H', Same H H' → Q .non H'
def sp_digit : Sp := fun vs H Q _ => ∃ (a : Addr) (x y z m : Int), vs = [.ref a, .int m] ∧ H a = some (.lst [.int x, .int y, .int z]) ∧ 0 < m ∧ m ≤ 1000000000000 ∧ 0 ≤ x ∧ 0 ≤ y ∧ 0 ≤ z ∧ z < 2147483647 ∧ ∀ x' z' d : Int, 0 ≤ x' → 0 ≤ z' → z' < 2147483647 → 0 ≤ d → d < m → Q (.int d) (upd H a (.lst [.int x', .int y, .int z']))
/-- all prunings and their sums, as the law lists them -/
def allP : Tr → Str → List (List Str × Int)
  | .en w, q => [([q], w)]
  | .fk w y n, q => ([q], w) :: ((allP y (q ++ "y")).map fun a => (allP n (q ++ "n")).map fun b => (b.1 ++ a.1, a.2 + b.2)).flatten
def sp_lowest29 : Sp := fun vs H Q _ => ∃ t b : Int, vs = [.int t, .int b] ∧ 0 < b ∧ Bz 8000 b ∧ Nw H Q (Rat.divInt t b)
def sp_price29 : Sp := fun vs H Q _ => ∃ c b : Int, vs = [.int c, .int b] ∧ 1 ≤ b ∧ b ≤ 1000000000000000000000000000000 ∧ ∀ (t l : Int) p, 0 ≤ t → t < 1000000000000000000000000000000 → 1 ≤ l → l ≤ 1000000000000000000000000000000 → H p = none → Q (.ref p) (upd H p (.tup [.int t, .int l]))
def Tr.ct : Tr → Nat
  | .en _ => 1
  | .fk _ y n => 1 + y.ct * n.ct
def sp_count29 (K : PySem.W.Frag) (d : Nat) : Sp := fun vs H Q _ => ∃ (v : V) (t : Tr), vs = [v] ∧ TV K H v (trD t) ∧ t.dp ≤ d ∧ t.lv ≤ 21 ∧ Q (.int (t.ct : Nat)) H
def sp_lies29 : Sp := fun vs H Q _ => ∃ (a b : Addr) (ps qs : List Str), vs = [.ref a, .ref b] ∧ H a = some (.lst (ps.map V.str)) ∧ H b = some (.lst (qs.map V.str)) ∧ ps.length ≤ 60 ∧ qs.length ≤ 60 ∧ (∀ w ∈ ps, w.length ≤ 100) ∧ (∀ w ∈ qs, w.length ≤ 100) ∧ ∀ (k : Bool) H', (k = true ↔ Lies ps qs) → Same H H' → Q (.bl k) H'
def CQ.ct : CQ → Nat
  | .en _ => 1
  | .fk _ y n => 1 + y.ct * n.ct
/-- the tree with its costs over a bottom -/
def Tr.hd (b : Int) : Tr → CQ
  | .en w => .en (Rat.divInt w b)
  | .fk w y n => .fk (Rat.divInt w b) (y.hd b) (n.hd b)
def sp_many29 (K : PySem.W.Frag) (d : Nat) : Sp := fun vs H Q _ => ∃ (v : V) (t : Tr) (b : Int), vs = [v] ∧ CV K H v (t.hd b) ∧ t.dp ≤ d ∧ t.lv ≤ 21 ∧ Q (.int (t.ct : Nat)) H
def sp_handed29 (K : PySem.W.Frag) (d : Nat) : Sp := fun vs H Q _ => ∃ (v : V) (t : Tr) (b : Int), vs = [v, .int b] ∧ TV K H v (trD t) ∧ t.dp ≤ d ∧ t.dp ≤ 40 ∧ 0 < b ∧ Bz 8000 b ∧ ∀ H' u, Same H H' → CV K H' u (t.hd b) → Q u H'
theorem noMixTr : ∀ a b : Tr, SeqAt.noMix (trD a) (trD b) = true
  | .en x, .en y => by simp [trD, SeqAt.noMix, SeqAt.noMixAll]
  | .en x, .fk y u v => by simp [trD, SeqAt.noMix, SeqAt.noMixAll]
  | .fk y u v, .en x => by simp [trD, SeqAt.noMix, SeqAt.noMixAll]
  | .fk x u v, .fk y s t => by
    rw [trD, trD]
    simp [SeqAt.noMix, SeqAt.noMixAll, noMixTr u s, noMixTr v t]
theorem trD_inj : ∀ {a b : Tr}, trD a = trD b → a = b
  | .en x, .en y, h => by
    unfold trD at h
    injection h with h
    injection h with _ h
    injection h with h _
    injection h with h
    rw [h]
  | .en x, .fk y u v, h => by
    unfold trD at h
    injection h with h
    injection h with _ h
    injection h with _ h
    cases h
  | .fk y u v, .en x, h => by
    unfold trD at h
    injection h with h
    injection h with _ h
    injection h with _ h
    cases h
  | .fk x u v, .fk y s t, h => by
    rw [trD, trD] at h
    injection h with h
    injection h with _ h
    injection h with h1 h
    injection h with h2 h
    injection h with h3 _
    injection h1 with h1
    rw [h1, trD_inj h2, trD_inj h3]
theorem tr_eqv2 (a b : Tr) : PyData.eqv (trD a) (trD b) = true ↔ a = b := by
  rw [← SeqAt.same_eq_eqv _ _ (noMixTr a b), PyProof.Rows.same_iff]
  exact ⟨trD_inj, fun z => by rw [z]⟩
theorem shpTr : ∀ t : Tr, Shp (t.dp + 1) (trD t)
  | .en w => .tup fun d hd => by
    rcases hd with _ | ⟨_, _ | ⟨_, hd⟩⟩
    · exact .str _ (by decide +kernel)
    · exact .int _ _
    · cases hd
  | .fk w y n => by
    have hy := shpTr y
    have hn := shpTr n
    refine Shp.tup (n := max y.dp n.dp + 1) fun d hd => ?_
    rcases hd with _ | ⟨_, _ | ⟨_, _ | ⟨_, _ | ⟨_, hd⟩⟩⟩⟩
    · exact .str _ (by decide +kernel)
    · exact .int _ _
    · exact hy.mono (by omega)
    · exact hn.mono (by omega)
    · cases hd
def sp_dugf (K : PySem.W.Frag) (d : Nat) : Sp := fun vs H Q _ => ∃ (a : Addr) (x y z m : Int), vs = [.ref a, .int m] ∧ H a = some (.lst [.int x, .int y, .int z]) ∧ 0 < m ∧ m ≤ 1000000000000 ∧ 0 ≤ x ∧ 0 ≤ y ∧ y ≤ (d : Int) ∧ y ≤ 15 ∧ 0 ≤ z ∧ z < 2147483647 ∧
  ∀ H' v t (x' y' z' : Int), SameB a H H' → H' a = some (.lst [.int x', .int y', .int z']) → 0 ≤ x' → 0 ≤ y' → y' ≤ y → 0 ≤ z' → z' < 2147483647 → TV K H' v (trD t) → (t.lv : Int) + y' ≤ y + 1 → t.B → Q v H'
def sp_dug (K : PySem.W.Frag) : Sp := fun vs H Q _ => ∃ c : Int, vs = [.int c] ∧ 0 ≤ c ∧ ∀ H' v t, Same H H' → TV K H' v (trD t) → t.lv ≤ 21 → t.B → Q v H'
theorem low_eq {t b : Int} (hb : 0 < b) : (Rat.divInt t b).num * b = t * ((Rat.divInt t b).den : Int) := by
  rw [← M.num_low hb, ← M.den_low hb]
  obtain ⟨⟨x, hx⟩, ⟨y, hy⟩⟩ := M.G_dvd t b
  have p := M.G_pos t b
  generalize M.G t b = g at *
  subst hx
  subst hy
  rw [Int.mul_ediv_cancel_left _ (by omega), Int.mul_ediv_cancel_left _ (by omega)]
  grind
theorem low_n {k : Nat} {t b : Int} (hb : 0 < b) (h : Bz k t) : Bz k (Rat.divInt t b).num := by
  rw [← M.num_low hb]
  exact h.ediv (by have := M.G_pos t b; omega)
theorem low_p {t b : Int} : 0 < ((Rat.divInt t b).den : Int) := by have := (Rat.divInt t b).den_pos; omega
/-- a price and a bottom as the law draws them -/
structure Pr29 (top low b : Int) : Prop where
  t0 : 0 ≤ top
  t1 : top < 1000000000000000000000000000000
  l0 : 1 ≤ low
  l1 : low ≤ 1000000000000000000000000000000
  b0 : 1 ≤ b
  b1 : b ≤ 1000000000000000000000000000000
theorem bz109 {x : Int} (h1 : -100000000000000000000000000000000 < x) (h2 : x < 100000000000000000000000000000000) : Bz 109 x := by
  show x.natAbs < 649037107316853453566312041152512
  omega
theorem Tr.B.w : ∀ {t : Tr}, t.B → wB t.w
  | .en _, h => h
  | .fk _ _ _, h => h.1
structure Cost29 (low c b : Int) (t : Tr) (ct cb : Int) : Prop where
  e : ct * b = (best low c t "").2 * cb
  p : 0 < cb
  zt : Bz (110 * t.lv) ct
  zb : Bz (109 * t.lv) cb
def sp_cwc (K : PySem.W.Frag) (d : Nat) : Sp := fun vs H Q _ => ∃ (v : V) (t : Tr) (a : Addr) (top low b : Int), vs = [v, .ref a] ∧ CV K H v (t.hd b) ∧ t.dp ≤ d ∧ t.lv ≤ 21 ∧ t.B ∧ Pr29 top low b ∧ H a = some (rt (Rat.divInt top low)) ∧
  ∀ H' p l r ct cb, Same H H' → H' p = some (.tup [.ref l, .ref r]) → H' l = some (.lst ((best low (top * b) t "").1.map V.str)) → H' r = some (.tup [.int ct, .int cb]) → Cost29 low (top * b) b t ct cb → Q (.ref p) H'
def sp_cheap29 (K : PySem.W.Frag) : Sp := fun vs H Q _ => ∃ (v : V) (t : Tr) (a : Addr) (top low b : Int), vs = [v, .ref a] ∧ CV K H v (t.hd b) ∧ t.dp ≤ 20 ∧ t.lv ≤ 21 ∧ t.B ∧ Pr29 top low b ∧ H a = some (rt (Rat.divInt top low)) ∧
  ∀ H' l, Same H H' → H' l = some (.lst ((best low (top * b) t "").1.map V.str)) → Q (.ref l) H'
/-- pairs of places and a sum -/
inductive PVs (H : Hp) : List V → List (List Str × Int) → Prop
  | nil : PVs H [] []
  | cons {p l : Addr} {ps : List Str} {s : Int} {xs : List V} {rs : List (List Str × Int)} : H p = some (.tup [.ref l, .int s]) → H l = some (.lst (ps.map V.str)) → PVs H xs rs → PVs H (.ref p :: xs) ((ps, s) :: rs)
def sp_all29 (K : PySem.W.Frag) (d : Nat) : Sp := fun vs H Q _ => ∃ (v : V) (t : Tr) (q : Str), vs = [v, .str q] ∧ TV K H v (trD t) ∧ t.dp ≤ d ∧ t.lv ≤ 21 ∧ t.ct ≤ 60 ∧ q.length + d ≤ 60 ∧
  ∀ H' p xs, Same H H' → H p = none → H' p = some (.lst xs) → PVs H' xs (allP t q) → Q (.ref p) H'
/-- what a pruning costs in all -/
def tot (top low b : Int) (r : List Str × Int) : Int := r.2 * low + top * (r.1.length : Int) * b
def sp_due29 (K : PySem.W.Frag) : Sp := fun vs H Q _ => ∃ (a : Addr) (top low b : Int) (xs : List V) (t : Tr), vs = [.ref a, .int top, .int low, .int b] ∧ H a = some (.lst xs) ∧ PVs H xs (allP t "") ∧ t.lv ≤ 21 ∧ t.ct ≤ 60 ∧ t.B ∧ Pr29 top low b ∧
  ∀ H' l, Same H H' → H' l = some (.lst ((best low (top * b) t "").1.map V.str)) → Q (.ref l) H'
/-- a list of lists of places -/
inductive LVs (H : Hp) : List V → List (List Str) → Prop
  | nil : LVs H [] []
  | cons {l : Addr} {ps : List Str} {xs : List V} {rs : List (List Str)} : H l = some (.lst (ps.map V.str)) → LVs H xs rs → LVs H (.ref l :: xs) (ps :: rs)
/-- those that cost m -/
def chp (top low b m : Int) (rs : List (List Str × Int)) : List (List Str) := (rs.filter fun r => decide (tot top low b r = m)).map (·.1)
theorem PS.wd {t : Tr} {q : Str} {ps : List Str} {s : Int} (h : PS t q ps s) : ∀ x ∈ ps, x.length ≤ q.length + t.dp := by
  induction h with
  | stop t q => intro x hx; rw [List.mem_singleton.mp hx]; omega
  | @go w y n q ps1 ps2 s1 s2 _ _ i1 i2 =>
    intro x hx
    have e1 : ("y" : Str).length = 1 := by decide +kernel
    have e2 : ("n" : Str).length = 1 := by decide +kernel
    show _ ≤ q.length + (max y.dp n.dp + 1)
    rcases List.mem_append.mp hx with z | z
    · have := i2 x z
      rw [len_app] at this
      omega
    · have := i1 x z
      rw [len_app] at this
      omega
def sp_cell29 (K : PySem.W.Frag) : Sp := fun vs H Q _ => ∃ (a : Addr) (ns : List Int) (k : Int), vs = [.ref a, .int k] ∧ SqL K H a (ns.map V.int) ∧ 0 ≤ k ∧ Q (.int (ns.getD k.toNat 0)) H
theorem Tr.wt_w (t : Tr) : t.wt = t.w := by cases t <;> rfl
def sp_npr (CP : Addr) : Sp := fun vs H Q _ => ∃ (ea p : Addr), vs = [.ref ea, .ref p] ∧ H ea = some (exN ea CP none) ∧ ∀ d, H d = none → d ≠ ea → Q .non (upd (upd H ea (exN ea CP (some d))) d (.xd [("price", .ref p)]))
def sp_check28 (CP : Addr) : Sp := fun vs H Q E => ∃ (a : Addr) (t b : Int), vs = [.ref a] ∧ H a = some (.tup [.int t, .int b]) ∧ Bz 8000 t ∧ Bz 8000 b ∧ ((0 ≤ t ∧ ∀ H', Same H H' → Q .non H') ∨ (t < 0 ∧ ∀ H' d, Same H H' → H' d = some (.xd [("price", .ref a)]) → E (.ref CP) (some d) H'))
def sp_cheap28 (CP : Addr) (K : PySem.W.Frag) : Sp := fun vs H Q E => ∃ (v : V) (t : Tr) (a : Addr) (top low b : Int), vs = [v, .ref a] ∧ CV K H v (t.hd b) ∧ t.dp ≤ 20 ∧ t.lv ≤ 21 ∧ t.B ∧ H a = some (rt (Rat.divInt top low)) ∧ ((Pr29 top low b ∧ ∀ H' l, Same H H' → H' l = some (.lst ((best low (top * b) t "").1.map V.str)) → Q (.ref l) H') ∨ (top < 0 ∧ -100000000000000000000000000000000 < top ∧ 1 ≤ low ∧ low ≤ 1000000000000000000000000000000 ∧ ∀ H' d, Same H H' → H' d = some (.xd [("price", .ref a)]) → E (.ref CP) (some d) H'))
def sp_refused28 (K : PySem.W.Frag) : Sp := fun vs H Q _ => ∃ (v : V) (t : Tr) (a : Addr) (top low b : Int), vs = [v, .ref a] ∧ CV K H v (t.hd b) ∧ t.dp ≤ 20 ∧ t.lv ≤ 21 ∧ t.B ∧ H a = some (rt (Rat.divInt top low)) ∧ top < 0 ∧ -100000000000000000000000000000000 < top ∧ 1 ≤ low ∧ low ≤ 1000000000000000000000000000000 ∧ ∀ H', Same H H' → Q (.bl true) H'
/-! the path -/
/-- what is cut: all forks with the least link a over b -/
def Cutc (a b : Int) (c : Str → Bool) (us : List (Str × Int × Int)) : Prop := ∀ u ∈ us, (c u.1 = true → u.2.1 * b = a * u.2.2) ∧ (c u.1 = false → a * u.2.2 < u.2.1 * b)
/-- the places to cut, as seen from q -/
structure Cutf (F : List Str) (c : Str → Bool) (q : Str) (us : List (Str × Int × Int)) : Prop where
  nd : F.Nodup
  me : ∀ x, (x ∈ F ∧ cds q <+: cds x) ↔ ∃ u ∈ us, u.1 = x ∧ c x = true
  up : ∀ x ∈ F, cds x <+: cds q → x = q
structure Cuts (t : Tr) (q : Str) (a b : Int) (c : Str → Bool) (F ps : List Str) (us : List (Str × Int × Int)) (s m : Int) (ps' : List Str) (us' : List (Str × Int × Int)) (s' m' : Int) : Prop where
  lk : LK t q ps' us' s' m'
  tot : s' * b + a * m' = s * b + a * m
  gt : ∀ u ∈ us', a * u.2.2 < u.2.1 * b
  le : m' ≤ m
  lt : (∃ u ∈ us, c u.1 = true) → m' < m
  ls : Lies ps' ps
  sub : ∀ u ∈ us', ∃ v ∈ us, v.1 = u.1
  me : ∀ x, x ∈ ps' ↔ (x ∈ ps ∧ bgs x F = []) ∨ (x ∈ F ∧ cds q <+: cds x ∧ (bgs x F).length = 1)
/-- the same shape, costs lifted from b to c -/
inductive Sc (b c : Int) : Tr → Tr → Prop
  | en {w w' : Int} : w' * b = w * c → Sc b c (.en w) (.en w')
  | fk {w w' : Int} {y n y' n' : Tr} : w' * b = w * c → Sc b c y y' → Sc b c n n' → Sc b c (.fk w y n) (.fk w' y' n')
theorem Sc.wt {b c : Int} {t t' : Tr} (h : Sc b c t t') : t'.wt * b = t.wt * c := by cases h <;> assumption
theorem Sc.lv {b c : Int} {t t' : Tr} (h : Sc b c t t') : t'.lv = t.lv := by
  induction h with
  | en _ => rfl
  | fk _ _ _ h1 h2 => show _ + _ = _ + _; rw [h1, h2]
theorem Sc.dp {b c : Int} {t t' : Tr} (h : Sc b c t t') : t'.dp = t.dp := by
  induction h with
  | en _ => rfl
  | fk _ _ _ h1 h2 => show max _ _ + 1 = max _ _ + 1; rw [h1, h2]
/-- the forks with the least link -/
def Weak (us : List (Str × Int × Int)) (u : Str × Int × Int) : Prop := u ∈ us ∧ ∀ v ∈ us, u.2.1 * v.2.2 ≤ v.2.1 * u.2.2
/-- two steps of a path, one behind the other -/
structure Nxt (t : Tr) (B : Int) (x y : Rat × List Str) : Prop where
  ex : ∃ us s m us' s' m' F c u, LK t "" x.2 us s m ∧ Weak us u ∧ y.1 = Rat.divInt u.2.1 (u.2.2 * B) ∧ 0 < u.2.1 ∧ 0 < u.2.2 ∧ (∀ z, z ∈ F ↔ ∃ v, Weak us v ∧ v.1 = z) ∧ Cuts t "" u.2.1 u.2.2 c F x.2 us s m y.2 us' s' m' ∧ m' < m
/-! the path: common bottoms, sums, links -/
theorem den_dvd {w B : Int} (hB : 0 < B) : ((Rat.divInt w B).den : Int) ∣ B := by
  rw [← M.den_low hB]
  obtain ⟨k, hk⟩ := (M.G_dvd w B).2
  have p := M.G_pos w B
  refine ⟨M.G w B, ?_⟩
  rw [Int.ediv_mul_cancel (M.G_dvd w B).2]
theorem lcm_ok {C D B : Int} (c0 : 0 < C) (d0 : 0 < D) (b0 : 0 < B) (hc : C ∣ B) (hd : D ∣ B) : 0 < C * (D / M.G C D) ∧ C * (D / M.G C D) ∣ B ∧ C ∣ C * (D / M.G C D) ∧ D ∣ C * (D / M.G C D) := by
  obtain ⟨c, rfl⟩ : ∃ c : Nat, C = (c : Int) := ⟨C.toNat, by omega⟩
  obtain ⟨d, rfl⟩ : ∃ d : Nat, D = (d : Int) := ⟨D.toNat, by omega⟩
  obtain ⟨b, rfl⟩ : ∃ b : Nat, B = (b : Int) := ⟨B.toNat, by omega⟩
  have e : (c : Int) * ((d : Int) / M.G (c : Int) (d : Int)) = ((Nat.lcm c d : Nat) : Int) := by
    rw [M.G_eq (by omega)]
    show (c : Int) * ((d : Int) / ((Nat.gcd c d : Nat) : Int)) = _
    rw [← Int.natCast_ediv, ← Int.natCast_mul]
    congr 1
    unfold Nat.lcm
    rw [Nat.mul_div_assoc _ (Nat.gcd_dvd_right c d)]
  rw [e]
  have hc := Int.natCast_dvd_natCast.mp hc
  have hd := Int.natCast_dvd_natCast.mp hd
  refine ⟨?_, Int.natCast_dvd_natCast.mpr (Nat.lcm_dvd hc hd), Int.natCast_dvd_natCast.mpr (Nat.dvd_lcm_left c d), Int.natCast_dvd_natCast.mpr (Nat.dvd_lcm_right c d)⟩
  have := Nat.lcm_pos (m := c) (n := d) (by omega) (by omega)
  omega
def sp_cbottom (K : PySem.W.Frag) : Sp := fun vs H Q _ => ∃ (v : V) (t : Tr) (B : Int), vs = [v] ∧ TV K H v (htD B t) ∧ t.lv ≤ 48 ∧ 0 < B ∧ Bz 128 B ∧ ∀ H' (C : Int), Same H H' → 0 < C → C ∣ B → (∀ e ∈ plt t "", ((Rat.divInt e.2.wt B).den : Int) ∣ C) → Q (.int C) H'
theorem dvd_bz {C B : Int} (b0 : 0 < B) (bz : Bz 128 B) (h : C ∣ B) : Bz 128 C := bz.le (Nat.le_of_dvd (by omega) (Int.natAbs_dvd_natAbs.mpr h))
/-- all bottoms divide C -/
def Dn (B C : Int) : Tr → Prop
  | .en w => ((Rat.divInt w B).den : Int) ∣ C
  | .fk w y n => ((Rat.divInt w B).den : Int) ∣ C ∧ Dn B C y ∧ Dn B C n
theorem Dn.of {B C : Int} : ∀ {t : Tr} {q : Str}, (∀ e ∈ plt t q, ((Rat.divInt e.2.wt B).den : Int) ∣ C) → Dn B C t
  | .en w, q, h => h (q, .en w) List.mem_cons_self
  | .fk w y n, q, h => ⟨h (q, .fk w y n) List.mem_cons_self, Dn.of fun e he => h e (List.mem_cons_of_mem _ (List.mem_append_left _ he)), Dn.of fun e he => h e (List.mem_cons_of_mem _ (List.mem_append_right _ he))⟩
theorem Dn.w {B C : Int} : ∀ {t : Tr}, Dn B C t → ((Rat.divInt t.wt B).den : Int) ∣ C
  | .en _, h => h
  | .fk _ _ _, h => h.1
theorem lift_w {w B C : Int} (b0 : 0 < B) (h : ((Rat.divInt w B).den : Int) ∣ C) : (Rat.divInt w B).num * (C / ((Rat.divInt w B).den : Int)) * B = w * C := by
  have e := low_eq (t := w) b0
  obtain ⟨k, hk⟩ := h
  have p := low_p (t := w) (b := B)
  generalize (Rat.divInt w B).num = x at *
  generalize ((Rat.divInt w B).den : Int) = y at *
  subst hk
  rw [Int.mul_ediv_cancel_left _ (by omega)]
  grind
def sp_lifted (K : PySem.W.Frag) (d : Nat) : Sp := fun vs H Q _ => ∃ (v : V) (t : Tr) (B C : Int), vs = [v, .int C] ∧ TV K H v (htD B t) ∧ t.dp ≤ d ∧ 0 < B ∧ Bz 128 B ∧ t.B ∧ 0 < C ∧ Bz 128 C ∧ Dn B C t ∧ ∀ H' x t', Same H H' → TV K H' x (trD t') → Sc B C t t' → Q x H'
theorem sc_bd {w w' B C : Int} (c0 : 0 < C) (cb : C ≤ B) (h : w' * B = w * C) (hw : wB w) : wB w' := by
  have b0 : 0 < B := by omega
  obtain ⟨h1, h2⟩ := hw
  constructor
  · refine Int.lt_of_not_ge fun z => ?_
    have e1 : w' * B ≤ -100000000000000000000000000000000 * B := Int.mul_le_mul_of_nonneg_right z (by omega)
    have e2 : -100000000000000000000000000000000 * C < w * C := Int.mul_lt_mul_of_pos_right h1 c0
    omega
  · refine Int.lt_of_not_ge fun z => ?_
    have e1 : 100000000000000000000000000000000 * B ≤ w' * B := Int.mul_le_mul_of_nonneg_right z (by omega)
    have e2 : w * C < 100000000000000000000000000000000 * C := Int.mul_lt_mul_of_pos_right h2 c0
    omega
theorem Sc.B {B C : Int} {t t' : Tr} (c0 : 0 < C) (cb : C ≤ B) (h : Sc B C t t') (hb : t.B) : t'.B := by
  induction h with
  | en e => exact sc_bd c0 cb e hb
  | fk e _ _ h1 h2 => exact ⟨sc_bd c0 cb e hb.1, h1 hb.2.1, h2 hb.2.2⟩
def sp_inwhole (K : PySem.W.Frag) : Sp := fun vs H Q _ => ∃ (v : V) (t : Tr) (B : Int), vs = [v] ∧ TV K H v (htD B t) ∧ t.lv ≤ 48 ∧ t.dp ≤ 20 ∧ 0 < B ∧ Bz 128 B ∧ t.B ∧ ∀ H' x t' (C : Int), Same H H' → TV K H' x (trD t') → Sc B C t t' → 0 < C → C ≤ B → t'.B → Q x H'
/-- a dict of places and pairs of numbers -/
inductive DR (H : Hp) : List (Key × V) → List (Str × Int × Int) → Prop
  | nil : DR H [] []
  | cons {p : Addr} {e : Str × Int × Int} {kvs : List (Key × V)} {es : List (Str × Int × Int)} : H p = some (.tup [.int e.2.1, .int e.2.2]) → DR H kvs es → DR H ((.inr e.1, .ref p) :: kvs) (e :: es)
/-- sums and counts of the leaves beneath a place -/
def ent (W : Str → Int) (ps : List Str) (x : Str) : Str × Int × Int := (x, ((und ps x).map W).sum, ((und ps x).length : Int))
def lnk (W : Str → Int) (ps : List Str) (x : Str) : Str × Int × Int := (x, W x - ((und ps x).map W).sum, ((und ps x).length : Int) - 1)
def sp_sums (K : PySem.W.Frag) : Sp := fun vs H Q _ => ∃ (v : V) (t : Tr) (a : Addr) (ps gs : List Str), vs = [v, .ref a] ∧ TV K H v (trD t) ∧ t.lv ≤ 21 ∧ t.B ∧ H a = some (.lst (ps.map V.str)) ∧ PI t "" ps gs ∧
  ∀ H' d kvs (fs : List Str), Same H H' → H d = none → H' d = some (.dK kvs) → fs.Perm gs → DR H' kvs ((ps ++ fs).map (ent (wA t) ps)) → Q (.ref d) H'
def sp_wlinks (K : PySem.W.Frag) : Sp := fun vs H Q _ => ∃ (v : V) (t : Tr) (a : Addr) (ps gs : List Str), vs = [v, .ref a] ∧ TV K H v (trD t) ∧ t.lv ≤ 21 ∧ t.B ∧ H a = some (.lst (ps.map V.str)) ∧ PI t "" ps gs ∧
  ∀ H' d kvs (fs : List Str), Same H H' → H d = none → H' d = some (.dK kvs) → fs.Perm gs → DR H' kvs (fs.map (lnk (wA t) ps)) → Q (.ref d) H'
def sp_least (K : PySem.W.Frag) : Sp := fun vs H Q _ => ∃ (v : V) (t : Tr) (a : Addr) (ps : List Str) (us : List (Str × Int × Int)) (s m : Int), vs = [v, .ref a] ∧ TV K H v (trD t) ∧ t.lv ≤ 21 ∧ t.B ∧ H a = some (.lst (ps.map V.str)) ∧ LK t "" ps us s m ∧ us ≠ [] ∧
  ∀ H' p (rs : List Str), Same H H' → H' p = some (.lst (rs.map V.str)) → rs.Nodup → rs ≠ [] → (∀ x, x ∈ rs ↔ ∃ u, Weak us u ∧ u.1 = x) → Q (.ref p) H'
/-- prices and places -/
inductive QVs (H : Hp) : List V → List (Rat × List Str) → Prop
  | nil : QVs H [] []
  | cons {p r l : Addr} {q : Rat} {ps : List Str} {xs : List V} {sts : List (Rat × List Str)} : H p = some (.tup [.ref r, .ref l]) → H r = some (rt q) → H l = some (.lst (ps.map V.str)) → QVs H xs sts → QVs H (.ref p :: xs) ((q, ps) :: sts)
/-- a path, its last price a over b, the links of its last pruning -/
inductive Pth (t : Tr) (B : Int) : List (Rat × List Str) → Int → Int → List (Str × Int × Int) → Prop
  | one {us : List (Str × Int × Int)} {m : Int} : LK t "" (best 1 0 t "").1 us (best 1 0 t "").2 m → (∀ u ∈ us, 0 < u.2.1) → Pth t B [(0, (best 1 0 t "").1)] 0 1 us
  | step {l : List (Rat × List Str)} {x : Rat × List Str} {a b : Int} {us us' : List (Str × Int × Int)} {s m s' m' : Int} {u : Str × Int × Int} {c : Str → Bool} {F ps' : List Str} : Pth t B (l ++ [x]) a b us → LK t "" x.2 us s m → Weak us u → (∀ z, z ∈ F ↔ ∃ v, Weak us v ∧ v.1 = z) → Cutc u.2.1 u.2.2 c us → Cutf F c "" us → Cuts t "" u.2.1 u.2.2 c F x.2 us s m ps' us' s' m' → m' < m → Pth t B (l ++ [x] ++ [(Rat.divInt u.2.1 (u.2.2 * B), ps')]) u.2.1 u.2.2 us'
def sp_path (K : PySem.W.Frag) : Sp := fun vs H Q _ => ∃ (v : V) (t : Tr) (B : Int), vs = [v] ∧ TV K H v (htD B t) ∧ t.lv ≤ 21 ∧ 1 ≤ B ∧ B ≤ 1000000000000000000000000000000 ∧ t.B ∧
  ∀ H' p xs (sts : List (Rat × List Str)) a b, Same H H' → H p = none → H' p = some (.lst xs) → QVs H' xs sts → Pth t B sts a b [] → sts.length ≤ 21 → Q (.ref p) H'
/-- not above the price r -/
def nab (r : Rat) (x : Rat × List Str) : Bool := !decide (r.num * (x.1.den : Int) < x.1.num * (r.den : Int))
def sp_last (CP : Addr) (K : PySem.W.Frag) : Sp := fun vs H Q E => ∃ (a : Addr) (xs : List V) (sts : List (Rat × List Str)) (pa : Addr) (r : Rat), vs = [.ref a, .ref pa] ∧ H a = some (.lst xs) ∧ QVs H xs sts ∧ sts.length ≤ 60 ∧ H pa = some (rt r) ∧ Rz 8000 r ∧ (∀ x ∈ sts, Rz 8000 x.1) ∧
  ((r.num < 0 ∧ ∀ H' d, Same H H' → H' d = some (.xd [("price", .ref pa)]) → E (.ref CP) (some d) H') ∨ (0 ≤ r.num ∧ (∃ (i : Nat) (x : Rat × List Str), sts[i]? = some x ∧ nab r x = true) ∧ ∀ H' p rr l q ps, Same H H' → (sts.filter (nab r)).getLast? = some (q, ps) → H' p = some (.tup [.ref rr, .ref l]) → H' l = some (.lst (ps.map V.str)) → Q (.ref p) H'))
def sp_forp (CP : Addr) (K : PySem.W.Frag) : Sp := fun vs H Q E => ∃ (a : Addr) (xs : List V) (sts : List (Rat × List Str)) (pa : Addr) (r : Rat), vs = [.ref a, .ref pa] ∧ H a = some (.lst xs) ∧ QVs H xs sts ∧ sts.length ≤ 60 ∧ H pa = some (rt r) ∧ Rz 8000 r ∧ (∀ x ∈ sts, Rz 8000 x.1) ∧
  ((r.num < 0 ∧ ∀ H' d, Same H H' → H' d = some (.xd [("price", .ref pa)]) → E (.ref CP) (some d) H') ∨ (0 ≤ r.num ∧ (∃ (i : Nat) (x : Rat × List Str), sts[i]? = some x ∧ nab r x = true) ∧ (∀ x ∈ sts, x.2.length ≤ 60) ∧ ∀ H' p q ps, Same H H' → H p = none → (sts.filter (nab r)).getLast? = some (q, ps) → H' p = some (.lst (ps.map V.str)) → Q (.ref p) H'))
/-- the last one that is not above, as the law finds it -/
def dueF (top low : Int) (d : List Str) (sts : List (Rat × List Str)) : List Str := sts.foldl (fun d x => if x.1.num * low ≤ top * (x.1.den : Int) then x.2 else d) d
def sp_due34 (K : PySem.W.Frag) : Sp := fun vs H Q _ => ∃ (a : Addr) (xs : List V) (sts : List (Rat × List Str)) (top low : Int), vs = [.ref a, .int top, .int low] ∧ H a = some (.lst xs) ∧ QVs H xs sts ∧ sts.length ≤ 60 ∧ 0 < sts.length ∧ 0 < low ∧ Bz 300 top ∧ Bz 300 low ∧ (∀ x ∈ sts, Rz 300 x.1) ∧
  ∀ l, H l = some (.lst ((dueF top low ((sts.map (·.2)).headD []) sts).map V.str)) → Q (.ref l) H
def sp_refused34 (K : PySem.W.Frag) : Sp := fun vs H Q _ => ∃ (a : Addr) (xs : List V) (sts : List (Rat × List Str)) (pa : Addr) (r : Rat), vs = [.ref a, .ref pa] ∧ H a = some (.lst xs) ∧ QVs H xs sts ∧ sts.length ≤ 60 ∧ H pa = some (rt r) ∧ Rz 8000 r ∧ (∀ x ∈ sts, Rz 8000 x.1) ∧ r.num < 0 ∧ ∀ H', Same H H' → Q (.bl true) H'
def stD (x : Rat × List Str) : PyData := .tuple [rtD x.1, .list (x.2.map PyData.str)]
/-- a price to ask: top and bottom -/
def tlD (x : Int × Int) : PyData := .tuple [.int x.1, .int x.2]
structure TlOk (x : Int × Int) : Prop where
  t0 : 0 ≤ x.1
  l0 : 0 < x.2
  zt : Bz 260 x.1
  zl : Bz 260 x.2
theorem PS.sum {W : Str → Int} {t : Tr} {q : Str} {ps : List Str} {s : Int} (h : PS t q ps s) (hW : ∀ e ∈ plt t q, W e.1 = e.2.wt) : s = (ps.map W).sum := by
  induction h with
  | stop t q =>
    have e : W q = t.wt := by
      cases t with
      | en w => exact hW (q, .en w) List.mem_cons_self
      | fk w y n => exact hW (q, .fk w y n) List.mem_cons_self
    show t.w = W q + 0
    rw [e, Tr.wt_w]
    omega
  | @go w y n q ps1 ps2 s1 s2 g1 g2 h1 h2 =>
    rw [List.map_append, List.sum_append, ← h1 fun e he => hW e (List.mem_cons_of_mem _ (List.mem_append_left _ he)), ← h2 fun e he => hW e (List.mem_cons_of_mem _ (List.mem_append_right _ he))]
    omega
/-! costs and totals -/
def sp_ratio27 : Sp := fun vs H Q _ => ∃ t b : Int, vs = [.int t, .int b] ∧ Bz 8000 b ∧ b ≠ 0 ∧ Nw H Q (Rat.divInt t b)
def sp_times27 : Sp := fun vs H Q _ => Two 700 vs H fun r1 r2 => Nw H Q (r1 * r2)
theorem bz27 {x : Int} (h1 : -100000000000000000000000000000000000 ≤ x) (h2 : x ≤ 100000000000000000000000000000000000) : Bz 128 x := by
  show x.natAbs < 2 ^ 128
  have : (100000000000000000000000000000000000 : Nat) < 2 ^ 128 := by decide
  omega
/-- what is in the one list, and not in the other -/
def lss (as bs : List Str) : List Str := as.filter fun x => decide (x ∉ bs)
def sp_cbc (K : PySem.W.Frag) : Sp := fun vs H Q _ => ∃ (d c ba pa : Addr) (t : Tr) (B s : Int) (kvs : List (Key × V)) (es : List (Str × Tr)) (bs ps : List Str), vs = [.ref d, .ref c, .ref ba, .ref pa] ∧ H d = some (.dK kvs) ∧ DT K B H kvs es ∧ es.Perm (plt t "") ∧ 0 < B ∧ Bz 128 B ∧ t.B ∧ Rt H c (Rat.divInt s B) ∧ -10000000000000000000000000000000000 ≤ s ∧ s ≤ 10000000000000000000000000000000000 ∧ H ba = some (.lst (bs.map V.str)) ∧ H pa = some (.lst (ps.map V.str)) ∧ bs.Nodup ∧ ps.Nodup ∧ bs.length < 64 ∧ ps.length < 64 ∧ (∀ x ∈ bs, x ∈ (plc t "").map (·.1)) ∧ (∀ x ∈ ps, x ∈ (plc t "").map (·.1)) ∧
  ∀ H' r, Same H H' → H' r = some (rt (Rat.divInt (s - ((lss bs ps).map (wA t)).sum + ((lss ps bs).map (wA t)).sum) B)) → Q (.ref r) H'
theorem lss_len (as bs : List Str) : (lss as bs).length ≤ as.length := List.length_filter_le _ _
theorem perm_sum {W : Str → Int} {a b : List Str} (p : a.Perm b) : (a.map W).sum = (b.map W).sum := by
  induction p with
  | nil => rfl
  | cons x _ ih => rw [List.map_cons, List.map_cons, List.sum_cons, List.sum_cons, ih]
  | swap x y l => rw [List.map_cons, List.map_cons, List.map_cons, List.map_cons, List.sum_cons, List.sum_cons, List.sum_cons, List.sum_cons]; omega
  | trans _ _ h1 h2 => rw [h1, h2]
theorem dd_lss {as bs : List Str} (ha : as.Nodup) (hb : bs.Nodup) : ((ddS as).filter fun x => decide (x ∉ ddS bs)) = lss as bs := by
  rw [ddS_same ha, ddS_same hb]
  rfl
theorem rt_zero (B : Int) : rt (Rat.divInt 0 B) = .tup [.int 0, .int 1] := by
  rw [Rat.zero_divInt]
  rfl
/-- the sum of the costs at the places -/
def cstW (t : Tr) (ps : List Str) : Int := (ps.map (wA t)).sum
def sp_cost (CPr : Addr) (K : PySem.W.Frag) : Sp := fun vs H Q E => ∃ (v : V) (t : Tr) (B : Int) (a : Addr) (ps : List Str), vs = [v, .ref a] ∧ TV K H v (htD B t) ∧ t.lv ≤ 30 ∧ t.B ∧ 0 < B ∧ Bz 128 B ∧ H a = some (.lst (ps.map V.str)) ∧ ps.length < 64 ∧ (∀ x ∈ ps, Asc x) ∧ (((∃ gs, PI t "" ps gs) ∧ ∀ H' r, Same H H' → H' r = some (rt (Rat.divInt (cstW t ps) B)) → Q (.ref r) H') ∨ (isP t ps = false ∧ ∀ H' od, Same H H' → E (.ref CPr) od H'))
def sp_total (CPr CP : Addr) (K : PySem.W.Frag) : Sp := fun vs H Q E => ∃ (v : V) (t : Tr) (B top low : Int) (a pr : Addr) (ps : List Str), vs = [v, .ref a, .ref pr] ∧ TV K H v (htD B t) ∧ t.lv ≤ 30 ∧ t.B ∧ 0 < B ∧ Bz 128 B ∧ H a = some (.lst (ps.map V.str)) ∧ ps.length < 64 ∧ (∀ x ∈ ps, Asc x) ∧ H pr = some (rt (Rat.divInt top low)) ∧ 0 < low ∧ Bz 128 top ∧ Bz 128 low ∧
  ((0 ≤ top ∧ (∃ gs, PI t "" ps gs) ∧ ∀ H' r, Same H H' → H' r = some (rt (Rat.divInt (cstW t ps) B + Rat.divInt top low * Rat.divInt (ps.length : Int) 1)) → Q (.ref r) H') ∨ (0 ≤ top ∧ isP t ps = false ∧ ∀ H' od, Same H H' → E (.ref CPr) od H') ∨ (top < 0 ∧ ∀ H' d, Same H H' → H' d = some (.xd [("price", .ref pr)]) → E (.ref CP) (some d) H'))
theorem cst_bd {t : Tr} {ps gs : List Str} (tb : t.B) (h : PI t "" ps gs) (hl : ps.length < 64) : -10000000000000000000000000000000000 ≤ cstW t ps ∧ cstW t ps ≤ 10000000000000000000000000000000000 := by
  have h1 := sumB (W := wA t) (l := ps) fun x hx => wA_B tb (h.kn x hx)
  unfold cstW
  omega
theorem divInt_add {a c B : Int} (hB : 0 < B) : Rat.divInt a B + Rat.divInt c B = Rat.divInt (a + c) B := by
  have h := divInt_sub (a := a) (c := -c) hB
  rw [show a - -c = a + c by omega] at h
  rw [← h, Rat.sub_eq_add_neg, Rat.neg_divInt, Int.neg_neg]
def sp_spoil27 : Sp := fun vs H Q _ => ∃ (a : Addr) (c : Int) (t : Tr) (ps gs : List Str), vs = [.ref a, .int c] ∧ H a = some (.lst (ps.map V.str)) ∧ 0 ≤ c ∧ PI t "" ps gs ∧ t.lv ≤ 30 ∧ ∀ H' p rs, Same H H' → H' p = some (.lst (rs.map V.str)) → rs.length < 64 → (∀ x ∈ rs, Asc x) → isP t rs = false → Q (.ref p) H'
/-- how a call is refused -/
def sp_refu27 (K : PySem.W.Frag) : Sp := fun vs H Q _ => ∃ (v : V) (t : Tr) (B : Int) (a : Addr) (ps : List Str) (pr : V), vs = [v, .ref a, pr] ∧ TV K H v (htD B t) ∧ t.lv ≤ 30 ∧ t.B ∧ 0 < B ∧ Bz 128 B ∧ H a = some (.lst (ps.map V.str)) ∧ ps.length < 64 ∧ (∀ x ∈ ps, Asc x) ∧
  ((pr = .non ∧ isP t ps = false ∧ ∀ H', Same H H' → Q (.str "places") H') ∨ (∃ (pp : Addr) (top low : Int), pr = .ref pp ∧ H pp = some (rt (Rat.divInt top low)) ∧ 0 < low ∧ Bz 128 top ∧ Bz 128 low ∧ ((0 ≤ top ∧ isP t ps = false ∧ ∀ H', Same H H' → Q (.str "places") H') ∨ (top < 0 ∧ ∀ H', Same H H' → Q (.str "price") H'))))
def sp_refd27 (K : PySem.W.Frag) : Sp := fun vs H Q _ => ∃ (v : V) (t : Tr) (B top low : Int) (a wa pp : Addr) (ps ws : List Str), vs = [v, .ref a, .ref wa, .ref pp] ∧ TV K H v (htD B t) ∧ t.lv ≤ 30 ∧ t.B ∧ 0 < B ∧ Bz 128 B ∧ H a = some (.lst (ps.map V.str)) ∧ ps.length < 64 ∧ (∀ x ∈ ps, Asc x) ∧ H wa = some (.lst (ws.map V.str)) ∧ ws.length < 64 ∧ (∀ x ∈ ws, Asc x) ∧ isP t ws = false ∧ H pp = some (rt (Rat.divInt top low)) ∧ 0 ≤ top ∧ 0 < low ∧ Bz 126 top ∧ Bz 126 low ∧ ∀ H', Same H H' → Q (.bl true) H'
theorem at27 {k : Str} {w : Int} {r : List V} : atI (V.str k :: V.int w :: r) 1 = some (.int w) := by
  have e : atI (V.str k :: V.int w :: r) ((1 : Nat) : Int) = some (.int w) := atI_nat rfl
  exact e
theorem mulN (c : Int) {k : Int} (h : 0 ≤ k) (h2 : k ≤ 3) : IntMulOk c (48271 + 21350 * k) := by
  obtain rfl | rfl | rfl | rfl : k = 0 ∨ k = 1 ∨ k = 2 ∨ k = 3 := by omega
  all_goals exact IntMulOk.of_right (by decide +kernel)
def sp_law_next : Sp := fun vs H Q _ => ∃ c k : Int, vs = [.int c, .int k] ∧ 0 ≤ k ∧ k ≤ 3 ∧ ∀ v : Int, 0 ≤ v → v < 2147483647 → Q (.int v) H
def sp_law_alike : Sp := fun vs H Q _ => ∃ (p1 p2 : Addr) (x y : Int), vs = [.ref p1, .ref p2] ∧ H p1 = some (.tup [.int x, .int y]) ∧ H p2 = some (.tup [.int x, .int y]) ∧ Q (.bl true) H
theorem at_m2 (ys : List V) (v1 v2 : V) : atI (ys ++ [v1] ++ [v2]) (-2) = some v1 := by
  unfold atI ixN
  have l : (ys ++ [v1] ++ [v2]).length = ys.length + 2 := by simp
  rw [l, if_neg (by decide), if_pos (by omega)]
  show (ys ++ [v1] ++ [v2])[(((ys.length + 2 : Nat) : Int) + -2).toNat]? = some v1
  rw [show (((ys.length + 2 : Nat) : Int) + -2).toNat = ys.length by omega]
  simp
theorem cut_m2 (ys : List V) (v1 v2 : V) : cutV (ys ++ [v1] ++ [v2]) none (some (-2)) = ys := by
  unfold cutV
  have l : (ys ++ [v1] ++ [v2]).length = ys.length + 2 := by simp
  have e1 : HT.sIx (ys ++ [v1] ++ [v2]).length 0 none = 0 := by simp [HT.sIx]
  have e2 : HT.sIx (ys ++ [v1] ++ [v2]).length (ys ++ [v1] ++ [v2]).length (some (-2)) = ys.length := by
    rw [l]
    simp [HT.sIx]
    omega
  rw [e1, e2, List.drop_zero, Nat.sub_zero, List.append_assoc, List.take_left]
theorem atI_last {xs : List V} {n : Nat} {v : V} (h : xs.length = n + 1) (hv : xs[n]? = some v) : atI xs (-1) = some v := by
  have e : xs = xs.take n ++ [v] := by
    have d : xs.drop n = v :: xs.drop (n + 1) := List.drop_eq_getElem?_toList_append.trans (by rw [hv]; rfl)
    rw [List.drop_eq_nil_iff.mpr (show xs.length ≤ n + 1 by omega)] at d
    rw [← d, List.take_append_drop]
  rw [e]
  exact last_at _ _
theorem two_d (d : Nat) : ((2 ^ (d + 1) : Nat) : Int) = 2 * ((2 ^ d : Nat) : Int) := by
  rw [Nat.pow_succ]
  omega
/-! ladders -/
/-- a pruning with so many leaves, of this cost -/
inductive Ln : Tr → Nat → Int → Prop
  | stop (t : Tr) : Ln t 1 t.w
  | go {w : Int} {y n : Tr} {a b : Nat} {s r : Int} : Ln y a s → Ln n b r → Ln (.fk w y n) (a + b) (s + r)
theorem PS.ln {t : Tr} {q : Str} {ps : List Str} {s : Int} (h : PS t q ps s) : Ln t ps.length s := by
  induction h with
  | stop t q => exact .stop t
  | go _ _ h1 h2 =>
    rw [List.length_append, Nat.add_comm]
    exact .go h1 h2
theorem Ln.bd {t : Tr} {m : Nat} {s : Int} (h : Ln t m s) : 1 ≤ m ∧ m ≤ t.lv := by
  induction h with
  | stop t => exact ⟨Nat.le_refl _, t.lv_pos⟩
  | go _ _ h1 h2 =>
    show 1 ≤ _ ∧ _ ≤ _ + _
    omega
theorem Ln.two {w : Int} {y n : Tr} {m : Nat} {s : Int} (h : Ln (.fk w y n) m s) (hm : 2 ≤ m) : ∃ a b s1 s2, Ln y a s1 ∧ Ln n b s2 ∧ a + b = m ∧ s1 + s2 = s := by
  cases h with
  | stop => omega
  | go h1 h2 => exact ⟨_, _, _, _, h1, h2, rfl, rfl⟩
theorem Ln.one {t : Tr} {m : Nat} {s : Int} (h : Ln t m s) (hm : m = 1) : s = t.w := by
  cases h with
  | stop => rfl
  | go h1 h2 => have := h1.bd; have := h2.bd; omega
theorem app_assoc' (x y z : Str) : x ++ y ++ z = x ++ (y ++ z) := str_ext (by rw [cds_app, cds_app, cds_app, cds_app, List.append_assoc])
theorem nil_app' (x : Str) : ("" : Str) ++ x = x := str_ext (by rw [cds_app]; rfl)
theorem app_nil' (x : Str) : x ++ ("" : Str) = x := str_ext (by rw [cds_app]; exact List.append_nil _)
def pf (c : Str) (ps : List Str) : List Str := ps.map fun x => c ++ x
theorem PS.pfx {t : Tr} {q : Str} {ps : List Str} {s : Int} (h : PS t q ps s) : ∀ x : Str, PS t (x ++ q) (pf x ps) s := by
  induction h with
  | stop t q => exact fun x => .stop t _
  | go _ _ h1 h2 =>
    intro x
    unfold pf at h1 h2 ⊢
    rw [List.map_append]
    have h1 := h1 x
    have h2 := h2 x
    rw [← app_assoc'] at h1 h2
    exact .go h1 h2
/-- a rung: the cheapest of the prunings with so many leaves -/
structure Rg (t : Tr) (i : Nat) (u : Int × List Str) : Prop where
  ps : PS t "" u.2 u.1
  len : u.2.length = i + 1
  low : ∀ s, Ln t (i + 1) s → u.1 ≤ s
theorem Rg.fk {w : Int} {y n : Tr} {i j : Nat} {u v : Int × List Str} (h1 : Rg y i u) (h2 : Rg n j v) (hl : ∀ a b s1 s2, Ln y a s1 → Ln n b s2 → a + b = i + j + 2 → u.1 + v.1 ≤ s1 + s2) : Rg (.fk w y n) (i + j + 1) (u.1 + v.1, pf "n" v.2 ++ pf "y" u.2) := by
  have p1 := h1.ps.pfx "y"
  have p2 := h2.ps.pfx "n"
  rw [app_nil'] at p1 p2
  refine ⟨.go (q := "") ?_ ?_, ?_, fun s hs => ?_⟩
  · rw [nil_app']; exact p1
  · rw [nil_app']; exact p2
  · show (pf "n" v.2 ++ pf "y" u.2).length = _
    unfold pf
    rw [List.length_append, List.length_map, List.length_map, h1.len, h2.len]
    omega
  · obtain ⟨a, b, s1, s2, l1, l2, e1, e2⟩ := hs.two (by omega)
    rw [← e2]
    exact hl a b s1 s2 l1 l2 (by omega)
theorem Rg.top (t : Tr) : Rg t 0 (t.w, [("" : Str)]) := ⟨.stop t _, rfl, fun s hs => by rw [hs.one rfl]; exact Int.le_refl _⟩
theorem Sc.ln {b c : Int} {t t' : Tr} (h : Sc b c t t') : ∀ {m : Nat} {s : Int}, Ln t m s → ∃ s', Ln t' m s' ∧ s' * b = s * c := by
  intro m s l
  induction l generalizing t' with
  | stop t =>
    refine ⟨_, .stop t', ?_⟩
    rw [← Tr.wt_w, ← Tr.wt_w]
    exact h.wt
  | go _ _ h1 h2 =>
    cases h with
    | fk e hy hn =>
      obtain ⟨s1, l1, e1⟩ := h1 hy
      obtain ⟨s2, l2, e2⟩ := h2 hn
      exact ⟨_, .go l1 l2, by rw [Int.add_mul, Int.add_mul, e1, e2]⟩
theorem Sc.ps {b c : Int} {t t' : Tr} (h : Sc b c t t') : ∀ {q : Str} {ps : List Str} {s' : Int}, PS t' q ps s' → ∃ s, PS t q ps s ∧ s' * b = s * c := by
  intro q ps s' l
  induction l generalizing t with
  | stop t' q =>
    refine ⟨_, .stop t q, ?_⟩
    rw [← Tr.wt_w, ← Tr.wt_w]
    exact h.wt
  | go _ _ h1 h2 =>
    cases h with
    | fk e hy hn =>
      obtain ⟨s1, l1, e1⟩ := h1 hy
      obtain ⟨s2, l2, e2⟩ := h2 hn
      exact ⟨_, .go l1 l2, by rw [Int.add_mul, Int.add_mul, e1, e2]⟩
theorem Sc.rg {b c : Int} {t t' : Tr} (h : Sc b c t t') (b0 : 0 < b) (c0 : 0 < c) {i : Nat} {u : Int × List Str} (r : Rg t' i u) : ∃ s, Rg t i (s, u.2) := by
  obtain ⟨s, p, e⟩ := h.ps r.ps
  refine ⟨s, p, r.len, fun s2 l2 => ?_⟩
  obtain ⟨s3, l3, e3⟩ := h.ln l2
  have := r.low s3 l3
  have h4 : u.1 * b ≤ s3 * b := Int.mul_le_mul_of_nonneg_right this (Int.le_of_lt b0)
  rw [e, e3] at h4
  exact Int.le_of_mul_le_mul_right h4 c0

/-- a list of rungs, as it lies -/
inductive RVs (H : Hp) : List V → List (Int × List Str) → Prop
  | nil : RVs H [] []
  | cons {p l : Addr} {c : Int} {ps : List Str} {xs : List V} {us : List (Int × List Str)} : H p = some (.tup [.int c, .ref l]) → H l = some (.lst (ps.map V.str)) → RVs H xs us → RVs H (.ref p :: xs) ((c, ps) :: us)
theorem RVs.length {H : Hp} {xs : List V} {us : List (Int × List Str)} (h : RVs H xs us) : xs.length = us.length := by
  induction h with
  | nil => rfl
  | cons _ _ _ ih => rw [List.length_cons, List.length_cons, ih]
theorem RVs.mono {H H' : Hp} {xs : List V} {us : List (Int × List Str)} (h : RVs H xs us) (S : Same H H') : RVs H' xs us := by
  induction h with
  | nil => exact .nil
  | cons h1 h2 _ ih => exact .cons (S _ _ h1) (S _ _ h2) ih
theorem RVs.get {H : Hp} {xs : List V} {us : List (Int × List Str)} (h : RVs H xs us) : ∀ {i : Nat} {x : V}, xs[i]? = some x → ∃ p l u, x = .ref p ∧ us[i]? = some u ∧ H p = some (.tup [.int u.1, .ref l]) ∧ H l = some (.lst (u.2.map V.str)) := by
  induction h with
  | nil => intro i x e; cases e
  | cons h1 h2 _ ih =>
    intro i x e
    cases i with
    | zero =>
      obtain rfl := Option.some.inj e
      exact ⟨_, _, _, rfl, rfl, h1, h2⟩
    | succ i => exact ih e
theorem RVs.snoc {H : Hp} {xs : List V} {us : List (Int × List Str)} (h : RVs H xs us) {p l : Addr} {u : Int × List Str} (h1 : H p = some (.tup [.int u.1, .ref l])) (h2 : H l = some (.lst (u.2.map V.str))) : RVs H (xs ++ [.ref p]) (us ++ [u]) := by
  induction h with
  | nil => exact .cons h1 h2 .nil
  | cons a b _ ih => exact .cons a b ih
/-- all rungs of a tree, up to so many leaves -/
def Rgs (t : Tr) (us : List (Int × List Str)) : Prop := ∀ (i : Nat) u, us[i]? = some u → Rg t i u
theorem Rgs.snoc {t : Tr} {us : List (Int × List Str)} {u : Int × List Str} (h : Rgs t us) (hu : Rg t us.length u) : Rgs t (us ++ [u]) := fun i v hv => by
  rw [List.getElem?_append] at hv
  split at hv
  · exact h i v hv
  · rename_i c
    have e : i - us.length = 0 := by
      rcases Nat.eq_zero_or_pos (i - us.length) with z | z
      · exact z
      · rw [List.getElem?_eq_none (by rw [List.length_singleton]; omega)] at hv
        cases hv
    rw [e] at hv
    obtain rfl := Option.some.inj hv
    rw [show i = us.length by omega]
    exact hu
def sp_best (K : PySem.W.Frag) : Sp := fun vs H Q _ => ∃ (a b : Addr) (L : Nat) (ty tn : Tr) (ys ns : List V) (us ws : List (Int × List Str)), vs = [.ref a, .ref b, .int (L : Int)] ∧ H a = some (.lst ys) ∧ H b = some (.lst ns) ∧ RVs H ys us ∧ RVs H ns ws ∧ Rgs ty us ∧ Rgs tn ws ∧ us.length = ty.lv ∧ ws.length = tn.lv ∧ ty.lv + tn.lv ≤ 50 ∧ 2 ≤ L ∧ L ≤ ty.lv + tn.lv ∧
  ∀ H' p l u, Same H H' → H' p = some (.tup [.int u.1, .ref l]) → H' l = some (.lst (u.2.map V.str)) → (∀ w, Rg (.fk w ty tn) (L - 1) u) → Q (.ref p) H'
def sp_rungs (K : PySem.W.Frag) (d : Nat) : Sp := fun vs H Q _ => ∃ (v : V) (t : Tr), vs = [v] ∧ TV K H v (trD t) ∧ t.dp ≤ d ∧ t.lv ≤ 50 ∧
  ∀ H' p xs us, Same H H' → H p = none → H' p = some (.lst xs) → RVs H' xs us → Rgs t us → us.length = t.lv → Q (.ref p) H'
/-- no list of places, no pair -/
def Odd (H : Hp) (z : Addr) : Prop := ∃ zs : List V, H z = some (.lst zs) ∧ ∀ s r, zs ≠ V.str s :: r
theorem Odd.tup {H : Hp} {z p : Addr} {ys : List V} (h : Odd H z) (hp : H p = some (.tup ys)) : p ≠ z := fun e => by
  obtain ⟨zs, hz, _⟩ := h
  rw [e, hz] at hp
  cases hp
theorem Odd.lst {H : Hp} {z l : Addr} {ps : List Str} (h : Odd H z) (hp : H l = some (.lst (ps.map V.str))) (ne : ps ≠ []) : l ≠ z := fun e => by
  obtain ⟨zs, hz, n⟩ := h
  rw [e, hz] at hp
  obtain ⟨s, r, rfl⟩ := List.exists_cons_of_ne_nil ne
  exact n s _ (HO.lst.inj (Option.some.inj hp))
theorem RVs.over {H : Hp} {z : Addr} {xs : List V} {us : List (Int × List Str)} (h : RVs H xs us) (hz : Odd H z) (ne : ∀ u ∈ us, u.2 ≠ []) (o : HO) : RVs (upd H z o) xs us := by
  induction h with
  | nil => exact .nil
  | cons h1 h2 _ ih => exact .cons (by rw [upd_ne (hz.tup h1)]; exact h1) (by rw [upd_ne (hz.lst h2 (ne _ List.mem_cons_self))]; exact h2) (ih fun u hu => ne u (List.mem_cons_of_mem _ hu))
theorem Rgs.ne {t : Tr} {us : List (Int × List Str)} (h : Rgs t us) : ∀ u ∈ us, u.2 ≠ [] := fun u hu e => by
  obtain ⟨i, hi⟩ := List.getElem?_of_mem hu
  have := (h i u hi).len
  rw [e] at this
  cases this
/-- a ladder, as it lies -/
inductive LDs (B : Int) (H : Hp) : List V → List (Int × List Str) → Prop
  | nil : LDs B H [] []
  | cons {p l c : Addr} {s : Int} {ps : List Str} {xs : List V} {us : List (Int × List Str)} : H p = some (.tup [.int (ps.length : Int), .ref c, .ref l]) → H c = some (rt (Rat.divInt s B)) → H l = some (.lst (ps.map V.str)) → LDs B H xs us → LDs B H (.ref p :: xs) ((s, ps) :: us)
theorem LDs.length {B : Int} {H : Hp} {xs : List V} {us : List (Int × List Str)} (h : LDs B H xs us) : xs.length = us.length := by
  induction h with
  | nil => rfl
  | cons _ _ _ _ ih => rw [List.length_cons, List.length_cons, ih]
theorem LDs.mono {B : Int} {H H' : Hp} {xs : List V} {us : List (Int × List Str)} (h : LDs B H xs us) (S : Same H H') : LDs B H' xs us := by
  induction h with
  | nil => exact .nil
  | cons h1 h2 h3 _ ih => exact .cons (S _ _ h1) (S _ _ h2) (S _ _ h3) ih
theorem LDs.get {B : Int} {H : Hp} {xs : List V} {us : List (Int × List Str)} (h : LDs B H xs us) : ∀ {i : Nat} {x : V}, xs[i]? = some x → ∃ p c l u, x = .ref p ∧ us[i]? = some u ∧ H p = some (.tup [.int (u.2.length : Int), .ref c, .ref l]) ∧ H c = some (rt (Rat.divInt u.1 B)) ∧ H l = some (.lst (u.2.map V.str)) := by
  induction h with
  | nil => intro i x e; cases e
  | cons h1 h2 h3 _ ih =>
    intro i x e
    cases i with
    | zero =>
      obtain rfl := Option.some.inj e
      exact ⟨_, _, _, _, rfl, rfl, h1, h2, h3⟩
    | succ i => exact ih e
theorem LDs.snoc {B : Int} {H : Hp} {xs : List V} {us : List (Int × List Str)} (h : LDs B H xs us) {p l c : Addr} {u : Int × List Str} (h1 : H p = some (.tup [.int (u.2.length : Int), .ref c, .ref l])) (h2 : H c = some (rt (Rat.divInt u.1 B))) (h3 : H l = some (.lst (u.2.map V.str))) : LDs B H (xs ++ [.ref p]) (us ++ [u]) := by
  induction h with
  | nil => exact .cons h1 h2 h3 .nil
  | cons a b c _ ih => exact .cons a b c ih
theorem LDs.over {B : Int} {H : Hp} {z : Addr} {xs : List V} {us : List (Int × List Str)} (h : LDs B H xs us) (hz : Odd H z) (ne : ∀ u ∈ us, u.2 ≠ []) (o : HO) : LDs B (upd H z o) xs us := by
  induction h with
  | nil => exact .nil
  | cons h1 h2 h3 _ ih => exact .cons (by rw [upd_ne (hz.tup h1)]; exact h1) (by rw [upd_ne (hz.tup h2)]; exact h2) (by rw [upd_ne (hz.lst h3 (ne _ List.mem_cons_self))]; exact h3) (ih fun u hu => ne u (List.mem_cons_of_mem _ hu))
theorem LDs.odd {B : Int} {H : Hp} {xs : List V} {us : List (Int × List Str)} (h : LDs B H xs us) {z : Addr} (hz : H z = some (.lst xs)) : Odd H z := ⟨xs, hz, fun s r e => by
  rw [e] at h
  cases h⟩
def sp_ladder (K : PySem.W.Frag) : Sp := fun vs H Q _ => ∃ (v : V) (t : Tr) (B : Int), vs = [v] ∧ TV K H v (htD B t) ∧ t.lv ≤ 48 ∧ t.dp ≤ 20 ∧ 0 < B ∧ Bz 128 B ∧ t.B ∧ ∀ H' p xs us, Same H H' → H' p = some (.lst xs) → LDs B H' xs us → Rgs t us → us.length = t.lv → Q (.ref p) H'
theorem sum_filter (W : Str → Int) (p : Str → Bool) : ∀ l : List Str, (l.map W).sum = ((l.filter p).map W).sum + ((l.filter fun x => !p x).map W).sum
  | [] => rfl
  | x :: l => by
    have := sum_filter W p l
    cases h : p x with
    | true => rw [List.filter_cons_of_pos h, List.filter_cons_of_neg (by rw [h]; decide), List.map_cons, List.map_cons, List.sum_cons, List.sum_cons, this]; omega
    | false => rw [List.filter_cons_of_neg (by rw [h]; decide), List.filter_cons_of_pos (by rw [h]; decide), List.map_cons, List.map_cons, List.sum_cons, List.sum_cons, this]; omega
theorem nodup_perm {a b : List Str} (ha : a.Nodup) (hb : b.Nodup) (h : ∀ x, x ∈ a ↔ x ∈ b) : a.Perm b := by
  rw [List.perm_iff_count]
  intro x
  by_cases m : x ∈ a
  · rw [ha.count, hb.count, if_pos m, if_pos ((h x).mp m)]
  · rw [ha.count, hb.count, if_neg m, if_neg fun z => m ((h x).mpr z)]
/-- the change of the sums -/
theorem sum_change (W : Str → Int) {bs ps : List Str} (hb : bs.Nodup) (hp : ps.Nodup) : (bs.map W).sum - ((lss bs ps).map W).sum + ((lss ps bs).map W).sum = (ps.map W).sum := by
  have h1 := sum_filter W (fun x => decide (x ∉ ps)) bs
  have h2 := sum_filter W (fun x => decide (x ∉ bs)) ps
  have h3 : (bs.filter fun x => !decide (x ∉ ps)).Perm (ps.filter fun x => !decide (x ∉ bs)) := nodup_perm (hb.filter _) (hp.filter _) fun x => by
    rw [List.mem_filter, List.mem_filter]
    simp
    exact ⟨fun z => ⟨z.2, z.1⟩, fun z => ⟨z.2, z.1⟩⟩
  have h4 := perm_sum (W := W) h3
  unfold lss
  omega
/-- the costs are small -/
def Tr.sb : Tr → Prop
  | .en w => -5000000000000000000000 ≤ w ∧ w ≤ 5000000000000000000000
  | .fk w y n => (-5000000000000000000000 * (2 * ((y.lv + n.lv : Nat) : Int) - 1) ≤ w ∧ w ≤ 5000000000000000000000 * (2 * ((y.lv + n.lv : Nat) : Int) - 1)) ∧ y.sb ∧ n.sb
theorem Tr.sb.w {t : Tr} (h : t.sb) : -5000000000000000000000 * (2 * (t.lv : Int) - 1) ≤ t.w ∧ t.w ≤ 5000000000000000000000 * (2 * (t.lv : Int) - 1) := by
  cases t with
  | en w => have : -5000000000000000000000 ≤ w ∧ w ≤ 5000000000000000000000 := h; show -5000000000000000000000 * (2 * ((1 : Nat) : Int) - 1) ≤ w ∧ w ≤ 5000000000000000000000 * (2 * ((1 : Nat) : Int) - 1); omega
  | fk w y n => exact h.1
theorem Tr.sb.B : ∀ {t : Tr}, t.sb → t.lv ≤ 50 → t.B
  | .en w, h, _ => by
    have : -5000000000000000000000 ≤ w ∧ w ≤ 5000000000000000000000 := h
    exact ⟨by omega, by omega⟩
  | .fk w y n, h, l => by
    have l : y.lv + n.lv ≤ 50 := l
    have h1 := h.1
    exact ⟨⟨by omega, by omega⟩, h.2.1.B (by omega), h.2.2.B (by omega)⟩
theorem Tr.sb.fk {y n : Tr} {g : Int} (hy : y.sb) (hn : n.sb) (g0 : -5000000000000000000000 ≤ g) (g1 : g ≤ 5000000000000000000000) : (Tr.fk (y.w + n.w + g) y n).sb := by
  have a := hy.w
  have b := hn.w
  exact ⟨by omega, hy, hn⟩
theorem mul38 {x s : Int} (h0 : -50 ≤ x) (h1 : x ≤ 50) (s0 : 1 ≤ s) (s1 : s ≤ 100000000000000000000) : -5000000000000000000000 ≤ x * s ∧ x * s ≤ 5000000000000000000000 := by
  have a : x * s ≤ 50 * s := Int.mul_le_mul_of_nonneg_right h1 (by omega)
  have b : -50 * s ≤ x * s := Int.mul_le_mul_of_nonneg_right h0 (by omega)
  omega
theorem mok38 {x s : Int} (h0 : -50 ≤ x) (h1 : x ≤ 50) (s0 : 1 ≤ s) (s1 : s ≤ 100000000000000000000) : IntMulOk x s := by
  have a : Bz 20 x := by show x.natAbs < 2 ^ 20; omega
  have b : Bz 70 s := by show s.natAbs < 2 ^ 70; omega
  exact a.mulOk b
def eds : Tr → Str → List Str
  | .en _, q => [q]
  | .fk _ y n, q => eds n (q ++ "n") ++ eds y (q ++ "y")
theorem eds_len : ∀ (t : Tr) (q : Str), (eds t q).length = t.lv
  | .en _, _ => rfl
  | .fk _ y n, q => by
    show (eds n _ ++ eds y _).length = y.lv + n.lv
    rw [List.length_append, eds_len n, eds_len y, Nat.add_comm]
theorem eds_mem : ∀ {t : Tr} {q x : Str}, x ∈ eds t q → (x, Str.ofString "end") ∈ plc t q
  | .en _, q, x, h => by rw [List.mem_singleton.mp h]; exact List.mem_cons_self
  | .fk w y n, q, x, h => by
    refine List.mem_cons_of_mem _ ?_
    rcases List.mem_append.mp h with h | h
    · exact List.mem_append_right _ (eds_mem h)
    · exact List.mem_append_left _ (eds_mem h)
theorem eds_all : ∀ {t : Tr} {q : Str} {u : Str × Str}, u ∈ plc t q → u.2 = Str.ofString "end" → u.1 ∈ eds t q
  | .en _, q, u, h, e => by rw [List.mem_singleton.mp h]; exact List.mem_cons_self
  | .fk w y n, q, u, h, e => by
    rcases List.mem_cons.mp h with h | h
    · rw [h] at e
      have e : Str.ofString "fork" = Str.ofString "end" := e
      exact absurd e (by decide +kernel)
    · rcases List.mem_append.mp h with h | h
      · exact List.mem_append_right _ (eds_all h e)
      · exact List.mem_append_left _ (eds_all h e)
def sp_many38 (K : PySem.W.Frag) (d : Nat) : Sp := fun vs H Q _ => ∃ (v : V) (t : Tr), vs = [v] ∧ TV K H v (trD t) ∧ t.dp ≤ d ∧ Q (.int (t.lv : Int)) H
def sp_ends38 (K : PySem.W.Frag) (d : Nat) : Sp := fun vs H Q _ => ∃ (v : V) (t : Tr) (q : Str), vs = [v, .str q] ∧ TV K H v (trD t) ∧ t.dp ≤ d ∧ t.lv ≤ 50 ∧ q.length + t.dp ≤ 100 ∧ ∀ H' p, Same H H' → H' p = some (.lst ((eds t q).map V.str)) → Q (.ref p) H'
def sp_drawn38 (K : PySem.W.Frag) (d : Nat) : Sp := fun vs H Q _ => ∃ (v : V) (t : Tr) (q : Str) (c : Int), vs = [v, .str q, .int c] ∧ TV K H v (trD t) ∧ t.dp ≤ d ∧ t.lv ≤ 50 ∧ q.length + t.dp ≤ 100 ∧ ∀ H' p ps s, Same H H' → H' p = some (.lst (ps.map V.str)) → PS t q ps s → Q (.ref p) H'
def sp_handed38 (K : PySem.W.Frag) (d : Nat) : Sp := fun vs H Q _ => ∃ (v : V) (t : Tr) (B : Int), vs = [v, .int B] ∧ TV K H v (trD t) ∧ t.dp ≤ d ∧ t.dp ≤ 40 ∧ 0 < B ∧ Bz 8000 B ∧ ∀ H' x, Same H H' → TV K H' x (htD B t) → Q x H'
def sp_joined38 (K : PySem.W.Frag) : Sp := fun vs H Q _ => ∃ (a : Addr) (g : Int) (ys : List V) (v1 v2 : V) (t1 t2 : Tr), vs = [.ref a, .int g] ∧ H a = some (.lst (ys ++ [v1] ++ [v2])) ∧ ys.length ≤ 100 ∧ TV K H v1 (trD t1) ∧ TV K H v2 (trD t2) ∧ ∀ H' p y, Same H H' → H p = none → H' p = some (.lst (ys ++ [y])) → TV K H' y (trD (.fk (t1.w + t2.w + g) t1 t2)) → Q (.ref p) H'
def sp_level38 (K : PySem.W.Frag) (d : Nat) : Sp := fun vs H Q _ => ∃ c m s : Int, vs = [.int c, .int m, .int s] ∧ 1 ≤ m ∧ m ≤ ((2 ^ d : Nat) : Int) ∧ 1 ≤ s ∧ s ≤ 100000000000000000000 ∧ ∀ H' v t, Same H H' → TV K H' v (trD t) → (t.lv : Int) = m → t.dp ≤ d → t.sb → Q v H'
def sp_tree38 (K : PySem.W.Frag) : Sp := fun vs H Q _ => ∃ (a : Addr) (ns : List Int) (s : Int), vs = [.ref a, .int s] ∧ H a = some (.lst (ns.map V.int)) ∧ ns.length ≤ 20 ∧ 1 ≤ s ∧ s ≤ 100000000000000000000 ∧ ∀ H' v t, Same H H' → TV K H' v (trD t) → t.lv ≤ 20 → t.sb → Q v H'
def sp_sum38 (K : PySem.W.Frag) : Sp := fun vs H Q _ => ∃ (v : V) (a : Addr) (t : Tr) (ps : List Str), vs = [v, .ref a] ∧ TV K H v (trD t) ∧ H a = some (.lst (ps.map V.str)) ∧ ps.length < 100 ∧ (∀ x ∈ ps, x ∈ (plc t "").map (·.1)) ∧ t.dp ≤ 40 ∧ Q (.int (cstW t ps)) H
def sp_isp38 (K : PySem.W.Frag) : Sp := fun vs H Q _ => ∃ (v : V) (a : Addr) (t : Tr) (ps gs : List Str), vs = [v, .ref a] ∧ TV K H v (trD t) ∧ H a = some (.lst (ps.map V.str)) ∧ t.lv ≤ 48 ∧ t.dp ≤ 20 ∧ PI t "" ps gs ∧ ∀ H', Same H H' → Q (.bl true) H'
def sp_rung38 (K : PySem.W.Frag) : Sp := fun vs H Q _ => ∃ (p c l : Addr) (v : V) (t : Tr) (B s m : Int) (ps : List Str), vs = [.ref p, v, .int B, .int m] ∧ (ps.length : Int) = m ∧ TV K H v (trD t) ∧ t.lv ≤ 48 ∧ t.dp ≤ 20 ∧ t.B ∧ 0 < B ∧ Bz 128 B ∧ H p = some (.tup [.int (ps.length : Int), .ref c, .ref l]) ∧ H c = some (rt (Rat.divInt s B)) ∧ H l = some (.lst (ps.map V.str)) ∧ PS t "" ps s ∧ ∀ H', Same H H' → Q (.bl true) H'
def lvs (ts : List Tr) : Nat := (ts.map Tr.lv).sum
theorem lvs_app (ts us : List Tr) : lvs (ts ++ us) = lvs ts + lvs us := by unfold lvs; rw [List.map_append, List.sum_append]
theorem lvs_one (t : Tr) : lvs [t] = t.lv := rfl
theorem lvs_len : ∀ ts : List Tr, ts.length ≤ lvs ts
  | [] => Nat.le_refl _
  | t :: ts => by
    have := lvs_len ts
    have := t.lv_pos
    show ts.length + 1 ≤ t.lv + lvs ts
    omega
theorem TVs.last38 {K : PySem.W.Frag} {H : Hp} : ∀ {ys : List V} {ts : List Tr}, TVs K H ys (ts.map trD) → 0 < ys.length → ∃ zs y as e, ys = zs ++ [y] ∧ ts = as ++ [e] ∧ TVs K H zs (as.map trD) ∧ TV K H y (trD e)
  | _, [], h, l => by cases h; exact absurd l (Nat.lt_irrefl 0)
  | _, [e], h, l => by
    cases h with
    | cons h1 h => cases h; exact ⟨[], _, [], e, rfl, rfl, .nil, h1⟩
  | _, e :: e2 :: ts, h, l => by
    cases h with
    | cons h1 h =>
      obtain ⟨zs, y, as, e', rfl, e3, t, ty⟩ := TVs.last38 (ts := e2 :: ts) h (by rw [h.length]; exact Nat.succ_pos _)
      exact ⟨_ :: zs, y, e :: as, e', rfl, by rw [e3]; rfl, .cons h1 t, ty⟩
theorem TVs.two38 {K : PySem.W.Frag} {H : Hp} {xs : List V} {ts : List Tr} (h : TVs K H xs (ts.map trD)) (l : 2 ≤ xs.length) : ∃ ys v1 v2 us t1 t2, xs = ys ++ [v1] ++ [v2] ∧ ts = us ++ [t1] ++ [t2] ∧ TVs K H ys (us.map trD) ∧ TV K H v1 (trD t1) ∧ TV K H v2 (trD t2) := by
  obtain ⟨zs, v2, as, t2, rfl, rfl, tz, d2⟩ := TVs.last38 h (by omega)
  rw [List.length_append, List.length_singleton] at l
  obtain ⟨ys, v1, us, t1, rfl, rfl, ty, d1⟩ := TVs.last38 tz (by omega)
  exact ⟨ys, v1, v2, us, t1, t2, rfl, rfl, ty, d1, d2⟩
theorem TVs.snoc38 {K : PySem.W.Frag} {H : Hp} {ys : List V} {us : List Tr} {y : V} {t : Tr} (h : TVs K H ys (us.map trD)) (d : TV K H y (trD t)) : TVs K H (ys ++ [y]) ((us ++ [t]).map trD) := by
  rw [List.map_append]
  exact h.append (.cons d .nil)
theorem sb_two {us : List Tr} {t1 t2 : Tr} {g : Int} (h : ∀ t ∈ us ++ [t1] ++ [t2], t.sb) (g0 : -5000000000000000000000 ≤ g) (g1 : g ≤ 5000000000000000000000) : ∀ t ∈ us ++ [Tr.fk (t1.w + t2.w + g) t1 t2], t.sb := fun t ht => by
  rcases List.mem_append.mp ht with ht | ht
  · exact h t (List.mem_append_left _ (List.mem_append_left _ ht))
  · rw [List.mem_singleton.mp ht]
    exact Tr.sb.fk (h t1 (List.mem_append_left _ (List.mem_append_right _ List.mem_cons_self))) (h t2 (List.mem_append_right _ List.mem_cons_self)) g0 g1
theorem lvs_two (us : List Tr) (t1 t2 : Tr) (g : Int) : lvs (us ++ [Tr.fk (t1.w + t2.w + g) t1 t2]) = lvs (us ++ [t1] ++ [t2]) := by
  rw [lvs_app, lvs_app, lvs_app, lvs_one, lvs_one, lvs_one]
  show lvs us + (t1.lv + t2.lv) = _
  omega
theorem putK_keys {kvs : List (Key × V)} {ms : List Str} (e : kvs.map (·.1) = ms.map Sum.inr) (x : Str) (v : V) : (putK kvs (.inr x) v).map (·.1) = (if x ∈ ms then ms else ms ++ [x]).map Sum.inr := by
  unfold putK
  by_cases m : x ∈ ms
  · have h : (kvs.any fun kv => decide (kv.1 = (Sum.inr x : Key))) = true := by
      have : (Sum.inr x : Key) ∈ kvs.map (·.1) := by rw [e]; exact List.mem_map.mpr ⟨x, m, rfl⟩
      obtain ⟨kv, hk, e2⟩ := List.mem_map.mp this
      exact List.any_eq_true.mpr ⟨kv, hk, decide_eq_true e2⟩
    rw [if_pos h, if_pos m, List.map_map, ← e]
    apply List.map_congr_left
    intro kv _
    show (if kv.1 = (Sum.inr x : Key) then (kv.1, v) else kv).1 = kv.1
    split <;> rfl
  · have h : ¬ (kvs.any fun kv => decide (kv.1 = (Sum.inr x : Key))) = true := fun z => by
      obtain ⟨kv, hk, e2⟩ := List.any_eq_true.mp z
      have : (Sum.inr x : Key) ∈ kvs.map (·.1) := List.mem_map.mpr ⟨kv, hk, of_decide_eq_true e2⟩
      rw [e] at this
      obtain ⟨y, hy, e3⟩ := List.mem_map.mp this
      obtain rfl := Sum.inr.inj e3
      exact m hy
    rw [if_neg h, if_neg m, List.map_append, List.map_append, e]
    rfl
/-- the places met so far -/
structure Met (ps es : List Str) (kvs : List (Key × V)) (ms : List Str) : Prop where
  ks : kvs.map (·.1) = ms.map Sum.inr
  nd : ms.Nodup
  sub : ∀ x ∈ ms, x ∈ ps
  all : ∀ e ∈ es, ∀ x ∈ bgs e ps, x ∈ ms
  le : ms.length ≤ es.length
theorem Met.step {ps es : List Str} {kvs : List (Key × V)} {ms : List Str} {e x : Str} {v : V} (h : Met ps es kvs ms) (hx : bgs e ps = [x]) : Met ps (es ++ [e]) (putK kvs (.inr x) v) (if x ∈ ms then ms else ms ++ [x]) := by
  have xp : x ∈ ps := (List.mem_filter.mp (show x ∈ bgs e ps by rw [hx]; exact List.mem_cons_self)).1
  have hle := h.le
  refine ⟨putK_keys h.ks x v, ?_, ?_, fun e' he y hy => ?_, by rw [List.length_append, List.length_singleton]; split; omega; rw [List.length_append, List.length_singleton]; omega⟩
  · split
    · exact h.nd
    · rename_i m
      exact List.nodup_append.mpr ⟨h.nd, (by simp), fun a ha b hb e => m (by rw [← List.mem_singleton.mp hb, ← e]; exact ha)⟩
  · split
    · exact h.sub
    · intro y hy
      rcases List.mem_append.mp hy with hy | hy
      · exact h.sub y hy
      · rw [List.mem_singleton.mp hy]; exact xp
  · have key : y ∈ ms ∨ y = x := by
      rcases List.mem_append.mp he with he | he
      · exact .inl (h.all e' he y hy)
      · rw [List.mem_singleton.mp he, hx] at hy
        exact .inr (List.mem_singleton.mp hy)
    split
    · rename_i m
      rcases key with k | k
      · exact k
      · rw [k]; exact m
    · rcases key with k | k
      · exact List.mem_append_left _ k
      · exact List.mem_append_right _ (List.mem_singleton.mpr k)
theorem Met.len {t : Tr} {ps gs : List Str} {kvs : List (Key × V)} {ms : List Str} (h : Met ps (eds t "") kvs ms) (pi : PI t "" ps gs) : kvs.length = ps.length := by
  have p : ms.Perm ps := nodup_perm h.nd (pw_nodup pi.up) fun x => ⟨h.sub x, fun hx => by
    obtain ⟨u, hu, e, pr⟩ := pi.end' x hx
    refine h.all u.1 (eds_all hu e) x (List.mem_filter.mpr ⟨hx, ?_⟩)
    exact (starts_iff _ _).mpr pr⟩
  have := congrArg List.length h.ks
  rw [List.length_map, List.length_map] at this
  rw [this, p.length_eq]

theorem rD_shp (n : Nat) {B w : Int} (h : 0 < B) : Shp (n + 1) (rD B w) := by
  rw [rD_pos h]
  exact .tup fun d hd => by
    rcases hd with _ | ⟨_, _ | ⟨_, hd⟩⟩
    · exact .int n _
    · exact .int n _
    · cases hd
theorem shpHt {B : Int} (b0 : 0 < B) : ∀ t : Tr, Shp (t.dp + 2) (htD B t)
  | .en w => .tup fun d hd => by
    rcases hd with _ | ⟨_, _ | ⟨_, hd⟩⟩
    · exact .str _ (by decide +kernel)
    · exact rD_shp _ b0
    · cases hd
  | .fk w y n => by
    have hy := shpHt b0 y
    have hn := shpHt b0 n
    refine Shp.tup (n := max y.dp n.dp + 1 + 1) fun d hd => ?_
    rcases hd with _ | ⟨_, _ | ⟨_, _ | ⟨_, _ | ⟨_, hd⟩⟩⟩⟩
    · exact .str _ (by decide +kernel)
    · exact rD_shp _ b0
    · exact hy.mono (by omega)
    · exact hn.mono (by omega)
    · cases hd
theorem shpCo {B : Int} (b0 : 0 < B) (us : List (Int × List Str)) : Shp 64 (.list (us.map fun u => rD B u.1)) := Shp.mono (Shp.lst (n := 1) fun d hd => by
  obtain ⟨u, _, rfl⟩ := List.mem_map.mp hd
  exact rD_shp 0 b0) (by decide)
/-- the costs of two ladders of a tree are the same -/
theorem Rgs.costs {t : Tr} {us ws : List (Int × List Str)} (h : Rgs t us) (g : Rgs t ws) (e : us.length = ws.length) {B : Int} : (us.map fun u => rD B u.1) = ws.map fun u => rD B u.1 := by
  refine List.ext_getElem (by rw [List.length_map, List.length_map, e]) fun i h1 h2 => ?_
  rw [List.getElem_map, List.getElem_map]
  rw [List.length_map] at h1 h2
  have a := h i _ (List.getElem?_eq_getElem h1)
  have b := g i _ (List.getElem?_eq_getElem h2)
  have la := a.ps.ln
  have lb := b.ps.ln
  rw [a.len] at la
  rw [b.len] at lb
  rw [Int.le_antisymm (a.low _ lb) (b.low _ la)]

local macro_rules | `(tactic| walk_at "ne") => `(tactic| first | assumption | exact Ne.symm (by assumption) | exact L2.ne_of (by assumption) (by assumption) (by intro z; cases z) | exact L2.ne_fresh (by assumption) (by walk_at "hp") | exact Ne.symm (L2.ne_fresh (by assumption) (by walk_at "hp")))
local macro_rules | `(tactic| walk_at "sf") => `(tactic| first | assumption | ((with_reducible refine L2.SqF.nw (by assumption) ?_); walk_at "sf") | ((with_reducible refine L2.SqF.lst (by walk_at "hp") ?_); walk_at "sf") | ((refine L2.SqF.sm (by assumption) ?_); walk_at "sf") | ((refine L2.SqF.sb (by assumption) (by walk_at "hp") ?_); walk_at "sf") | ((refine L2.SqF.sbi (by assumption) (by walk_at "hp") ?_); walk_at "sf"))
local macro_rules | `(tactic| walk_at "hp") => `(tactic| first | assumption | exact L2.upd_same | ((with_reducible refine L2.kp ?_ (by assumption)); walk_at "hp") | ((with_reducible refine L2.upd_at ?_ ?_); walk_at "ne"; walk_at "hp") | ((refine L2.Same.at' (by assumption) ?_); walk_at "hp") | ((refine L2.SameB.at' (by assumption) ?_ ?_); walk_at "hp"; walk_at "ne") | ((refine L2.SameT.at' (by assumption) ?_); walk_at "hp"))
local macro_rules | `(tactic| walk_at "ty") => `(tactic| first | exact .int _ | exact .bl _ | exact .str _ | exact .non | exact .tup (by walk_at "hp") | exact .lst (by walk_at "hp"))
local macro_rules | `(tactic| walk_at "b0") => `(tactic| first | assumption | exact Bz.w (by omega) (by omega) | exact Bz.mul (by walk_at "b0") (by walk_at "b0") | exact Bz.add' (by walk_at "b0") (by walk_at "b0") | exact Bz.sub' (by walk_at "b0") (by walk_at "b0") | exact Bz.neg (by walk_at "b0"))
local macro_rules | `(tactic| walk_at "bz") => `(tactic| first | walk_at "b0" | exact Bz.mono (by walk_at "b0") (by decide))
local macro_rules | `(tactic| walk_at "ss") => `(tactic| first | exact True.intro | (refine And.intro rfl ?_; walk_at "ss"))
local macro_rules | `(tactic| walk_at "sd") => `(tactic| first | assumption | ((with_reducible show @Eq _ _ _); first | (with_reducible exact rfl) | walk_at "hp" | exact L2.isi_same | exact L2.isi_ib | exact L2.isi_bi | exact L2.atI_mapD (PySem.Str.empty : PySem.Str) (by omega) (by omega) | exact L2.atI_mapD (0 : Int) (by omega) (by omega) | ((with_reducible show PySem.W.kitOne _ _ _ = some _); with_unfolding_all exact rfl) | omega) | ((with_reducible show L2.SqL _ _ _ _); first | (apply L2.SqL.of; walk_at "hp") | (apply L2.SqF.sq; walk_at "sf")) | ((with_reducible show L2.SqT _ _ _ _); exact L2.SqT.of (by walk_at "hp")) | ((with_reducible show L2.SqL _ _ _ _ ∨ L2.SqT _ _ _ _); first | exact Or.inl (L2.SqL.of (by walk_at "hp")) | exact Or.inr (L2.SqT.of (by walk_at "hp")) | exact Or.inl (by assumption) | exact Or.inr (by assumption)) | ((with_reducible show L2.TyOf _ _ _ _); walk_at "ty") | ((with_reducible show L2.tyV _ _ _ _); first | exact rfl | exact Or.inl ⟨rfl, _, L2.SqL.of (by walk_at "hp")⟩) | ((with_reducible show _ ≤ PySem.sizeLine); first | exact L2.sz | exact L2.szB (by omega) | omega) | ((with_reducible show _ < PySem.sizeLine); first | exact L2.small1000 (by omega) | omega) | ((with_reducible show L2.CPow _ _); exact ⟨by decide, by decide, by decide⟩) | ((with_reducible show L2.CDivB _ _); exact Lw.cN _ (by decide) (by decide)) | ((with_reducible show PySem.IntMulOk _ _); exact Bz.mulOk (by walk_at "b0") (by walk_at "b0")) | ((with_reducible show Bz _ _); walk_at "bz") | ((with_reducible show L2.SubS _ _); walk_at "ss") | ((with_reducible show L2.TVs _ _ _ _); exact L2.TVs.mono (L2.Same.t (by assumption)) (by assumption)) | ((with_reducible show @Ne L2.V _ _); walk_at "ne") | ((with_reducible show @Ne PySem.Addr _ _); walk_at "ne") | ((with_reducible show List.length _ < 1000); exact of_decide_eq_true rfl) | exact Exists.intro _ (L2.SqL.of (by walk_at "hp")) | exact Exists.intro _ (L2.SqT.of (by walk_at "hp")) | omega)
local macro_rules | `(tactic| walk_at "nw") => `(tactic| ((fail_if_success (refine ⟨(fun _ _ _ _ => True : Nat → Nat → L2.St → L2.Hp → Prop), ?_⟩)); (fail_if_success (refine ⟨(fun _ _ _ => True : Nat → L2.St → L2.Hp → Prop), ?_⟩)); (fail_if_success (refine ⟨(fun _ _ _ => True : Nat → List L2.V → L2.Hp → Prop), ?_⟩)); (fail_if_success (refine ⟨(fun _ _ => True : L2.St → L2.Hp → Prop), ?_⟩)); (fail_if_success (refine ⟨(PySem.PyData.none : PySem.PyData), ?_⟩))))
local macro_rules | `(tactic| walk_at "r1") => `(tactic| first | (apply And.intro; · ((with_reducible show @Eq _ _ _); exact rfl)) | (apply And.intro; · walk_at "sd") | (walk_at "nw"; apply Exists.intro) | refine L2.iteT ?_ | refine L2.iteF ?_ | refine L2.iteNotT ?_ | refine L2.iteNotF ?_ | refine L2.iteNN ?_ | (refine L2.iteY (by omega) ?_) | (refine L2.iteN (by omega) ?_) | (refine L2.iteYn (by omega) ?_) | (refine L2.iteNS (by omega) ?_) | (refine Or.inl (And.intro (L2.SqL.of (by walk_at "hp")) ?_)) | (intro p hp) | (intro p))
local macro_rules | `(tactic| walk_at "rd") => `(tactic| repeat walk_at "r1")
local macro_rules | `(tactic| walk_at "cf") => `(tactic| (intro σ H Q q; repeat (first | exact q | (apply And.intro; · ((with_reducible show @Eq _ _ _); exact rfl)) | (apply And.intro; · first | ((with_reducible show L2.CPow _ _); exact ⟨by decide, by decide, by decide⟩) | ((with_reducible show PySem.IntMulOk _ _); exact Bz.mulOk (bzl (by decide)) (bzl (by decide)))) | apply Exists.intro)))
local macro_rules | `(tactic| walk_at "sm") => `(tactic| first | assumption | exact L2.Same.refl _ | exact L2.Same.new (by walk_at "sm") (by assumption) _ | exact L2.Same.trans (by assumption) (by walk_at "sm"))
local macro_rules | `(tactic| walk_at "kx") => `(tactic| try dsimp (config := { beta := false, proj := false, zeta := false, eta := false, iota := false }) only [L2.cxK, L2.lcK, L2.wishK])

section
variable {P : Program} {w : World} {K : PySem.W.Frag} {mg : Str → Option Value} {base : Heap}

theorem ok_greatest_divisor (T : Tx K mg) : FnOk P w K mg base (CXe P w) 1 T.f_greatest_divisor T.d_greatest_divisor ["one", "other"] sp_greatest_divisor := by
  have sc := sc_greatest_divisor
  refine T.F_greatest_divisor.okx sc (fun vs H Q E h => ?_) (fun cdv A outer s H vs Q E hr h => ?_)
  · obtain ⟨a, b, rfl, hb, q⟩ := h
    rfl
  obtain ⟨a, b, rfl, hb, q⟩ := h
  have hu := hr.units0
  have hu2 := hr.units
  have hu1 := Nat.lt_of_le_of_lt (Nat.add_le_add_left (show 1 ≤ 64 by decide) _) hu2
  refine ⟨_, (@pss_cons _ _ _ _ _ (@ps_set _ _ 2 _ _ _ _ sc.nd rfl (by first | exact Or.inl rfl | exact Or.inr rfl) (pe_callB call_abs rfl T.z_abs bt_abs (pa_cons (pv 0) pa_nil)) (by rfl) (by first | exact .inl rfl | exact .inr rfl | assumption))
      (@pss_cons _ _ _ _ _ (@ps_set _ _ 3 _ _ _ _ sc.nd rfl (by first | exact Or.inl rfl | exact Or.inr rfl) (pe_callB call_abs rfl T.z_abs bt_abs (pa_cons (pv 1) pa_nil)) (by rfl) (by first | exact .inl rfl | exact .inr rfl | assumption))
      (@pss_cons _ _ _ _ _ (ps_while powx (@pt_cmpR _ _ _ _ _ _ _ _ op_neI (pv 3) pe_int (nomark _)) (@pss_cons _ _ _ _ _ (@ps_set _ _ 4 _ _ _ _ sc.nd rfl (by first | exact Or.inl rfl | exact Or.inr rfl) (@pe_op _ _ _ _ _ _ _ _ op_mod (pv 2) (pv 3)) (by rfl) (by first | exact .inl rfl | exact .inr rfl | assumption))
      (@pss_cons _ _ _ _ _ (@ps_set _ _ 2 _ _ _ _ sc.nd rfl (by first | exact Or.inl rfl | exact Or.inr rfl) (pv 3) (by rfl) (by first | exact .inl rfl | exact .inr rfl | assumption))
      (@pss_one _ _ _ (@ps_set _ _ 3 _ _ _ _ sc.nd rfl (by first | exact Or.inl rfl | exact Or.inr rfl) (pv 4) (by rfl) (by first | exact .inl rfl | exact .inr rfl | assumption))))))
      (@pss_one _ _ _ (@ps_ret _ _ _ _ (pv 2)))))), ?_⟩
  walk_at "kx"
  walk_at "rd"
  refine while_by (fun σ H' => H' = H ∧ ∃ (x y : Int) (r : Option V), σ = [some (.int a), some (.int b), some (.int x), some (.int y), r] ∧ M.Inv a b x y)
    (fun σ _ => match σ with | [_, _, _, some (.int y), _] => y.toNat | _ => 0) ⟨rfl, _, _, _, rfl, M.Inv.start2 a b⟩ ?_ ?_
  · rintro σ' H' ⟨rfl, x, y, r, rfl, iv⟩
    have h1 := iv.y0
    walk_at "rd"
    refine ite3n (fun c => ?_) (fun c => ?_)
    · have hy : 0 < y := by omega
      walk_at "rd"
      exact ⟨⟨rfl, _, _, _, rfl, iv.turn hy⟩, M.less hy⟩
    · walk_at "rd"
      rw [iv.out c hb]
      exact q
  · rintro σ' H' Q1 Q2 hq ⟨v, e, i, j, ei, ej, k, ek, y⟩
    exact ⟨v, e, i, j, ei, ej, k, ek, hq _ _ y⟩

theorem ok_plus (T : Tx K mg) : FnOk P w K mg base (CXe P w) 2 T.f_plus T.d_plus ["one", "other"] sp_plus := by
  have sc := sc_plus
  refine T.F_plus.okx sc (fun vs H Q E h => ?_) (fun cdv A outer s H vs Q E hr h => ?_)
  · obtain ⟨p1, p2, r1, r2, rfl, h1, h2, L1, L2', q⟩ := h
    rfl
  obtain ⟨p1, p2, r1, r2, rfl, h1, h2, L1, L2', q⟩ := h
  have hu := hr.units0
  have hu2 := hr.units
  have hu1 := Nat.lt_of_le_of_lt (Nat.add_le_add_left (show 1 ≤ 64 by decide) _) hu2
  refine ⟨_, (@pss_cons _ _ _ _ _ (@ps_set _ _ 2 _ _ _ _ sc.nd rfl (by first | exact Or.inl rfl | exact Or.inr rfl) (pe_call (ok_greatest_divisor T) (hr.mono (by decide)) rfl T.m_greatest_divisor T.F_greatest_divisor.kp T.b_greatest_divisor .nil (pass_e fun _ _ z => z) (pa_cons (@pe_ix _ _ _ _ _ _ _ ix_tup (pv 0) pe_int (fun _ _ => rfl)) (pa_cons (@pe_ix _ _ _ _ _ _ _ ix_tup (pv 1) pe_int (fun _ _ => rfl)) pa_nil))) (by rfl) (by first | exact .inl rfl | exact .inr rfl | assumption))
      (@pss_cons _ _ _ _ _ (@ps_set _ _ 3 _ _ _ _ sc.nd rfl (by first | exact Or.inl rfl | exact Or.inr rfl) (@pe_op _ _ _ _ _ _ _ _ op_fdivB (@pe_ix _ _ _ _ _ _ _ ix_tup (pv 1) pe_int (fun _ _ => rfl)) (pv 2)) (by rfl) (by first | exact .inl rfl | exact .inr rfl | assumption))
      (@pss_cons _ _ _ _ _ (@ps_set _ _ 4 _ _ _ _ sc.nd rfl (by first | exact Or.inl rfl | exact Or.inr rfl) (@pe_op _ _ _ _ _ _ _ _ op_add (@pe_op _ _ _ _ _ _ _ _ op_mulB (@pe_ix _ _ _ _ _ _ _ ix_tup (pv 0) pe_int (fun _ _ => rfl)) (pv 3)) (@pe_op _ _ _ _ _ _ _ _ op_mulB (@pe_ix _ _ _ _ _ _ _ ix_tup (pv 1) pe_int (fun _ _ => rfl)) (@pe_op _ _ _ _ _ _ _ _ op_fdivB (@pe_ix _ _ _ _ _ _ _ ix_tup (pv 0) pe_int (fun _ _ => rfl)) (pv 2)))) (by rfl) (by first | exact .inl rfl | exact .inr rfl | assumption))
      (@pss_cons _ _ _ _ _ (@ps_set _ _ 5 _ _ _ _ sc.nd rfl (by first | exact Or.inl rfl | exact Or.inr rfl) (pe_call (ok_greatest_divisor T) (hr.mono (by decide)) rfl T.m_greatest_divisor T.F_greatest_divisor.kp T.b_greatest_divisor .nil (pass_e fun _ _ z => z) (pa_cons (pv 4) (pa_cons (pv 2) pa_nil))) (by rfl) (by first | exact .inl rfl | exact .inr rfl | assumption))
      (@pss_one _ _ _ (@ps_ret _ _ _ _ (pe_tup (pa_cons (@pe_op _ _ _ _ _ _ _ _ op_fdivB (pv 4) (pv 5)) (pa_cons (@pe_op _ _ _ _ _ _ _ _ op_mulB (@pe_op _ _ _ _ _ _ _ _ op_fdivB (@pe_ix _ _ _ _ _ _ _ ix_tup (pv 0) pe_int (fun _ _ => rfl)) (pv 5)) (pv 3)) pa_nil))))))))), ?_⟩
  walk_at "kx"
  have z1 := L1.zn
  have z2 := L1.zd
  have z3 := L2'.zn
  have z4 := L2'.zd
  have d1 := dp r1
  have d2 := dp r2
  have h1 : H p1 = some (rt r1) := h1
  have h2 : H p2 = some (rt r2) := h2
  have gp := M.G_pos (r1.den : Int) (r2.den : Int)
  have gb : Bz 700 (M.G (r1.den : Int) (r2.den : Int)) := z4.le (M.G_le (by omega))
  have gz : Bz 8000 (M.G (r1.den : Int) (r2.den : Int)) := gb.mono (by decide)
  have w4 : Bz 8000 (r2.den : Int) := z4.mono (by decide)
  have zl : Bz 700 ((r2.den : Int) / M.G (r1.den : Int) (r2.den : Int)) := z4.ediv (Int.le_of_lt gp)
  have zk : Bz 700 ((r1.den : Int) / M.G (r1.den : Int) (r2.den : Int)) := z2.ediv (Int.le_of_lt gp)
  have c1 := cGe (t := (r1.den : Int)) d2 w4 (r2.den : Int)
  have c2 := cGe (t := (r1.den : Int)) d2 w4 (r1.den : Int)
  have m1 := z1.mulOk zl
  have m2 := z3.mulOk zk
  have gq := M.G_pos (r1.num * ((r2.den : Int) / M.G r1.den r2.den) + r2.num * ((r1.den : Int) / M.G r1.den r2.den)) (M.G (r1.den : Int) (r2.den : Int))
  have zd := z2.ediv (Int.le_of_lt gq)
  have c3 := cGe (t := r1.num * ((r2.den : Int) / M.G r1.den r2.den) + r2.num * ((r1.den : Int) / M.G r1.den r2.den)) gp gz (r1.num * ((r2.den : Int) / M.G r1.den r2.den) + r2.num * ((r1.den : Int) / M.G r1.den r2.den))
  have c4 := cGe (t := r1.num * ((r2.den : Int) / M.G r1.den r2.den) + r2.num * ((r1.den : Int) / M.G r1.den r2.den)) gp gz (r1.den : Int)
  have m3 := zd.mulOk zl
  walk_at "rd"
  exact q.sum _ (by assumption)

theorem ok_minus (T : Tx K mg) : FnOk P w K mg base (CXe P w) 3 T.f_minus T.d_minus ["one", "other"] sp_minus := by
  have sc := sc_minus
  refine T.F_minus.okx sc (fun vs H Q E h => ?_) (fun cdv A outer s H vs Q E hr h => ?_)
  · obtain ⟨p1, p2, r1, r2, rfl, h1, h2, L1, L2', q⟩ := h
    rfl
  obtain ⟨p1, p2, r1, r2, rfl, h1, h2, L1, L2', q⟩ := h
  have hu := hr.units0
  have hu2 := hr.units
  have hu1 := Nat.lt_of_le_of_lt (Nat.add_le_add_left (show 1 ≤ 64 by decide) _) hu2
  refine ⟨_, (@pss_one _ _ _ (@ps_ret _ _ _ _ (pe_call (ok_plus T) (hr.mono (by decide)) rfl T.m_plus T.F_plus.kp T.b_plus .nil (pass_e fun _ _ z => z) (pa_cons (pv 0) (pa_cons (pe_tup (pa_cons (pe_un un_neg (@pe_ix _ _ _ _ _ _ _ ix_tup (pv 1) pe_int (fun _ _ => rfl))) (pa_cons (@pe_ix _ _ _ _ _ _ _ ix_tup (pv 1) pe_int (fun _ _ => rfl)) pa_nil))) pa_nil))))), ?_⟩
  walk_at "kx"
  have h1 : H p1 = some (rt r1) := h1
  have h2 : H p2 = some (rt r2) := h2
  walk_at "rd"
  rename_i pz hz
  have k1 := kp (u := .tup [.int (-r2.num), .int (r2.den : Int)]) h1 hz
  refine ⟨(k1 : Rt _ p1 r1), (upd_same : Rt _ pz (-r2)), L1, L2'.neg, fun r hr => ?_⟩
  exact q _ _ (upd_none hr).2 ((same_new hz _).trans (same_new hr _)) (by rw [upd_same, Rat.sub_eq_add_neg])

theorem ok_trees_by_place (T : Tx K mg) : FnOk P w K mg base (CXe P w) 1 T.f_trees_by_place T.d_trees_by_place ["tree"] (sp_trees K) := by
  have sc := sc_trees_by_place
  refine T.F_trees_by_place.okx sc (fun vs H Q E h => ?_) (fun cdv A outer s H vs Q E hr h => ?_)
  · obtain ⟨v, t, B, rfl, tv, lt, q⟩ := h
    rfl
  obtain ⟨v, t, B, rfl, tv, lt, q⟩ := h
  have hu := hr.units0
  have hu2 := hr.units
  have hu1 := Nat.lt_of_le_of_lt (Nat.add_le_add_left (show 1 ≤ 64 by decide) _) hu2
  refine ⟨_, (@pss_cons _ _ _ _ _ (@ps_set _ _ 1 _ _ _ _ sc.nd rfl (by first | exact Or.inl rfl | exact Or.inr rfl) pe_dnewK (by rfl) (by first | exact .inl rfl | exact .inr rfl | assumption))
      (@pss_cons _ _ _ _ _ (@ps_set _ _ 2 _ _ _ _ sc.nd rfl (by first | exact Or.inl rfl | exact Or.inr rfl) (@pe_lst _ _ _ _ (pa_cons (pe_tup (pa_cons pe_str (pa_cons (pv 0) pa_nil) se_c)) pa_nil)) (by rfl) (by first | exact .inl rfl | exact .inr rfl | assumption))
      (@pss_cons _ _ _ _ _ (ps_while powx (@pt_cmpR _ _ _ _ _ _ _ _ op_gt (pe_callB call_len_seq rfl T.z_len bt_len (pa_cons (pv 2) pa_nil)) pe_int (nomark _)) (@pss_cons _ _ _ _ _ (@ps_mid _ _ _ (@ps_set _ _ 3 _ _ _ _ sc.nd rfl (by first | exact Or.inl rfl | exact Or.inr rfl) (pe_bm0 PySem.F.plainAttrs_list PySem.F.slot_list_pop PySem.F.type_list_pop mt_pop (pv 2)) (by rfl) (by first | exact .inl rfl | exact .inr rfl | assumption)))
      (@pss_cons _ _ _ _ _ (@ps_set _ _ 4 _ _ _ _ sc.nd rfl (by first | exact Or.inl rfl | exact Or.inr rfl) (@pe_ix _ _ _ _ _ _ _ ix_tup (pv 3) pe_int (fun _ _ => rfl)) (by rfl) (by first | exact .inl rfl | exact .inr rfl | assumption))
      (@pss_cons _ _ _ _ _ (@ps_set _ _ 5 _ _ _ _ sc.nd rfl (by first | exact Or.inl rfl | exact Or.inr rfl) (@pe_ix _ _ _ _ _ _ _ ix_tup (pv 3) pe_int (fun _ _ => rfl)) (by rfl) (by first | exact .inl rfl | exact .inr rfl | assumption))
      (@pss_cons _ _ _ _ _ (@ps_mid _ _ _ (ps_dput hu1 (pv 1) (pv 4) (pv 5) rfl))
      (@pss_one _ _ _ (@ps_if _ _ _ _ _ _ _ _ (@pt_cmpR _ _ _ _ _ _ _ _ op_eqS (@pe_ix _ _ _ _ _ _ _ ix_tup (pv 5) pe_int (fun _ _ => rfl)) pe_str (nomark _)) (@pss_cons _ _ _ _ _ (ps_expr (pe_bm PySem.F.plainAttrs_list PySem.F.slot_list_append PySem.F.type_list_append mt_append (pv 2) (pa_cons (pe_tup (pa_cons (@pe_op _ _ _ _ _ _ _ _ op_add_str (pv 4) pe_str) (pa_cons (@pe_ix _ _ _ _ _ _ _ ix_tup (pv 5) pe_int (fun _ _ => rfl)) pa_nil))) pa_nil)))
      (@pss_one _ _ _ (ps_expr (pe_bm PySem.F.plainAttrs_list PySem.F.slot_list_append PySem.F.type_list_append mt_append (pv 2) (pa_cons (pe_tup (pa_cons (@pe_op _ _ _ _ _ _ _ _ op_add_str (pv 4) pe_str) (pa_cons (@pe_ix _ _ _ _ _ _ _ ix_tup (pv 5) pe_int (fun _ _ => rfl)) pa_nil))) pa_nil))))) pss_nil)))))))
      (@pss_one _ _ _ (@ps_ret _ _ _ _ (pv 1)))))), ?_⟩
  walk_at "kx"
  walk_at "rd"
  rename_i z1 hz1 p1 hp1 z2 hz2
  have n12 : z1 ≠ z2 := fun e => by
    rw [← e, upd_ne (fun e2 => by rw [← e2, upd_same] at hp1; cases hp1), upd_same] at hz2
    cases hz2
  have fz2 : H z2 = none := Same.free ((same_new hz1 _).new hp1 _) hz2
  have ld := t.dp_lt
  have pl := plt_len t ""
  have tv2 := tv.mono (((same_new hz1 (.dK [])).new hp1 (.tup [.str "", v])).new hz2 (.lst [.ref p1])).t
  have hx0 : (upd (upd (upd H z1 (.dK [])) p1 (.tup [.str "", v])) z2 (.lst [.ref p1])) z1 = some (.dK []) := kp (kp upd_same hp1) hz2
  have hy0 := upd_same (H := upd (upd H z1 (.dK [])) p1 (.tup [.str "", v])) (a := z2) (o := .lst [.ref p1])
  have hp0 : (upd (upd (upd H z1 (.dK [])) p1 (.tup [.str "", v])) z2 (.lst [.ref p1])) p1 = some (.tup [.str "", v]) := kp upd_same hz2
  have S0 : Same H (upd (upd (upd H z1 (.dK [])) p1 (.tup [.str "", v])) z2 (.lst [.ref p1])) := ((same_new hz1 _).new hp1 _).new hz2 _
  generalize upd (upd (upd H z1 (.dK [])) p1 (.tup [.str "", v])) z2 (.lst [.ref p1]) = H0 at tv2 hx0 hy0 hp0 S0 ⊢
  refine while_by (fun σ' H' => Iv (Same H H' ∧ (∃ kvs es ys ts, H' z1 = some (.dK kvs) ∧ DT K B H' kvs es ∧ H' z2 = some (.lst ys) ∧ TVs K H' ys ((ts : List (Str × Tr)).map (thD B)) ∧ (∀ e ∈ ts, e.1.length + e.2.dp ≤ 60) ∧ (es ++ plts ts).Perm (plt t "")) ∧ ∃ o3 o4 o5, σ' = [some v, some (.ref z1), some (.ref z2), o3, o4, o5])) (fun _ H => match H z1 with | some (.dK kvs) => 200 - kvs.length | _ => 0) ⟨⟨S0, ⟨[], [], [.ref p1], [("", t)], hx0, .nil, hy0, .cons (.tup hp0 (.cons (.str _) (.cons tv2 .nil))) .nil, fun e he => (by rw [List.mem_singleton.mp he]; show ("" : Str).length + t.dp ≤ 60; rw [show ("" : Str).length = 0 by decide +kernel]; omega), by rw [List.nil_append]; show (plt t "" ++ []).Perm _; rw [List.append_nil]⟩, _, _, _, rfl⟩⟩ ?_ ?_
  · rintro σ' H' ⟨⟨S, ⟨kvs, es, ys, ts, hx, dt, hy, ty, ht, pm⟩, o3, o4, o5, rfl⟩⟩
    have xl := dt.length
    have ul : es.length + (plts ts).length ≤ 100 := by have := pm.length_eq; rw [List.length_append] at this; omega
    walk_at "rd"
    refine ite3 (fun c => ?_) (fun c => ?_)
    · obtain ⟨zs, y, as, e, rfl, rfl, tz, te⟩ := TVs.lastH ty (by omega)
      have ea := pop1_at zs y
      have eb := pop1_rest zs y
      obtain ⟨q0, s0⟩ := e
      obtain ⟨pp, u1, u2, rfl, hpp, t1, t2⟩ := TV.pair te
      obtain rfl := t1.strs
      have lb := ht (q0, s0) (List.mem_append_right _ (List.mem_singleton.mpr rfl))
      have ht0 : ∀ e ∈ as, e.1.length + e.2.dp ≤ 60 := fun e he => ht e (List.mem_append_left _ he)
      rw [plts_app] at pm ul
      clear ht te ty t1
      have zl : zs.length = as.length := by rw [tz.length, List.length_map]
      have al : as.length ≤ (plts as).length := plts_len as
      rw [List.length_append] at ul
      have zz : zs.length < sizeLine := small1000 (by omega)
      have kz : kvs.length < sizeLine := small1000 (by omega)
      have nz2 : z2 ≠ z1 := Ne.symm n12
      have hpp : H' pp = some (.tup [.str q0, u2]) := hpp
      have t2 : TV K H' u2 (htD B s0) := t2
      have nq : q0 ∉ es.map (·.1) := fun z => by
        have nd := (pm.map (·.1)).nodup_iff.mpr (plt_nodup t "")
        rw [List.map_append, List.nodup_append] at nd
        refine nd.2.2 q0 z q0 ?_ rfl
        rw [List.map_append]
        refine List.mem_append_right _ ?_
        cases s0 with
        | en w => exact List.mem_cons_self
        | fk w y n => exact List.mem_cons_self
      refine ⟨fun σ' H1 => Iv (H1 = upd H' z2 (.lst zs) ∧ σ' = [some v, some (.ref z1), some (.ref z2), some (.ref pp), o4, o5]), ?_, ?_⟩
      · walk_at "rd"
        rw [eb]
        exact ⟨⟨rfl, rfl⟩⟩
      rintro σ' H1 ⟨⟨e1, rfl⟩⟩
      have st1 : SameT H' H1 := by rw [e1]; exact (SameT.refl H').lst hy _
      have hx1 : H1 z1 = some (.dK kvs) := by rw [e1, upd_ne n12]; exact hx
      have hy1 : H1 z2 = some (.lst zs) := by rw [e1]; exact upd_same
      have S1 : Same H H1 := by rw [e1]; exact Same.over S fz2 _
      have hpp1 := st1 _ _ hpp
      clear e1 ea eb
      have g3 : DPut H1 z1 (.str q0) u2 (upd H1 z1 (.dK (putK kvs (.inr q0) u2))) := DPut.k (k := .inr q0) hx1 kz
      rw [putK_new u2 (dt.vno nq)] at g3
      walk_at "rd"
      refine ⟨fun σ' H2 => Iv (Same H H2 ∧ H2 z1 = some (.dK (kvs ++ [(.inr q0, u2)])) ∧ H2 z2 = some (.lst zs) ∧ SameT H' H2 ∧ σ' = [some v, some (.ref z1), some (.ref z2), some (.ref pp), some (.str q0), some u2]), ?_, ?_⟩
      · walk_at "rd"
        exact ⟨⟨Same.over S1 hz1 _, upd_same, by rw [upd_ne nz2]; exact hy1, st_dk st1 hx1 _, rfl⟩⟩
      rintro σ' H2 ⟨⟨S2, hx2, hy2, st2, rfl⟩⟩
      have ms : ∀ H3 : Hp, H3 z1 = some (.dK (kvs ++ [(.inr q0, u2)])) → (match H3 z1 with | some (.dK kvs) => 200 - kvs.length | _ => 0) < (match H' z1 with | some (.dK kvs) => 200 - kvs.length | _ => 0) := fun H3 e => by
        rw [e, hx]
        show 200 - (kvs ++ [(Sum.inr q0, u2)]).length < 200 - kvs.length
        rw [List.length_append, List.length_singleton]
        omega
      have tz2 := tz.mono st2
      cases s0 with
      | en w =>
        obtain ⟨p2, c2, rfl, hp2, hc2⟩ := TV.hen t2
        have hp3 := st2 _ _ hp2
        walk_at "rd"
        refine ⟨⟨S2, ⟨_, es ++ [(q0, .en w)], zs, as, hx2, (dt.mono st2).snoc (e := (q0, .en w)) (t2.mono st2), hy2, tz2, ht0, ?_⟩, _, _, _, rfl⟩, ms _ hx2⟩
        refine .trans ?_ pm
        have := plt_step (us := es) (A := plts as) (B := []) (q0, Tr.en w)
        rw [List.append_nil] at this
        exact this
      | fk w y n =>
        obtain ⟨p2, c2, a2, a3, rfl, hp2, hc2, ty, tn⟩ := TV.hfk t2
        have lb : q0.length + (max y.dp n.dp + 1) ≤ 60 := lb
        have k1 : q0.length + ("y" : Str).length ≤ sizeLine := szB (by rw [ynl.1]; omega)
        have k2 : q0.length + ("n" : Str).length ≤ sizeLine := szB (by rw [ynl.2]; omega)
        have hp3 := st2 _ _ hp2
        have ly : ∀ z : V, (zs ++ [z]).length < sizeLine := fun z => small1000 (by rw [List.length_append, List.length_singleton]; omega)
        have ty2 := ty.mono st2
        have tn2 := tn.mono st2
        have td2 := (dt.mono st2).snoc (e := (q0, .fk w y n)) (t2.mono st2)
        walk_at "rd"
        rename_i r1 hr1 r2 hr2
        have v1 := (SameT.refl H2).new hr1 (.tup [.str (q0 ++ "y"), a2])
        have S3 := S2.new hr1 (.tup [.str (q0 ++ "y"), a2])
        have hx3 := kp hx2 hr1 (u := .tup [.str (q0 ++ "y"), a2])
        have hy3 := kp hy2 hr1 (u := .tup [.str (q0 ++ "y"), a2])
        have hr3 := upd_same (H := H2) (a := r1) (o := .tup [.str (q0 ++ "y"), a2])
        generalize upd H2 r1 (.tup [.str (q0 ++ "y"), a2]) = H3 at v1 S3 hx3 hy3 hr3 hr2 ⊢
        have v2 := v1.lst hy3 (.lst (zs ++ [.ref r1]))
        have w2 := (SameT.refl H3).lst hy3 (.lst (zs ++ [.ref r1]))
        have S4 := Same.over S3 fz2 (.lst (zs ++ [.ref r1]))
        have hx4 : upd H3 z2 (.lst (zs ++ [.ref r1])) z1 = some (.dK (kvs ++ [(.inr q0, .ref p2)])) := by rw [upd_ne n12]; exact hx3
        have hy4 := upd_same (H := H3) (a := z2) (o := .lst (zs ++ [.ref r1]))
        have hr4 := w2 _ _ hr3
        generalize upd H3 z2 (.lst (zs ++ [.ref r1])) = H4 at v2 w2 S4 hx4 hy4 hr4 hr2 ⊢
        have v5 := v2.new hr2 (.tup [.str (q0 ++ "n"), a3])
        have S5 := S4.new hr2 (.tup [.str (q0 ++ "n"), a3])
        have hx5 := kp hx4 hr2 (u := .tup [.str (q0 ++ "n"), a3])
        have hy5 := kp hy4 hr2 (u := .tup [.str (q0 ++ "n"), a3])
        have hr5 := kp hr4 hr2 (u := .tup [.str (q0 ++ "n"), a3])
        have hs5 := upd_same (H := H4) (a := r2) (o := .tup [.str (q0 ++ "n"), a3])
        generalize upd H4 r2 (.tup [.str (q0 ++ "n"), a3]) = H5 at v5 S5 hx5 hy5 hr5 hs5 ⊢
        have v6 := v5.lst hy5 (.lst (zs ++ [.ref r1] ++ [.ref r2]))
        have w6 := (SameT.refl H5).lst hy5 (.lst (zs ++ [.ref r1] ++ [.ref r2]))
        have S6 := Same.over S5 fz2 (.lst (zs ++ [.ref r1] ++ [.ref r2]))
        have hx6 : upd H5 z2 (.lst (zs ++ [.ref r1] ++ [.ref r2])) z1 = some (.dK (kvs ++ [(.inr q0, .ref p2)])) := by rw [upd_ne n12]; exact hx5
        refine ⟨ly _, ?_⟩
        walk_at "rd"
        refine ⟨⟨S6, ⟨_, es ++ [(q0, .fk w y n)], _, as ++ [(q0 ++ "y", y)] ++ [(q0 ++ "n", n)], hx6, td2.mono v6, upd_same, ?_, ?_, ?_⟩, _, _, _, rfl⟩, ms _ hx6⟩
        · rw [List.map_append, List.map_append]
          exact TVs.snoc (TVs.snoc (tz2.mono v6) (.tup (w6 _ _ hr5) (.cons (.str _) (.cons (ty2.mono v6) .nil)))) (.tup (w6 _ _ hs5) (.cons (.str _) (.cons (tn2.mono v6) .nil)))
        · refine snocT (snocT ht0 ?_) ?_
          · show (q0 ++ "y" : Str).length + y.dp ≤ 60
            rw [len_app, ynl.1]
            omega
          · show (q0 ++ "n" : Str).length + n.dp ≤ 60
            rw [len_app, ynl.2]
            omega
        · refine .trans ?_ pm
          have := plt_step (us := es) (A := plts as) (B := plt y (q0 ++ "y") ++ plt n (q0 ++ "n")) (q0, Tr.fk w y n)
          rw [plts_app, plts_app, List.append_assoc (plts as)]
          show (es ++ [(q0, Tr.fk w y n)] ++ (plts as ++ ((plt y (q0 ++ "y") ++ []) ++ (plt n (q0 ++ "n") ++ [])))).Perm (es ++ (plts as ++ (((q0, Tr.fk w y n) :: (plt y (q0 ++ "y") ++ plt n (q0 ++ "n"))) ++ [])))
          rw [List.append_nil, List.append_nil, List.append_nil]
          exact this
    · have e0 : ys.length = 0 := by omega
      obtain rfl := List.length_eq_zero_iff.mp e0
      have ets : ts = [] := by
        have := ty.length
        rw [List.length_map] at this
        exact List.length_eq_zero_iff.mp this.symm
      subst ets
      have pm0 : es.Perm (plt t "") := by
        have := pm
        rw [show plts [] = [] from rfl, List.append_nil] at this
        exact this
      walk_at "rd"
      exact q _ z1 kvs es S hz1 hx dt pm0
  · rintro σ' H' Q1 Q2 hq ⟨v, e, p, ys, ev, hs, i, j, ei, ej, k, ek, y⟩
    exact ⟨v, e, p, ys, ev, hs, i, j, ei, ej, k, ek, hq _ _ y⟩

theorem ok_common_bottom (T : Tx K mg) : FnOk P w K mg base (CXe P w) 2 T.f_common_bottom T.d_common_bottom ["tree"] (sp_cbottom K) := by
  have sc := sc_common_bottom
  refine T.F_common_bottom.okx sc (fun vs H Q E h => ?_) (fun cdv A outer s H vs Q E hr h => ?_)
  · obtain ⟨v, t, B, rfl, tv, lt, b0, bz, q⟩ := h
    rfl
  obtain ⟨v, t, B, rfl, tv, lt, b0, bz, q⟩ := h
  have hu := hr.units0
  have hu2 := hr.units
  have hu1 := Nat.lt_of_le_of_lt (Nat.add_le_add_left (show 1 ≤ 64 by decide) _) hu2
  refine ⟨_, (@pss_cons _ _ _ _ _ (@ps_set _ _ 1 _ _ _ _ sc.nd rfl (by first | exact Or.inl rfl | exact Or.inr rfl) pe_int (by rfl) (by first | exact .inl rfl | exact .inr rfl | assumption))
      (@pss_cons _ _ _ _ _ (ps_for powx rfl (pi_values (pe_call (ok_trees_by_place T) (hr.mono (by decide)) rfl T.m_trees_by_place T.F_trees_by_place.kp T.b_trees_by_place .nil (pass_e fun _ _ z => z) (pa_cons (pv 0) pa_nil)) rfl rfl) (pg_name (i := 2) sc.nd rfl (by first | exact Or.inl rfl | exact Or.inr rfl))
      (@pss_cons _ _ _ _ _ (@ps_mid _ _ _ (@ps_set _ _ 3 _ _ _ _ sc.nd rfl (by first | exact Or.inl rfl | exact Or.inr rfl) (@pe_ix _ _ _ _ _ _ _ ix_tup (@pe_ix _ _ _ _ _ _ _ ix_tup (pv 2) pe_int (fun _ _ => rfl)) pe_int (fun _ _ => rfl)) (by rfl) (by first | exact .inl rfl | exact .inr rfl | assumption)))
      (@pss_one _ _ _ (@ps_set _ _ 1 _ _ _ _ sc.nd rfl (by first | exact Or.inl rfl | exact Or.inr rfl) (@pe_op _ _ _ _ _ _ _ _ op_mulB (pv 1) (@pe_op _ _ _ _ _ _ _ _ op_fdivB (pv 3) (pe_call (ok_greatest_divisor T) (hr.mono (by decide)) rfl T.m_greatest_divisor T.F_greatest_divisor.kp T.b_greatest_divisor .nil (pass_e fun _ _ z => z) (pa_cons (pv 1) (pa_cons (pv 3) pa_nil))))) (by rfl) (by first | exact .inl rfl | exact .inr rfl | assumption)))))
      (@pss_one _ _ _ (@ps_ret _ _ _ _ (pv 1))))), ?_⟩
  walk_at "kx"
  walk_at "rd"
  rename_i H1 d kvs es S1 fd hd dt pm
  refine .inl ⟨hd, fun ep => ?_⟩
  have kl := dt.length
  refine for_values (P := P) (w := w) (a := d) (kvs := kvs) (ep := ep) (fun i σ' H' => Iv (∃ (C : Int) (o2 o3 : Option V), Same H H' ∧ SameT H1 H' ∧ H' d = some (FzD P w d kvs ep) ∧ 0 < C ∧ C ∣ B ∧ (∀ e ∈ es.take i, ((Rat.divInt e.2.wt B).den : Int) ∣ C) ∧ σ' = [some v, some (.int C), o2, o3])) ?_ ?_ ?_ ?_
  · exact ⟨⟨1, _, _, Same.over S1 fd _, st_dk (SameT.refl _) hd _, upd_same, by decide, Int.one_dvd _, fun e he => (by rw [List.take_zero] at he; cases he), rfl⟩⟩
  · rintro i σ' H3 hi ⟨⟨C, o2, o3, S3, st3, hf, _⟩⟩
    exact hf
  · rintro i k x σ' H3 hk ⟨⟨C, o2, o3, S3, st3, hf, c0, cb, al, rfl⟩⟩
    obtain ⟨⟨q0, s0⟩, he, rfl, te⟩ := dt.get hk
    have te : TV K H1 x (htD B s0) := te
    obtain ⟨p, k, c, r, rfl, hp, hc⟩ := (te.mono st3).hw b0
    have hc : H3 c = some (.tup [.int (Rat.divInt s0.wt B).num, .int ((Rat.divInt s0.wt B).den : Int)]) := hc
    have a1 := at_1 (k := k) (c := c) (r := r)
    have d0 := low_p (t := s0.wt) (b := B)
    have db := den_dvd (w := s0.wt) b0
    have lo := lcm_ok c0 d0 b0 cb db
    have zd : Bz 128 ((Rat.divInt s0.wt B).den : Int) := dvd_bz b0 bz db
    have zc : Bz 128 C := dvd_bz b0 bz cb
    refine ⟨fun σ' H4 => Iv (H4 = H3 ∧ σ' = [some v, some (.int C), some (.ref p), some (.int ((Rat.divInt s0.wt B).den : Int))]), ?_, ?_⟩
    · walk_at "rd"
      exact ⟨⟨rfl, rfl⟩⟩
    rintro σ' H4 ⟨⟨rfl, rfl⟩⟩
    generalize eD : ((Rat.divInt s0.wt B).den : Int) = D at d0 db lo zd
    have zd8 : Bz 8000 D := zd.mono (by decide)
    have cg := cGe (t := C) d0 zd8 D
    have nz : D ≠ 0 := by omega
    have zk : Bz 128 (D / M.G C D) := zd.ediv (by have := M.G_pos C D; omega)
    have mo := zc.mulOk zk
    walk_at "rd"
    refine ⟨⟨_, _, _, S3, st3, hf, lo.1, lo.2.1, fun e he2 => ?_, rfl⟩⟩
    rw [List.take_add_one, he] at he2
    rcases List.mem_append.mp he2 with z | z
    · exact Int.dvd_trans (al e z) lo.2.2.1
    · have z : e ∈ [(q0, s0)] := z
      rw [List.mem_singleton.mp z]
      show ((Rat.divInt s0.wt B).den : Int) ∣ _
      rw [eD]
      exact lo.2.2.2
  · rintro σ' H3 ⟨⟨C, o2, o3, S3, st3, hf, c0, cb, al, rfl⟩⟩
    walk_at "rd"
    refine q _ C S3 c0 cb fun e he => al e ?_
    rw [kl, List.take_length]
    exact pm.mem_iff.mpr he

theorem ok_lifted0 (T : Tx K mg) : FnOk P w K mg base (CXe P w) (0 + 1) T.f_lifted T.d_lifted ["tree", "bottom"] (sp_lifted K 0) := by
  have sc := sc_lifted
  refine T.F_lifted.okx sc (fun vs H Q E h => ?_) (fun cdv A outer s H vs Q E hr h => ?_)
  · obtain ⟨v, t, B, C, rfl, tv, td, b0, bz, tb, c0, cz, dn, q⟩ := h
    rfl
  obtain ⟨v, t, B, C, rfl, tv, td, b0, bz, tb, c0, cz, dn, q⟩ := h
  have hu := hr.units0
  have hu2 := hr.units
  have hu1 := Nat.lt_of_le_of_lt (Nat.add_le_add_left (show 1 ≤ 64 by decide) _) hu2
  refine ⟨_, (@pss_cons _ _ _ _ _ (@ps_set _ _ 2 _ _ _ _ sc.nd rfl (by first | exact Or.inl rfl | exact Or.inr rfl) (@pe_op _ _ _ _ _ _ _ _ op_fdivB (pv 1) (@pe_ix _ _ _ _ _ _ _ ix_tup (@pe_ix _ _ _ _ _ _ _ ix_tup (pv 0) pe_int (fun _ _ => rfl)) pe_int (fun _ _ => rfl))) (by rfl) (by first | exact .inl rfl | exact .inr rfl | assumption))
      (@pss_cons _ _ _ _ _ (@ps_if _ _ _ _ _ _ _ _ (@pt_cmpR _ _ _ _ _ _ _ _ op_eqS (@pe_ix _ _ _ _ _ _ _ ix_tup (pv 0) pe_int (fun _ _ => rfl)) pe_str (nomark _)) (@pss_one _ _ _ ps_never) pss_nil)
      (@pss_one _ _ _ (@ps_ret _ _ _ _ (pe_tup (pa_cons pe_str (pa_cons (@pe_op _ _ _ _ _ _ _ _ op_mulB (@pe_ix _ _ _ _ _ _ _ ix_tup (@pe_ix _ _ _ _ _ _ _ ix_tup (pv 0) pe_int (fun _ _ => rfl)) pe_int (fun _ _ => rfl)) (pv 2)) pa_nil) se_c)))))), ?_⟩
  walk_at "kx"
  have wb := tb.w
  rw [← Tr.wt_w] at wb
  have dn1 := dn.w
  have d0 := low_p (t := t.wt) (b := B)
  have zd : Bz 128 ((Rat.divInt t.wt B).den : Int) := dvd_bz b0 bz (den_dvd b0)
  have zn : Bz 128 (Rat.divInt t.wt B).num := low_n b0 ((bz109 wb.1 wb.2).mono (by decide))
  have cd : CDivB C ((Rat.divInt t.wt B).den : Int) := ⟨d0, zd.log2⟩
  have zk : Bz 128 (C / ((Rat.divInt t.wt B).den : Int)) := cz.ediv (Int.le_of_lt d0)
  have mo := zn.mulOk zk
  have lw := lift_w b0 dn1
  cases t with
  | en w =>
    obtain ⟨p, c, rfl, hp, hc⟩ := TV.hen tv
    obtain ⟨c, rfl, hc2⟩ := TV.rD b0 hc
    have hc : H c = some (.tup [.int (Rat.divInt (Tr.en w).wt B).num, .int ((Rat.divInt (Tr.en w).wt B).den : Int)]) := hc2
    walk_at "rd"
    rename_i p1 h1
    exact q _ _ (.en _) (same_new h1 _) (TV.en' upd_same) (.en lw)
  | fk w y n => exact absurd td (by show ¬ max _ _ + 1 ≤ 0; omega)

theorem ok_liftedS (T : Tx K mg) (d : Nat) (ih : FnOk P w K mg base (CXe P w) (d + 1) T.f_lifted T.d_lifted ["tree", "bottom"] (sp_lifted K d)) : FnOk P w K mg base (CXe P w) (d + 1 + 1) T.f_lifted T.d_lifted ["tree", "bottom"] (sp_lifted K (d + 1)) := by
  have sc := sc_lifted
  refine T.F_lifted.okx sc (fun vs H Q E h => ?_) (fun cdv A outer s H vs Q E hr h => ?_)
  · obtain ⟨v, t, B, C, rfl, tv, td, b0, bz, tb, c0, cz, dn, q⟩ := h
    rfl
  obtain ⟨v, t, B, C, rfl, tv, td, b0, bz, tb, c0, cz, dn, q⟩ := h
  have hu := hr.units0
  have hu2 := hr.units
  have hu1 := Nat.lt_of_le_of_lt (Nat.add_le_add_left (show 1 ≤ 64 by decide) _) hu2
  refine ⟨_, (@pss_cons _ _ _ _ _ (@ps_set _ _ 2 _ _ _ _ sc.nd rfl (by first | exact Or.inl rfl | exact Or.inr rfl) (@pe_op _ _ _ _ _ _ _ _ op_fdivB (pv 1) (@pe_ix _ _ _ _ _ _ _ ix_tup (@pe_ix _ _ _ _ _ _ _ ix_tup (pv 0) pe_int (fun _ _ => rfl)) pe_int (fun _ _ => rfl))) (by rfl) (by first | exact .inl rfl | exact .inr rfl | assumption))
      (@pss_cons _ _ _ _ _ (@ps_if _ _ _ _ _ _ _ _ (@pt_cmpR _ _ _ _ _ _ _ _ op_eqS (@pe_ix _ _ _ _ _ _ _ ix_tup (pv 0) pe_int (fun _ _ => rfl)) pe_str (nomark _)) (@pss_one _ _ _ (@ps_ret _ _ _ _ (pe_tup (pa_cons pe_str (pa_cons (@pe_op _ _ _ _ _ _ _ _ op_mulB (@pe_ix _ _ _ _ _ _ _ ix_tup (@pe_ix _ _ _ _ _ _ _ ix_tup (pv 0) pe_int (fun _ _ => rfl)) pe_int (fun _ _ => rfl)) (pv 2)) (pa_cons (pe_call ih (hr.mono (by omega)) rfl T.m_lifted T.F_lifted.kp T.b_lifted .nil (pass_e fun _ _ z => z) (pa_cons (@pe_ix _ _ _ _ _ _ _ ix_tup (pv 0) pe_int (fun _ _ => rfl)) (pa_cons (pv 1) pa_nil))) (pa_cons (pe_call ih (hr.mono (by omega)) rfl T.m_lifted T.F_lifted.kp T.b_lifted .nil (pass_e fun _ _ z => z) (pa_cons (@pe_ix _ _ _ _ _ _ _ ix_tup (pv 0) pe_int (fun _ _ => rfl)) (pa_cons (pv 1) pa_nil))) pa_nil))) se_c)))) pss_nil)
      (@pss_one _ _ _ (@ps_ret _ _ _ _ (pe_tup (pa_cons pe_str (pa_cons (@pe_op _ _ _ _ _ _ _ _ op_mulB (@pe_ix _ _ _ _ _ _ _ ix_tup (@pe_ix _ _ _ _ _ _ _ ix_tup (pv 0) pe_int (fun _ _ => rfl)) pe_int (fun _ _ => rfl)) (pv 2)) pa_nil) se_c)))))), ?_⟩
  walk_at "kx"
  have wb := tb.w
  rw [← Tr.wt_w] at wb
  have dn1 := dn.w
  have d0 := low_p (t := t.wt) (b := B)
  have zd : Bz 128 ((Rat.divInt t.wt B).den : Int) := dvd_bz b0 bz (den_dvd b0)
  have zn : Bz 128 (Rat.divInt t.wt B).num := low_n b0 ((bz109 wb.1 wb.2).mono (by decide))
  have cd : CDivB C ((Rat.divInt t.wt B).den : Int) := ⟨d0, zd.log2⟩
  have zk : Bz 128 (C / ((Rat.divInt t.wt B).den : Int)) := cz.ediv (Int.le_of_lt d0)
  have mo := zn.mulOk zk
  have lw := lift_w b0 dn1
  cases t with
  | en w =>
    obtain ⟨p, c, rfl, hp, hc⟩ := TV.hen tv
    obtain ⟨c, rfl, hc2⟩ := TV.rD b0 hc
    have hc : H c = some (.tup [.int (Rat.divInt (Tr.en w).wt B).num, .int ((Rat.divInt (Tr.en w).wt B).den : Int)]) := hc2
    walk_at "rd"
    rename_i p1 h1
    exact q _ _ (.en _) (same_new h1 _) (TV.en' upd_same) (.en lw)
  | fk w y n =>
    obtain ⟨p, c, u1, u2, rfl, hp, hc, t1, t2⟩ := TV.hfk tv
    obtain ⟨c, rfl, hc2⟩ := TV.rD b0 hc
    have hc : H c = some (.tup [.int (Rat.divInt (Tr.fk w y n).wt B).num, .int ((Rat.divInt (Tr.fk w y n).wt B).den : Int)]) := hc2
    have td : max y.dp n.dp + 1 ≤ d + 1 := td
    have dy : y.dp ≤ d := by omega
    have dn2 : n.dp ≤ d := by omega
    have by_ := tb.2.1
    have bn := tb.2.2
    have ny := dn.2.1
    have nn := dn.2.2
    walk_at "rd"
    rename_i H1 x1 t1' S1 tx1 sc1
    have t21 := t2.mono S1.t
    have hp1 := S1 _ _ hp
    walk_at "rd"
    rename_i H2 x2 t2' S2 tx2 sc2 p1 h1
    exact q _ _ (.fk _ t1' t2') ((S1.trans S2).new h1 _) (TV.fk' upd_same ((tx1.mono S2.t).mono (same_new h1 _).t) (tx2.mono (same_new h1 _).t)) (.fk lw sc1 sc2)

theorem ok_liftedA (T : Tx K mg) : ∀ d : Nat, FnOk P w K mg base (CXe P w) (d + 1) T.f_lifted T.d_lifted ["tree", "bottom"] (sp_lifted K d) := by
  intro d
  induction d with
  | zero => exact ok_lifted0 T
  | succ d ih => exact ok_liftedS T d ih
theorem ok_lifted (T : Tx K mg) : FnOk P w K mg base (CXe P w) (20 + 1) T.f_lifted T.d_lifted ["tree", "bottom"] (sp_lifted K 20) := by exact ok_liftedA T 20

theorem ok_in_whole_costs (T : Tx K mg) : FnOk P w K mg base (CXe P w) 22 T.f_in_whole_costs T.d_in_whole_costs ["tree"] (sp_inwhole K) := by
  have sc := sc_in_whole_costs
  refine T.F_in_whole_costs.okx sc (fun vs H Q E h => ?_) (fun cdv A outer s H vs Q E hr h => ?_)
  · obtain ⟨v, t, B, rfl, tv, lt, td, b0, bz, tb, q⟩ := h
    rfl
  obtain ⟨v, t, B, rfl, tv, lt, td, b0, bz, tb, q⟩ := h
  have hu := hr.units0
  have hu2 := hr.units
  have hu1 := Nat.lt_of_le_of_lt (Nat.add_le_add_left (show 1 ≤ 64 by decide) _) hu2
  refine ⟨_, (@pss_one _ _ _ (@ps_ret _ _ _ _ (pe_call (ok_lifted T) (hr.mono (by decide)) rfl T.m_lifted T.F_lifted.kp T.b_lifted .nil (pass_e fun _ _ z => z) (pa_cons (pv 0) (pa_cons (pe_call (ok_common_bottom T) (hr.mono (by decide)) rfl T.m_common_bottom T.F_common_bottom.kp T.b_common_bottom .nil (pass_e fun _ _ z => z) (pa_cons (pv 0) pa_nil)) pa_nil))))), ?_⟩
  walk_at "kx"
  walk_at "rd"
  rename_i H1 C S1 c0 cb al
  have tv1 := tv.mono S1.t
  have cz := dvd_bz b0 bz cb
  have dn := Dn.of al
  have le : C ≤ B := Int.le_of_dvd b0 cb
  walk_at "rd"
  rename_i H2 x t' S2 tx sc
  exact q _ _ t' C (S1.trans S2) tx sc c0 le (sc.B c0 le tb)

theorem ok_cost_by_change (T : Tx K mg) : FnOk P w K mg base (CXe P w) 4 T.f_cost_by_change T.d_cost_by_change ["known", "own", "before", "places"] (sp_cbc K) := by
  have sc := sc_cost_by_change
  refine T.F_cost_by_change.okx sc (fun vs H Q E h => ?_) (fun cdv A outer s H vs Q E hr h => ?_)
  · obtain ⟨d, c, ba, pa, t, B, s, kvs, es, bs, ps, rfl, hd, dt, pm, b0, bz, tb, hc, s0, s1, hba, hpa, nb, np, lb, lp, kb, kp, q⟩ := h
    rfl
  obtain ⟨d, c, ba, pa, t, B, s, kvs, es, bs, ps, rfl, hd, dt, pm, b0, bz, tb, hc, s0, s1, hba, hpa, nb, np, lb, lp, kb, kp, q⟩ := h
  have hu := hr.units0
  have hu2 := hr.units
  have hu1 := Nat.lt_of_le_of_lt (Nat.add_le_add_left (show 1 ≤ 64 by decide) _) hu2
  refine ⟨_, (@pss_cons _ _ _ _ _ (@ps_mid _ _ _ (ps_for powx rfl (pi_list (pe_callB (call_sortedSS rfl) rfl T.z_sorted bt_sorted (pa_cons (@pe_op _ _ _ _ _ _ _ _ op_setdiffS (pe_callTy (call_setS rfl) rfl T.z_set bt_set (pa_cons (pv 2) pa_nil)) (pe_callTy (call_setS rfl) rfl T.z_set bt_set (pa_cons (pv 3) pa_nil))) pa_nil))) (pg_name (i := 4) sc.nd rfl (by first | exact Or.inl rfl | exact Or.inr rfl))
      (@pss_one _ _ _ (@ps_set _ _ 1 _ _ _ _ sc.nd rfl (by first | exact Or.inl rfl | exact Or.inr rfl) (pe_call (ok_minus T) (hr.mono (by decide)) rfl T.m_minus T.F_minus.kp T.b_minus .nil (pass_e fun _ _ z => z) (pa_cons (pv 1) (pa_cons (@pe_ix _ _ _ _ _ _ _ ix_tup (pe_dget hu1 (pv 0) (pv 4) (fun _ _ => rfl)) pe_int (fun _ _ => rfl)) pa_nil))) (by rfl) (by first | exact .inl rfl | exact .inr rfl | assumption)))))
      (@pss_cons _ _ _ _ _ (@ps_mid _ _ _ (ps_for powx rfl (pi_list (pe_callB (call_sortedSS rfl) rfl T.z_sorted bt_sorted (pa_cons (@pe_op _ _ _ _ _ _ _ _ op_setdiffS (pe_callTy (call_setS rfl) rfl T.z_set bt_set (pa_cons (pv 3) pa_nil)) (pe_callTy (call_setS rfl) rfl T.z_set bt_set (pa_cons (pv 2) pa_nil))) pa_nil))) (pg_name (i := 4) sc.nd rfl (by first | exact Or.inl rfl | exact Or.inr rfl))
      (@pss_one _ _ _ (@ps_set _ _ 1 _ _ _ _ sc.nd rfl (by first | exact Or.inl rfl | exact Or.inr rfl) (pe_call (ok_plus T) (hr.mono (by decide)) rfl T.m_plus T.F_plus.kp T.b_plus .nil (pass_e fun _ _ z => z) (pa_cons (pv 1) (pa_cons (@pe_ix _ _ _ _ _ _ _ ix_tup (pe_dget hu1 (pv 0) (pv 4) (fun _ _ => rfl)) pe_int (fun _ _ => rfl)) pa_nil))) (by rfl) (by first | exact .inl rfl | exact .inr rfl | assumption)))))
      (@pss_one _ _ _ (@ps_ret _ _ _ _ (pv 1))))), ?_⟩
  walk_at "kx"
  have b1 := lss_len bs ps
  have p1 := lss_len ps bs
  have mb : ∀ x ∈ lss bs ps, x ∈ (plc t "").map (·.1) := fun x hx => kb x (List.mem_filter.mp hx).1
  have mp : ∀ x ∈ lss ps bs, x ∈ (plc t "").map (·.1) := fun x hx => kp x (List.mem_filter.mp hx).1
  have dl1 := ddS_len bs
  have dl2 := ddS_len ps
  have dn1 := ddS_nodup bs
  have dn2 := ddS_nodup ps
  have rzx : ∀ x, x ∈ (plc t "").map (·.1) → Rz 700 (Rat.divInt (wA t x) B) := fun x hx => by
    have := wA_B tb hx
    exact (rzd (by omega) (bz27 (by omega) (by omega)) bz).mono (by decide)
  have rzs : ∀ z : Int, -100000000000000000000000000000000000 ≤ z → z ≤ 100000000000000000000000000000000000 → Rz 700 (Rat.divInt z B) := fun z h1 h2 => (rzd (by omega) (bz27 h1 h2) bz).mono (by decide)
  refine ⟨fun σ' H1 => Iv (∃ (c1 : Addr) (o5 : Option V), Same H H1 ∧ H1 c1 = some (rt (Rat.divInt (s - ((lss bs ps).map (wA t)).sum) B)) ∧ σ' = [some (.ref d), some (.ref c1), some (.ref ba), some (.ref pa), o5]), ?_, ?_⟩
  · walk_at "rd"
    rename_i p1 hp1 p2 hp2 p3 hp3
    rw [dd_lss nb np]
    refine ⟨by omega, fun q1 ws hq1 pw so => ?_⟩
    have S1 := (((same_new hp1 _).new hp2 _).new hp3 _).new hq1 (.lst (ws.map V.str))
    have mw : ∀ x ∈ ws, x ∈ (plc t "").map (·.1) := fun x hx => mb x (pw.mem_iff.mp hx)
    have lw : ws.length < 64 := by rw [pw.length_eq]; omega
    have bd : ∀ i, -(64 : Int) * 100000000000000000000000000000000 ≤ ((ws.take i).map (wA t)).sum ∧ ((ws.take i).map (wA t)).sum ≤ (64 : Int) * 100000000000000000000000000000000 := fun i => by
      have h1 := sumB (W := wA t) (l := ws.take i) fun x hx => wA_B tb (mw x (List.mem_of_mem_take hx))
      have h2 : (ws.take i).length ≤ 63 := by rw [List.length_take]; omega
      omega
    walk_at "rd"
    refine for_list (K := K) (a := q1) (xs := ws.map V.str) (fun i σ' H' => Iv (∃ (c2 : Addr) (o5 : Option V), Same H H' ∧ H' q1 = some (.lst (ws.map V.str)) ∧ H' c2 = some (rt (Rat.divInt (s - ((ws.take i).map (wA t)).sum) B)) ∧ σ' = [some (.ref d), some (.ref c2), some (.ref ba), some (.ref pa), o5])) ⟨⟨c, _, S1, upd_same, by rw [List.take_zero, List.map_nil, List.sum_nil, Int.sub_zero]; exact S1 _ _ hc, rfl⟩⟩ (fun i σ' H' _ y => by obtain ⟨⟨_, _, _, k, _⟩⟩ := y; exact SqL.of k) ?_ ?_
    · rintro i x σ' H4 hx ⟨⟨c2, o5, S4, k4, hc4, rfl⟩⟩
      rw [List.getElem?_map] at hx
      obtain ⟨x, hx2, rfl⟩ := Option.map_eq_some_iff.mp hx
      have xm := mw x (List.mem_of_getElem? hx2)
      obtain ⟨p, k, c3, r, g, hp, hc3⟩ := dt_at b0 (S4 _ _ hd) (dt.mono S4.t) pm xm
      have a1 := at_1 (k := k) (c := c3) (r := r)
      have bi := bd i
      walk_at "rd"
      refine ⟨rzs _ (by omega) (by omega), rzx x xm, fun p2 H5 fp S5 hp2 => ?_⟩
      refine ⟨⟨p2, _, S4.trans S5, S5 _ _ k4, ?_, rfl⟩⟩
      rw [hp2, divInt_sub b0, List.take_add_one, hx2, List.map_append, List.sum_append]
      show some (rt (Rat.divInt (s - ((ws.take i).map (wA t)).sum - wA t x) B)) = some (rt (Rat.divInt (s - (((ws.take i).map (wA t)).sum + (wA t x + 0))) B))
      rw [show s - ((ws.take i).map (wA t)).sum - wA t x = s - (((ws.take i).map (wA t)).sum + (wA t x + 0)) by omega]
    · rintro σ' H4 ⟨⟨c2, o5, S4, k4, hc4, rfl⟩⟩
      rw [List.length_map, List.take_length, perm_sum pw] at hc4
      exact ⟨⟨c2, o5, S4, hc4, rfl⟩⟩
  rintro σ' H1 ⟨⟨c1, o5, T1, hc1, rfl⟩⟩
  have hd1 := T1 _ _ hd
  have dt1 := dt.mono T1.t
  have hba1 := T1 _ _ hba
  have hpa1 := T1 _ _ hpa
  have sb := sumB (W := wA t) (l := lss bs ps) fun x hx => wA_B tb (mb x hx)
  have u0 : -20000000000000000000000000000000000 ≤ s - ((lss bs ps).map (wA t)).sum := by omega
  have u1 : s - ((lss bs ps).map (wA t)).sum ≤ 20000000000000000000000000000000000 := by omega
  generalize s - ((lss bs ps).map (wA t)).sum = s2 at hc1 u0 u1 q
  clear hd dt hba hpa hc sb s0 s1
  refine ⟨fun σ' H2 => Iv (∃ (c1 : Addr) (o5 : Option V), Same H1 H2 ∧ H2 c1 = some (rt (Rat.divInt (s2 + ((lss ps bs).map (wA t)).sum) B)) ∧ σ' = [some (.ref d), some (.ref c1), some (.ref ba), some (.ref pa), o5]), ?_, ?_⟩
  · walk_at "rd"
    rename_i p1 hp1 p2 hp2 p3 hp3
    rw [dd_lss np nb]
    refine ⟨by omega, fun q1 ws hq1 pw so => ?_⟩
    have S1 := (((same_new hp1 _).new hp2 _).new hp3 _).new hq1 (.lst (ws.map V.str))
    have mw : ∀ x ∈ ws, x ∈ (plc t "").map (·.1) := fun x hx => mp x (pw.mem_iff.mp hx)
    have lw : ws.length < 64 := by rw [pw.length_eq]; omega
    have bd : ∀ i, -(64 : Int) * 100000000000000000000000000000000 ≤ ((ws.take i).map (wA t)).sum ∧ ((ws.take i).map (wA t)).sum ≤ (64 : Int) * 100000000000000000000000000000000 := fun i => by
      have h1 := sumB (W := wA t) (l := ws.take i) fun x hx => wA_B tb (mw x (List.mem_of_mem_take hx))
      have h2 : (ws.take i).length ≤ 63 := by rw [List.length_take]; omega
      omega
    walk_at "rd"
    refine for_list (K := K) (a := q1) (xs := ws.map V.str) (fun i σ' H' => Iv (∃ (c2 : Addr) (o5 : Option V), Same H1 H' ∧ H' q1 = some (.lst (ws.map V.str)) ∧ H' c2 = some (rt (Rat.divInt (s2 + ((ws.take i).map (wA t)).sum) B)) ∧ σ' = [some (.ref d), some (.ref c2), some (.ref ba), some (.ref pa), o5])) ⟨⟨c1, _, S1, upd_same, by rw [List.take_zero, List.map_nil, List.sum_nil, Int.add_zero]; exact S1 _ _ hc1, rfl⟩⟩ (fun i σ' H' _ y => by obtain ⟨⟨_, _, _, k, _⟩⟩ := y; exact SqL.of k) ?_ ?_
    · rintro i x σ' H4 hx ⟨⟨c2, o5, S4, k4, hc4, rfl⟩⟩
      rw [List.getElem?_map] at hx
      obtain ⟨x, hx2, rfl⟩ := Option.map_eq_some_iff.mp hx
      have xm := mw x (List.mem_of_getElem? hx2)
      obtain ⟨p, k, c3, r, g, hp, hc3⟩ := dt_at b0 (S4 _ _ hd1) (dt1.mono S4.t) pm xm
      have a1 := at_1 (k := k) (c := c3) (r := r)
      have bi := bd i
      walk_at "rd"
      refine ⟨rzs _ (by omega) (by omega), rzx x xm, fun p2 hp2 => ?_⟩
      have S5 := same_new hp2 (H := H4) (rt (Rat.divInt (s2 + ((ws.take i).map (wA t)).sum) B + Rat.divInt (wA t x) B))
      refine ⟨⟨p2, _, S4.trans S5, S5 _ _ k4, ?_, rfl⟩⟩
      rw [upd_same, divInt_add b0, List.take_add_one, hx2, List.map_append, List.sum_append]
      show some (rt (Rat.divInt (s2 + ((ws.take i).map (wA t)).sum + wA t x) B)) = some (rt (Rat.divInt (s2 + (((ws.take i).map (wA t)).sum + (wA t x + 0))) B))
      rw [show s2 + ((ws.take i).map (wA t)).sum + wA t x = s2 + (((ws.take i).map (wA t)).sum + (wA t x + 0)) by omega]
    · rintro σ' H4 ⟨⟨c2, o5, S4, k4, hc4, rfl⟩⟩
      rw [List.length_map, List.take_length, perm_sum pw] at hc4
      exact ⟨⟨c2, o5, S4, hc4, rfl⟩⟩
  rintro σ' H2 ⟨⟨c2, o6, T2, hc2, rfl⟩⟩
  walk_at "rd"
  exact q _ c2 (T1.trans T2) hc2

theorem ok_best_pair (T : Tx K mg) : FnOk P w K mg base (CXe P w) 1 T.f_best_pair T.d_best_pair ["yes", "no", "leaves"] (sp_best K) := by
  have sc := sc_best_pair
  refine T.F_best_pair.okx sc (fun vs H Q E h => ?_) (fun cdv A outer s H vs Q E hr h => ?_)
  · obtain ⟨a, b, L, ty, tn, ys, ns, us, ws, rfl, ha, hb, ru, rn, gu, gw, lu, lw, l50, L2, Ll, q⟩ := h
    rfl
  obtain ⟨a, b, L, ty, tn, ys, ns, us, ws, rfl, ha, hb, ru, rn, gu, gw, lu, lw, l50, L2, Ll, q⟩ := h
  have hu := hr.units0
  have hu2 := hr.units
  have hu1 := Nat.lt_of_le_of_lt (Nat.add_le_add_left (show 1 ≤ 64 by decide) _) hu2
  refine ⟨_, (@pss_cons _ _ _ _ _ (@ps_mid _ _ _ (@ps_set _ _ 3 _ _ _ _ sc.nd rfl (by first | exact Or.inl rfl | exact Or.inr rfl) (pe_callB (call_max2 rfl) rfl T.z_max bt_max (pa_cons pe_int (pa_cons (@pe_op _ _ _ _ _ _ _ _ op_sub (pv 2) (pe_callB call_len_seq rfl T.z_len bt_len (pa_cons (pv 1) pa_nil))) pa_nil))) (by rfl) (by first | exact .inl rfl | exact .inr rfl | assumption)))
      (@pss_cons _ _ _ _ _ (@ps_mid _ _ _ (@ps_set _ _ 4 _ _ _ _ sc.nd rfl (by first | exact Or.inl rfl | exact Or.inr rfl) (pe_callB (call_min2 rfl) rfl T.z_min bt_min (pa_cons (pe_callB call_len_seq rfl T.z_len bt_len (pa_cons (pv 0) pa_nil)) (pa_cons (@pe_op _ _ _ _ _ _ _ _ op_sub (pv 2) pe_int) pa_nil))) (by rfl) (by first | exact .inl rfl | exact .inr rfl | assumption)))
      (@pss_cons _ _ _ _ _ (@ps_mid _ _ _ (by first | exact ps_setLC (i := 5) sc.nd rfl (by first | exact Or.inl rfl | exact Or.inr rfl) (ts := ["many"]) (js := [0, 1, 2]) (LcOk.of rfl) rfl (pi_range2 rfl T.z_range (pa_cons (pv 3) (pa_cons (@pe_op _ _ _ _ _ _ _ _ op_add (pv 4) pe_int) pa_nil))) (fun _ _ _ _ => (pg_name (i := 0) (nodup_of rfl) rfl (Or.inl rfl))) (fun _ _ _ _ => pf_nil) (fun _ _ _ _ => (pe_tup (pa_cons (@pe_op _ _ _ _ _ _ _ _ op_add (@pe_ix _ _ _ _ _ _ _ ix_tup (@pe_ix _ _ _ _ _ _ _ ix_list (pv 1) (@pe_op _ _ _ _ _ _ _ _ op_sub (pv 0) pe_int) (fun _ _ => rfl)) pe_int (fun _ _ => rfl)) (@pe_ix _ _ _ _ _ _ _ ix_tup (@pe_ix _ _ _ _ _ _ _ ix_list (pv 2) (@pe_op _ _ _ _ _ _ _ _ op_sub (@pe_op _ _ _ _ _ _ _ _ op_sub (pv 3) (pv 0)) pe_int) (fun _ _ => rfl)) pe_int (fun _ _ => rfl))) (pa_cons (pv 0) pa_nil)))) | exact ps_set (i := 5) sc.nd rfl (by first | exact Or.inl rfl | exact Or.inr rfl) (pe_lc (ts := ["many"]) (js := [0, 1, 2]) (LcOk.of rfl) rfl (pi_range2 rfl T.z_range (pa_cons (pv 3) (pa_cons (@pe_op _ _ _ _ _ _ _ _ op_add (pv 4) pe_int) pa_nil))) (fun _ _ _ _ => (pg_name (i := 0) (nodup_of rfl) rfl (Or.inl rfl))) (fun _ _ _ _ => pf_nil) (fun _ _ _ _ => (pe_tup (pa_cons (@pe_op _ _ _ _ _ _ _ _ op_add (@pe_ix _ _ _ _ _ _ _ ix_tup (@pe_ix _ _ _ _ _ _ _ ix_list (pv 1) (@pe_op _ _ _ _ _ _ _ _ op_sub (pv 0) pe_int) (fun _ _ => rfl)) pe_int (fun _ _ => rfl)) (@pe_ix _ _ _ _ _ _ _ ix_tup (@pe_ix _ _ _ _ _ _ _ ix_list (pv 2) (@pe_op _ _ _ _ _ _ _ _ op_sub (@pe_op _ _ _ _ _ _ _ _ op_sub (pv 3) (pv 0)) pe_int) (fun _ _ => rfl)) pe_int (fun _ _ => rfl))) (pa_cons (pv 0) pa_nil)))))))
      (@pss_cons _ _ _ _ _ (@ps_mid _ _ _ (@ps_set _ _ 6 _ _ _ _ sc.nd rfl (by first | exact Or.inl rfl | exact Or.inr rfl) (pe_callB (call_minP rfl hu2) rfl T.z_min bt_min (pa_cons (pv 5) pa_nil)) (by rfl) (by first | exact .inl rfl | exact .inr rfl | assumption)))
      (@pss_cons _ _ _ _ _ (@ps_mid _ _ _ (by first | exact ps_setLC (i := 7) sc.nd rfl (by first | exact Or.inl rfl | exact Or.inr rfl) (ts := ["place"]) (js := []) (LcOk.of rfl) rfl (pi_list (@pe_ix _ _ _ _ _ _ _ ix_tup (@pe_ix _ _ _ _ _ _ _ ix_list (pv 1) (@pe_op _ _ _ _ _ _ _ _ op_sub (@pe_op _ _ _ _ _ _ _ _ op_sub (pv 2) (@pe_ix _ _ _ _ _ _ _ ix_tup (pv 6) pe_int (fun _ _ => rfl))) pe_int) (fun _ _ => rfl)) pe_int (fun _ _ => rfl))) (fun _ _ _ _ => (pg_name (i := 0) (nodup_of rfl) rfl (Or.inl rfl))) (fun _ _ _ _ => pf_nil) (fun _ _ _ _ => (@pe_op _ _ _ _ _ _ _ _ op_add_str pe_str (pv 0))) | exact ps_set (i := 7) sc.nd rfl (by first | exact Or.inl rfl | exact Or.inr rfl) (pe_lc (ts := ["place"]) (js := []) (LcOk.of rfl) rfl (pi_list (@pe_ix _ _ _ _ _ _ _ ix_tup (@pe_ix _ _ _ _ _ _ _ ix_list (pv 1) (@pe_op _ _ _ _ _ _ _ _ op_sub (@pe_op _ _ _ _ _ _ _ _ op_sub (pv 2) (@pe_ix _ _ _ _ _ _ _ ix_tup (pv 6) pe_int (fun _ _ => rfl))) pe_int) (fun _ _ => rfl)) pe_int (fun _ _ => rfl))) (fun _ _ _ _ => (pg_name (i := 0) (nodup_of rfl) rfl (Or.inl rfl))) (fun _ _ _ _ => pf_nil) (fun _ _ _ _ => (@pe_op _ _ _ _ _ _ _ _ op_add_str pe_str (pv 0))))))
      (@pss_cons _ _ _ _ _ (@ps_mid _ _ _ (ps_expr (pe_bm PySem.F.plainAttrs_list PySem.F.slot_list_extend PySem.F.type_list_extend mt_extend (pv 7) (pa_cons (pe_lc (ts := ["place"]) (js := []) (LcOk.of rfl) rfl (pi_list (@pe_ix _ _ _ _ _ _ _ ix_tup (@pe_ix _ _ _ _ _ _ _ ix_list (pv 0) (@pe_op _ _ _ _ _ _ _ _ op_sub (@pe_ix _ _ _ _ _ _ _ ix_tup (pv 6) pe_int (fun _ _ => rfl)) pe_int) (fun _ _ => rfl)) pe_int (fun _ _ => rfl))) (fun _ _ _ _ => (pg_name (i := 0) (nodup_of rfl) rfl (Or.inl rfl))) (fun _ _ _ _ => pf_nil) (fun _ _ _ _ => (@pe_op _ _ _ _ _ _ _ _ op_add_str pe_str (pv 0)))) pa_nil))))
      (@pss_one _ _ _ (@ps_ret _ _ _ _ (pe_tup (pa_cons (@pe_ix _ _ _ _ _ _ _ ix_tup (pv 6) pe_int (fun _ _ => rfl)) (pa_cons (pv 7) pa_nil))))))))))), ?_⟩
  walk_at "kx"
  have xl := ru.length
  have nl := rn.length
  have ly := ty.lv_pos
  have ln := tn.lv_pos
  have ys0 : ys.length < sizeLine := small1000 (by omega)
  have ns0 : ns.length < sizeLine := small1000 (by omega)
  have fi : ∃ f : Nat, (if (L : Int) - (ns.length : Int) > 1 then (L : Int) - (ns.length : Int) else 1) = (f : Int) ∧ 1 ≤ f ∧ L ≤ f + tn.lv ∧ f + 1 ≤ L ∧ f ≤ ty.lv ∧ (∀ m : Nat, 1 ≤ m → L ≤ m + tn.lv → f ≤ m) := by
    split
    · exact ⟨L - ns.length, by omega, by omega, by omega, by omega, by omega, fun m _ _ => by omega⟩
    · exact ⟨1, rfl, by omega, by omega, by omega, by omega, fun m _ _ => by omega⟩
  obtain ⟨f, ef, f1, f2, f3, f4, fm⟩ := fi
  have gi : ∃ g : Nat, (if (L : Int) - 1 < (ys.length : Int) then (L : Int) - 1 else (ys.length : Int)) = (g : Int) ∧ f ≤ g ∧ g + 1 ≤ L ∧ g ≤ ty.lv ∧ (∀ m : Nat, m + 1 ≤ L → m ≤ ty.lv → m ≤ g) := by
    split
    · exact ⟨L - 1, by omega, by omega, by omega, by omega, fun m _ _ => by omega⟩
    · exact ⟨ys.length, rfl, by omega, by omega, by omega, fun m _ _ => by omega⟩
  obtain ⟨g, eg, g1, g2, g3, gm⟩ := gi
  refine ⟨fun σ' H' => Iv (H' = H ∧ σ' = [some (.ref a), some (.ref b), some (.int (L : Int)), some (.int (f : Int)), none, none, none, none]), ?_, ?_⟩
  · walk_at "rd"
    rw [ef]
    exact ⟨⟨rfl, rfl⟩⟩
  rintro σ' H' ⟨⟨rfl, rfl⟩⟩
  refine ⟨fun σ' H1 => Iv (H1 = H' ∧ σ' = [some (.ref a), some (.ref b), some (.int (L : Int)), some (.int (f : Int)), some (.int (g : Int)), none, none, none]), ?_, ?_⟩
  · walk_at "rd"
    rw [eg]
    exact ⟨⟨rfl, rfl⟩⟩
  rintro σ' H ⟨⟨rfl, rfl⟩⟩
  have at_u : ∀ m : Nat, 1 ≤ m → m ≤ ty.lv → ∃ p l u, atI ys ((m : Int) - 1) = some (.ref p) ∧ us[m - 1]? = some u ∧ H p = some (.tup [.int u.1, .ref l]) ∧ H l = some (.lst (u.2.map V.str)) := fun m h1 h2 => by
    obtain ⟨p, l, u, ex, eu, hp, hl⟩ := ru.get (List.getElem?_eq_getElem (show m - 1 < ys.length by omega))
    refine ⟨p, l, u, ?_, eu, hp, hl⟩
    rw [← ex, show (m : Int) - 1 = ((m - 1 : Nat) : Int) by omega]
    exact atI_nat (List.getElem?_eq_getElem _)
  have at_w : ∀ m : Nat, 1 ≤ m → m ≤ tn.lv → ∃ p l u, atI ns ((m : Int) - 1) = some (.ref p) ∧ ws[m - 1]? = some u ∧ H p = some (.tup [.int u.1, .ref l]) ∧ H l = some (.lst (u.2.map V.str)) := fun m h1 h2 => by
    obtain ⟨p, l, u, ex, eu, hp, hl⟩ := rn.get (List.getElem?_eq_getElem (show m - 1 < ns.length by omega))
    refine ⟨p, l, u, ?_, eu, hp, hl⟩
    rw [← ex, show (m : Int) - 1 = ((m - 1 : Nat) : Int) by omega]
    exact atI_nat (List.getElem?_eq_getElem _)
  refine ⟨fun σ' H1 => Iv (∃ (pp : Addr) (cs : List (Addr × Int × Int)), Same H H1 ∧ H1 pp = some (.lst (cs.map fun c => V.ref c.1)) ∧ (∀ c ∈ cs, H1 c.1 = some (.tup [.int c.2.1, .int c.2.2])) ∧ cs.length = g + 1 - f ∧ (∀ (i : Nat) c, cs[i]? = some c → ∃ u v, us[f + i - 1]? = some u ∧ ws[L - (f + i) - 1]? = some v ∧ c.2.1 = u.1 + v.1 ∧ c.2.2 = ((f + i : Nat) : Int)) ∧ σ' = [some (.ref a), some (.ref b), some (.int (L : Int)), some (.int (f : Int)), some (.int (g : Int)), some (.ref pp), none, none]), ?_, ?_⟩
  · walk_at "rd"
    rw [show ((g : Int) + 1 - (f : Int)).toNat = g + 1 - f by omega]
    refine lc_range (lo := (f : Int)) (n := g + 1 - f) (fun i xs H1 => Iv (∃ cs : List (Addr × Int × Int), Same H H1 ∧ xs = cs.map (fun c => V.ref c.1) ∧ (∀ c ∈ cs, H1 c.1 = some (.tup [.int c.2.1, .int c.2.2])) ∧ cs.length = i ∧ (∀ (i : Nat) c, cs[i]? = some c → ∃ u v, us[f + i - 1]? = some u ∧ ws[L - (f + i) - 1]? = some v ∧ c.2.1 = u.1 + v.1 ∧ c.2.2 = ((f + i : Nat) : Int)))) ⟨⟨[], Same.refl _, rfl, fun c hc => (by cases hc), rfl, fun i c hc => (by cases hc)⟩⟩ (fun i xs H1 hi z => ?_) ?_ ?_
    · obtain ⟨⟨cs, _, rfl, _, e, _⟩⟩ := z
      rw [List.length_map]
      exact small1000 (by omega)
    · rintro i xs H1 hi ⟨⟨cs, S1, rfl, ht, el, hc⟩⟩
      have e0 : (f : Int) + (i : Int) = ((f + i : Nat) : Int) := by omega
      obtain ⟨p1, l1, u, x1, u1, hp1, hl1⟩ := at_u (f + i) (by omega) (by omega)
      obtain ⟨p2, l2, v, x2, u2, hp2, hl2⟩ := at_w (L - (f + i)) (by omega) (by omega)
      rw [show ((L - (f + i) : Nat) : Int) - 1 = (L : Int) - ((f + i : Nat) : Int) - 1 by omega] at x2
      have ha1 := S1 _ _ ha
      have hb1 := S1 _ _ hb
      have hp1 := S1 _ _ hp1
      have hp2 := S1 _ _ hp2
      walk_at "rd"
      rename_i p hp
      refine ⟨⟨cs ++ [(p, u.1 + v.1, ((f + i : Nat) : Int))], S1.new hp _, by rw [List.map_append]; rfl, fun c hcm => ?_, by rw [List.length_append, el]; rfl, fun j c hj => ?_⟩⟩
      · rcases List.mem_append.mp hcm with hcm | hcm
        · exact kp (ht c hcm) hp
        · rw [List.mem_singleton.mp hcm, ← e0]
          exact upd_same
      · rw [List.getElem?_append] at hj
        split at hj
        · exact hc j c hj
        · rename_i hlt
          have e1 : j - cs.length = 0 := by
            rcases Nat.eq_zero_or_pos (j - cs.length) with z | z
            · exact z
            · rw [List.getElem?_eq_none (by rw [List.length_singleton]; omega)] at hj
              cases hj
          rw [e1] at hj
          obtain rfl := Option.some.inj hj
          obtain rfl : j = i := by omega
          exact ⟨u, v, u1, u2, rfl, rfl⟩
    · rintro xs H1 ⟨⟨cs, S1, rfl, ht, el, hc⟩⟩ z hz
      walk_at "rd"
      exact ⟨⟨z, cs, S1.new hz _, upd_same, fun c hcm => kp (ht c hcm) hz, el, hc, rfl⟩⟩
  rintro σ' H1 ⟨⟨pp, cs, S1, hpp, ht, el, hc, rfl⟩⟩
  have ha := S1 _ _ ha
  have hb := S1 _ _ hb
  have ne : cs ≠ [] := fun e => by rw [e] at el; have : (0 : Nat) = g + 1 - f := el; omega
  refine ⟨fun σ' H2 => Iv (∃ (fa : Addr) (m : Nat) (u v : Int × List Str), H2 = H1 ∧ H1 fa = some (.tup [.int (u.1 + v.1), .int (m : Int)]) ∧ f ≤ m ∧ m ≤ g ∧ us[m - 1]? = some u ∧ ws[L - m - 1]? = some v ∧ (∀ (m' : Nat) u' v', f ≤ m' → m' ≤ g → us[m' - 1]? = some u' → ws[L - m' - 1]? = some v' → u.1 + v.1 ≤ u'.1 + v'.1) ∧ σ' = [some (.ref a), some (.ref b), some (.int (L : Int)), some (.int (f : Int)), some (.int (g : Int)), some (.ref pp), some (.ref fa), none]), ?_, ?_⟩
  · walk_at "rd"
    rename_i n hn low
    obtain ⟨i, hi⟩ := List.getElem?_of_mem hn
    have il := (List.getElem?_eq_some_iff.mp hi).1
    obtain ⟨u, v, u1, u2, e1, e2⟩ := hc i n hi
    have hn1 := ht n hn
    rw [e1, e2] at hn1
    refine ⟨⟨n.1, f + i, u, v, rfl, hn1, by omega, by omega, u1, u2, fun m' u' v' h1 h2 x1 x2 => ?_, rfl⟩⟩
    have hx := List.getElem?_eq_getElem (show m' - f < cs.length by omega)
    have lo := low _ (List.mem_of_getElem? hx)
    obtain ⟨u3, v3, y1, y2, e3, _⟩ := hc _ _ hx
    rw [show f + (m' - f) = m' by omega] at y1 y2
    rw [x1] at y1
    rw [x2] at y2
    obtain rfl := Option.some.inj y1
    obtain rfl := Option.some.inj y2
    rw [e1, e3] at lo
    exact lo
  rintro σ' H2 ⟨⟨fa, m, u, v, rfl, hfa, m1, m2, hu, hv, low, rfl⟩⟩
  clear hc ht hpp
  obtain ⟨p1, l1, u', x1, y1, hp1, hl1⟩ := at_u m (by omega) (by omega)
  obtain ⟨p2, l2, v', x2, y2, hp2, hl2⟩ := at_w (L - m) (by omega) (by omega)
  rw [hu] at y1
  rw [hv] at y2
  obtain rfl := Option.some.inj y1
  obtain rfl := Option.some.inj y2
  rw [show ((L - m : Nat) : Int) - 1 = (L : Int) - (m : Int) - 1 by omega] at x2
  have hp1 := S1 _ _ hp1
  have hl1 := S1 _ _ hl1
  have hp2 := S1 _ _ hp2
  have hl2 := S1 _ _ hl2
  have gu1 := gu _ _ hu
  have gv1 := gw _ _ hv
  have res : ∀ w, Rg (.fk w ty tn) (L - 1) (u.1 + v.1, pf "n" v.2 ++ pf "y" u.2) := fun w => by
    have := Rg.fk (w := w) gu1 gv1 fun a b s1 s2 h1 h2 e => ?_
    · rw [show L - 1 = m - 1 + (L - m - 1) + 1 by omega]
      exact this
    · have b1 := h1.bd
      have b2 := h2.bd
      have fa := fm a (by omega) (by omega)
      have ga := gm a (by omega) (by omega)
      have z1 := List.getElem?_eq_getElem (show a - 1 < us.length by omega)
      have z2 := List.getElem?_eq_getElem (show L - a - 1 < ws.length by omega)
      have lo := low a _ _ fa ga z1 z2
      have r1 := (gu _ _ z1).low s1 (by rw [show a - 1 + 1 = a by omega]; exact h1)
      have r2 := (gw _ _ z2).low s2 (by rw [show L - a - 1 + 1 = b by omega]; exact h2)
      omega
  have lu2 := gu1.len
  have lv2 := gv1.len
  have sv : (v.2.map V.str).length = v.2.length := List.length_map _
  have su : (u.2.map V.str).length = u.2.length := List.length_map _
  have en : ("n" : Str).length = 1 := by decide +kernel
  have ey : ("y" : Str).length = 1 := by decide +kernel
  have tyd := ty.dp_lt
  have tnd := tn.dp_lt
  have e00 : ("" : Str).length = 0 := by decide +kernel
  have wu := gu1.ps.wd
  have wv := gv1.ps.wd
  rw [e00] at wu wv
  refine ⟨fun σ' H3 => Iv (∃ (z : Addr), Same H2 H3 ∧ H2 z = none ∧ H3 z = some (.lst ((pf "n" v.2).map V.str)) ∧ σ' = [some (.ref a), some (.ref b), some (.int (L : Int)), some (.int (f : Int)), some (.int (g : Int)), some (.ref pp), some (.ref fa), some (.ref z)]), ?_, ?_⟩
  · walk_at "rd"
    refine lc_list (K := K) (a := l2) (xs := v.2.map V.str) (fun i ys H' => Iv (H' = H2 ∧ ys = (pf "n" (v.2.take i)).map V.str)) ⟨⟨rfl, rfl⟩⟩ (fun i ys H' hi z => ⟨SqL.of (by rw [z.o.1]; exact hl2), ?_⟩) ?_ ?_
    · rw [z.o.2, pf, List.length_map, List.length_map, List.length_take]
      exact small1000 (by omega)
    · rintro i x ys H' hi ⟨⟨rfl, rfl⟩⟩
      have il := (List.getElem?_eq_some_iff.mp hi).1
      rw [List.getElem?_map] at hi
      obtain ⟨x, hx, rfl⟩ := Option.map_eq_some_iff.mp hi
      have xl := wv x (List.mem_of_getElem? hx)
      have xz : ("n" : Str).length + x.length ≤ sizeLine := szB (by omega)
      walk_at "rd"
      refine ⟨⟨rfl, ?_⟩⟩
      rw [List.take_add_one, hx, pf, pf, List.map_append, List.map_append]
      rfl
    · rintro ys H' ⟨⟨rfl, rfl⟩⟩ z hz
      rw [sv, List.take_length]
      walk_at "rd"
      exact ⟨⟨z, same_new hz _, hz, upd_same, rfl⟩⟩
  rintro σ' H3 ⟨⟨z, S2, fz, hz, rfl⟩⟩
  have ha := S2 _ _ ha
  have hb := S2 _ _ hb
  have hfa0 := hfa
  have hfa := S2 _ _ hfa
  have hp1 := S2 _ _ hp1
  have hl1 := S2 _ _ hl1
  refine ⟨fun σ' H4 => Iv (Same H2 H4 ∧ H4 z = some (.lst ((pf "n" v.2 ++ pf "y" u.2).map V.str)) ∧ σ' = [some (.ref a), some (.ref b), some (.int (L : Int)), some (.int (f : Int)), some (.int (g : Int)), some (.ref pp), some (.ref fa), some (.ref z)]), ?_, ?_⟩
  · walk_at "rd"
    refine lc_list (K := K) (a := l1) (xs := u.2.map V.str) (fun i ys H' => Iv (H' = H3 ∧ ys = (pf "y" (u.2.take i)).map V.str)) ⟨⟨rfl, rfl⟩⟩ (fun i ys H' hi z => ⟨SqL.of (by rw [z.o.1]; exact hl1), ?_⟩) ?_ ?_
    · rw [z.o.2, pf, List.length_map, List.length_map, List.length_take]
      exact small1000 (by omega)
    · rintro i x ys H' hi ⟨⟨rfl, rfl⟩⟩
      have il := (List.getElem?_eq_some_iff.mp hi).1
      rw [List.getElem?_map] at hi
      obtain ⟨x, hx, rfl⟩ := Option.map_eq_some_iff.mp hi
      have xl := wu x (List.mem_of_getElem? hx)
      have xz : ("y" : Str).length + x.length ≤ sizeLine := szB (by omega)
      walk_at "rd"
      refine ⟨⟨rfl, ?_⟩⟩
      rw [List.take_add_one, hx, pf, pf, List.map_append, List.map_append]
      rfl
    · rintro ys H' ⟨⟨rfl, rfl⟩⟩ z2 hz2
      rw [su, List.take_length]
      have hz3 := kp hz hz2 (u := .lst ((pf "y" u.2).map V.str))
      have zz : ((pf "n" v.2).map V.str).length + ((pf "y" u.2).map V.str).length ≤ sizeLine := szB (by rw [List.length_map, List.length_map, pf, pf, List.length_map, List.length_map]; omega)
      walk_at "rd"
      rw [← List.map_append]
      exact ⟨⟨(S2.new hz2 _).upd fz _, upd_same, rfl⟩⟩
  rintro σ' H4 ⟨⟨S4, hz4, rfl⟩⟩
  have hfa := S4 _ _ hfa0
  walk_at "rd"
  rename_i p hp
  exact q _ p z (u.1 + v.1, pf "n" v.2 ++ pf "y" u.2) ((S1.trans S4).new hp _) upd_same (kp hz4 hp) res

theorem ok_rungs0 (T : Tx K mg) : FnOk P w K mg base (CXe P w) (0 + 2) T.f_rungs T.d_rungs ["whole"] (sp_rungs K 0) := by
  have sc := sc_rungs
  refine T.F_rungs.okx sc (fun vs H Q E h => ?_) (fun cdv A outer s H vs Q E hr h => ?_)
  · obtain ⟨v, t, rfl, tv, td, tl, q⟩ := h
    rfl
  obtain ⟨v, t, rfl, tv, td, tl, q⟩ := h
  have hu := hr.units0
  have hu2 := hr.units
  have hu1 := Nat.lt_of_le_of_lt (Nat.add_le_add_left (show 1 ≤ 64 by decide) _) hu2
  refine ⟨_, (@pss_cons _ _ _ _ _ (@ps_mid _ _ _ (@ps_set _ _ 1 _ _ _ _ sc.nd rfl (by first | exact Or.inl rfl | exact Or.inr rfl) (@pe_lst _ _ _ _ (pa_cons (pe_tup (pa_cons (@pe_ix _ _ _ _ _ _ _ ix_tup (pv 0) pe_int (fun _ _ => rfl)) (pa_cons (@pe_lst _ _ _ _ (pa_cons pe_str pa_nil se_c)) pa_nil))) pa_nil)) (by rfl) (by first | exact .inl rfl | exact .inr rfl | assumption)))
      (@pss_cons _ _ _ _ _ (@ps_if _ _ _ _ _ _ _ _ (@pt_cmpR _ _ _ _ _ _ _ _ op_eqS (@pe_ix _ _ _ _ _ _ _ ix_tup (pv 0) pe_int (fun _ _ => rfl)) pe_str (nomark _)) (@pss_cons _ _ _ _ _ ps_never
      (@pss_cons _ _ _ _ _ ps_never
      (@pss_one _ _ _ (ps_for powx rfl (pi_range2 rfl T.z_range (pa_cons pe_int (pa_cons (@pe_op _ _ _ _ _ _ _ _ op_add (@pe_op _ _ _ _ _ _ _ _ op_add (pe_callB call_len_seq rfl T.z_len bt_len (pa_cons (pv 2) pa_nil)) (pe_callB call_len_seq rfl T.z_len bt_len (pa_cons (pv 3) pa_nil))) pe_int) pa_nil))) (pg_name (i := 4) sc.nd rfl (by first | exact Or.inl rfl | exact Or.inr rfl))
      (@pss_one _ _ _ (ps_expr (pe_bm PySem.F.plainAttrs_list PySem.F.slot_list_append PySem.F.type_list_append mt_append (pv 1) (pa_cons (pe_call (ok_best_pair T) (hr.mono (by decide)) rfl T.m_best_pair T.F_best_pair.kp T.b_best_pair .nil (pass_e fun _ _ z => z) (pa_cons (pv 2) (pa_cons (pv 3) (pa_cons (pv 4) pa_nil)))) pa_nil)))))))) pss_nil)
      (@pss_one _ _ _ (@ps_ret _ _ _ _ (pv 1))))), ?_⟩
  walk_at "kx"
  cases t with
  | en w =>
    obtain ⟨p, rfl, hp⟩ := TV.en tv
    have e0 : ("" : Str).length = 0 := by decide +kernel
    refine ⟨fun σ' H1 => Iv (∃ (z p1 l1 : Addr), Same H H1 ∧ H z = none ∧ H1 z = some (.lst [.ref p1]) ∧ H1 p1 = some (.tup [.int w, .ref l1]) ∧ H1 l1 = some (.lst [.str ""]) ∧ σ' = [some (.ref p), some (.ref z), none, none, none]), ?_, ?_⟩
    · walk_at "rd"
      rename_i l1 hl1 p1 hp1 z hz
      exact ⟨⟨z, p1, l1, ((same_new hl1 _).new hp1 _).new hz _, ((same_new hl1 _).new hp1 _).free hz, upd_same, kp upd_same hz, kp (kp upd_same hp1) hz, rfl⟩⟩
    rintro σ' H1 ⟨⟨z, p1, l1, S1, fz, hz, hp1, hl1, rfl⟩⟩
    have hp := S1 _ _ hp
    walk_at "rd"
    exact q _ z [.ref p1] [(w, [("" : Str)])] S1 fz hz (.cons hp1 hl1 .nil) (Rgs.snoc (us := []) (fun i u hu => by cases hu) (Rg.top (.en w))) rfl
  | fk w y n => exact absurd td (by show ¬ max _ _ + 1 ≤ 0; omega)

theorem ok_rungsS (T : Tx K mg) (d : Nat) (ih : FnOk P w K mg base (CXe P w) (d + 2) T.f_rungs T.d_rungs ["whole"] (sp_rungs K d)) : FnOk P w K mg base (CXe P w) (d + 1 + 2) T.f_rungs T.d_rungs ["whole"] (sp_rungs K (d + 1)) := by
  have sc := sc_rungs
  refine T.F_rungs.okx sc (fun vs H Q E h => ?_) (fun cdv A outer s H vs Q E hr h => ?_)
  · obtain ⟨v, t, rfl, tv, td, tl, q⟩ := h
    rfl
  obtain ⟨v, t, rfl, tv, td, tl, q⟩ := h
  have hu := hr.units0
  have hu2 := hr.units
  have hu1 := Nat.lt_of_le_of_lt (Nat.add_le_add_left (show 1 ≤ 64 by decide) _) hu2
  refine ⟨_, (@pss_cons _ _ _ _ _ (@ps_mid _ _ _ (@ps_set _ _ 1 _ _ _ _ sc.nd rfl (by first | exact Or.inl rfl | exact Or.inr rfl) (@pe_lst _ _ _ _ (pa_cons (pe_tup (pa_cons (@pe_ix _ _ _ _ _ _ _ ix_tup (pv 0) pe_int (fun _ _ => rfl)) (pa_cons (@pe_lst _ _ _ _ (pa_cons pe_str pa_nil se_c)) pa_nil))) pa_nil)) (by rfl) (by first | exact .inl rfl | exact .inr rfl | assumption)))
      (@pss_cons _ _ _ _ _ (@ps_if _ _ _ _ _ _ _ _ (@pt_cmpR _ _ _ _ _ _ _ _ op_eqS (@pe_ix _ _ _ _ _ _ _ ix_tup (pv 0) pe_int (fun _ _ => rfl)) pe_str (nomark _)) (@pss_cons _ _ _ _ _ (@ps_mid _ _ _ (@ps_set _ _ 2 _ _ _ _ sc.nd rfl (by first | exact Or.inl rfl | exact Or.inr rfl) (pe_call ih (hr.mono (by omega)) rfl T.m_rungs T.F_rungs.kp T.b_rungs .nil (pass_e fun _ _ z => z) (pa_cons (@pe_ix _ _ _ _ _ _ _ ix_tup (pv 0) pe_int (fun _ _ => rfl)) pa_nil)) (by rfl) (by first | exact .inl rfl | exact .inr rfl | assumption)))
      (@pss_cons _ _ _ _ _ (@ps_mid _ _ _ (@ps_set _ _ 3 _ _ _ _ sc.nd rfl (by first | exact Or.inl rfl | exact Or.inr rfl) (pe_call ih (hr.mono (by omega)) rfl T.m_rungs T.F_rungs.kp T.b_rungs .nil (pass_e fun _ _ z => z) (pa_cons (@pe_ix _ _ _ _ _ _ _ ix_tup (pv 0) pe_int (fun _ _ => rfl)) pa_nil)) (by rfl) (by first | exact .inl rfl | exact .inr rfl | assumption)))
      (@pss_one _ _ _ (ps_for powx rfl (pi_range2 rfl T.z_range (pa_cons pe_int (pa_cons (@pe_op _ _ _ _ _ _ _ _ op_add (@pe_op _ _ _ _ _ _ _ _ op_add (pe_callB call_len_seq rfl T.z_len bt_len (pa_cons (pv 2) pa_nil)) (pe_callB call_len_seq rfl T.z_len bt_len (pa_cons (pv 3) pa_nil))) pe_int) pa_nil))) (pg_name (i := 4) sc.nd rfl (by first | exact Or.inl rfl | exact Or.inr rfl))
      (@pss_one _ _ _ (ps_expr (pe_bm PySem.F.plainAttrs_list PySem.F.slot_list_append PySem.F.type_list_append mt_append (pv 1) (pa_cons (pe_call (ok_best_pair T) (hr.mono (by omega)) rfl T.m_best_pair T.F_best_pair.kp T.b_best_pair .nil (pass_e fun _ _ z => z) (pa_cons (pv 2) (pa_cons (pv 3) (pa_cons (pv 4) pa_nil)))) pa_nil)))))))) pss_nil)
      (@pss_one _ _ _ (@ps_ret _ _ _ _ (pv 1))))), ?_⟩
  walk_at "kx"
  cases t with
  | en w =>
    obtain ⟨p, rfl, hp⟩ := TV.en tv
    have e0 : ("" : Str).length = 0 := by decide +kernel
    refine ⟨fun σ' H1 => Iv (∃ (z p1 l1 : Addr), Same H H1 ∧ H z = none ∧ H1 z = some (.lst [.ref p1]) ∧ H1 p1 = some (.tup [.int w, .ref l1]) ∧ H1 l1 = some (.lst [.str ""]) ∧ σ' = [some (.ref p), some (.ref z), none, none, none]), ?_, ?_⟩
    · walk_at "rd"
      rename_i l1 hl1 p1 hp1 z hz
      exact ⟨⟨z, p1, l1, ((same_new hl1 _).new hp1 _).new hz _, ((same_new hl1 _).new hp1 _).free hz, upd_same, kp upd_same hz, kp (kp upd_same hp1) hz, rfl⟩⟩
    rintro σ' H1 ⟨⟨z, p1, l1, S1, fz, hz, hp1, hl1, rfl⟩⟩
    have hp := S1 _ _ hp
    walk_at "rd"
    exact q _ z [.ref p1] [(w, [("" : Str)])] S1 fz hz (.cons hp1 hl1 .nil) (Rgs.snoc (us := []) (fun i u hu => by cases hu) (Rg.top (.en w))) rfl
  | fk w y n =>
    obtain ⟨p, u1, u2, rfl, hp, t1, t2⟩ := TV.fk tv
    have dd : max y.dp n.dp + 1 ≤ d + 1 := td
    have ll : y.lv + n.lv ≤ 50 := tl
    have yp := y.lv_pos
    have np := n.lv_pos
    have e0 : ("" : Str).length = 0 := by decide +kernel
    refine ⟨fun σ' H1 => Iv (∃ (z p1 l1 : Addr), Same H H1 ∧ H z = none ∧ H1 z = some (.lst [.ref p1]) ∧ H1 p1 = some (.tup [.int w, .ref l1]) ∧ H1 l1 = some (.lst [.str ""]) ∧ σ' = [some (.ref p), some (.ref z), none, none, none]), ?_, ?_⟩
    · walk_at "rd"
      rename_i l1 hl1 p1 hp1 z hz
      exact ⟨⟨z, p1, l1, ((same_new hl1 _).new hp1 _).new hz _, ((same_new hl1 _).new hp1 _).free hz, upd_same, kp upd_same hz, kp (kp upd_same hp1) hz, rfl⟩⟩
    rintro σ' H1 ⟨⟨z, p1, l1, S1, fz, hz, hp1, hl1, rfl⟩⟩
    have hp := S1 _ _ hp
    have t1 := t1.mono S1.t
    have t2 := t2.mono S1.t
    walk_at "rd"
    refine ⟨fun σ' H2 => Iv (∃ (ya : Addr) (ys : List V) (us : List (Int × List Str)), Same H1 H2 ∧ H1 ya = none ∧ H2 ya = some (.lst ys) ∧ RVs H2 ys us ∧ Rgs y us ∧ us.length = y.lv ∧ σ' = [some (.ref p), some (.ref z), some (.ref ya), none, none]), ?_, ?_⟩
    · walk_at "rd"
      rename_i H2 ya ys us S2 fy hy rv rg lu
      exact ⟨⟨ya, ys, us, S2, fy, hy, rv, rg, lu, rfl⟩⟩
    rintro σ' H2 ⟨⟨ya, ys, us, S2, fy, hy, ru, gu, lu, rfl⟩⟩
    have t2 := t2.mono S2.t
    have hp := S2 _ _ hp
    refine ⟨fun σ' H3 => Iv (∃ (na : Addr) (ns : List V) (ws : List (Int × List Str)), Same H2 H3 ∧ H2 na = none ∧ H3 na = some (.lst ns) ∧ RVs H3 ns ws ∧ Rgs n ws ∧ ws.length = n.lv ∧ σ' = [some (.ref p), some (.ref z), some (.ref ya), some (.ref na), none]), ?_, ?_⟩
    · walk_at "rd"
      rename_i H3 na ns ws S3 fn hn rv rg lw
      exact ⟨⟨na, ns, ws, S3, fn, hn, rv, rg, lw, rfl⟩⟩
    rintro σ' H3 ⟨⟨na, ns, ws, S3, fn, hn, rn, gw, lw, rfl⟩⟩
    have hz2 := S2 _ _ hz
    have nyz : ya ≠ z := Ne.symm (ne_of_none hz fy)
    have nnz : na ≠ z := Ne.symm (ne_of_none hz2 fn)
    have hz3 := S3 _ _ hz2
    have hy3 := S3 _ _ hy
    have ru3 := ru.mono S3
    have S03 := (S1.trans S2).trans S3
    have r0 : RVs H3 [.ref p1] [(w, [("" : Str)])] := .cons (S3 _ _ (S2 _ _ hp1)) (S3 _ _ (S2 _ _ hl1)) .nil
    have g0 : Rgs (.fk w y n) [(w, [("" : Str)])] := Rgs.snoc (us := []) (fun i u hu => by cases hu) (Rg.top (.fk w y n))
    have xl := ru3.length
    have nl := rn.length
    have ys0 : ys.length < sizeLine := small1000 (by omega)
    have ns0 : ns.length < sizeLine := small1000 (by omega)
    walk_at "rd"
    rw [show ((ys.length : Int) + (ns.length : Int) + 1 - 2).toNat = y.lv + n.lv - 1 by omega]
    refine for_range (lo := 2) (n := y.lv + n.lv - 1) (fun i σ' H' => Iv (∃ (xs : List V) (vs : List (Int × List Str)) (o4 : Option V), Same H H' ∧ H' z = some (.lst (.ref p1 :: xs)) ∧ RVs H' (.ref p1 :: xs) vs ∧ Rgs (.fk w y n) vs ∧ vs.length = i + 1 ∧ H' ya = some (.lst ys) ∧ H' na = some (.lst ns) ∧ RVs H' ys us ∧ RVs H' ns ws ∧ σ' = [some (.ref p), some (.ref z), some (.ref ya), some (.ref na), o4])) ⟨⟨[], _, _, S03, hz3, r0, g0, rfl, hy3, hn, ru3, rn, rfl⟩⟩ ?_ ?_
    · rintro i σ' H4 hi ⟨⟨xs, vs, o4, S4, hz4, r4, g4, l4, hy4, hn4, ru4, rn4, rfl⟩⟩
      have e2 : (2 : Int) + (i : Int) = ((i + 2 : Nat) : Int) := by omega
      have vl := r4.length
      have xs0 : (V.ref p1 :: xs).length < sizeLine := small1000 (by omega)
      rw [e2]
      walk_at "rd"
      rename_i H5 r l u S5 hr hl rg
      have hz5 := S5 _ _ hz4
      have od : Odd H5 z := ⟨_, hz5, fun s r e => by cases e⟩
      have ny5 := S5 _ _ hy4
      have nn5 := S5 _ _ hn4
      have rgl : Rg (.fk w y n) vs.length u := by rw [l4]; exact rg w
      have r6 : RVs (upd H5 z (.lst ((.ref p1 :: xs) ++ [.ref r]))) (.ref p1 :: (xs ++ [V.ref r])) (vs ++ [u]) := ((r4.mono S5).snoc hr hl).over od (g4.snoc rgl).ne (.lst ((.ref p1 :: xs) ++ [.ref r]))
      refine ⟨⟨xs ++ [.ref r], vs ++ [u], _, (S4.trans S5).upd fz _, ?_, r6, g4.snoc rgl, by rw [List.length_append, l4]; rfl, ?_, ?_, (ru4.mono S5).over od gu.ne _, (rn4.mono S5).over od gw.ne _, rfl⟩⟩
      · exact upd_same
      · rw [upd_ne nyz]; exact ny5
      · rw [upd_ne nnz]; exact nn5
    · rintro σ' H4 ⟨⟨xs, vs, o4, S4, hz4, r4, g4, l4, hy4, hn4, ru4, rn4, rfl⟩⟩
      walk_at "rd"
      exact q _ z _ vs S4 fz hz4 r4 g4 (by show vs.length = y.lv + n.lv; omega)

theorem ok_rungsA (T : Tx K mg) : ∀ d : Nat, FnOk P w K mg base (CXe P w) (d + 2) T.f_rungs T.d_rungs ["whole"] (sp_rungs K d) := by
  intro d
  induction d with
  | zero => exact ok_rungs0 T
  | succ d ih => exact ok_rungsS T d ih
theorem ok_rungs (T : Tx K mg) : FnOk P w K mg base (CXe P w) (20 + 2) T.f_rungs T.d_rungs ["whole"] (sp_rungs K 20) := by exact ok_rungsA T 20

theorem ok_ladder (T : Tx K mg) : FnOk P w K mg base (CXe P w) 23 T.f_ladder T.d_ladder ["tree"] (sp_ladder K) := by
  have sc := sc_ladder
  refine T.F_ladder.okx sc (fun vs H Q E h => ?_) (fun cdv A outer s H vs Q E hr h => ?_)
  · obtain ⟨v, t, B, rfl, tv, lt, td, b0, bz, tb, q⟩ := h
    rfl
  obtain ⟨v, t, B, rfl, tv, lt, td, b0, bz, tb, q⟩ := h
  have hu := hr.units0
  have hu2 := hr.units
  have hu1 := Nat.lt_of_le_of_lt (Nat.add_le_add_left (show 1 ≤ 64 by decide) _) hu2
  refine ⟨_, (@pss_cons _ _ _ _ _ (@ps_mid _ _ _ (@ps_set _ _ 1 _ _ _ _ sc.nd rfl (by first | exact Or.inl rfl | exact Or.inr rfl) (pe_call (ok_trees_by_place T) (hr.mono (by decide)) rfl T.m_trees_by_place T.F_trees_by_place.kp T.b_trees_by_place .nil (pass_e fun _ _ z => z) (pa_cons (pv 0) pa_nil)) (by rfl) (by first | exact .inl rfl | exact .inr rfl | assumption)))
      (@pss_cons _ _ _ _ _ (@ps_set _ _ 2 _ _ _ _ sc.nd rfl (by first | exact Or.inl rfl | exact Or.inr rfl) (pe_tup (pa_cons pe_int (pa_cons pe_int pa_nil))) (by rfl) (by first | exact .inl rfl | exact .inr rfl | assumption))
      (@pss_cons _ _ _ _ _ (@ps_mid _ _ _ (@ps_set _ _ 3 _ _ _ _ sc.nd rfl (by first | exact Or.inl rfl | exact Or.inr rfl) (@pe_lst _ _ _ _ pa_nil) (by rfl) (by first | exact .inl rfl | exact .inr rfl | assumption)))
      (@pss_cons _ _ _ _ _ (@ps_mid _ _ _ (@ps_set _ _ 4 _ _ _ _ sc.nd rfl (by first | exact Or.inl rfl | exact Or.inr rfl) (@pe_lst _ _ _ _ pa_nil) (by rfl) (by first | exact .inl rfl | exact .inr rfl | assumption)))
      (@pss_cons _ _ _ _ _ (ps_for powx rfl (pi_list (pe_call (ok_rungs T) (hr.mono (by decide)) rfl T.m_rungs T.F_rungs.kp T.b_rungs .nil (pass_e fun _ _ z => z) (pa_cons (pe_call (ok_in_whole_costs T) (hr.mono (by decide)) rfl T.m_in_whole_costs T.F_in_whole_costs.kp T.b_in_whole_costs .nil (pass_e fun _ _ z => z) (pa_cons (pv 0) pa_nil)) pa_nil))) (pg_name (i := 5) sc.nd rfl (by first | exact Or.inl rfl | exact Or.inr rfl))
      (@pss_cons _ _ _ _ _ (@ps_mid _ _ _ (@ps_set _ _ 6 _ _ _ _ sc.nd rfl (by first | exact Or.inl rfl | exact Or.inr rfl) (@pe_ix _ _ _ _ _ _ _ ix_tup (pv 5) pe_int (fun _ _ => rfl)) (by rfl) (by first | exact .inl rfl | exact .inr rfl | assumption)))
      (@pss_cons _ _ _ _ _ (@ps_mid _ _ _ (@ps_set _ _ 2 _ _ _ _ sc.nd rfl (by first | exact Or.inl rfl | exact Or.inr rfl) (pe_call (ok_cost_by_change T) (hr.mono (by decide)) rfl T.m_cost_by_change T.F_cost_by_change.kp T.b_cost_by_change .nil (pass_e fun _ _ z => z) (pa_cons (pv 1) (pa_cons (pv 2) (pa_cons (pv 3) (pa_cons (pv 6) pa_nil))))) (by rfl) (by first | exact .inl rfl | exact .inr rfl | assumption)))
      (@pss_cons _ _ _ _ _ (ps_expr (pe_bm PySem.F.plainAttrs_list PySem.F.slot_list_append PySem.F.type_list_append mt_append (pv 4) (pa_cons (pe_tup (pa_cons (pe_callB call_len_seq rfl T.z_len bt_len (pa_cons (pv 6) pa_nil)) (pa_cons (pv 2) (pa_cons (pv 6) pa_nil)))) pa_nil)))
      (@pss_one _ _ _ (@ps_mid _ _ _ (@ps_set _ _ 3 _ _ _ _ sc.nd rfl (by first | exact Or.inl rfl | exact Or.inr rfl) (pv 6) (by rfl) (by first | exact .inl rfl | exact .inr rfl | assumption))))))))
      (@pss_one _ _ _ (@ps_ret _ _ _ _ (pv 4)))))))), ?_⟩
  walk_at "kx"
  have ld := t.lv_pos
  refine ⟨fun σ' H1 => Iv (∃ (d : Addr) (kvs : List (Key × V)) (es : List (Str × Tr)), Same H H1 ∧ H1 d = some (.dK kvs) ∧ DT K B H1 kvs es ∧ es.Perm (plt t "") ∧ σ' = [some v, some (.ref d), none, none, none, none, none]), ?_, ?_⟩
  · walk_at "rd"
    rename_i H1 d kvs es S1 fd hd dt pm
    exact ⟨⟨d, kvs, es, S1, hd, dt, pm, rfl⟩⟩
  rintro σ' H1 ⟨⟨d, kvs, es, S1, hd, dt, pm, rfl⟩⟩
  have tv1 := tv.mono S1.t
  walk_at "rd"
  rename_i c hc
  have Sc1 := same_new hc (H := H1) (.tup [.int 0, .int 1])
  have hc1 : upd H1 c (.tup [.int 0, .int 1]) c = some (rt (Rat.divInt 0 B)) := by rw [rt_zero]; exact upd_same
  generalize upd H1 c (.tup [.int 0, .int 1]) = H1' at Sc1 hc1 ⊢
  refine ⟨fun σ' H2 => Iv (∃ (ba : Addr), Same H1' H2 ∧ H2 ba = some (.lst (([] : List Str).map V.str)) ∧ σ' = [some v, some (.ref d), some (.ref c), some (.ref ba), none, none, none]), ?_, ?_⟩
  · walk_at "rd"
    rename_i ba hba
    exact ⟨⟨ba, same_new hba _, upd_same, rfl⟩⟩
  rintro σ' H2 ⟨⟨ba, S2', hba, rfl⟩⟩
  have S2 := Sc1.trans S2'
  have hc := S2' _ _ hc1
  refine ⟨fun σ' H3 => Iv (∃ (z : Addr), Same H2 H3 ∧ H2 z = none ∧ H3 z = some (.lst []) ∧ σ' = [some v, some (.ref d), some (.ref c), some (.ref ba), some (.ref z), none, none]), ?_, ?_⟩
  · walk_at "rd"
    rename_i z hz
    exact ⟨⟨z, same_new hz _, hz, upd_same, rfl⟩⟩
  rintro σ' H3 ⟨⟨z, S3, fz, hz, rfl⟩⟩
  have tv3 := (tv1.mono S2.t).mono S3.t
  have fz0 : H z = none := (S1.trans S2).free fz
  have nbz : ba ≠ z := ne_of_none hba fz
  walk_at "rd"
  rename_i H4 x t' C S4 tx sc c0 cb tb'
  have l1 := sc.lv
  have d1 := sc.dp
  walk_at "rd"
  rename_i H5 r xs us S5 fr hr rv rg lu
  have S35 := S4.trans S5
  have nrz : r ≠ z := Ne.symm (ne_of_none (S4 _ _ hz) fr)
  have xl := rv.length
  refine for_list (K := K) (a := r) (xs := xs) (fun i σ' H' => Iv (∃ (c ba : Addr) (zs : List V) (ws : List (Int × List Str)) (bs : List Str) (o5 o6 : Option V), Same H H' ∧ H' d = some (.dK kvs) ∧ DT K B H' kvs es ∧ H' r = some (.lst xs) ∧ RVs H' xs us ∧ H' c = some (rt (Rat.divInt (cstW t bs) B)) ∧ H' ba = some (.lst (bs.map V.str)) ∧ ba ≠ z ∧ (bs = [] ∨ ∃ gs, PI t "" bs gs) ∧ H' z = some (.lst zs) ∧ LDs B H' zs ws ∧ Rgs t ws ∧ ws.length = i ∧ σ' = [some v, some (.ref d), some (.ref c), some (.ref ba), some (.ref z), o5, o6])) ⟨⟨c, ba, [], [], [], _, _, ((S1.trans S2).trans S3).trans S35, S35 _ _ (S3 _ _ (S2 _ _ hd)), dt.mono (((S2.trans S3).trans S35).t), hr, rv, S35 _ _ (S3 _ _ hc), S35 _ _ (S3 _ _ hba), nbz, .inl rfl, S35 _ _ hz, .nil, fun i u hu => (by cases hu), rfl, rfl⟩⟩ (fun i σ' H' _ y => by obtain ⟨⟨_, _, _, _, _, _, _, _, _, _, k, _⟩⟩ := y; exact SqL.of k) ?_ ?_
  · rintro i y σ' H6 hx ⟨⟨c, ba, zs, ws, bs, o5, o6, S6, hd6, dt6, hr6, rv6, hc6, hba6, nbz, hbs, hz6, lv6, gw, lw, rfl⟩⟩
    obtain ⟨p, l, u, rfl, hu, hp, hl⟩ := rv6.get hx
    have il := (List.getElem?_eq_some_iff.mp hu).1
    have ru := rg i u hu
    obtain ⟨s, rs⟩ := sc.rg b0 c0 ru
    obtain ⟨gs, pi⟩ := rs.ps.pi
    have es_ : s = cstW t u.2 := rs.ps.sum (W := wA t) wA_at
    have ul := rs.len
    have ul64 : u.2.length < 64 := by show u.2.length < 64; have : u.2.length = i + 1 := ul; omega
    have und : u.2.Nodup := pw_nodup pi.up
    have ukn : ∀ x ∈ u.2, x ∈ (plc t "").map (·.1) := pi.kn
    have bnd : bs.Nodup ∧ bs.length < 64 ∧ (∀ x ∈ bs, x ∈ (plc t "").map (·.1)) ∧ -10000000000000000000000000000000000 ≤ cstW t bs ∧ cstW t bs ≤ 10000000000000000000000000000000000 := by
      rcases hbs with rfl | ⟨gs2, pi2⟩
      · exact ⟨List.nodup_nil, by decide, fun x hx => (by cases hx), (show -10000000000000000000000000000000000 ≤ (0 : Int) by decide), (show (0 : Int) ≤ 10000000000000000000000000000000000 by decide)⟩
      · have pl2 := pi2.len.1
        have := cst_bd tb pi2 (by omega)
        exact ⟨pw_nodup pi2.up, by omega, pi2.kn, this.1, this.2⟩
    obtain ⟨b1, b2, b3, b4, b5⟩ := bnd
    refine ⟨fun σ' H7 => Iv (H7 = H6 ∧ σ' = [some v, some (.ref d), some (.ref c), some (.ref ba), some (.ref z), some (.ref p), some (.ref l)]), ?_, ?_⟩
    · walk_at "rd"
      exact ⟨⟨rfl, rfl⟩⟩
    rintro σ' H7 ⟨⟨rfl, rfl⟩⟩
    refine ⟨fun σ' H8 => Iv (∃ (c2 : Addr), Same H7 H8 ∧ H8 c2 = some (rt (Rat.divInt (cstW t u.2) B)) ∧ σ' = [some v, some (.ref d), some (.ref c2), some (.ref ba), some (.ref z), some (.ref p), some (.ref l)]), ?_, ?_⟩
    · walk_at "rd"
      rename_i H8 c2 S8 hc8
      rw [show cstW t bs - ((lss bs u.2).map (wA t)).sum + ((lss u.2 bs).map (wA t)).sum = cstW t u.2 from sum_change (wA t) b1 und] at hc8
      walk_at "rd"
      exact ⟨⟨c2, S8, hc8, rfl⟩⟩
    rintro σ' H8 ⟨⟨c2, S8, hc8, rfl⟩⟩
    have hz8 := S8 _ _ hz6
    have hl8 := S8 _ _ hl
    have zl := lv6.length
    have zs0 : zs.length < sizeLine := small1000 (by omega)
    have ls0 : (u.2.map V.str).length < sizeLine := small1000 (by rw [List.length_map]; omega)
    have eul : (u.2.map V.str).length = u.2.length := List.length_map _
    walk_at "rd"
    rename_i pp hpp
    subst es_
    rw [eul]
    have hpp1 := upd_same (H := H8) (a := pp) (o := .tup [.int (u.2.length : Int), .ref c2, .ref l])
    have Sn := same_new hpp (H := H8) (.tup [.int (u.2.length : Int), .ref c2, .ref l])
    generalize upd H8 pp (.tup [.int (u.2.length : Int), .ref c2, .ref l]) = H9 at hpp1 Sn ⊢
    have S79 := S8.trans Sn
    have hz9 := Sn _ _ hz8
    have lv9 := lv6.mono S79
    have od9 := lv9.odd hz9
    have hl9 := Sn _ _ hl8
    have hc9 := Sn _ _ hc8
    have une : u.2 ≠ [] := fun e => by rw [e] at ul; cases ul
    have nlz := od9.lst hl9 une
    have ndz : d ≠ z := fun e => by rw [e, hz6] at hd6; cases hd6
    have rs2 : Rg t ws.length (cstW t u.2, u.2) := by rw [lw]; exact rs
    have gw2 := gw.snoc rs2
    have lv10 := (lv9.snoc (u := (cstW t u.2, u.2)) hpp1 hc9 hl9).over od9 gw2.ne (.lst (zs ++ [.ref pp]))
    have hd10 : upd H9 z (.lst (zs ++ [.ref pp])) d = some (.dK kvs) := by rw [upd_ne ndz]; exact S79 _ _ hd6
    have hr10 : upd H9 z (.lst (zs ++ [.ref pp])) r = some (.lst xs) := by rw [upd_ne nrz]; exact S79 _ _ hr6
    have hc10 : upd H9 z (.lst (zs ++ [.ref pp])) c2 = some (rt (Rat.divInt (cstW t u.2) B)) := by rw [upd_ne (od9.tup hc9)]; exact hc9
    have hl10 : upd H9 z (.lst (zs ++ [.ref pp])) l = some (.lst (u.2.map V.str)) := by rw [upd_ne nlz]; exact hl9
    have rv10 := (rv6.mono S79).over od9 rg.ne (.lst (zs ++ [.ref pp]))
    have dt10 := dt6.mono (S79.t.lst hz9 (.lst (zs ++ [.ref pp])))
    have hz10 := upd_same (H := H9) (a := z) (o := .lst (zs ++ [.ref pp]))
    have S10 := (S6.trans S79).upd fz0 (.lst (zs ++ [.ref pp]))
    generalize upd H9 z (.lst (zs ++ [.ref pp])) = H10 at lv10 hd10 hr10 hc10 hl10 rv10 dt10 hz10 S10 ⊢
    refine ⟨fun σ' H11 => Iv (H11 = H10 ∧ σ' = [some v, some (.ref d), some (.ref c2), some (.ref l), some (.ref z), some (.ref p), some (.ref l)]), ?_, ?_⟩
    · walk_at "rd"
      exact ⟨⟨rfl, rfl⟩⟩
    rintro σ' H11 ⟨⟨rfl, rfl⟩⟩
    exact ⟨⟨c2, l, _, _, u.2, _, _, S10, hd10, dt10, hr10, rv10, hc10, hl10, nlz, .inr ⟨gs, pi⟩, hz10, lv10, gw2, by rw [List.length_append, lw]; rfl, rfl⟩⟩
  · rintro σ' H6 ⟨⟨c, ba, zs, ws, bs, o5, o6, S6, hd6, dt6, hr6, rv6, hc6, hba6, nbz, hbs, hz6, lv6, gw, lw, rfl⟩⟩
    walk_at "rd"
    exact q _ z zs ws S6 hz6 lv6 gw (by omega)

theorem ok_law_cell (T : Tx K mg) : FnOk P w K mg base (CXe P w) 1 T.f_law_cell T.d_law_cell ["_law_script", "_law_k"] (sp_law_cell K) := by
  have sc := sc_law_cell
  refine T.F_law_cell.okx sc (fun vs H Q E h => ?_) (fun cdv A outer s H vs Q E hr h => ?_)
  · obtain ⟨a, ns, k, rfl, hS, hk, q⟩ := h
    rfl
  obtain ⟨a, ns, k, rfl, hS, hk, q⟩ := h
  have hu := hr.units0
  have hu2 := hr.units
  have hu1 := Nat.lt_of_le_of_lt (Nat.add_le_add_left (show 1 ≤ 64 by decide) _) hu2
  refine ⟨_, (@pss_cons _ _ _ _ _ (@ps_if _ _ _ _ _ _ _ _ (@pt_cmpR _ _ _ _ _ _ _ _ op_lt (pv 1) (pe_callB call_len_seq rfl T.z_len bt_len (pa_cons (pv 0) pa_nil)) (nomark _)) (@pss_one _ _ _ (@ps_ret _ _ _ _ (@pe_ix _ _ _ _ _ _ _ ix_list (pv 0) (pv 1) (fun _ _ => rfl)))) pss_nil)
      (@pss_one _ _ _ (@ps_ret _ _ _ _ pe_int))), ?_⟩
  walk_at "kx"
  have hl2 : (ns.map V.int).length = ns.length := List.length_map _
  walk_at "rd"
  refine ite3 (fun h => ?_) (fun h => ?_)
  · obtain ⟨v, hv⟩ := at_ints (ns := ns) (k := k) hk (by omega)
    walk_at "rd"
    exact q v
  · exact q 0

theorem ok_law_next (T : Tx K mg) : FnOk P w K mg base (CXe P w) 1 T.f_law_next T.d_law_next ["_law_cell_here", "_law_k"] sp_law_next := by
  have sc := sc_law_next
  refine T.F_law_next.okx sc (fun vs H Q E h => ?_) (fun cdv A outer s H vs Q E hr h => ?_)
  · obtain ⟨c, k, rfl, k0, k3, q⟩ := h
    rfl
  obtain ⟨c, k, rfl, k0, k3, q⟩ := h
  have hu := hr.units0
  have hu2 := hr.units
  have hu1 := Nat.lt_of_le_of_lt (Nat.add_le_add_left (show 1 ≤ 64 by decide) _) hu2
  refine ⟨_, (@pss_one _ _ _ (@ps_ret _ _ _ _ (@pe_op _ _ _ _ _ _ _ _ op_mod (@pe_op _ _ _ _ _ _ _ _ op_add (@pe_op _ _ _ _ _ _ _ _ op_add (@pe_op _ _ _ _ _ _ _ _ op_mulB (pv 0) (@pe_op _ _ _ _ _ _ _ _ op_add pe_int (@pe_op _ _ _ _ _ _ _ _ op_mulB pe_int (pv 1)))) pe_int) (pv 1)) pe_int))), ?_⟩
  walk_at "kx"
  have m1 := mulN c k0 k3
  walk_at "rd"
  exact q _ (Int.emod_nonneg _ (by decide)) (Int.emod_lt_of_pos _ (by decide))

theorem ok_law_ratio (T : Tx K mg) : FnOk P w K mg base (CXe P w) 1 T.f_law_ratio T.d_law_ratio ["_law_top", "_law_bottom"] sp_law_ratio := by
  have sc := sc_law_ratio
  refine T.F_law_ratio.okx sc (fun vs H Q E h => ?_) (fun cdv A outer s H vs Q E hr h => ?_)
  · obtain ⟨t, b, rfl, hb, bz, q⟩ := h
    rfl
  obtain ⟨t, b, rfl, hb, bz, q⟩ := h
  have hu := hr.units0
  have hu2 := hr.units
  have hu1 := Nat.lt_of_le_of_lt (Nat.add_le_add_left (show 1 ≤ 64 by decide) _) hu2
  refine ⟨_, (@pss_cons _ _ _ _ _ (@ps_set _ _ 2 _ _ _ _ sc.nd rfl (by first | exact Or.inl rfl | exact Or.inr rfl) (pe_callB call_abs rfl T.z_abs bt_abs (pa_cons (pv 0) pa_nil)) (by rfl) (by first | exact .inl rfl | exact .inr rfl | assumption))
      (@pss_cons _ _ _ _ _ (@ps_set _ _ 3 _ _ _ _ sc.nd rfl (by first | exact Or.inl rfl | exact Or.inr rfl) (pv 1) (by rfl) (by first | exact .inl rfl | exact .inr rfl | assumption))
      (@pss_cons _ _ _ _ _ (ps_while powx (@pt_cmpR _ _ _ _ _ _ _ _ op_gt (pv 3) pe_int (nomark _)) (@pss_cons _ _ _ _ _ (@ps_set _ _ 4 _ _ _ _ sc.nd rfl (by first | exact Or.inl rfl | exact Or.inr rfl) (@pe_op _ _ _ _ _ _ _ _ op_mod (pv 2) (pv 3)) (by rfl) (by first | exact .inl rfl | exact .inr rfl | assumption))
      (@pss_cons _ _ _ _ _ (@ps_set _ _ 2 _ _ _ _ sc.nd rfl (by first | exact Or.inl rfl | exact Or.inr rfl) (pv 3) (by rfl) (by first | exact .inl rfl | exact .inr rfl | assumption))
      (@pss_one _ _ _ (@ps_set _ _ 3 _ _ _ _ sc.nd rfl (by first | exact Or.inl rfl | exact Or.inr rfl) (pv 4) (by rfl) (by first | exact .inl rfl | exact .inr rfl | assumption))))))
      (@pss_one _ _ _ (@ps_ret _ _ _ _ (pe_tup (pa_cons (@pe_op _ _ _ _ _ _ _ _ op_fdivB (pv 0) (pv 2)) (pa_cons (@pe_op _ _ _ _ _ _ _ _ op_fdivB (pv 1) (pv 2)) pa_nil)))))))), ?_⟩
  walk_at "kx"
  walk_at "rd"
  refine while_by (fun σ H' => H' = H ∧ ∃ (x y : Int) (r : Option V), σ = [some (.int t), some (.int b), some (.int x), some (.int y), r] ∧ M.Inv t b x y)
    (fun σ _ => match σ with | [_, _, _, some (.int y), _] => y.toNat | _ => 0) ⟨rfl, _, _, _, rfl, M.Inv.start t b (by omega)⟩ ?_ ?_
  · rintro σ' H' ⟨rfl, x, y, r, rfl, iv⟩
    have h1 := iv.y0
    walk_at "rd"
    refine ite3 (fun hy => ?_) (fun c => ?_)
    · walk_at "rd"
      exact ⟨⟨rfl, _, _, _, rfl, iv.turn hy⟩, M.less hy⟩
    · have e := iv.out (show y = 0 by omega) (by omega)
      subst e
      have cm : ∀ i, CDivB i (M.G t b) := fun i => ⟨M.G_pos t b, (bz.le (M.G_le (by omega))).log2⟩
      have c1 := cm t
      have c2 := cm b
      walk_at "rd"
      exact Nw.low hb q _ (by assumption)
  · rintro σ' H' Q1 Q2 hq ⟨v, e, i, j, ei, ej, k, ek, y⟩
    exact ⟨v, e, i, j, ei, ej, k, ek, hq _ _ y⟩

theorem ok_law_alike (T : Tx K mg) : FnOk P w K mg base (CXe P w) 1 T.f_law_alike T.d_law_alike ["_law_found", "_law_due"] sp_law_alike := by
  have sc := sc_law_alike
  refine T.F_law_alike.okx sc (fun vs H Q E h => ?_) (fun cdv A outer s H vs Q E hr h => ?_)
  · obtain ⟨p1, p2, x, y, rfl, h1, h2, q⟩ := h
    rfl
  obtain ⟨p1, p2, x, y, rfl, h1, h2, q⟩ := h
  have hu := hr.units0
  have hu2 := hr.units
  have hu1 := Nat.lt_of_le_of_lt (Nat.add_le_add_left (show 1 ≤ 64 by decide) _) hu2
  refine ⟨_, (@pss_cons _ _ _ _ _ (@ps_if _ _ _ _ _ _ _ _ (PW.pt (pw_or (pt_not (pt_val (pe_callB call_isi rfl T.z_isinstance bt_isinstance (pa_cons (pv 0) (pa_cons (pe_bltn (v := .ty "tuple") rfl T.z_tuple bt_tuple rfl) pa_nil))))) (pw_or1 (@pt_cmpR _ _ _ _ _ _ _ _ op_neI (pe_callB call_len_seq rfl T.z_len bt_len (pa_cons (pv 0) pa_nil)) pe_int (nomark _))))) (@pss_one _ _ _ (@ps_ret _ _ _ _ pe_bl)) pss_nil)
      (@pss_cons _ _ _ _ _ (ps_for powx rfl (pi_range1 rfl T.z_range (pa_cons pe_int pa_nil)) (pg_name (i := 2) sc.nd rfl (by first | exact Or.inl rfl | exact Or.inr rfl))
      (@pss_one _ _ _ (@ps_if _ _ _ _ _ _ _ _ (PW.pt (pw_or (pt_not (pt_val (pe_callB call_isi rfl T.z_isinstance bt_isinstance (pa_cons (@pe_ix _ _ _ _ _ _ _ ix_tup (pv 0) (pv 2) (fun _ _ => rfl)) (pa_cons (pe_bltn (v := .ty "int") rfl T.z_int bt_int rfl) pa_nil))))) (pw_or (pt_val (pe_callB call_isi rfl T.z_isinstance bt_isinstance (pa_cons (@pe_ix _ _ _ _ _ _ _ ix_tup (pv 0) (pv 2) (fun _ _ => rfl)) (pa_cons (pe_bltn (v := .ty "bool") rfl T.z_bool bt_bool rfl) pa_nil)))) (pw_or1 (@pt_cmpR _ _ _ _ _ _ _ _ op_neI (@pe_ix _ _ _ _ _ _ _ ix_tup (pv 0) (pv 2) (fun _ _ => rfl)) (@pe_ix _ _ _ _ _ _ _ ix_tup (pv 1) (pv 2) (fun _ _ => rfl)) (nomark _)))))) (@pss_one _ _ _ (@ps_ret _ _ _ _ pe_bl)) pss_nil)))
      (@pss_one _ _ _ (@ps_ret _ _ _ _ pe_bl)))), ?_⟩
  walk_at "kx"
  walk_at "rd"
  refine for_range (n := (2 : Int).toNat) (fun i σ H' => Iv (H' = H ∧ ∃ o2, σ = [some (.ref p1), some (.ref p2), o2])) ⟨⟨rfl, _, rfl⟩⟩ ?_ ?_
  · rintro i σ H' hi ⟨⟨rfl, o2, rfl⟩⟩
    have hi' : i < 2 := hi
    have : i = 0 ∨ i = 1 := by omega
    rcases this with rfl | rfl
    · walk_at "rd"
      exact ⟨⟨rfl, _, rfl⟩⟩
    · walk_at "rd"
      exact ⟨⟨rfl, _, rfl⟩⟩
  · rintro σ H' ⟨⟨rfl, o2, rfl⟩⟩
    walk_at "rd"
    exact q

theorem ok_law_joined (T : Tx K mg) : FnOk P w K mg base (CXe P w) 1 T.f_law_joined T.d_law_joined ["_law_pile", "_law_gain"] (sp_joined38 K) := by
  have sc := sc_law_joined
  refine T.F_law_joined.okx sc (fun vs H Q E h => ?_) (fun cdv A outer s H vs Q E hr h => ?_)
  · obtain ⟨a, g, ys, v1, v2, t1, t2, rfl, ha, hl, tv1, tv2, q⟩ := h
    rfl
  obtain ⟨a, g, ys, v1, v2, t1, t2, rfl, ha, hl, tv1, tv2, q⟩ := h
  have hu := hr.units0
  have hu2 := hr.units
  have hu1 := Nat.lt_of_le_of_lt (Nat.add_le_add_left (show 1 ≤ 64 by decide) _) hu2
  refine ⟨_, (@pss_cons _ _ _ _ _ (@ps_set _ _ 2 _ _ _ _ sc.nd rfl (by first | exact Or.inl rfl | exact Or.inr rfl) (@pe_ix _ _ _ _ _ _ _ ix_list (pv 0) (pe_un un_neg pe_int) (fun _ _ => rfl)) (by rfl) (by first | exact .inl rfl | exact .inr rfl | assumption))
      (@pss_cons _ _ _ _ _ (@ps_set _ _ 3 _ _ _ _ sc.nd rfl (by first | exact Or.inl rfl | exact Or.inr rfl) (@pe_ix _ _ _ _ _ _ _ ix_list (pv 0) (pe_un un_neg pe_int) (fun _ _ => rfl)) (by rfl) (by first | exact .inl rfl | exact .inr rfl | assumption))
      (@pss_one _ _ _ (@ps_ret _ _ _ _ (@pe_op _ _ _ _ _ _ _ _ op_cat (pe_slice sl_list (pv 0) po_none (po_some (pe_un un_neg pe_int))) (@pe_lst _ _ _ _ (pa_cons (pe_tup (pa_cons pe_str (pa_cons (@pe_op _ _ _ _ _ _ _ _ op_add (@pe_op _ _ _ _ _ _ _ _ op_add (@pe_ix _ _ _ _ _ _ _ ix_tup (pv 3) pe_int (fun _ _ => rfl)) (@pe_ix _ _ _ _ _ _ _ ix_tup (pv 2) pe_int (fun _ _ => rfl))) (pv 1)) (pa_cons (pv 3) (pa_cons (pv 2) pa_nil))) se_c)) pa_nil))))))), ?_⟩
  walk_at "kx"
  have a1 : atI (ys ++ [v1] ++ [v2]) (-1) = some v2 := L2.atI_last _ _
  have a2 := at_m2 ys v1 v2
  have ec := cut_m2 ys v1 v2
  obtain ⟨p1, k1, r1, rfl, hp1⟩ := TV.wt tv1
  obtain ⟨p2, k2, r2, rfl, hp2⟩ := TV.wt tv2
  have lz : (ys ++ [V.ref p1] ++ [V.ref p2]).length = ys.length + 2 := by simp
  rw [Tr.wt_w] at hp1 hp2
  walk_at "rd"
  rename_i l1 hl1
  refine ⟨at27, ?_⟩
  walk_at "rd"
  refine ⟨at27, ?_⟩
  walk_at "rd"
  rename_i pp hpp lp hlp
  rw [ec] at hpp hlp ⊢
  refine ⟨szB (by show _ + 1 ≤ _; omega), fun lr hlr => ?_⟩
  have S3 := ((same_new hl1 (H := H) (.lst ys)).new hpp (.tup [.str "fork", .int (t1.w + t2.w + g), .ref p1, .ref p2])).new hlp (.lst [.ref pp])
  have S4 := S3.new hlr (.lst (ys ++ [.ref pp]))
  exact q _ lr (.ref pp) S4 (S3.free hlr) upd_same (TV.fk' (kp (kp upd_same hlp) hlr) (tv1.mono S4.t) (tv2.mono S4.t))

theorem ok_law_tree (T : Tx K mg) : FnOk P w K mg base (CXe P w) 2 T.f_law_tree T.d_law_tree ["_law_cells", "_law_scale"] (sp_tree38 K) := by
  have sc := sc_law_tree
  refine T.F_law_tree.okx sc (fun vs H Q E h => ?_) (fun cdv A outer s H vs Q E hr h => ?_)
  · obtain ⟨a, ns, s, rfl, ha, nl, s0, s1, q⟩ := h
    rfl
  obtain ⟨a, ns, s, rfl, ha, nl, s0, s1, q⟩ := h
  have hu := hr.units0
  have hu2 := hr.units
  have hu1 := Nat.lt_of_le_of_lt (Nat.add_le_add_left (show 1 ≤ 64 by decide) _) hu2
  refine ⟨_, (@pss_cons _ _ _ _ _ (@ps_set _ _ 2 _ _ _ _ sc.nd rfl (by first | exact Or.inl rfl | exact Or.inr rfl) (@pe_lst _ _ _ _ pa_nil) (by rfl) (by first | exact .inl rfl | exact .inr rfl | assumption))
      (@pss_cons _ _ _ _ _ (@ps_mid _ _ _ (ps_for powx rfl (pi_list (pv 0)) (pg_name (i := 3) sc.nd rfl (by first | exact Or.inl rfl | exact Or.inr rfl))
      (@pss_one _ _ _ (@ps_if _ _ _ _ _ _ _ _ (PW.pt (pw_or (@pt_cmpR _ _ _ _ _ _ _ _ op_lt (@pe_op _ _ _ _ _ _ _ _ op_mod (pv 3) pe_int) pe_int (nomark _)) (pw_or1 (@pt_cmpR _ _ _ _ _ _ _ _ op_lt (pe_callB call_len_seq rfl T.z_len bt_len (pa_cons (pv 2) pa_nil)) pe_int (nomark _))))) (@pss_one _ _ _ (ps_expr (pe_bm PySem.F.plainAttrs_list PySem.F.slot_list_append PySem.F.type_list_append mt_append (pv 2) (pa_cons (pe_tup (pa_cons pe_str (pa_cons (@pe_op _ _ _ _ _ _ _ _ op_mulB (@pe_op _ _ _ _ _ _ _ _ op_sub (@pe_op _ _ _ _ _ _ _ _ op_mod (@pe_op _ _ _ _ _ _ _ _ op_fdivB (pv 3) pe_int) pe_int) pe_int) (pv 1)) pa_nil) se_c)) pa_nil)))) (@pss_one _ _ _ (@ps_set _ _ 2 _ _ _ _ sc.nd rfl (by first | exact Or.inl rfl | exact Or.inr rfl) (pe_call (ok_law_joined T) (hr.mono (by decide)) rfl T.m_law_joined T.F_law_joined.kp T.b_law_joined .nil (pass_e fun _ _ z => z) (pa_cons (pv 2) (pa_cons (@pe_op _ _ _ _ _ _ _ _ op_mulB (@pe_op _ _ _ _ _ _ _ _ op_sub (@pe_op _ _ _ _ _ _ _ _ op_mod (@pe_op _ _ _ _ _ _ _ _ op_fdivB (pv 3) pe_int) pe_int) pe_int) (pv 1)) pa_nil))) (by rfl) (by first | exact .inl rfl | exact .inr rfl | assumption)))))))
      (@pss_cons _ _ _ _ _ (@ps_mid _ _ _ (@ps_if _ _ _ _ _ _ _ _ (@pt_cmpR _ _ _ _ _ _ _ _ op_eqI (pe_callB call_len_seq rfl T.z_len bt_len (pa_cons (pv 2) pa_nil)) pe_int (nomark _)) (@pss_one _ _ _ (ps_expr (pe_bm PySem.F.plainAttrs_list PySem.F.slot_list_append PySem.F.type_list_append mt_append (pv 2) (pa_cons (pe_tup (pa_cons pe_str (pa_cons (pv 1) pa_nil) se_c)) pa_nil)))) pss_nil))
      (@pss_cons _ _ _ _ _ (@ps_mid _ _ _ (ps_while powx (@pt_cmpR _ _ _ _ _ _ _ _ op_gt (pe_callB call_len_seq rfl T.z_len bt_len (pa_cons (pv 2) pa_nil)) pe_int (nomark _)) (@pss_one _ _ _ (@ps_set _ _ 2 _ _ _ _ sc.nd rfl (by first | exact Or.inl rfl | exact Or.inr rfl) (pe_call (ok_law_joined T) (hr.mono (by decide)) rfl T.m_law_joined T.F_law_joined.kp T.b_law_joined .nil (pass_e fun _ _ z => z) (pa_cons (pv 2) (pa_cons (@pe_op _ _ _ _ _ _ _ _ op_mulB (pe_callB call_len_seq rfl T.z_len bt_len (pa_cons (pv 2) pa_nil)) (pv 1)) pa_nil))) (by rfl) (by first | exact .inl rfl | exact .inr rfl | assumption)))))
      (@pss_cons _ _ _ _ _ (@ps_mid _ _ _ (@ps_if _ _ _ _ _ _ _ _ (PW.pt (pw_and (pt_chain op_lt op_lt pe_int (pe_callB call_len_seq rfl T.z_len bt_len (pa_cons (pv 0) pa_nil)) pe_int) (pw_and1 (@pt_cmpR _ _ _ _ _ _ _ _ op_eqI (@pe_op _ _ _ _ _ _ _ _ op_mod (@pe_ix _ _ _ _ _ _ _ ix_list (pv 0) pe_int (fun _ _ => rfl)) pe_int) pe_int (nomark _))))) (@pss_one _ _ _ (@ps_set _ _ 2 _ _ _ _ sc.nd rfl (by first | exact Or.inl rfl | exact Or.inr rfl) (pe_call (ok_law_joined T) (hr.mono (by decide)) rfl T.m_law_joined T.F_law_joined.kp T.b_law_joined .nil (pass_e fun _ _ z => z) (pa_cons (@pe_lst _ _ _ _ (pa_cons (@pe_ix _ _ _ _ _ _ _ ix_list (pv 2) pe_int (fun _ _ => rfl)) (pa_cons (@pe_ix _ _ _ _ _ _ _ ix_list (pv 2) pe_int (fun _ _ => rfl)) pa_nil))) (pa_cons (@pe_op _ _ _ _ _ _ _ _ op_mulB (@pe_op _ _ _ _ _ _ _ _ op_mod (@pe_op _ _ _ _ _ _ _ _ op_fdivB (@pe_ix _ _ _ _ _ _ _ ix_list (pv 0) pe_int (fun _ _ => rfl)) pe_int) pe_int) (pv 1)) pa_nil))) (by rfl) (by first | exact .inl rfl | exact .inr rfl | assumption))) pss_nil))
      (@pss_one _ _ _ (@ps_ret _ _ _ _ (@pe_ix _ _ _ _ _ _ _ ix_list (pv 2) pe_int (fun _ _ => rfl))))))))), ?_⟩
  walk_at "kx"
  have hl2 : (ns.map V.int).length = ns.length := List.length_map _
  walk_at "rd"
  rename_i z hz
  refine ⟨fun σ' H' => Iv (∃ (z : Addr) (xs : List V) (ts : List Tr) (o3 : Option V), Same H H' ∧ H z = none ∧ H' z = some (.lst xs) ∧ TVs K H' xs (ts.map trD) ∧ lvs ts ≤ ns.length ∧ (∀ t ∈ ts, t.sb) ∧ σ' = [some (.ref a), some (.int s), some (.ref z), o3]), ?_, ?_⟩
  · walk_at "rd"
    refine for_list (K := K) (a := a) (xs := ns.map V.int) (fun i σ' H' => Iv (∃ (z : Addr) (xs : List V) (ts : List Tr) (o3 : Option V), Same H H' ∧ H z = none ∧ H' z = some (.lst xs) ∧ TVs K H' xs (ts.map trD) ∧ lvs ts ≤ i ∧ (∀ t ∈ ts, t.sb) ∧ σ' = [some (.ref a), some (.int s), some (.ref z), o3])) ⟨⟨z, [], [], _, same_new hz _, hz, upd_same, .nil, Nat.le_refl _, fun t ht => (by cases ht), rfl⟩⟩ (fun i σ' H' _ y => by obtain ⟨⟨_, _, _, _, S, _⟩⟩ := y; exact SqL.of (S _ _ ha)) ?_ ?_
    · rintro i x σ' H1 hx ⟨⟨z, xs, ts, o3, S1, fz, hz, tx, lv, sb, rfl⟩⟩
      have il := (List.getElem?_eq_some_iff.mp hx).1
      rw [List.getElem?_map] at hx
      obtain ⟨c, hc, rfl⟩ := Option.map_eq_some_iff.mp hx
      have xl := tx.length
      rw [List.length_map] at xl
      have tl := lvs_len ts
      have xz : xs.length < sizeLine := small1000 (by omega)
      have x0 := Int.emod_nonneg (c / 4) (show (41 : Int) ≠ 0 by decide)
      have x1 := Int.emod_lt_of_pos (c / 4) (show (0 : Int) < 41 by decide)
      have mo := mok38 (x := c / 4 % 41 - 5) (by omega) (by omega) s0 s1
      have mb := mul38 (x := c / 4 % 41 - 5) (by omega) (by omega) s0 s1
      have y0 := Int.emod_nonneg (c / 4) (show (29 : Int) ≠ 0 by decide)
      have y1 := Int.emod_lt_of_pos (c / 4) (show (0 : Int) < 29 by decide)
      have mo2 := mok38 (x := c / 4 % 29 - 3) (by omega) (by omega) s0 s1
      have mb2 := mul38 (x := c / 4 % 29 - 3) (by omega) (by omega) s0 s1
      have put : ∀ pp, H1 pp = none → Iv (∃ (z' : Addr) (xs' : List V) (ts' : List Tr) (o3 : Option V), Same H (upd (upd H1 pp (.tup [.str "end", .int ((c / 4 % 41 - 5) * s)])) z (.lst (xs ++ [.ref pp]))) ∧ H z' = none ∧ upd (upd H1 pp (.tup [.str "end", .int ((c / 4 % 41 - 5) * s)])) z (.lst (xs ++ [.ref pp])) z' = some (.lst xs') ∧ TVs K (upd (upd H1 pp (.tup [.str "end", .int ((c / 4 % 41 - 5) * s)])) z (.lst (xs ++ [.ref pp]))) xs' (ts'.map trD) ∧ lvs ts' ≤ i + 1 ∧ (∀ t ∈ ts', t.sb) ∧ [some (.ref a), some (.int s), some (.ref z), some (.int c)] = [some (.ref a), some (.int s), some (.ref z'), o3]) := fun pp hpp => by
        have st : SameT H1 (upd (upd H1 pp (.tup [.str "end", .int ((c / 4 % 41 - 5) * s)])) z (.lst (xs ++ [.ref pp]))) := (same_new hpp _).t.lst (kp hz hpp) _
        have npz : pp ≠ z := Ne.symm (ne_of_none hz hpp)
        refine ⟨⟨z, xs ++ [.ref pp], ts ++ [.en ((c / 4 % 41 - 5) * s)], _, (S1.new hpp _).upd fz _, fz, upd_same, TVs.snoc38 (tx.mono st) (TV.en' (by rw [upd_ne npz]; exact upd_same)), by rw [lvs_app, lvs_one]; show lvs ts + 1 ≤ i + 1; omega, snoc_all sb (show Tr.sb (.en _) from mb), rfl⟩⟩
      walk_at "rd"
      refine ite3 (fun e => ?_) (fun e => ?_)
      · walk_at "rd"
        rename_i pp hpp
        exact put pp hpp
      · walk_at "rd"
        refine ite3 (fun e2 => ?_) (fun e2 => ?_)
        · walk_at "rd"
          rename_i pp hpp
          exact put pp hpp
        · obtain ⟨ys, v1, v2, us, t1, t2, rfl, rfl, ty, d1, d2⟩ := TVs.two38 tx (by omega)
          have yl : ys.length ≤ 100 := by rw [List.length_append, List.length_append, List.length_singleton, List.length_singleton] at xl; omega
          walk_at "rd"
          rename_i H2 p y S2 fp hp dy
          exact ⟨⟨p, ys ++ [y], us ++ [Tr.fk (t1.w + t2.w + (c / 4 % 29 - 3) * s) t1 t2], _, S1.trans S2, S1.free fp, hp, TVs.snoc38 (ty.mono S2.t) dy, by rw [lvs_two]; omega, sb_two sb mb2.1 mb2.2, rfl⟩⟩
    · rintro σ' H1 ⟨⟨z, xs, ts, o3, S1, fz, hz, tx, lv, sb, rfl⟩⟩
      rw [hl2] at lv
      exact ⟨⟨z, xs, ts, o3, S1, fz, hz, tx, lv, sb, rfl⟩⟩
  rintro σ' H1 ⟨⟨z, xs, ts, o3, S1, fz, hz, tx, lv, sb, rfl⟩⟩
  have nn0 : ns = [] ∨ 1 ≤ ns.length := by cases ns with
    | nil => exact .inl rfl
    | cons _ _ => exact .inr (by rw [List.length_cons]; omega)
  refine ⟨fun σ' H' => Iv (∃ (z : Addr) (xs : List V) (ts : List Tr) (o3 : Option V), Same H H' ∧ H z = none ∧ H' z = some (.lst xs) ∧ TVs K H' xs (ts.map trD) ∧ (lvs ts ≤ ns.length ∨ (ns = [] ∧ lvs ts = 1)) ∧ 0 < ts.length ∧ (∀ t ∈ ts, t.sb) ∧ σ' = [some (.ref a), some (.int s), some (.ref z), o3]), ?_, ?_⟩
  · have xl := tx.length
    rw [List.length_map] at xl
    have tl := lvs_len ts
    have xz : xs.length < sizeLine := small1000 (by omega)
    walk_at "rd"
    refine ite3 (fun e => ?_) (fun e => ?_)
    · walk_at "rd"
      rename_i pp hpp
      have npz : pp ≠ z := Ne.symm (ne_of_none hz hpp)
      have ets : ts = [] := List.eq_nil_of_length_eq_zero (by omega)
      have exs : xs = [] := List.eq_nil_of_length_eq_zero (by omega)
      subst ets exs
      refine ⟨⟨z, [.ref pp], [.en s], _, (S1.new hpp _).upd fz _, fz, upd_same, .cons (TV.en' (by rw [upd_ne npz]; exact upd_same)) .nil, ?_, Nat.one_pos, fun t ht => ?_, rfl⟩⟩
      · rcases nn0 with e | e
        · exact .inr ⟨e, rfl⟩
        · exact .inl e
      · rw [List.mem_singleton.mp ht]
        exact (show _ ∧ _ from ⟨by omega, by omega⟩)
    · walk_at "rd"
      exact ⟨⟨z, xs, ts, _, S1, fz, hz, tx, .inl lv, by omega, sb, rfl⟩⟩
  clear hz tx sb lv S1 fz
  rintro σ' H2 ⟨⟨z, xs, ts, o3, S2, fz, hz, tx, lv, t0, sb, rfl⟩⟩
  refine ⟨fun σ' H' => Iv (∃ (z : Addr) (y : V) (t : Tr) (o3 : Option V), Same H H' ∧ H z = none ∧ H' z = some (.lst [y]) ∧ TV K H' y (trD t) ∧ (t.lv ≤ ns.length ∨ (ns = [] ∧ t.lv = 1)) ∧ t.sb ∧ σ' = [some (.ref a), some (.int s), some (.ref z), o3]), ?_, ?_⟩
  · walk_at "rd"
    refine while_by (fun σ' H' => Iv (∃ (z : Addr) (xs : List V) (ts : List Tr) (o3 : Option V), Same H H' ∧ H z = none ∧ H' z = some (.lst xs) ∧ TVs K H' xs (ts.map trD) ∧ (lvs ts ≤ ns.length ∨ (ns = [] ∧ lvs ts = 1)) ∧ 0 < ts.length ∧ (∀ t ∈ ts, t.sb) ∧ σ' = [some (.ref a), some (.int s), some (.ref z), o3])) (fun σ H => match σ with | [_, _, some (.ref z), _] => (match H z with | some (.lst xs) => xs.length | _ => 0) | _ => 0) ⟨⟨z, xs, ts, o3, S2, fz, hz, tx, lv, t0, sb, rfl⟩⟩ ?_ ?_
    · clear hz tx sb lv S2 fz t0
      rintro σ' H3 ⟨⟨z, xs, ts, o3, S3, fz, hz, tx, lv, t0, sb, rfl⟩⟩
      have xl := tx.length
      rw [List.length_map] at xl
      have tl := lvs_len ts
      have xz : xs.length < sizeLine := small1000 (by omega)
      have mo := mok38 (x := (xs.length : Int)) (by omega) (by omega) s0 s1
      have mb := mul38 (x := (xs.length : Int)) (by omega) (by omega) s0 s1
      walk_at "rd"
      refine ite3 (fun e => ?_) (fun e => ?_)
      · obtain ⟨ys, v1, v2, us, t1, t2, ex, rfl, ty, d1, d2⟩ := TVs.two38 tx (by omega)
        have yl : ys.length + 2 = xs.length := by rw [ex]; simp
        have yl2 : ys.length ≤ 100 := by omega
        have hz' := hz
        rw [ex] at hz
        walk_at "rd"
        rename_i H5 p y S5 fp hp dy
        refine ⟨⟨⟨p, ys ++ [y], us ++ [.fk (t1.w + t2.w + (xs.length : Int) * s) t1 t2], _, S3.trans S5, S3.free fp, hp, TVs.snoc38 (ty.mono S5.t) dy, by rw [lvs_two]; exact lv, by rw [List.length_append]; exact Nat.succ_pos _, sb_two sb mb.1 mb.2, rfl⟩⟩, ?_⟩
        show (match H5 p with | some (.lst xs) => xs.length | _ => 0) < (match H3 z with | some (.lst xs) => xs.length | _ => 0)
        rw [hp, hz']
        show (ys ++ [y]).length < xs.length
        rw [List.length_append, List.length_singleton]
        omega
      · walk_at "rd"
        obtain ⟨zs, y, as, t, rfl, rfl, tz, te⟩ := TVs.last38 tx (by omega)
        rw [List.length_append, List.length_append, List.length_singleton, List.length_singleton] at xl
        rw [List.length_append, List.length_singleton] at e
        have ez : zs = [] := List.eq_nil_of_length_eq_zero (by omega)
        have ea : as = [] := List.eq_nil_of_length_eq_zero (by omega)
        subst ez ea
        exact ⟨⟨z, y, t, _, S3, fz, hz, te, lv, sb t List.mem_cons_self, rfl⟩⟩
    · rintro σ' H' Q1 Q2 hq ⟨v, e, p, ys, ev, hs, i, j, ei, ej, k, ek, y⟩
      exact ⟨v, e, p, ys, ev, hs, i, j, ei, ej, k, ek, hq _ _ y⟩
  clear hz tx sb lv S2 fz t0
  rintro σ' H4 ⟨⟨z, y, t, o3, S4, fz, hz, ty, lv, sb, rfl⟩⟩
  refine ⟨fun σ' H' => Iv (∃ (z : Addr) (y : V) (t : Tr) (o3 : Option V), Same H H' ∧ H' z = some (.lst [y]) ∧ TV K H' y (trD t) ∧ t.lv ≤ 20 ∧ t.sb ∧ σ' = [some (.ref a), some (.int s), some (.ref z), o3]), ?_, ?_⟩
  · have ha4 := S4 _ _ ha
    have cz : (ns.map V.int).length < sizeLine := small1000 (by omega)
    have l20 : t.lv ≤ 20 := by rcases lv with h | h <;> omega
    have keep : ∀ o3 : Option V, Iv (∃ (z' : Addr) (y : V) (t : Tr) (o3' : Option V), Same H H4 ∧ H4 z' = some (.lst [y]) ∧ TV K H4 y (trD t) ∧ t.lv ≤ 20 ∧ t.sb ∧ [some (.ref a), some (.int s), some (.ref z), o3] = [some (.ref a), some (.int s), some (.ref z'), o3']) := fun o3 => ⟨⟨z, y, t, _, S4, hz, ty, l20, sb, rfl⟩⟩
    walk_at "rd"
    refine ite3 (fun e1 => ?_) (fun e1 => ?_)
    · walk_at "rd"
      refine ite3 (fun e2 => ?_) (fun e2 => ?_)
      · obtain ⟨c, cs, rfl⟩ : ∃ c cs, ns = c :: cs := by
          cases ns with
          | nil => exact absurd e1 (by decide)
          | cons c cs => exact ⟨c, cs, rfl⟩
        have a0 : atI ((c :: cs).map V.int) 0 = some (.int c) := atI_nat (j := 0) rfl
        have b0 : atI [y] 0 = some y := atI_nat (j := 0) rfl
        have x0 := Int.emod_nonneg (c / 3) (show (40 : Int) ≠ 0 by decide)
        have x1 := Int.emod_lt_of_pos (c / 3) (show (0 : Int) < 40 by decide)
        have mo := mok38 (x := c / 3 % 40) (by omega) (by omega) s0 s1
        have mb := mul38 (x := c / 3 % 40) (by omega) (by omega) s0 s1
        have t10 : t.lv ≤ 10 := by
          rcases lv with h | h
          · omega
          · cases h.1
        walk_at "rd"
        refine ite3 (fun e3 => ?_) (fun e3 => ?_)
        · walk_at "rd"
          rename_i p1 hp1
          have Sp := same_new hp1 (H := H4) (.lst [y, y])
          refine ⟨(upd_same : _ = some (.lst ([] ++ [y] ++ [y]))), Nat.zero_le _, ty.mono Sp.t, ty.mono Sp.t, fun H6 p2 y2 S6 fp hp2 dy => ?_⟩
          walk_at "rd"
          exact ⟨⟨p2, y2, _, _, (S4.trans Sp).trans S6, hp2, dy, by show t.lv + t.lv ≤ 20; omega, sb.fk sb mb.1 mb.2, rfl⟩⟩
        · walk_at "rd"
          exact keep _
      · walk_at "rd"
        exact keep _
    · walk_at "rd"
      exact keep _
  rintro σ' H5 ⟨⟨z, y, t, o3, S5, hz, ty, lv, sb, rfl⟩⟩
  walk_at "rd"
  exact q _ y t S5 ty lv sb

theorem ok_law_level0 (T : Tx K mg) : FnOk P w K mg base (CXe P w) (0 + 2) T.f_law_level T.d_law_level ["_law_cell_here", "_law_many", "_law_scale"] (sp_level38 K 0) := by
  have sc := sc_law_level
  refine T.F_law_level.okx sc (fun vs H Q E h => ?_) (fun cdv A outer s H vs Q E hr h => ?_)
  · obtain ⟨c, m, s, rfl, m1, md, s0, s1, q⟩ := h
    rfl
  obtain ⟨c, m, s, rfl, m1, md, s0, s1, q⟩ := h
  have hu := hr.units0
  have hu2 := hr.units
  have hu1 := Nat.lt_of_le_of_lt (Nat.add_le_add_left (show 1 ≤ 64 by decide) _) hu2
  refine ⟨_, (@pss_cons _ _ _ _ _ (@ps_if _ _ _ _ _ _ _ _ (@pt_cmpR _ _ _ _ _ _ _ _ op_eqI (pv 1) pe_int (nomark _)) (@pss_one _ _ _ (@ps_ret _ _ _ _ (pe_tup (pa_cons pe_str (pa_cons (@pe_op _ _ _ _ _ _ _ _ op_mulB (@pe_op _ _ _ _ _ _ _ _ op_sub (@pe_op _ _ _ _ _ _ _ _ op_mod (pv 0) pe_int) pe_int) (pv 2)) pa_nil) se_c)))) pss_nil)
      (@pss_cons _ _ _ _ _ ps_never
      (@pss_cons _ _ _ _ _ ps_never
      (@pss_one _ _ _ (@ps_ret _ _ _ _ (pe_tup (pa_cons pe_str (pa_cons (@pe_op _ _ _ _ _ _ _ _ op_add (@pe_op _ _ _ _ _ _ _ _ op_add (@pe_ix _ _ _ _ _ _ _ ix_tup (pv 3) pe_int (fun _ _ => rfl)) (@pe_ix _ _ _ _ _ _ _ ix_tup (pv 4) pe_int (fun _ _ => rfl))) (@pe_op _ _ _ _ _ _ _ _ op_mulB (@pe_op _ _ _ _ _ _ _ _ op_sub (@pe_op _ _ _ _ _ _ _ _ op_mod (@pe_op _ _ _ _ _ _ _ _ op_fdivB (pv 0) pe_int) pe_int) pe_int) (pv 2))) (pa_cons (pv 3) (pa_cons (pv 4) pa_nil))) se_c))))))), ?_⟩
  walk_at "kx"
  have e1 : m = 1 := by
    have : m ≤ ((2 ^ 0 : Nat) : Int) := md
    rw [show ((2 ^ 0 : Nat) : Int) = 1 from rfl] at this
    omega
  subst e1
  · have e1 : (1 : Int) = 1 := rfl
    have x0 := Int.emod_nonneg c (show (41 : Int) ≠ 0 by decide)
    have x1 := Int.emod_lt_of_pos c (show (0 : Int) < 41 by decide)
    have mo := mok38 (x := c % 41 - 5) (by omega) (by omega) s0 s1
    have mb := mul38 (x := c % 41 - 5) (by omega) (by omega) s0 s1
    walk_at "rd"
    rename_i p hp
    exact q _ _ (.en ((c % 41 - 5) * s)) (same_new hp _) (TV.en' upd_same) rfl (Nat.zero_le _) mb

theorem ok_law_levelS (T : Tx K mg) (d : Nat) (ih : FnOk P w K mg base (CXe P w) (d + 2) T.f_law_level T.d_law_level ["_law_cell_here", "_law_many", "_law_scale"] (sp_level38 K d)) : FnOk P w K mg base (CXe P w) (d + 1 + 2) T.f_law_level T.d_law_level ["_law_cell_here", "_law_many", "_law_scale"] (sp_level38 K (d + 1)) := by
  have sc := sc_law_level
  refine T.F_law_level.okx sc (fun vs H Q E h => ?_) (fun cdv A outer s H vs Q E hr h => ?_)
  · obtain ⟨c, m, s, rfl, m1, md, s0, s1, q⟩ := h
    rfl
  obtain ⟨c, m, s, rfl, m1, md, s0, s1, q⟩ := h
  have hu := hr.units0
  have hu2 := hr.units
  have hu1 := Nat.lt_of_le_of_lt (Nat.add_le_add_left (show 1 ≤ 64 by decide) _) hu2
  refine ⟨_, (@pss_cons _ _ _ _ _ (@ps_if _ _ _ _ _ _ _ _ (@pt_cmpR _ _ _ _ _ _ _ _ op_eqI (pv 1) pe_int (nomark _)) (@pss_one _ _ _ (@ps_ret _ _ _ _ (pe_tup (pa_cons pe_str (pa_cons (@pe_op _ _ _ _ _ _ _ _ op_mulB (@pe_op _ _ _ _ _ _ _ _ op_sub (@pe_op _ _ _ _ _ _ _ _ op_mod (pv 0) pe_int) pe_int) (pv 2)) pa_nil) se_c)))) pss_nil)
      (@pss_cons _ _ _ _ _ (@ps_mid _ _ _ (@ps_set _ _ 3 _ _ _ _ sc.nd rfl (by first | exact Or.inl rfl | exact Or.inr rfl) (pe_call ih (hr.mono (by omega)) rfl T.m_law_level T.F_law_level.kp T.b_law_level .nil (pass_e fun _ _ z => z) (pa_cons (pe_call (ok_law_next T) (hr.mono (by omega)) rfl T.m_law_next T.F_law_next.kp T.b_law_next .nil (pass_e fun _ _ z => z) (pa_cons (pv 0) (pa_cons pe_int pa_nil))) (pa_cons (@pe_op _ _ _ _ _ _ _ _ op_fdivB (pv 1) pe_int) (pa_cons (pv 2) pa_nil)))) (by rfl) (by first | exact .inl rfl | exact .inr rfl | assumption)))
      (@pss_cons _ _ _ _ _ (@ps_mid _ _ _ (@ps_set _ _ 4 _ _ _ _ sc.nd rfl (by first | exact Or.inl rfl | exact Or.inr rfl) (pe_call ih (hr.mono (by omega)) rfl T.m_law_level T.F_law_level.kp T.b_law_level .nil (pass_e fun _ _ z => z) (pa_cons (pe_call (ok_law_next T) (hr.mono (by omega)) rfl T.m_law_next T.F_law_next.kp T.b_law_next .nil (pass_e fun _ _ z => z) (pa_cons (pv 0) (pa_cons pe_int pa_nil))) (pa_cons (@pe_op _ _ _ _ _ _ _ _ op_sub (pv 1) (@pe_op _ _ _ _ _ _ _ _ op_fdivB (pv 1) pe_int)) (pa_cons (pv 2) pa_nil)))) (by rfl) (by first | exact .inl rfl | exact .inr rfl | assumption)))
      (@pss_one _ _ _ (@ps_ret _ _ _ _ (pe_tup (pa_cons pe_str (pa_cons (@pe_op _ _ _ _ _ _ _ _ op_add (@pe_op _ _ _ _ _ _ _ _ op_add (@pe_ix _ _ _ _ _ _ _ ix_tup (pv 3) pe_int (fun _ _ => rfl)) (@pe_ix _ _ _ _ _ _ _ ix_tup (pv 4) pe_int (fun _ _ => rfl))) (@pe_op _ _ _ _ _ _ _ _ op_mulB (@pe_op _ _ _ _ _ _ _ _ op_sub (@pe_op _ _ _ _ _ _ _ _ op_mod (@pe_op _ _ _ _ _ _ _ _ op_fdivB (pv 0) pe_int) pe_int) pe_int) (pv 2))) (pa_cons (pv 3) (pa_cons (pv 4) pa_nil))) se_c))))))), ?_⟩
  walk_at "kx"
  by_cases e1 : m = 1
  · subst e1
    have e1 : (1 : Int) = 1 := rfl
    have x0 := Int.emod_nonneg c (show (41 : Int) ≠ 0 by decide)
    have x1 := Int.emod_lt_of_pos c (show (0 : Int) < 41 by decide)
    have mo := mok38 (x := c % 41 - 5) (by omega) (by omega) s0 s1
    have mb := mul38 (x := c % 41 - 5) (by omega) (by omega) s0 s1
    walk_at "rd"
    rename_i p hp
    exact q _ _ (.en ((c % 41 - 5) * s)) (same_new hp _) (TV.en' upd_same) rfl (Nat.zero_le _) mb
  · have mm : m / 2 ≤ ((2 ^ d : Nat) : Int) ∧ m - m / 2 ≤ ((2 ^ d : Nat) : Int) := by
      rw [two_d] at md
      generalize ((2 ^ d : Nat) : Int) = P at md ⊢
      omega
    obtain ⟨mh, mg⟩ := mm
    have mh1 : 1 ≤ m / 2 := by omega
    have mg1 : 1 ≤ m - m / 2 := by omega
    have x0 := Int.emod_nonneg (c / 41) (show (29 : Int) ≠ 0 by decide)
    have x1 := Int.emod_lt_of_pos (c / 41) (show (0 : Int) < 29 by decide)
    have mo := mok38 (x := c / 41 % 29 - 3) (by omega) (by omega) s0 s1
    have mb := mul38 (x := c / 41 % 29 - 3) (by omega) (by omega) s0 s1
    walk_at "rd"
    refine ⟨fun σ' H1 => Iv (∃ (v1 : V) (t1 : Tr), Same H H1 ∧ TV K H1 v1 (trD t1) ∧ (t1.lv : Int) = m / 2 ∧ t1.dp ≤ d ∧ t1.sb ∧ σ' = [some (.int c), some (.int m), some (.int s), some v1, none]), ?_, ?_⟩
    · walk_at "rd"
      rename_i c1 c10 c11 H1 v1 t1 S1 tv1 l1 d1 b1
      exact ⟨⟨v1, t1, S1, tv1, l1, d1, b1, rfl⟩⟩
    rintro σ' H1 ⟨⟨v1, t1, S1, tv1, l1, d1, b1, rfl⟩⟩
    refine ⟨fun σ' H2 => Iv (∃ (v2 : V) (t2 : Tr), Same H1 H2 ∧ TV K H2 v2 (trD t2) ∧ (t2.lv : Int) = m - m / 2 ∧ t2.dp ≤ d ∧ t2.sb ∧ σ' = [some (.int c), some (.int m), some (.int s), some v1, some v2]), ?_, ?_⟩
    · walk_at "rd"
      rename_i c1 c10 c11 H2 v2 t2 S2 tv2 l2 d2 b2
      exact ⟨⟨v2, t2, S2, tv2, l2, d2, b2, rfl⟩⟩
    rintro σ' H2 ⟨⟨v2, t2, S2, tv2, l2, d2, b2, rfl⟩⟩
    have tv1 := tv1.mono S2.t
    obtain ⟨p1, k1, r1, rfl, hp1⟩ := TV.wt tv1
    obtain ⟨p2, k2, r2, rfl, hp2⟩ := TV.wt tv2
    rw [Tr.wt_w] at hp1 hp2
    walk_at "rd"
    refine ⟨at27, ?_⟩
    walk_at "rd"
    refine ⟨at27, ?_⟩
    walk_at "rd"
    rename_i p hp
    exact q _ _ (.fk (t1.w + t2.w + (c / 41 % 29 - 3) * s) t1 t2) ((S1.trans S2).new hp _) (TV.fk' upd_same (tv1.mono (same_new hp _).t) (tv2.mono (same_new hp _).t)) (by show ((t1.lv + t2.lv : Nat) : Int) = m; omega) (by show max t1.dp t2.dp + 1 ≤ d + 1; omega) (b1.fk b2 mb.1 mb.2)

theorem ok_law_levelA (T : Tx K mg) : ∀ d : Nat, FnOk P w K mg base (CXe P w) (d + 2) T.f_law_level T.d_law_level ["_law_cell_here", "_law_many", "_law_scale"] (sp_level38 K d) := by
  intro d
  induction d with
  | zero => exact ok_law_level0 T
  | succ d ih => exact ok_law_levelS T d ih
theorem ok_law_level (T : Tx K mg) : FnOk P w K mg base (CXe P w) (20 + 2) T.f_law_level T.d_law_level ["_law_cell_here", "_law_many", "_law_scale"] (sp_level38 K 20) := by exact ok_law_levelA T 20

theorem ok_law_handed0 (T : Tx K mg) : FnOk P w K mg base (CXe P w) (0 + 2) T.f_law_handed T.d_law_handed ["_law_tree_here", "_law_bottom"] (sp_handed38 K 0) := by
  have sc := sc_law_handed
  refine T.F_law_handed.okx sc (fun vs H Q E h => ?_) (fun cdv A outer s H vs Q E hr h => ?_)
  · obtain ⟨v, t, B, rfl, tv, td, d40, b0, bz, q⟩ := h
    rfl
  obtain ⟨v, t, B, rfl, tv, td, d40, b0, bz, q⟩ := h
  have hu := hr.units0
  have hu2 := hr.units
  have hu1 := Nat.lt_of_le_of_lt (Nat.add_le_add_left (show 1 ≤ 64 by decide) _) hu2
  refine ⟨_, (@pss_cons _ _ _ _ _ (@ps_if _ _ _ _ _ _ _ _ (@pt_cmpR _ _ _ _ _ _ _ _ op_eqS (@pe_ix _ _ _ _ _ _ _ ix_tup (pv 0) pe_int (fun _ _ => rfl)) pe_str (nomark _)) (@pss_one _ _ _ (@ps_ret _ _ _ _ (pe_tup (pa_cons pe_str (pa_cons (pe_call (ok_law_ratio T) (hr.mono (by decide)) rfl T.m_law_ratio T.F_law_ratio.kp T.b_law_ratio .nil (pass_e fun _ _ z => z) (pa_cons (@pe_ix _ _ _ _ _ _ _ ix_tup (pv 0) pe_int (fun _ _ => rfl)) (pa_cons (pv 1) pa_nil))) pa_nil) se_c)))) pss_nil)
      (@pss_cons _ _ _ _ _ ps_never
      (@pss_cons _ _ _ _ _ (@ps_set _ _ 3 _ _ _ _ sc.nd rfl (by first | exact Or.inl rfl | exact Or.inr rfl) (pv 2) (by rfl) (by first | exact .inl rfl | exact .inr rfl | assumption))
      (@pss_cons _ _ _ _ _ (@ps_if _ _ _ _ _ _ _ _ (@pt_cmpR _ _ _ _ _ _ _ _ (op_neD hu2) (@pe_ix _ _ _ _ _ _ _ ix_tup (pv 0) pe_int (fun _ _ => rfl)) (@pe_ix _ _ _ _ _ _ _ ix_tup (pv 0) pe_int (fun _ _ => rfl)) (nomark _)) (@pss_one _ _ _ ps_never) pss_nil)
      (@pss_one _ _ _ (@ps_ret _ _ _ _ (pe_tup (pa_cons pe_str (pa_cons (pe_call (ok_law_ratio T) (hr.mono (by decide)) rfl T.m_law_ratio T.F_law_ratio.kp T.b_law_ratio .nil (pass_e fun _ _ z => z) (pa_cons (@pe_ix _ _ _ _ _ _ _ ix_tup (pv 0) pe_int (fun _ _ => rfl)) (pa_cons (pv 1) pa_nil))) (pa_cons (pv 2) (pa_cons (pv 3) pa_nil))) se_c)))))))), ?_⟩
  walk_at "kx"
  cases t with
  | en w =>
    obtain ⟨p, rfl, hp⟩ := TV.en tv
    walk_at "rd"
    rename_i r hr pp hpp
    exact q _ _ ((same_new hr _).new hpp _) (TV.hen' b0 upd_same (kp upd_same hpp))
  | fk w y n => exact absurd td (by show ¬ max _ _ + 1 ≤ 0; omega)

theorem ok_law_handedS (T : Tx K mg) (d : Nat) (ih : FnOk P w K mg base (CXe P w) (d + 2) T.f_law_handed T.d_law_handed ["_law_tree_here", "_law_bottom"] (sp_handed38 K d)) : FnOk P w K mg base (CXe P w) (d + 1 + 2) T.f_law_handed T.d_law_handed ["_law_tree_here", "_law_bottom"] (sp_handed38 K (d + 1)) := by
  have sc := sc_law_handed
  refine T.F_law_handed.okx sc (fun vs H Q E h => ?_) (fun cdv A outer s H vs Q E hr h => ?_)
  · obtain ⟨v, t, B, rfl, tv, td, d40, b0, bz, q⟩ := h
    rfl
  obtain ⟨v, t, B, rfl, tv, td, d40, b0, bz, q⟩ := h
  have hu := hr.units0
  have hu2 := hr.units
  have hu1 := Nat.lt_of_le_of_lt (Nat.add_le_add_left (show 1 ≤ 64 by decide) _) hu2
  refine ⟨_, (@pss_cons _ _ _ _ _ (@ps_if _ _ _ _ _ _ _ _ (@pt_cmpR _ _ _ _ _ _ _ _ op_eqS (@pe_ix _ _ _ _ _ _ _ ix_tup (pv 0) pe_int (fun _ _ => rfl)) pe_str (nomark _)) (@pss_one _ _ _ (@ps_ret _ _ _ _ (pe_tup (pa_cons pe_str (pa_cons (pe_call (ok_law_ratio T) (hr.mono (by omega)) rfl T.m_law_ratio T.F_law_ratio.kp T.b_law_ratio .nil (pass_e fun _ _ z => z) (pa_cons (@pe_ix _ _ _ _ _ _ _ ix_tup (pv 0) pe_int (fun _ _ => rfl)) (pa_cons (pv 1) pa_nil))) pa_nil) se_c)))) pss_nil)
      (@pss_cons _ _ _ _ _ (@ps_set _ _ 2 _ _ _ _ sc.nd rfl (by first | exact Or.inl rfl | exact Or.inr rfl) (pe_call ih (hr.mono (by omega)) rfl T.m_law_handed T.F_law_handed.kp T.b_law_handed .nil (pass_e fun _ _ z => z) (pa_cons (@pe_ix _ _ _ _ _ _ _ ix_tup (pv 0) pe_int (fun _ _ => rfl)) (pa_cons (pv 1) pa_nil))) (by rfl) (by first | exact .inl rfl | exact .inr rfl | assumption))
      (@pss_cons _ _ _ _ _ (@ps_set _ _ 3 _ _ _ _ sc.nd rfl (by first | exact Or.inl rfl | exact Or.inr rfl) (pv 2) (by rfl) (by first | exact .inl rfl | exact .inr rfl | assumption))
      (@pss_cons _ _ _ _ _ (@ps_if _ _ _ _ _ _ _ _ (@pt_cmpR _ _ _ _ _ _ _ _ (op_neD hu2) (@pe_ix _ _ _ _ _ _ _ ix_tup (pv 0) pe_int (fun _ _ => rfl)) (@pe_ix _ _ _ _ _ _ _ ix_tup (pv 0) pe_int (fun _ _ => rfl)) (nomark _)) (@pss_one _ _ _ (@ps_set _ _ 3 _ _ _ _ sc.nd rfl (by first | exact Or.inl rfl | exact Or.inr rfl) (pe_call ih (hr.mono (by omega)) rfl T.m_law_handed T.F_law_handed.kp T.b_law_handed .nil (pass_e fun _ _ z => z) (pa_cons (@pe_ix _ _ _ _ _ _ _ ix_tup (pv 0) pe_int (fun _ _ => rfl)) (pa_cons (pv 1) pa_nil))) (by rfl) (by first | exact .inl rfl | exact .inr rfl | assumption))) pss_nil)
      (@pss_one _ _ _ (@ps_ret _ _ _ _ (pe_tup (pa_cons pe_str (pa_cons (pe_call (ok_law_ratio T) (hr.mono (by omega)) rfl T.m_law_ratio T.F_law_ratio.kp T.b_law_ratio .nil (pass_e fun _ _ z => z) (pa_cons (@pe_ix _ _ _ _ _ _ _ ix_tup (pv 0) pe_int (fun _ _ => rfl)) (pa_cons (pv 1) pa_nil))) (pa_cons (pv 2) (pa_cons (pv 3) pa_nil))) se_c)))))))), ?_⟩
  walk_at "kx"
  cases t with
  | en w =>
    obtain ⟨p, rfl, hp⟩ := TV.en tv
    walk_at "rd"
    rename_i r hr pp hpp
    exact q _ _ ((same_new hr _).new hpp _) (TV.hen' b0 upd_same (kp upd_same hpp))
  | fk w y n =>
    obtain ⟨p, u1, u2, rfl, hp, t1, t2⟩ := TV.fk tv
    have dd : max y.dp n.dp + 1 ≤ d + 1 := td
    have dy : y.dp ≤ d := by omega
    have dn : n.dp ≤ d := by omega
    have d4 : max y.dp n.dp + 1 ≤ 40 := d40
    have y4 : y.dp ≤ 40 := by omega
    have n4 : n.dp ≤ 40 := by omega
    walk_at "rd"
    rename_i H1 x1 S1 c1
    have hp1 := S1 _ _ hp
    have t11 := t1.mono S1.t
    have t21 := t2.mono S1.t
    have fin : ∀ H2 x2 r pp, Same H1 H2 → TV K H2 x2 (htD B n) → H2 r = none → upd H2 r (rt (Rat.divInt w B)) pp = none → Q (.ref pp) (upd (upd H2 r (rt (Rat.divInt w B))) pp (.tup [.str "fork", .ref r, x1, x2])) := fun H2 x2 r pp S2 c2 hr hpp => by
      have SN := (same_new hr (H := H2) (rt (Rat.divInt w B))).new hpp (.tup [.str "fork", .ref r, x1, x2])
      exact q _ _ ((S1.trans S2).trans SN) (TV.hfk' b0 upd_same (kp upd_same hpp) ((c1.mono S2.t).mono SN.t) (c2.mono SN.t))
    refine ⟨trD n, trD y, t21.dv, t11.dv, ((shpTr n).mono (by omega)).shaped, ((shpTr y).mono (by omega)).shaped, ?_⟩
    by_cases e : n = y
    · subst e
      rw [(tr_eqv2 n n).mpr rfl]
      walk_at "rd"
      rename_i r hr pp hpp
      exact fin H1 x1 r pp (Same.refl _) c1 hr hpp
    · have ev : PyData.eqv (trD n) (trD y) = false := by rw [Bool.eq_false_iff]; exact fun z => e ((tr_eqv2 n y).mp z)
      rw [ev]
      walk_at "rd"
      rename_i H2 x2 S2 c2 r hr pp hpp
      exact fin H2 x2 r pp S2 c2 hr hpp

theorem ok_law_handedA (T : Tx K mg) : ∀ d : Nat, FnOk P w K mg base (CXe P w) (d + 2) T.f_law_handed T.d_law_handed ["_law_tree_here", "_law_bottom"] (sp_handed38 K d) := by
  intro d
  induction d with
  | zero => exact ok_law_handed0 T
  | succ d ih => exact ok_law_handedS T d ih
theorem ok_law_handed (T : Tx K mg) : FnOk P w K mg base (CXe P w) (20 + 2) T.f_law_handed T.d_law_handed ["_law_tree_here", "_law_bottom"] (sp_handed38 K 20) := by exact ok_law_handedA T 20

theorem ok_law_drawn0 (T : Tx K mg) : FnOk P w K mg base (CXe P w) (0 + 2) T.f_law_drawn T.d_law_drawn ["_law_tree_here", "_law_place", "_law_cell_here"] (sp_drawn38 K 0) := by
  have sc := sc_law_drawn
  refine T.F_law_drawn.okx sc (fun vs H Q E h => ?_) (fun cdv A outer s H vs Q E hr h => ?_)
  · obtain ⟨v, t, q0, c, rfl, tv, td, lt, ql, q⟩ := h
    rfl
  obtain ⟨v, t, q0, c, rfl, tv, td, lt, ql, q⟩ := h
  have hu := hr.units0
  have hu2 := hr.units
  have hu1 := Nat.lt_of_le_of_lt (Nat.add_le_add_left (show 1 ≤ 64 by decide) _) hu2
  refine ⟨_, (@pss_cons _ _ _ _ _ (@ps_if _ _ _ _ _ _ _ _ (PW.pt (pw_or (@pt_cmpR _ _ _ _ _ _ _ _ op_eqS (@pe_ix _ _ _ _ _ _ _ ix_tup (pv 0) pe_int (fun _ _ => rfl)) pe_str (nomark _)) (pw_or1 (@pt_cmpR _ _ _ _ _ _ _ _ op_eqI (@pe_op _ _ _ _ _ _ _ _ op_mod (pv 2) pe_int) pe_int (nomark _))))) (@pss_one _ _ _ (@ps_ret _ _ _ _ (@pe_lst _ _ _ _ (pa_cons (pv 1) pa_nil)))) pss_nil)
      (@pss_cons _ _ _ _ _ ps_never
      (@pss_one _ _ _ ps_never))), ?_⟩
  walk_at "kx"
  cases t with
  | en w =>
    obtain ⟨p, rfl, hp⟩ := TV.en tv
    walk_at "rd"
    rename_i z hz
    exact q _ z [q0] (Tr.en w).w (same_new hz _) upd_same (.stop _ _)
  | fk w y n => exact absurd td (by show ¬ max _ _ + 1 ≤ 0; omega)

theorem ok_law_drawnS (T : Tx K mg) (d : Nat) (ih : FnOk P w K mg base (CXe P w) (d + 2) T.f_law_drawn T.d_law_drawn ["_law_tree_here", "_law_place", "_law_cell_here"] (sp_drawn38 K d)) : FnOk P w K mg base (CXe P w) (d + 1 + 2) T.f_law_drawn T.d_law_drawn ["_law_tree_here", "_law_place", "_law_cell_here"] (sp_drawn38 K (d + 1)) := by
  have sc := sc_law_drawn
  refine T.F_law_drawn.okx sc (fun vs H Q E h => ?_) (fun cdv A outer s H vs Q E hr h => ?_)
  · obtain ⟨v, t, q0, c, rfl, tv, td, lt, ql, q⟩ := h
    rfl
  obtain ⟨v, t, q0, c, rfl, tv, td, lt, ql, q⟩ := h
  have hu := hr.units0
  have hu2 := hr.units
  have hu1 := Nat.lt_of_le_of_lt (Nat.add_le_add_left (show 1 ≤ 64 by decide) _) hu2
  refine ⟨_, (@pss_cons _ _ _ _ _ (@ps_if _ _ _ _ _ _ _ _ (PW.pt (pw_or (@pt_cmpR _ _ _ _ _ _ _ _ op_eqS (@pe_ix _ _ _ _ _ _ _ ix_tup (pv 0) pe_int (fun _ _ => rfl)) pe_str (nomark _)) (pw_or1 (@pt_cmpR _ _ _ _ _ _ _ _ op_eqI (@pe_op _ _ _ _ _ _ _ _ op_mod (pv 2) pe_int) pe_int (nomark _))))) (@pss_one _ _ _ (@ps_ret _ _ _ _ (@pe_lst _ _ _ _ (pa_cons (pv 1) pa_nil)))) pss_nil)
      (@pss_cons _ _ _ _ _ (@ps_set _ _ 3 _ _ _ _ sc.nd rfl (by first | exact Or.inl rfl | exact Or.inr rfl) (pe_call ih (hr.mono (by omega)) rfl T.m_law_drawn T.F_law_drawn.kp T.b_law_drawn .nil (pass_e fun _ _ z => z) (pa_cons (@pe_ix _ _ _ _ _ _ _ ix_tup (pv 0) pe_int (fun _ _ => rfl)) (pa_cons (@pe_op _ _ _ _ _ _ _ _ op_add_str (pv 1) pe_str) (pa_cons (pe_call (ok_law_next T) (hr.mono (by omega)) rfl T.m_law_next T.F_law_next.kp T.b_law_next .nil (pass_e fun _ _ z => z) (pa_cons (pv 2) (pa_cons pe_int pa_nil))) pa_nil)))) (by rfl) (by first | exact .inl rfl | exact .inr rfl | assumption))
      (@pss_one _ _ _ (@ps_ret _ _ _ _ (@pe_op _ _ _ _ _ _ _ _ op_cat (pv 3) (pe_call ih (hr.mono (by omega)) rfl T.m_law_drawn T.F_law_drawn.kp T.b_law_drawn .nil (pass_e fun _ _ z => z) (pa_cons (@pe_ix _ _ _ _ _ _ _ ix_tup (pv 0) pe_int (fun _ _ => rfl)) (pa_cons (@pe_op _ _ _ _ _ _ _ _ op_add_str (pv 1) pe_str) (pa_cons (pe_call (ok_law_next T) (hr.mono (by omega)) rfl T.m_law_next T.F_law_next.kp T.b_law_next .nil (pass_e fun _ _ z => z) (pa_cons (pv 2) (pa_cons pe_int pa_nil))) pa_nil))))))))), ?_⟩
  walk_at "kx"
  cases t with
  | en w =>
    obtain ⟨p, rfl, hp⟩ := TV.en tv
    walk_at "rd"
    rename_i z hz
    exact q _ z [q0] (Tr.en w).w (same_new hz _) upd_same (.stop _ _)
  | fk w y n =>
    obtain ⟨p, u1, u2, rfl, hp, t1, t2⟩ := TV.fk tv
    have dd : max y.dp n.dp + 1 ≤ d + 1 := td
    have dy : y.dp ≤ d := by omega
    have dn : n.dp ≤ d := by omega
    have lt : y.lv + n.lv ≤ 50 := lt
    have ql : q0.length + (max y.dp n.dp + 1) ≤ 100 := ql
    have ey : ("y" : Str).length = 1 := by decide +kernel
    have en : ("n" : Str).length = 1 := by decide +kernel
    have l1 : (q0 ++ ("y" : Str)).length = q0.length + 1 := by rw [len_app, ey]
    have l2 : (q0 ++ ("n" : Str)).length = q0.length + 1 := by rw [len_app, en]
    have z1 : q0.length + ("y" : Str).length ≤ sizeLine := szB (by omega)
    have z2 : q0.length + ("n" : Str).length ≤ sizeLine := szB (by omega)
    have ly : y.lv ≤ 50 := by omega
    have ln : n.lv ≤ 50 := by omega
    have qy : (q0 ++ ("y" : Str)).length + y.dp ≤ 100 := by omega
    have qn : (q0 ++ ("n" : Str)).length + n.dp ≤ 100 := by omega
    walk_at "rd"
    refine ite3 (fun e => ?_) (fun e => ?_)
    · walk_at "rd"
      rename_i z hz
      exact q _ z [q0] w (same_new hz _) upd_same (.stop (.fk w y n) q0)
    walk_at "rd"
    rename_i H1 p1 ps1 s1 S1 h1 P1 c2 c20 c21
    refine ⟨t1.mono S1.t, dy, ly, qy, fun H2 p2 ps2 s2 S2 h2 P2 => ?_⟩
    have h12 := S2 _ _ h1
    obtain ⟨g1, i1⟩ := P1.pi
    obtain ⟨g2, i2⟩ := P2.pi
    have e1 := i1.len.1
    have e2 := i2.len.1
    walk_at "rd"
    refine ⟨szB (by rw [List.length_map, List.length_map]; omega), fun p3 h3 => ?_⟩
    exact q _ p3 (ps1 ++ ps2) _ ((S1.trans S2).new h3 _) (by rw [upd_same, ← List.map_append]) (.go P2 P1)

theorem ok_law_drawnA (T : Tx K mg) : ∀ d : Nat, FnOk P w K mg base (CXe P w) (d + 2) T.f_law_drawn T.d_law_drawn ["_law_tree_here", "_law_place", "_law_cell_here"] (sp_drawn38 K d) := by
  intro d
  induction d with
  | zero => exact ok_law_drawn0 T
  | succ d ih => exact ok_law_drawnS T d ih
theorem ok_law_drawn (T : Tx K mg) : FnOk P w K mg base (CXe P w) (20 + 2) T.f_law_drawn T.d_law_drawn ["_law_tree_here", "_law_place", "_law_cell_here"] (sp_drawn38 K 20) := by exact ok_law_drawnA T 20

theorem ok_law_sum (T : Tx K mg) : FnOk P w K mg base (CXe P w) 1 T.f_law_sum T.d_law_sum ["_law_tree_here", "_law_places"] (sp_sum38 K) := by
  have sc := sc_law_sum
  refine T.F_law_sum.okx sc (fun vs H Q E h => ?_) (fun cdv A outer s H vs Q E hr h => ?_)
  · obtain ⟨v, a, t, ps, rfl, tv, ha, pl, kn, dp, q⟩ := h
    rfl
  obtain ⟨v, a, t, ps, rfl, tv, ha, pl, kn, dp, q⟩ := h
  have hu := hr.units0
  have hu2 := hr.units
  have hu1 := Nat.lt_of_le_of_lt (Nat.add_le_add_left (show 1 ≤ 64 by decide) _) hu2
  refine ⟨_, (@pss_cons _ _ _ _ _ (@ps_set _ _ 2 _ _ _ _ sc.nd rfl (by first | exact Or.inl rfl | exact Or.inr rfl) pe_int (by rfl) (by first | exact .inl rfl | exact .inr rfl | assumption))
      (@pss_cons _ _ _ _ _ (ps_for powx rfl (pi_list (pv 1)) (pg_name (i := 3) sc.nd rfl (by first | exact Or.inl rfl | exact Or.inr rfl))
      (@pss_cons _ _ _ _ _ (@ps_set _ _ 4 _ _ _ _ sc.nd rfl (by first | exact Or.inl rfl | exact Or.inr rfl) (pv 0) (by rfl) (by first | exact .inl rfl | exact .inr rfl | assumption))
      (@pss_cons _ _ _ _ _ (@ps_mid _ _ _ (ps_for powx rfl (pi_str (pv 3)) (pg_name (i := 5) sc.nd rfl (by first | exact Or.inl rfl | exact Or.inr rfl))
      (@pss_one _ _ _ (@ps_set _ _ 4 _ _ _ _ sc.nd rfl (by first | exact Or.inl rfl | exact Or.inr rfl) (@pe_ix _ _ _ _ _ _ _ ix_tup (pv 4) (@pe_op _ _ _ _ _ _ _ _ op_add pe_int (pe_callTy call_int1 rfl T.z_int bt_int (pa_cons (pe_cmpR op_eqS (pv 5) pe_str (nomark _)) pa_nil))) (fun _ _ => rfl)) (by rfl) (by first | exact .inl rfl | exact .inr rfl | assumption)))))
      (@pss_one _ _ _ (ps_aug (i := 2) sc.nd rfl (by first | exact Or.inl rfl | exact Or.inr rfl) (@pe_ix _ _ _ _ _ _ _ ix_tup (pv 4) pe_int (fun _ _ => rfl)) iop_add)))))
      (@pss_one _ _ _ (@ps_ret _ _ _ _ (pv 2))))), ?_⟩
  walk_at "kx"
  have hl2 : (ps.map V.str).length = ps.length := List.length_map _
  walk_at "rd"
  refine for_list (K := K) (a := a) (xs := ps.map V.str) (fun i σ H' => Iv (H' = H ∧ ∃ o3 o4 o5, σ = [some v, some (.ref a), some (.int (cstW t (ps.take i))), o3, o4, o5])) ⟨⟨rfl, _, _, _, rfl⟩⟩ (fun i σ H' _ z => SqL.of (by rw [z.o.1]; exact ha)) ?_ ?_
  · rintro i x σ H' hx ⟨⟨rfl, o3, o4, o5, rfl⟩⟩
    rw [List.getElem?_map] at hx
    obtain ⟨x, hx2, rfl⟩ := Option.map_eq_some_iff.mp hx
    have xm := List.mem_of_getElem? hx2
    have xk := kn x xm
    rw [plt_plc, List.map_map] at xk
    obtain ⟨⟨pw, u⟩, he, ex⟩ := List.mem_map.mp xk
    obtain rfl : pw = x := ex
    have hg := plt_go0 he
    have wv : wA t pw = u.wt := wA_at _ he
    have lw : pw.length ≤ 40 := by
      obtain ⟨u2, hu2, e2⟩ := List.mem_map.mp (kn pw xm)
      have := plc_long hu2
      rw [show ("" : Str).length = 0 by decide +kernel, e2] at this
      omega
    have hcl : (cds pw).length = pw.cps.size := cds_len pw
    have hwz : pw.length ≤ sizeLine := szB (by omega)
    walk_at "rd"
    refine ⟨fun σ' H1 => Iv (H1 = H' ∧ ∃ (v' : V) (o5 : Option V), TV K H' v' (trD u) ∧ σ' = [some v, some (.ref a), some (.int (cstW t (ps.take i))), some (.str pw), some v', o5]), ?_, ?_⟩
    · walk_at "rd"
      refine for_str (fun j σ H1 => Iv (H1 = H' ∧ ∃ (v' : V) (t' : Tr) (o5 : Option V), σ = [some v, some (.ref a), some (.int (cstW t (ps.take i))), some (.str pw), some v', o5] ∧ TV K H' v' (trD t') ∧ t'.go ((cds pw).drop j) = some u)) ⟨⟨rfl, v, t, _, rfl, tv, hg⟩⟩ ?_ ?_
      · rintro j c σ H1 hj ⟨⟨rfl, v', t', o3, rfl, tv', hg'⟩⟩
        have e2 : (cds pw)[j]? = some c := by rw [show cds pw = pw.cps.toList from rfl, Array.getElem?_toList]; exact hj
        have ed : (cds pw).drop j = c :: (cds pw).drop (j + 1) := by
          have il := (List.getElem?_eq_some_iff.mp e2)
          rw [List.drop_eq_getElem_cons il.1, il.2]
        rw [ed] at hg'
        cases t' with
        | en w => cases hg'
        | fk w y n =>
          have hg' : (if c = 121 then y.go ((cds pw).drop (j + 1)) else if c = 110 then n.go ((cds pw).drop (j + 1)) else none) = some u := hg'
          obtain ⟨p, v1, v2, rfl, hp, ty, tn⟩ := TV.fk tv'
          have i2 : atI [V.str "fork", V.int w, v1, v2] 2 = some v1 := atI_nat (j := 2) rfl
          have i3 : atI [V.str "fork", V.int w, v1, v2] 3 = some v2 := atI_nat (j := 3) rfl
          by_cases e : c = 121
          · rw [if_pos e] at hg'
            subst e
            have k1 : decide ((⟨#[121]⟩ : Str) = Str.ofString "n") = false := by decide +kernel
            walk_at "rd"
            refine .inr ⟨_, rfl, ?_⟩
            rw [k1]
            walk_at "rd"
            exact ⟨⟨rfl, _, y, _, rfl, ty, hg'⟩⟩
          · rw [if_neg e] at hg'
            by_cases e2 : c = 110
            · rw [if_pos e2] at hg'
              subst e2
              have k1 : decide ((⟨#[110]⟩ : Str) = Str.ofString "n") = true := by decide +kernel
              walk_at "rd"
              refine .inr ⟨_, rfl, ?_⟩
              rw [k1]
              walk_at "rd"
              exact ⟨⟨rfl, _, n, _, rfl, tn, hg'⟩⟩
            · rw [if_neg e2] at hg'
              cases hg'
      · rintro σ H1 ⟨⟨rfl, v', t', o3, rfl, tv', hg'⟩⟩
        rw [← hcl, List.drop_length] at hg'
        have hg2 : some t' = some u := by rw [← hg']; cases t' <;> rfl
        obtain rfl : t' = u := Option.some.inj hg2
        exact ⟨⟨rfl, _, _, tv', rfl⟩⟩
    rintro σ' H1 ⟨⟨rfl, v', o5, tv', rfl⟩⟩
    obtain ⟨p, k, r, rfl, hp⟩ := tv'.wt
    walk_at "rd"
    refine ⟨at27, ?_⟩
    walk_at "rd"
    have es : cstW t (ps.take (i + 1)) = cstW t (ps.take i) + u.wt := by
      unfold cstW
      rw [List.take_add_one, hx2, List.map_append, List.sum_append, ← wv]
      show _ + (wA t pw + 0) = _
      omega
    exact ⟨⟨rfl, some (.str pw), some (.ref p), o5, by rw [es]; rfl⟩⟩
  · rintro σ H' ⟨⟨rfl, o3, o4, o5, rfl⟩⟩
    rw [hl2, List.take_length]
    walk_at "rd"
    exact q

theorem ok_law_many_ends0 (T : Tx K mg) : FnOk P w K mg base (CXe P w) (0 + 1) T.f_law_many_ends T.d_law_many_ends ["_law_tree_here"] (sp_many38 K 0) := by
  have sc := sc_law_many_ends
  refine T.F_law_many_ends.okx sc (fun vs H Q E h => ?_) (fun cdv A outer s H vs Q E hr h => ?_)
  · obtain ⟨v, t, rfl, tv, td, q⟩ := h
    rfl
  obtain ⟨v, t, rfl, tv, td, q⟩ := h
  have hu := hr.units0
  have hu2 := hr.units
  have hu1 := Nat.lt_of_le_of_lt (Nat.add_le_add_left (show 1 ≤ 64 by decide) _) hu2
  refine ⟨_, (@pss_cons _ _ _ _ _ (@ps_if _ _ _ _ _ _ _ _ (@pt_cmpR _ _ _ _ _ _ _ _ op_eqS (@pe_ix _ _ _ _ _ _ _ ix_tup (pv 0) pe_int (fun _ _ => rfl)) pe_str (nomark _)) (@pss_one _ _ _ (@ps_ret _ _ _ _ pe_int)) pss_nil)
      (@pss_one _ _ _ ps_never)), ?_⟩
  walk_at "kx"
  cases t with
  | en w =>
    obtain ⟨p, rfl, hp⟩ := TV.en tv
    walk_at "rd"
    exact q
  | fk w y n => exact absurd td (by show ¬ max _ _ + 1 ≤ 0; omega)

theorem ok_law_many_endsS (T : Tx K mg) (d : Nat) (ih : FnOk P w K mg base (CXe P w) (d + 1) T.f_law_many_ends T.d_law_many_ends ["_law_tree_here"] (sp_many38 K d)) : FnOk P w K mg base (CXe P w) (d + 1 + 1) T.f_law_many_ends T.d_law_many_ends ["_law_tree_here"] (sp_many38 K (d + 1)) := by
  have sc := sc_law_many_ends
  refine T.F_law_many_ends.okx sc (fun vs H Q E h => ?_) (fun cdv A outer s H vs Q E hr h => ?_)
  · obtain ⟨v, t, rfl, tv, td, q⟩ := h
    rfl
  obtain ⟨v, t, rfl, tv, td, q⟩ := h
  have hu := hr.units0
  have hu2 := hr.units
  have hu1 := Nat.lt_of_le_of_lt (Nat.add_le_add_left (show 1 ≤ 64 by decide) _) hu2
  refine ⟨_, (@pss_cons _ _ _ _ _ (@ps_if _ _ _ _ _ _ _ _ (@pt_cmpR _ _ _ _ _ _ _ _ op_eqS (@pe_ix _ _ _ _ _ _ _ ix_tup (pv 0) pe_int (fun _ _ => rfl)) pe_str (nomark _)) (@pss_one _ _ _ (@ps_ret _ _ _ _ pe_int)) pss_nil)
      (@pss_one _ _ _ (@ps_ret _ _ _ _ (@pe_op _ _ _ _ _ _ _ _ op_add (pe_call ih (hr.mono (by omega)) rfl T.m_law_many_ends T.F_law_many_ends.kp T.b_law_many_ends .nil (pass_e fun _ _ z => z) (pa_cons (@pe_ix _ _ _ _ _ _ _ ix_tup (pv 0) pe_int (fun _ _ => rfl)) pa_nil)) (pe_call ih (hr.mono (by omega)) rfl T.m_law_many_ends T.F_law_many_ends.kp T.b_law_many_ends .nil (pass_e fun _ _ z => z) (pa_cons (@pe_ix _ _ _ _ _ _ _ ix_tup (pv 0) pe_int (fun _ _ => rfl)) pa_nil)))))), ?_⟩
  walk_at "kx"
  cases t with
  | en w =>
    obtain ⟨p, rfl, hp⟩ := TV.en tv
    walk_at "rd"
    exact q
  | fk w y n =>
    obtain ⟨p, u1, u2, rfl, hp, t1, t2⟩ := TV.fk tv
    have dd : max y.dp n.dp + 1 ≤ d + 1 := td
    have dy : y.dp ≤ d := by omega
    have dn : n.dp ≤ d := by omega
    walk_at "rd"
    show Q (.int ((y.lv : Int) + (n.lv : Int))) H
    rw [show ((y.lv : Int) + (n.lv : Int)) = (((Tr.fk w y n).lv : Nat) : Int) from (Int.natCast_add _ _).symm]
    exact q

theorem ok_law_many_endsA (T : Tx K mg) : ∀ d : Nat, FnOk P w K mg base (CXe P w) (d + 1) T.f_law_many_ends T.d_law_many_ends ["_law_tree_here"] (sp_many38 K d) := by
  intro d
  induction d with
  | zero => exact ok_law_many_ends0 T
  | succ d ih => exact ok_law_many_endsS T d ih
theorem ok_law_many_ends (T : Tx K mg) : FnOk P w K mg base (CXe P w) (20 + 1) T.f_law_many_ends T.d_law_many_ends ["_law_tree_here"] (sp_many38 K 20) := by exact ok_law_many_endsA T 20

theorem ok_law_ends0 (T : Tx K mg) : FnOk P w K mg base (CXe P w) (0 + 1) T.f_law_ends T.d_law_ends ["_law_tree_here", "_law_place"] (sp_ends38 K 0) := by
  have sc := sc_law_ends
  refine T.F_law_ends.okx sc (fun vs H Q E h => ?_) (fun cdv A outer s H vs Q E hr h => ?_)
  · obtain ⟨v, t, q0, rfl, tv, td, lt, ql, q⟩ := h
    rfl
  obtain ⟨v, t, q0, rfl, tv, td, lt, ql, q⟩ := h
  have hu := hr.units0
  have hu2 := hr.units
  have hu1 := Nat.lt_of_le_of_lt (Nat.add_le_add_left (show 1 ≤ 64 by decide) _) hu2
  refine ⟨_, (@pss_cons _ _ _ _ _ (@ps_if _ _ _ _ _ _ _ _ (@pt_cmpR _ _ _ _ _ _ _ _ op_eqS (@pe_ix _ _ _ _ _ _ _ ix_tup (pv 0) pe_int (fun _ _ => rfl)) pe_str (nomark _)) (@pss_one _ _ _ (@ps_ret _ _ _ _ (@pe_lst _ _ _ _ (pa_cons (pv 1) pa_nil)))) pss_nil)
      (@pss_one _ _ _ ps_never)), ?_⟩
  walk_at "kx"
  cases t with
  | en w =>
    obtain ⟨p, rfl, hp⟩ := TV.en tv
    walk_at "rd"
    rename_i z hz
    exact q _ z (same_new hz _) upd_same
  | fk w y n => exact absurd td (by show ¬ max _ _ + 1 ≤ 0; omega)

theorem ok_law_endsS (T : Tx K mg) (d : Nat) (ih : FnOk P w K mg base (CXe P w) (d + 1) T.f_law_ends T.d_law_ends ["_law_tree_here", "_law_place"] (sp_ends38 K d)) : FnOk P w K mg base (CXe P w) (d + 1 + 1) T.f_law_ends T.d_law_ends ["_law_tree_here", "_law_place"] (sp_ends38 K (d + 1)) := by
  have sc := sc_law_ends
  refine T.F_law_ends.okx sc (fun vs H Q E h => ?_) (fun cdv A outer s H vs Q E hr h => ?_)
  · obtain ⟨v, t, q0, rfl, tv, td, lt, ql, q⟩ := h
    rfl
  obtain ⟨v, t, q0, rfl, tv, td, lt, ql, q⟩ := h
  have hu := hr.units0
  have hu2 := hr.units
  have hu1 := Nat.lt_of_le_of_lt (Nat.add_le_add_left (show 1 ≤ 64 by decide) _) hu2
  refine ⟨_, (@pss_cons _ _ _ _ _ (@ps_if _ _ _ _ _ _ _ _ (@pt_cmpR _ _ _ _ _ _ _ _ op_eqS (@pe_ix _ _ _ _ _ _ _ ix_tup (pv 0) pe_int (fun _ _ => rfl)) pe_str (nomark _)) (@pss_one _ _ _ (@ps_ret _ _ _ _ (@pe_lst _ _ _ _ (pa_cons (pv 1) pa_nil)))) pss_nil)
      (@pss_one _ _ _ (@ps_ret _ _ _ _ (@pe_op _ _ _ _ _ _ _ _ op_cat (pe_call ih (hr.mono (by omega)) rfl T.m_law_ends T.F_law_ends.kp T.b_law_ends .nil (pass_e fun _ _ z => z) (pa_cons (@pe_ix _ _ _ _ _ _ _ ix_tup (pv 0) pe_int (fun _ _ => rfl)) (pa_cons (@pe_op _ _ _ _ _ _ _ _ op_add_str (pv 1) pe_str) pa_nil))) (pe_call ih (hr.mono (by omega)) rfl T.m_law_ends T.F_law_ends.kp T.b_law_ends .nil (pass_e fun _ _ z => z) (pa_cons (@pe_ix _ _ _ _ _ _ _ ix_tup (pv 0) pe_int (fun _ _ => rfl)) (pa_cons (@pe_op _ _ _ _ _ _ _ _ op_add_str (pv 1) pe_str) pa_nil))))))), ?_⟩
  walk_at "kx"
  cases t with
  | en w =>
    obtain ⟨p, rfl, hp⟩ := TV.en tv
    walk_at "rd"
    rename_i z hz
    exact q _ z (same_new hz _) upd_same
  | fk w y n =>
    obtain ⟨p, u1, u2, rfl, hp, t1, t2⟩ := TV.fk tv
    have dd : max y.dp n.dp + 1 ≤ d + 1 := td
    have dy : y.dp ≤ d := by omega
    have dn : n.dp ≤ d := by omega
    have lt : y.lv + n.lv ≤ 50 := lt
    have ql : q0.length + (max y.dp n.dp + 1) ≤ 100 := ql
    have ey : ("y" : Str).length = 1 := by decide +kernel
    have en : ("n" : Str).length = 1 := by decide +kernel
    have l1 : (q0 ++ ("y" : Str)).length = q0.length + 1 := by rw [len_app, ey]
    have l2 : (q0 ++ ("n" : Str)).length = q0.length + 1 := by rw [len_app, en]
    have z1 : q0.length + ("y" : Str).length ≤ sizeLine := szB (by omega)
    have z2 : q0.length + ("n" : Str).length ≤ sizeLine := szB (by omega)
    have ly : y.lv ≤ 50 := by omega
    have ln : n.lv ≤ 50 := by omega
    have qy : (q0 ++ ("y" : Str)).length + y.dp ≤ 100 := by omega
    have qn : (q0 ++ ("n" : Str)).length + n.dp ≤ 100 := by omega
    walk_at "rd"
    rename_i H1 p1 S1 h1
    have t1 := t1.mono S1.t
    have hp1 := S1 _ _ hp
    walk_at "rd"
    rename_i H2 p2 S2 h2
    have h12 := S2 _ _ h1
    have e1 := eds_len n (q0 ++ "n")
    have e2 := eds_len y (q0 ++ "y")
    walk_at "rd"
    refine ⟨szB (by rw [List.length_map, List.length_map]; omega), fun p3 h3 => ?_⟩
    exact q _ p3 ((S1.trans S2).new h3 _) (by rw [upd_same, ← List.map_append]; rfl)

theorem ok_law_endsA (T : Tx K mg) : ∀ d : Nat, FnOk P w K mg base (CXe P w) (d + 1) T.f_law_ends T.d_law_ends ["_law_tree_here", "_law_place"] (sp_ends38 K d) := by
  intro d
  induction d with
  | zero => exact ok_law_ends0 T
  | succ d ih => exact ok_law_endsS T d ih
theorem ok_law_ends (T : Tx K mg) : FnOk P w K mg base (CXe P w) (20 + 1) T.f_law_ends T.d_law_ends ["_law_tree_here", "_law_place"] (sp_ends38 K 20) := by exact ok_law_endsA T 20

theorem ok_law_is_pruning (T : Tx K mg) : FnOk P w K mg base (CXe P w) 22 T.f_law_is_pruning T.d_law_is_pruning ["_law_tree_here", "_law_places"] (sp_isp38 K) := by
  have sc := sc_law_is_pruning
  refine T.F_law_is_pruning.okx sc (fun vs H Q E h => ?_) (fun cdv A outer s H vs Q E hr h => ?_)
  · obtain ⟨v, a, t, ps, gs, rfl, tv, ha, lt, td, pi, q⟩ := h
    rfl
  obtain ⟨v, a, t, ps, gs, rfl, tv, ha, lt, td, pi, q⟩ := h
  have hu := hr.units0
  have hu2 := hr.units
  have hu1 := Nat.lt_of_le_of_lt (Nat.add_le_add_left (show 1 ≤ 64 by decide) _) hu2
  refine ⟨_, (@pss_cons _ _ _ _ _ (@ps_mid _ _ _ (@ps_if _ _ _ _ _ _ _ _ (PW.pt (pw_or (pt_not (pt_val (pe_callB call_isi rfl T.z_isinstance bt_isinstance (pa_cons (pv 1) (pa_cons (pe_bltn (v := .ty "list") rfl T.z_list bt_list rfl) pa_nil))))) (pw_or1 (@pt_cmpR _ _ _ _ _ _ _ _ (op_neD hu2) (pe_callB (call_sortedSS rfl) rfl T.z_sorted bt_sorted (pa_cons (pe_callTy (call_setS rfl) rfl T.z_set bt_set (pa_cons (pv 1) pa_nil)) pa_nil)) (pv 1) (nomark _))))) (@pss_one _ _ _ (@ps_ret _ _ _ _ pe_bl)) pss_nil))
      (@pss_cons _ _ _ _ _ (@ps_mid _ _ _ (@ps_set _ _ 2 _ _ _ _ sc.nd rfl (by first | exact Or.inl rfl | exact Or.inr rfl) pe_dnewK (by rfl) (by first | exact .inl rfl | exact .inr rfl | assumption)))
      (@pss_cons _ _ _ _ _ (ps_for powx rfl (pi_list (pe_call (ok_law_ends T) (hr.mono (by decide)) rfl T.m_law_ends T.F_law_ends.kp T.b_law_ends .nil (pass_e fun _ _ z => z) (pa_cons (pv 0) (pa_cons pe_str pa_nil se_c)))) (pg_name (i := 3) sc.nd rfl (by first | exact Or.inl rfl | exact Or.inr rfl))
      (@pss_cons _ _ _ _ _ (@ps_mid _ _ _ (by first | exact ps_setLC (i := 4) sc.nd rfl (by first | exact Or.inl rfl | exact Or.inr rfl) (ts := ["_law_place"]) (js := [3]) (LcOk.of rfl) rfl (pi_list (pv 1)) (fun _ _ _ _ => (pg_name (i := 0) (nodup_of rfl) rfl (Or.inl rfl))) (fun _ _ _ _ => (pf_one (pt_val (pe_bm PySem.F.plainAttrs_str PySem.F.slot_str_startswith PySem.F.type_str_startswith mt_startswith (pv 1) (pa_cons (pv 0) pa_nil))))) (fun _ _ _ _ => (pv 0)) | exact ps_set (i := 4) sc.nd rfl (by first | exact Or.inl rfl | exact Or.inr rfl) (pe_lc (ts := ["_law_place"]) (js := [3]) (LcOk.of rfl) rfl (pi_list (pv 1)) (fun _ _ _ _ => (pg_name (i := 0) (nodup_of rfl) rfl (Or.inl rfl))) (fun _ _ _ _ => (pf_one (pt_val (pe_bm PySem.F.plainAttrs_str PySem.F.slot_str_startswith PySem.F.type_str_startswith mt_startswith (pv 1) (pa_cons (pv 0) pa_nil))))) (fun _ _ _ _ => (pv 0)))))
      (@pss_cons _ _ _ _ _ (@ps_if _ _ _ _ _ _ _ _ (@pt_cmpR _ _ _ _ _ _ _ _ op_neI (pe_callB call_len_seq rfl T.z_len bt_len (pa_cons (pv 4) pa_nil)) pe_int (nomark _)) (@pss_one _ _ _ (@ps_ret _ _ _ _ pe_bl)) pss_nil)
      (@pss_one _ _ _ (ps_dput hu1 (pv 2) (@pe_ix _ _ _ _ _ _ _ ix_list (pv 4) pe_int (fun _ _ => rfl)) pe_bl rfl)))))
      (@pss_one _ _ _ (@ps_ret _ _ _ _ (pe_cmpR op_eqI (pe_callB call_len_dK rfl T.z_len bt_len (pa_cons (pv 2) pa_nil)) (pe_callB call_len_seq rfl T.z_len bt_len (pa_cons (pv 1) pa_nil)) (nomark _))))))), ?_⟩
  walk_at "kx"
  have hl1 : (ps.map V.str).length = ps.length := List.length_map _
  have ip := pi.isP
  have ln := pi.len.1
  have pl64 : ps.length < 64 := by omega
  have asc := (pi.asc (fun c hc => by cases hc)).1
  have e00 : ("" : Str).length = 0 := by decide +kernel
  have dl2 : (ddS ps).length < 64 := Nat.lt_of_le_of_lt (ddS_len ps) pl64
  have lt50 : t.lv ≤ 50 := by omega
  have el := eds_len t ""
  have q00 : ("" : Str).length + t.dp ≤ 100 := by omega
  have lz : (ps.map V.str).length < sizeLine := small1000 (by omega)
  refine ⟨fun σ' H2 => Iv (Same H H2 ∧ σ' = [some v, some (.ref a), none, none, none]), ?_, ?_⟩
  · walk_at "rd"
    rename_i z1 hz1 z2 ws hz2 pw sw
    have c : ps = ws := (sset_iff pw sw).mpr ip.up
    subst c
    refine ned (d := .list (ps.map PyData.str)) (dvS upd_same) (dvS (kp (kp ha hz1) hz2)) ((shS (n := 62) asc).mono (by decide)) ?_
    walk_at "rd"
    exact ⟨⟨(same_new hz1 _).new hz2 _, rfl⟩⟩
  rintro σ' H2 ⟨⟨S2, rfl⟩⟩
  have ha2 := S2 _ _ ha
  have tv2 := tv.mono S2.t
  refine ⟨fun σ' H3 => Iv (∃ (z : Addr), Same H2 H3 ∧ H2 z = none ∧ H3 z = some (.dK []) ∧ σ' = [some v, some (.ref a), some (.ref z), none, none]), ?_, ?_⟩
  · walk_at "rd"
    rename_i z hz
    exact ⟨⟨z, same_new hz _, hz, upd_same, rfl⟩⟩
  rintro σ' H3 ⟨⟨z, S3, fz, hz, rfl⟩⟩
  have fz0 := S2.free fz
  have tv3 := tv2.mono S3.t
  walk_at "rd"
  rename_i H4 p S4 hp
  refine for_list (K := K) (a := p) (xs := (eds t "").map V.str) (fun i σ' H' => Iv (∃ (kvs : List (Key × V)) (ms : List Str) (o3 o4 : Option V), Same H H' ∧ H' z = some (.dK kvs) ∧ H' p = some (.lst ((eds t "").map V.str)) ∧ Met ps ((eds t "").take i) kvs ms ∧ σ' = [some v, some (.ref a), some (.ref z), o3, o4])) ⟨⟨[], [], _, _, (S2.trans S3).trans S4, S4 _ _ hz, hp, ⟨rfl, List.nodup_nil, fun x hx => (by cases hx), fun e he => (by rw [List.take_zero] at he; cases he), Nat.zero_le _⟩, rfl⟩⟩ (fun i σ' H' _ y => by obtain ⟨⟨_, _, _, _, _, _, k, _⟩⟩ := y; exact SqL.of k) ?_ ?_
  · rintro i x σ' H5 hx ⟨⟨kvs, ms, o3, o4, S5, hz5, hp5, met, rfl⟩⟩
    rw [List.getElem?_map] at hx
    obtain ⟨e, he, rfl⟩ := Option.map_eq_some_iff.mp hx
    have em := eds_mem (List.mem_of_getElem? he)
    have one := pi.one _ em rfl
    have one : (bgs e ps).length = 1 := one
    have ha5 := S5 _ _ ha
    refine ⟨fun σ' H6 => Iv (∃ (ab : Addr), Same H5 H6 ∧ H6 ab = some (.lst ((bgs e ps).map V.str)) ∧ σ' = [some v, some (.ref a), some (.ref z), some (.str e), some (.ref ab)]), ?_, ?_⟩
    · walk_at "rd"
      refine lc_list (K := K) (a := a) (xs := ps.map V.str) (fun i ys H' => Iv (H' = H5 ∧ ys = (bgs e (ps.take i)).map V.str)) ⟨⟨rfl, rfl⟩⟩ (fun i ys H' hi z => ⟨SqL.of (by rw [z.o.1]; exact ha5), ?_⟩) ?_ ?_
      · rw [z.o.2, List.length_map]
        refine small1000 (Nat.le_trans (List.length_filter_le _ _) ?_)
        rw [List.length_take]
        omega
      · rintro i v ys H' hi ⟨⟨rfl, rfl⟩⟩
        rw [List.getElem?_map] at hi
        obtain ⟨o, ho, rfl⟩ := Option.map_eq_some_iff.mp hi
        have il := (List.getElem?_eq_some_iff.mp ho).1
        have ft := filter_take (p := fun o => Txt.startswith e o) ho
        walk_at "rd"
        refine iteB (fun c => ?_) (fun c => ?_)
        · walk_at "rd"
          refine ⟨⟨rfl, ?_⟩⟩
          unfold bgs
          rw [ft, if_pos c, List.map_append]
          rfl
        · walk_at "rd"
          refine ⟨⟨rfl, ?_⟩⟩
          unfold bgs
          rw [ft, if_neg (by rw [c]; decide), List.append_nil]
      · rintro ys H' ⟨⟨rfl, rfl⟩⟩ ab hab
        rw [hl1, List.take_length]
        walk_at "rd"
        exact ⟨⟨ab, same_new hab _, upd_same, rfl⟩⟩
    rintro σ' H6 ⟨⟨ab, S6, hab, rfl⟩⟩
    obtain ⟨x, hx1⟩ := List.length_eq_one_iff.mp one
    rw [hx1] at hab
    have hab : H6 ab = some (.lst [.str x]) := hab
    have a0 : atI [V.str x] 0 = some (.str x) := atI_nat (j := 0) rfl
    have hz6 := S6 _ _ hz5
    have kl : kvs.length < sizeLine := by
      have := congrArg List.length met.ks
      rw [List.length_map, List.length_map] at this
      have le := met.le
      rw [List.length_take] at le
      exact small1000 (by omega)
    have g3 : DPut H6 z (.str x) (.bl true) (upd H6 z (.dK (putK kvs (.inr x) (.bl true)))) := DPut.k (k := .inr x) hz6 kl
    have npz : p ≠ z := fun e => by rw [e, hz5] at hp5; cases hp5
    walk_at "rd"
    have met2 : Met ps ((eds t "").take (i + 1)) (putK kvs (.inr x) (.bl true)) (if x ∈ ms then ms else ms ++ [x]) := by
      rw [List.take_add_one, he]
      exact met.step hx1
    exact ⟨⟨_, _, _, _, (S5.trans S6).upd fz0 _, upd_same, by rw [upd_ne npz]; exact S6 _ _ hp5, met2, rfl⟩⟩
  · rintro σ' H5 ⟨⟨kvs, ms, o3, o4, S5, hz5, hp5, met, rfl⟩⟩
    rw [List.length_map, List.take_length] at met
    have ml := met.len pi
    have ha5 := S5 _ _ ha
    walk_at "rd"
    show Q (.bl (decide _)) H5
    rw [decide_eq_true (by rw [hl1, ml])]
    exact q _ S5

theorem ok_law_rung (T : Tx K mg) : FnOk P w K mg base (CXe P w) 23 T.f_law_rung T.d_law_rung ["_law_rung_here", "_law_tree_here", "_law_bottom", "_law_many"] (sp_rung38 K) := by
  have sc := sc_law_rung
  refine T.F_law_rung.okx sc (fun vs H Q E h => ?_) (fun cdv A outer s H vs Q E hr h => ?_)
  · obtain ⟨p, c, l, v, t, B, s, m, ps, rfl, em, tv, lt, td, tb, b0, bz, hp, hc, hl, ps_, q⟩ := h
    rfl
  obtain ⟨p, c, l, v, t, B, s, m, ps, rfl, em, tv, lt, td, tb, b0, bz, hp, hc, hl, ps_, q⟩ := h
  have hu := hr.units0
  have hu2 := hr.units
  have hu1 := Nat.lt_of_le_of_lt (Nat.add_le_add_left (show 1 ≤ 64 by decide) _) hu2
  refine ⟨_, (@pss_cons _ _ _ _ _ (@ps_if _ _ _ _ _ _ _ _ (PW.pt (pw_or (pt_not (pt_val (pe_callB call_isi rfl T.z_isinstance bt_isinstance (pa_cons (pv 0) (pa_cons (pe_bltn (v := .ty "tuple") rfl T.z_tuple bt_tuple rfl) pa_nil))))) (pw_or1 (@pt_cmpR _ _ _ _ _ _ _ _ op_neI (pe_callB call_len_seq rfl T.z_len bt_len (pa_cons (pv 0) pa_nil)) pe_int (nomark _))))) (@pss_one _ _ _ (@ps_ret _ _ _ _ pe_bl)) pss_nil)
      (@pss_cons _ _ _ _ _ (@ps_if _ _ _ _ _ _ _ _ (PW.pt (pw_or (pt_not (pt_val (pe_callB call_isi rfl T.z_isinstance bt_isinstance (pa_cons (@pe_ix _ _ _ _ _ _ _ ix_tup (pv 0) pe_int (fun _ _ => rfl)) (pa_cons (pe_bltn (v := .ty "int") rfl T.z_int bt_int rfl) pa_nil))))) (pw_or (pt_val (pe_callB call_isi rfl T.z_isinstance bt_isinstance (pa_cons (@pe_ix _ _ _ _ _ _ _ ix_tup (pv 0) pe_int (fun _ _ => rfl)) (pa_cons (pe_bltn (v := .ty "bool") rfl T.z_bool bt_bool rfl) pa_nil)))) (pw_or1 (@pt_cmpR _ _ _ _ _ _ _ _ op_neI (@pe_ix _ _ _ _ _ _ _ ix_tup (pv 0) pe_int (fun _ _ => rfl)) (pv 3) (nomark _)))))) (@pss_one _ _ _ (@ps_ret _ _ _ _ pe_bl)) pss_nil)
      (@pss_cons _ _ _ _ _ (@ps_if _ _ _ _ _ _ _ _ (PW.pt (pw_or (pt_not (pt_val (pe_call (ok_law_is_pruning T) (hr.mono (by decide)) rfl T.m_law_is_pruning T.F_law_is_pruning.kp T.b_law_is_pruning .nil (pass_e fun _ _ z => z) (pa_cons (pv 1) (pa_cons (@pe_ix _ _ _ _ _ _ _ ix_tup (pv 0) pe_int (fun _ _ => rfl)) pa_nil))))) (pw_or1 (@pt_cmpR _ _ _ _ _ _ _ _ op_neI (pe_callB call_len_seq rfl T.z_len bt_len (pa_cons (@pe_ix _ _ _ _ _ _ _ ix_tup (pv 0) pe_int (fun _ _ => rfl)) pa_nil)) (pv 3) (nomark _))))) (@pss_one _ _ _ (@ps_ret _ _ _ _ pe_bl)) pss_nil)
      (@pss_one _ _ _ (@ps_ret _ _ _ _ (pe_call (ok_law_alike T) (hr.mono (by decide)) rfl T.m_law_alike T.F_law_alike.kp T.b_law_alike .nil (pass_e fun _ _ z => z) (pa_cons (@pe_ix _ _ _ _ _ _ _ ix_tup (pv 0) pe_int (fun _ _ => rfl)) (pa_cons (pe_call (ok_law_ratio T) (hr.mono (by decide)) rfl T.m_law_ratio T.F_law_ratio.kp T.b_law_ratio .nil (pass_e fun _ _ z => z) (pa_cons (pe_call (ok_law_sum T) (hr.mono (by decide)) rfl T.m_law_sum T.F_law_sum.kp T.b_law_sum .nil (pass_e fun _ _ z => z) (pa_cons (pv 1) (pa_cons (@pe_ix _ _ _ _ _ _ _ ix_tup (pv 0) pe_int (fun _ _ => rfl)) pa_nil))) (pa_cons (pv 2) pa_nil))) pa_nil)))))))), ?_⟩
  walk_at "kx"
  subst em
  obtain ⟨gs, pi⟩ := ps_.pi
  have ln := pi.len.1
  have kn := pi.kn
  have es := ps_.sum (W := wA t) wA_at
  have es : s = cstW t ps := es
  subst es
  have eul : (ps.map V.str).length = ps.length := List.length_map _
  have d40 : t.dp ≤ 40 := by omega
  have l100 : ps.length < 100 := by omega
  have bz8 : Bz 8000 B := bz.mono (by decide)
  have lz : (ps.map V.str).length < sizeLine := small1000 (by omega)
  walk_at "rd"
  rename_i H1 S1
  have hp1 := S1 _ _ hp
  have hl1 := S1 _ _ hl
  have hc1 : H1 c = some (.tup [.int (Rat.divInt (cstW t ps) B).num, .int ((Rat.divInt (cstW t ps) B).den : Int)]) := S1 _ _ hc
  refine ⟨tv.mono S1.t, hl1, l100, kn, d40, ?_⟩
  walk_at "rd"
  rename_i r hr
  exact q _ (S1.new hr _)

theorem ok_law (T : Tx K mg) : FnOk P w K mg base (CXe P w) 24 T.f_law T.d_law ["_law_script"] (sp_law K) := by
  have sc := sc_law
  refine T.F_law.okx sc (fun vs H Q E h => ?_) (fun cdv A outer s H vs Q E hr h => ?_)
  · obtain ⟨a, ns, rfl, hS, hl, q⟩ := h
    rfl
  obtain ⟨a, ns, rfl, hS, hl, q⟩ := h
  have hu := hr.units0
  have hu2 := hr.units
  have hu1 := Nat.lt_of_le_of_lt (Nat.add_le_add_left (show 1 ≤ 64 by decide) _) hu2
  refine ⟨_, (@pss_cons _ _ _ _ _ (@ps_mid _ _ _ (@ps_set _ _ 1 _ _ _ _ sc.nd rfl (by first | exact Or.inl rfl | exact Or.inr rfl) (@pe_ix _ _ _ _ _ _ _ ix_list (@pe_lst _ _ _ _ (pa_cons pe_int (pa_cons pe_int (pa_cons (pe_fold (.int 100000000000000000000) (@pe_op _ _ _ _ _ _ _ _ op_pow pe_int pe_int) (by walk_at "cf")) pa_nil)))) (@pe_op _ _ _ _ _ _ _ _ op_mod (pe_call (ok_law_cell T) (hr.mono (by decide)) rfl T.m_law_cell T.F_law_cell.kp T.b_law_cell .nil (pass_e fun _ _ z => z) (pa_cons (pv 0) (pa_cons pe_int pa_nil))) pe_int) (fun _ _ => rfl)) (by rfl) (by first | exact .inl rfl | exact .inr rfl | assumption)))
      (@pss_cons _ _ _ _ _ (@ps_mid _ _ _ (@ps_set _ _ 2 _ _ _ _ sc.nd rfl (by first | exact Or.inl rfl | exact Or.inr rfl) (@pe_ix _ _ _ _ _ _ _ ix_list (@pe_lst _ _ _ _ (pa_cons (@pe_op _ _ _ _ _ _ _ _ op_add pe_int (@pe_op _ _ _ _ _ _ _ _ op_mod (pe_call (ok_law_cell T) (hr.mono (by decide)) rfl T.m_law_cell T.F_law_cell.kp T.b_law_cell .nil (pass_e fun _ _ z => z) (pa_cons (pv 0) (pa_cons pe_int pa_nil))) (pe_fold (.int 1000000000) (@pe_op _ _ _ _ _ _ _ _ op_pow pe_int pe_int) (by walk_at "cf")))) (pa_cons pe_int pa_nil))) (@pe_op _ _ _ _ _ _ _ _ op_mod (pe_call (ok_law_cell T) (hr.mono (by decide)) rfl T.m_law_cell T.F_law_cell.kp T.b_law_cell .nil (pass_e fun _ _ z => z) (pa_cons (pv 0) (pa_cons pe_int pa_nil))) pe_int) (fun _ _ => rfl)) (by rfl) (by first | exact .inl rfl | exact .inr rfl | assumption)))
      (@pss_cons _ _ _ _ _ (@ps_mid _ _ _ (@ps_set _ _ 3 _ _ _ _ sc.nd rfl (by first | exact Or.inl rfl | exact Or.inr rfl) (pe_call (ok_law_tree T) (hr.mono (by decide)) rfl T.m_law_tree T.F_law_tree.kp T.b_law_tree .nil (pass_e fun _ _ z => z) (pa_cons (pe_slice sl_list (pv 0) (po_some pe_int) (po_some pe_int)) (pa_cons (pv 1) pa_nil))) (by rfl) (by first | exact .inl rfl | exact .inr rfl | assumption)))
      (@pss_cons _ _ _ _ _ (@ps_mid _ _ _ (@ps_if _ _ _ _ _ _ _ _ (@pt_cmpR _ _ _ _ _ _ _ _ op_eqI (@pe_op _ _ _ _ _ _ _ _ op_mod (@pe_op _ _ _ _ _ _ _ _ op_fdivB (pe_call (ok_law_cell T) (hr.mono (by decide)) rfl T.m_law_cell T.F_law_cell.kp T.b_law_cell .nil (pass_e fun _ _ z => z) (pa_cons (pv 0) (pa_cons pe_int pa_nil))) pe_int) pe_int) pe_int (nomark _)) (@pss_one _ _ _ (@ps_set _ _ 3 _ _ _ _ sc.nd rfl (by first | exact Or.inl rfl | exact Or.inr rfl) (pe_call (ok_law_level T) (hr.mono (by decide)) rfl T.m_law_level T.F_law_level.kp T.b_law_level .nil (pass_e fun _ _ z => z) (pa_cons (@pe_op _ _ _ _ _ _ _ _ op_mod (pe_call (ok_law_cell T) (hr.mono (by decide)) rfl T.m_law_cell T.F_law_cell.kp T.b_law_cell .nil (pass_e fun _ _ z => z) (pa_cons (pv 0) (pa_cons pe_int pa_nil))) (pe_fold (.int 1000000000000000000000000000000) (@pe_op _ _ _ _ _ _ _ _ op_pow pe_int pe_int) (by walk_at "cf"))) (pa_cons (@pe_op _ _ _ _ _ _ _ _ op_add pe_int (@pe_op _ _ _ _ _ _ _ _ op_mod (pe_call (ok_law_cell T) (hr.mono (by decide)) rfl T.m_law_cell T.F_law_cell.kp T.b_law_cell .nil (pass_e fun _ _ z => z) (pa_cons (pv 0) (pa_cons pe_int pa_nil))) pe_int)) (pa_cons (pv 1) pa_nil)))) (by rfl) (by first | exact .inl rfl | exact .inr rfl | assumption))) pss_nil))
      (@pss_cons _ _ _ _ _ (@ps_mid _ _ _ (@ps_set _ _ 4 _ _ _ _ sc.nd rfl (by first | exact Or.inl rfl | exact Or.inr rfl) (pe_call (ok_law_handed T) (hr.mono (by decide)) rfl T.m_law_handed T.F_law_handed.kp T.b_law_handed .nil (pass_e fun _ _ z => z) (pa_cons (pv 3) (pa_cons (pv 2) pa_nil))) (by rfl) (by first | exact .inl rfl | exact .inr rfl | assumption)))
      (@pss_cons _ _ _ _ _ (@ps_mid _ _ _ (@ps_set _ _ 5 _ _ _ _ sc.nd rfl (by first | exact Or.inl rfl | exact Or.inr rfl) (pe_call (ok_ladder T) (hr.mono (by decide)) rfl T.m_ladder T.F_ladder.kp T.b_ladder .nil (pass_e fun _ _ z => z) (pa_cons (pv 4) pa_nil)) (by rfl) (by first | exact .inl rfl | exact .inr rfl | assumption)))
      (@pss_cons _ _ _ _ _ (@ps_mid _ _ _ (@ps_if _ _ _ _ _ _ _ _ (PW.pt (pw_or (pt_not (pt_val (pe_callB call_isi rfl T.z_isinstance bt_isinstance (pa_cons (pv 5) (pa_cons (pe_bltn (v := .ty "list") rfl T.z_list bt_list rfl) pa_nil))))) (pw_or1 (@pt_cmpR _ _ _ _ _ _ _ _ op_neI (pe_callB call_len_seq rfl T.z_len bt_len (pa_cons (pv 5) pa_nil)) (pe_call (ok_law_many_ends T) (hr.mono (by decide)) rfl T.m_law_many_ends T.F_law_many_ends.kp T.b_law_many_ends .nil (pass_e fun _ _ z => z) (pa_cons (pv 3) pa_nil)) (nomark _))))) (@pss_one _ _ _ (@ps_ret _ _ _ _ pe_bl)) pss_nil))
      (@pss_cons _ _ _ _ _ (@ps_mid _ _ _ (ps_for powx rfl (pi_range1 rfl T.z_range (pa_cons (pe_callB call_len_seq rfl T.z_len bt_len (pa_cons (pv 5) pa_nil)) pa_nil)) (pg_name (i := 6) sc.nd rfl (by first | exact Or.inl rfl | exact Or.inr rfl))
      (@pss_one _ _ _ (@ps_if _ _ _ _ _ _ _ _ (pt_not (pt_val (pe_call (ok_law_rung T) (hr.mono (by decide)) rfl T.m_law_rung T.F_law_rung.kp T.b_law_rung .nil (pass_e fun _ _ z => z) (pa_cons (@pe_ix _ _ _ _ _ _ _ ix_list (pv 5) (pv 6) (fun _ _ => rfl)) (pa_cons (pv 3) (pa_cons (pv 2) (pa_cons (@pe_op _ _ _ _ _ _ _ _ op_add (pv 6) pe_int) pa_nil))))))) (@pss_one _ _ _ (@ps_ret _ _ _ _ pe_bl)) pss_nil))))
      (@pss_cons _ _ _ _ _ (@ps_mid _ _ _ (ps_for powx rfl (pi_range1 rfl T.z_range (pa_cons pe_int pa_nil)) (pg_name (i := 6) sc.nd rfl (by first | exact Or.inl rfl | exact Or.inr rfl))
      (@pss_cons _ _ _ _ _ (@ps_mid _ _ _ (@ps_set _ _ 7 _ _ _ _ sc.nd rfl (by first | exact Or.inl rfl | exact Or.inr rfl) (pe_call (ok_law_drawn T) (hr.mono (by decide)) rfl T.m_law_drawn T.F_law_drawn.kp T.b_law_drawn .nil (pass_e fun _ _ z => z) (pa_cons (pv 3) (pa_cons pe_str (pa_cons (@pe_op _ _ _ _ _ _ _ _ op_fdivB (pe_call (ok_law_next T) (hr.mono (by decide)) rfl T.m_law_next T.F_law_next.kp T.b_law_next .nil (pass_e fun _ _ z => z) (pa_cons (pe_call (ok_law_cell T) (hr.mono (by decide)) rfl T.m_law_cell T.F_law_cell.kp T.b_law_cell .nil (pass_e fun _ _ z => z) (pa_cons (pv 0) (pa_cons pe_int pa_nil))) (pa_cons (@pe_op _ _ _ _ _ _ _ _ op_mod (pv 6) pe_int) pa_nil))) (@pe_op _ _ _ _ _ _ _ _ op_add (pv 6) pe_int)) pa_nil) se_c))) (by rfl) (by first | exact .inl rfl | exact .inr rfl | assumption)))
      (@pss_cons _ _ _ _ _ (@ps_mid _ _ _ (@ps_set _ _ 8 _ _ _ _ sc.nd rfl (by first | exact Or.inl rfl | exact Or.inr rfl) (@pe_ix _ _ _ _ _ _ _ ix_list (pv 5) (@pe_op _ _ _ _ _ _ _ _ op_sub (pe_callB call_len_seq rfl T.z_len bt_len (pa_cons (pv 7) pa_nil)) pe_int) (fun _ _ => rfl)) (by rfl) (by first | exact .inl rfl | exact .inr rfl | assumption)))
      (@pss_one _ _ _ (@ps_if _ _ _ _ _ _ _ _ (@pt_cmpR _ _ _ _ _ _ _ _ op_lt (pe_call (ok_law_sum T) (hr.mono (by decide)) rfl T.m_law_sum T.F_law_sum.kp T.b_law_sum .nil (pass_e fun _ _ z => z) (pa_cons (pv 3) (pa_cons (pv 7) pa_nil))) (pe_call (ok_law_sum T) (hr.mono (by decide)) rfl T.m_law_sum T.F_law_sum.kp T.b_law_sum .nil (pass_e fun _ _ z => z) (pa_cons (pv 3) (pa_cons (@pe_ix _ _ _ _ _ _ _ ix_tup (pv 8) pe_int (fun _ _ => rfl)) pa_nil))) (nomark _)) (@pss_one _ _ _ (@ps_ret _ _ _ _ pe_bl)) pss_nil))))))
      (@pss_cons _ _ _ _ _ (@ps_mid _ _ _ (by first | exact ps_setLC (i := 9) sc.nd rfl (by first | exact Or.inl rfl | exact Or.inr rfl) (ts := ["_law_rung_here"]) (js := []) (LcOk.of rfl) rfl (pi_list (pv 5)) (fun _ _ _ _ => (pg_name (i := 0) (nodup_of rfl) rfl (Or.inl rfl))) (fun _ _ _ _ => pf_nil) (fun _ _ _ _ => (@pe_ix _ _ _ _ _ _ _ ix_tup (pv 0) pe_int (fun _ _ => rfl))) | exact ps_set (i := 9) sc.nd rfl (by first | exact Or.inl rfl | exact Or.inr rfl) (pe_lc (ts := ["_law_rung_here"]) (js := []) (LcOk.of rfl) rfl (pi_list (pv 5)) (fun _ _ _ _ => (pg_name (i := 0) (nodup_of rfl) rfl (Or.inl rfl))) (fun _ _ _ _ => pf_nil) (fun _ _ _ _ => (@pe_ix _ _ _ _ _ _ _ ix_tup (pv 0) pe_int (fun _ _ => rfl))))))
      (@pss_cons _ _ _ _ _ (@ps_mid _ _ _ (ps_expr (pe_bm PySem.F.plainAttrs_list PySem.F.slot_list_append PySem.F.type_list_append mt_append (@pe_ix _ _ _ _ _ _ _ ix_tup (@pe_ix _ _ _ _ _ _ _ ix_list (pv 5) pe_int (fun _ _ => rfl)) pe_int (fun _ _ => rfl)) (pa_cons pe_str pa_nil se_c))))
      (@pss_cons _ _ _ _ _ (@ps_mid _ _ _ (ps_expr (pe_bm0 PySem.F.plainAttrs_list PySem.F.slot_list_clear PySem.F.type_list_clear mt_clear (@pe_ix _ _ _ _ _ _ _ ix_tup (@pe_ix _ _ _ _ _ _ _ ix_list (pv 5) (pe_un un_neg pe_int) (fun _ _ => rfl)) pe_int (fun _ _ => rfl)))))
      (@pss_cons _ _ _ _ _ (@ps_mid _ _ _ (ps_expr (pe_bm0 PySem.F.plainAttrs_list PySem.F.slot_list_clear PySem.F.type_list_clear mt_clear (pv 5))))
      (@pss_cons _ _ _ _ _ (@ps_mid _ _ _ (@ps_set _ _ 10 _ _ _ _ sc.nd rfl (by first | exact Or.inl rfl | exact Or.inr rfl) (pe_call (ok_ladder T) (hr.mono (by decide)) rfl T.m_ladder T.F_ladder.kp T.b_ladder .nil (pass_e fun _ _ z => z) (pa_cons (pv 4) pa_nil)) (by rfl) (by first | exact .inl rfl | exact .inr rfl | assumption)))
      (@pss_cons _ _ _ _ _ (@ps_mid _ _ _ (@ps_if _ _ _ _ _ _ _ _ (PW.pt (pw_or (@pt_cmpR _ _ _ _ _ _ _ _ (op_neD hu2) (pe_lc (ts := ["_law_rung_here"]) (js := []) (LcOk.of rfl) rfl (pi_list (pv 10)) (fun _ _ _ _ => (pg_name (i := 0) (nodup_of rfl) rfl (Or.inl rfl))) (fun _ _ _ _ => pf_nil) (fun _ _ _ _ => (@pe_ix _ _ _ _ _ _ _ ix_tup (pv 0) pe_int (fun _ _ => rfl)))) (pv 9) (nomark _)) (pw_or1 (@pt_cmpR _ _ _ _ _ _ _ _ (op_neD hu2) (pv 4) (pe_call (ok_law_handed T) (hr.mono (by decide)) rfl T.m_law_handed T.F_law_handed.kp T.b_law_handed .nil (pass_e fun _ _ z => z) (pa_cons (pv 3) (pa_cons (pv 2) pa_nil))) (nomark _))))) (@pss_one _ _ _ (@ps_ret _ _ _ _ pe_bl)) pss_nil))
      (@pss_one _ _ _ (@ps_ret _ _ _ _ (pe_cmpR op_eqI (pe_callB call_len_seq rfl T.z_len bt_len (pa_cons (pe_lc (ts := ["_law_k"]) (js := [3, 2, 10]) (LcOk.of rfl) rfl (pi_range1 rfl T.z_range (pa_cons (pe_callB call_len_seq rfl T.z_len bt_len (pa_cons (pv 10) pa_nil)) pa_nil)) (fun _ _ _ _ => (pg_name (i := 0) (nodup_of rfl) rfl (Or.inl rfl))) (fun _ _ _ _ => (pf_one (pt_not (pt_val (pe_call (ok_law_rung T) (hr.mono (by decide)) rfl T.m_law_rung T.F_law_rung.kp T.b_law_rung .nil passN (pa_cons (@pe_ix _ _ _ _ _ _ _ ix_list (pv 3) (pv 0) (fun _ _ => rfl)) (pa_cons (pv 1) (pa_cons (pv 2) (pa_cons (@pe_op _ _ _ _ _ _ _ _ op_add (pv 0) pe_int) pa_nil))))))))) (fun _ _ _ _ => (pv 0))) pa_nil)) pe_int (nomark _))))))))))))))))))), ?_⟩
  walk_at "kx"
  have hl2 : (ns.map V.int).length = ns.length := List.length_map _
  refine ⟨fun σ' H1 => Iv (∃ s : Int, Same H H1 ∧ 1 ≤ s ∧ s ≤ 100000000000000000000 ∧ σ' = [some (.ref a), some (.int s), none, none, none, none, none, none, none, none, none]), ?_, ?_⟩
  · walk_at "rd"
    rename_i r hr c
    have j0 := Int.emod_nonneg c (show (3 : Int) ≠ 0 by decide)
    have j1 := Int.emod_lt_of_pos c (show (0 : Int) < 3 by decide)
    refine ⟨atV j0 (by show _ < (3 : Int); omega), ?_⟩
    have hj : (c % 3).toNat = 0 ∨ (c % 3).toNat = 1 ∨ (c % 3).toNat = 2 := by omega
    rcases hj with hj | hj | hj
    · rw [hj]
      exact ⟨⟨1, same_new hr _, by decide, by decide, rfl⟩⟩
    · rw [hj]
      exact ⟨⟨1, same_new hr _, by decide, by decide, rfl⟩⟩
    · rw [hj]
      exact ⟨⟨100000000000000000000, same_new hr _, by decide, by decide, rfl⟩⟩
  rintro σ' H1 ⟨⟨s, S1, s0, s1, rfl⟩⟩
  have hS1 := hS.sm S1
  clear hS S1
  refine ⟨fun σ' H2 => Iv (∃ B : Int, Same H1 H2 ∧ 1 ≤ B ∧ B ≤ 1000000000 ∧ σ' = [some (.ref a), some (.int s), some (.int B), none, none, none, none, none, none, none, none]), ?_, ?_⟩
  · walk_at "rd"
    rename_i c0 r hr c
    have j0 := Int.emod_nonneg c (show (2 : Int) ≠ 0 by decide)
    have j1 := Int.emod_lt_of_pos c (show (0 : Int) < 2 by decide)
    have x0 := Int.emod_nonneg c0 (show (1000000000 : Int) ≠ 0 by decide)
    have x1 := Int.emod_lt_of_pos c0 (show (0 : Int) < 1000000000 by decide)
    refine ⟨atV j0 (by show _ < (2 : Int); omega), ?_⟩
    have hj : (c % 2).toNat = 0 ∨ (c % 2).toNat = 1 := by omega
    rcases hj with hj | hj
    · rw [hj]
      exact ⟨⟨1 + c0 % 1000000000, same_new hr _, by omega, by omega, rfl⟩⟩
    · rw [hj]
      exact ⟨⟨720720, same_new hr _, by decide, by decide, rfl⟩⟩
  rintro σ' H2 ⟨⟨B, S2, b1, b2, rfl⟩⟩
  have hS2 := hS1.sm S2
  clear hS1 S2
  have b0 : 0 < B := by omega
  have bz1 : Bz 128 B := Bz.w (by omega) (by omega)
  have bz : Bz 8000 B := bz1.mono (by decide)
  clear b1 b2
  refine ⟨fun σ' H3 => Iv (∃ v t, Same H2 H3 ∧ TV K H3 v (trD t) ∧ t.lv ≤ 20 ∧ t.sb ∧ σ' = [some (.ref a), some (.int s), some (.int B), some v, none, none, none, none, none, none, none]), ?_, ?_⟩
  · obtain ⟨ms, ec, lm⟩ := cut_some ns 3 23
    have ec : cutV (ns.map V.int) (some 3) (some 23) = ms.map V.int := ec
    walk_at "rd"
    rename_i r3 hr3
    rw [ec]
    refine ⟨(upd_same : _ = some (.lst (ms.map V.int))), by omega, s0, s1, fun H3 v t S3 tv lt sb => ?_⟩
    walk_at "rd"
    exact ⟨⟨v, t, (same_new hr3 _).trans S3, tv, lt, sb, rfl⟩⟩
  rintro σ' H3 ⟨⟨v, t, S3, tv, lt, sb, rfl⟩⟩
  have hS3 := hS2.sm S3
  clear hS2 S3
  have tdp := t.dp_lt
  refine ⟨fun σ' H4 => Iv (∃ v t, Same H3 H4 ∧ TV K H4 v (trD t) ∧ t.lv ≤ 48 ∧ t.dp ≤ 20 ∧ t.sb ∧ σ' = [some (.ref a), some (.int s), some (.int B), some v, none, none, none, none, none, none, none]), ?_, ?_⟩
  · walk_at "rd"
    rename_i c0
    refine ite3 (fun e => ?_) (fun e => ?_)
    · have pw : (48 : Int) ≤ ((2 ^ 20 : Nat) : Int) := by decide
      walk_at "rd"
      rename_i c1 c2 H5 v2 t2 S5 tv2 l2 d2 sb2
      have y0 := Int.emod_nonneg c2 (show (19 : Int) ≠ 0 by decide)
      have y1 := Int.emod_lt_of_pos c2 (show (0 : Int) < 19 by decide)
      exact ⟨⟨v2, t2, S5, tv2, by omega, d2, sb2, rfl⟩⟩
    · walk_at "rd"
      exact ⟨⟨v, t, Same.refl _, tv, by omega, by omega, sb, rfl⟩⟩
  clear tv lt sb tdp
  rintro σ' H4 ⟨⟨v, t, S4, tv, lt, td, sb, rfl⟩⟩
  have hS4 := hS3.sm S4
  clear hS3 S4 s0 s1
  have tb := sb.B (by omega)
  have lt50 : t.lv ≤ 50 := by omega
  have d40 : t.dp ≤ 40 := by omega
  refine ⟨fun σ' H5 => Iv (∃ v2, Same H4 H5 ∧ TV K H5 v2 (htD B t) ∧ σ' = [some (.ref a), some (.int s), some (.int B), some v, some v2, none, none, none, none, none, none]), ?_, ?_⟩
  · walk_at "rd"
    rename_i H5 v2 S5 tv2
    exact ⟨⟨v2, S5, tv2, rfl⟩⟩
  rintro σ' H5 ⟨⟨v2, S5, tv2, rfl⟩⟩
  replace tv := tv.mono S5.t
  have hS5 := hS4.sm S5
  clear hS4 S5
  refine ⟨fun σ' H6 => Iv (∃ (f : Addr) (xs : List V) (us : List (Int × List Str)), Same H5 H6 ∧ H6 f = some (.lst xs) ∧ LDs B H6 xs us ∧ Rgs t us ∧ us.length = t.lv ∧ σ' = [some (.ref a), some (.int s), some (.int B), some v, some v2, some (.ref f), none, none, none, none, none]), ?_, ?_⟩
  · walk_at "rd"
    rename_i H6 f xs us S6 hf ld rg lu
    exact ⟨⟨f, xs, us, S6, hf, ld, rg, lu, rfl⟩⟩
  rintro σ' H6 ⟨⟨f, xs, us, S6, hf, ld, rg, lu, rfl⟩⟩
  replace tv := tv.mono S6.t
  replace tv2 := tv2.mono S6.t
  have hS6 := hS5.sm S6
  clear hS5 S6
  have xl := ld.length
  have tl0 := t.lv_pos
  have xz : xs.length < sizeLine := small1000 (by omega)
  refine ⟨fun σ' H7 => Iv (H7 = H6 ∧ σ' = [some (.ref a), some (.int s), some (.int B), some v, some v2, some (.ref f), none, none, none, none, none]), ?_, ?_⟩
  · walk_at "rd"
    exact ⟨⟨rfl, rfl⟩⟩
  rintro σ' H7 ⟨⟨rfl, rfl⟩⟩
  have rung : Iv (∀ i : Nat, i < t.lv → ∃ p c l u, atI xs (i : Int) = some (.ref p) ∧ us[i]? = some u ∧ H7 p = some (.tup [.int (u.2.length : Int), .ref c, .ref l]) ∧ H7 c = some (rt (Rat.divInt u.1 B)) ∧ H7 l = some (.lst (u.2.map V.str)) ∧ Rg t i u) := ⟨fun i hi => by
    obtain ⟨p, c, l, u, ex, eu, hp, hc, hl⟩ := ld.get (List.getElem?_eq_getElem (show i < xs.length by omega))
    refine ⟨p, c, l, u, ?_, eu, hp, hc, hl, rg i u eu⟩
    rw [← ex]
    exact atI_nat (List.getElem?_eq_getElem _)⟩
  refine ⟨fun σ' H8 => Iv (∃ o6, Same H7 H8 ∧ σ' = [some (.ref a), some (.int s), some (.int B), some v, some v2, some (.ref f), o6, none, none, none, none]), ?_, ?_⟩
  · have kb : Iv (0 < B ∧ Bz 128 B ∧ Bz 8000 B ∧ t.dp ≤ 40) := ⟨b0, bz1, bz, d40⟩
    clear bz bz1 b0 hl hl2 lt50 d40 xz tl0
    walk_at "rd"
    refine for_range (n := ((xs.length : Nat) : Int).toNat) (fun i σ' H' => Iv (∃ o6, Same H7 H' ∧ σ' = [some (.ref a), some (.int s), some (.int B), some v, some v2, some (.ref f), o6, none, none, none, none])) ⟨⟨_, Same.refl _, rfl⟩⟩ ?_ ?_
    · rintro i σ' H8 hi ⟨⟨o6, S8, rfl⟩⟩
      obtain ⟨b0, bz1, bz, d40⟩ := kb.o
      have hi : i < xs.length := by omega
      obtain ⟨p, c, l, u, e1, e2, hp, hc, hl, r⟩ := rung.o i (by omega)
      have hp := S8 _ _ hp
      have hc := S8 _ _ hc
      have hl := S8 _ _ hl
      have hf8 := S8 _ _ hf
      have tv8 := tv.mono S8.t
      have ei : (0 : Int) + (i : Int) = (i : Int) := by omega
      have eu : ((u.2.length : Nat) : Int) = (i : Int) + 1 := by have := r.len; omega
      have rp := r.ps
      rw [ei]
      walk_at "rd"
      rename_i H9 S9
      exact ⟨⟨_, S8.trans S9, rfl⟩⟩
    · rintro σ' H8 ⟨⟨o6, S8, rfl⟩⟩
      exact ⟨⟨_, S8, rfl⟩⟩
  rintro σ' H8 ⟨⟨o6, S8, rfl⟩⟩
  refine ⟨fun σ' H9 => Iv (∃ o6 o7 o8, Same H7 H9 ∧ σ' = [some (.ref a), some (.int s), some (.int B), some v, some v2, some (.ref f), o6, o7, o8, none, none]), ?_, ?_⟩
  · walk_at "rd"
    refine for_range (n := (6 : Int).toNat) (fun i σ' H' => Iv (∃ o6 o7 o8, Same H7 H' ∧ σ' = [some (.ref a), some (.int s), some (.int B), some v, some v2, some (.ref f), o6, o7, o8, none, none])) ⟨⟨_, _, _, S8, rfl⟩⟩ ?_ ?_
    · clear o6 S8
      rintro i σ' H9 hi ⟨⟨o6, o7, o8, S9, rfl⟩⟩
      have hi6 : i < 6 := hi
      have hS9 := hS6.sm S9
      have tv9 := tv.mono S9.t
      have ei : (0 : Int) + (i : Int) = (i : Int) := by omega
      have q00 : ("" : Str).length + t.dp ≤ 100 := by rw [show ("" : Str).length = 0 by decide +kernel]; omega
      rw [ei]
      refine ⟨fun σ' H10 => Iv (∃ (p : Addr) (ps : List Str) (sm : Int), Same H9 H10 ∧ H10 p = some (.lst (ps.map V.str)) ∧ PS t "" ps sm ∧ σ' = [some (.ref a), some (.int s), some (.int B), some v, some v2, some (.ref f), some (.int (i : Int)), some (.ref p), o8, none, none]), ?_, ?_⟩
      · walk_at "rd"
        refine ⟨cN _ (by omega) (by omega), ?_⟩
        walk_at "rd"
        rename_i H10 p ps sm S10 hp ps_
        exact ⟨⟨p, ps, sm, S10, hp, ps_, rfl⟩⟩
      rintro σ' H10 ⟨⟨p, ps, sm, S10, hp, ps_, rfl⟩⟩
      have S79 := S9.trans S10
      obtain ⟨gs, pi⟩ := ps_.pi
      have pln := pi.len
      have hlp : (ps.map V.str).length = ps.length := List.length_map _
      obtain ⟨r, c, l, u, e1, e2, hr, hc, hl9, rgu⟩ := rung.o (ps.length - 1) (by omega)
      have e1 : atI xs ((ps.length : Int) - 1) = some (.ref r) := by rw [← e1]; congr 1; omega
      have hr := S79 _ _ hr
      have hl9 := S79 _ _ hl9
      have hf9 := S79 _ _ hf
      have tv10 := tv.mono S79.t
      have low := rgu.low sm (by have := ps_.ln; rw [show ps.length - 1 + 1 = ps.length by omega]; exact this)
      have esm : sm = cstW t ps := ps_.sum (W := wA t) wA_at
      have esu : u.1 = cstW t u.2 := rgu.ps.sum (W := wA t) wA_at
      rw [esu, esm] at low
      have kn1 := pi.kn
      obtain ⟨gs2, pi2⟩ := rgu.ps.pi
      have kn2 := pi2.kn
      have len2 := rgu.len
      have l1 : ps.length < 100 := by omega
      have l2 : u.2.length < 100 := by omega
      have pz : (ps.map V.str).length < sizeLine := small1000 (by omega)
      refine ⟨fun σ' H11 => Iv (H11 = H10 ∧ σ' = [some (.ref a), some (.int s), some (.int B), some v, some v2, some (.ref f), some (.int (i : Int)), some (.ref p), some (.ref r), none, none]), ?_, ?_⟩
      · walk_at "rd"
        rw [hlp]
        exact ⟨e1, ⟨⟨rfl, rfl⟩⟩⟩
      rintro σ' H11 ⟨⟨rfl, rfl⟩⟩
      walk_at "rd"
      exact ⟨⟨_, _, _, S79, rfl⟩⟩
    · rintro σ' H9 ⟨⟨o6, o7, o8, S9, rfl⟩⟩
      exact ⟨⟨_, _, _, S9, rfl⟩⟩
  rintro σ' H9 ⟨⟨o6, o7, o8, S9, rfl⟩⟩
  have tv := tv.mono S9.t
  replace tv2 := tv2.mono S9.t
  replace hf := S9 _ _ hf
  replace ld := ld.mono S9
  obtain ⟨pA, cA, lA, uA, eA, _, hpA, _, hlA, rgA⟩ := rung.o 0 (by omega)
  obtain ⟨pZ, cZ, lZ, uZ, eZ, _, hpZ, _, hlZ, rgZ⟩ := rung.o (t.lv - 1) (by omega)
  have eZ : atI xs (-1) = some (.ref pZ) := by
    have il : t.lv - 1 < xs.length := by omega
    rw [atI_nat (List.getElem?_eq_getElem il)] at eZ
    exact atI_last (n := t.lv - 1) (by omega) (by rw [List.getElem?_eq_getElem il]; exact eZ)
  have neA : uA.2 ≠ [] := fun e => by have := rgA.len; rw [e] at this; cases this
  have neZ : uZ.2 ≠ [] := fun e => by have := rgZ.len; rw [e] at this; cases this
  replace hpA := S9 _ _ hpA
  replace hlA := S9 _ _ hlA
  replace hpZ := S9 _ _ hpZ
  replace hlZ := S9 _ _ hlZ
  have oddf := ld.odd hf
  have fA := oddf.lst hlA neA
  have fZ := oddf.lst hlZ neZ
  have lzA : (uA.2.map V.str).length < sizeLine := by rw [List.length_map, rgA.len]; exact small1000 (by omega)
  clear rung hS6 S9
  refine ⟨fun σ' H10 => Iv (∃ (z : Addr) (ys : List V), Same H9 H10 ∧ H9 z = none ∧ H10 z = some (.lst ys) ∧ TVs K H10 ys (us.map fun u => rD B u.1) ∧ σ' = [some (.ref a), some (.int s), some (.int B), some v, some v2, some (.ref f), o6, o7, o8, some (.ref z), none]), ?_, ?_⟩
  · walk_at "rd"
    refine lc_list (K := K) (a := f) (xs := xs) (fun i ys H' => Iv (H' = H9 ∧ TVs K H9 ys ((us.take i).map fun u => rD B u.1) ∧ ys.length = i)) ⟨⟨rfl, .nil, rfl⟩⟩ (fun i ys H' hi z => ⟨SqL.of (by rw [z.o.1]; exact hf), by rw [z.o.2.2]; omega⟩) ?_ ?_
    · rintro i x ys H' hi ⟨⟨rfl, tvs, ly⟩⟩
      obtain ⟨p, c, l, u, rfl, eu, hp, hc, hl9⟩ := ld.get hi
      have dc := TV.rD' (K := K) b0 hc
      have tvn : TVs K H' (ys ++ [.ref c]) ((us.take (i + 1)).map fun u => rD B u.1) := by
        rw [List.take_add_one, eu, List.map_append]
        exact tvs.append (.cons dc .nil)
      have il := (List.getElem?_eq_some_iff.mp hi).1
      walk_at "rd"
      exact ⟨⟨rfl, tvn, by rw [List.length_append, ly]; rfl⟩⟩
    · rintro ys H' ⟨⟨rfl, tvs, ly⟩⟩ z hz
      rw [xl, List.take_length] at tvs
      walk_at "rd"
      exact ⟨⟨z, ys, same_new hz _, hz, upd_same, tvs.mono (same_new hz _).t, rfl⟩⟩
  rintro σ' H10 ⟨⟨z, ys, S10, fz, hz, tvs, rfl⟩⟩
  replace tv := tv.mono S10.t
  replace tv2 := tv2.mono S10.t
  have zf := ne_of_none hf fz
  have zA := ne_of_none hlA fz
  have zZ := ne_of_none hlZ fz
  replace hf := S10 _ _ hf
  replace hpA := S10 _ _ hpA
  replace hlA := S10 _ _ hlA
  replace hpZ := S10 _ _ hpZ
  replace hlZ := S10 _ _ hlZ
  clear S10 fz ld
  refine ⟨fun σ' H11 => Iv (SameT H10 H11 ∧ H11 f = some (.lst xs) ∧ H11 z = some (.lst ys) ∧ (∃ ws, H11 lZ = some (.lst ws)) ∧ σ' = [some (.ref a), some (.int s), some (.int B), some v, some v2, some (.ref f), o6, o7, o8, some (.ref z), none]), ?_, ?_⟩
  · walk_at "rd"
    refine ⟨⟨(SameT.refl _).lst hlA _, by rw [upd_ne fA.symm]; exact hf, by rw [upd_ne zA.symm]; exact hz, ?_, rfl⟩⟩
    by_cases e : lZ = lA
    · rw [e]; exact ⟨_, upd_same⟩
    · rw [upd_ne e]; exact ⟨_, hlZ⟩
  rintro σ' H11 ⟨⟨S11, hf, hz, ⟨wz, hlZ⟩, rfl⟩⟩
  replace tv := tv.mono S11
  replace tv2 := tv2.mono S11
  replace tvs := tvs.mono S11
  replace hpZ := S11 _ _ hpZ
  clear S11 hpA hlA
  refine ⟨fun σ' H12 => Iv (SameT H11 H12 ∧ H12 f = some (.lst xs) ∧ H12 z = some (.lst ys) ∧ σ' = [some (.ref a), some (.int s), some (.int B), some v, some v2, some (.ref f), o6, o7, o8, some (.ref z), none]), ?_, ?_⟩
  · walk_at "rd"
    exact ⟨⟨(SameT.refl _).lst hlZ _, by rw [upd_ne fZ.symm]; exact hf, by rw [upd_ne zZ.symm]; exact hz, rfl⟩⟩
  rintro σ' H12 ⟨⟨S12, hf, hz, rfl⟩⟩
  replace tv := tv.mono S12
  replace tv2 := tv2.mono S12
  replace tvs := tvs.mono S12
  clear S12 hpZ hlZ
  refine ⟨fun σ' H13 => Iv (SameT H12 H13 ∧ H13 z = some (.lst ys) ∧ σ' = [some (.ref a), some (.int s), some (.int B), some v, some v2, some (.ref f), o6, o7, o8, some (.ref z), none]), ?_, ?_⟩
  · walk_at "rd"
    exact ⟨⟨(SameT.refl _).lst hf _, by rw [upd_ne zf.symm]; exact hz, rfl⟩⟩
  rintro σ' H13 ⟨⟨S13, hz, rfl⟩⟩
  replace tv := tv.mono S13
  replace tv2 := tv2.mono S13
  replace tvs := tvs.mono S13
  clear S13 hf
  refine ⟨fun σ' H14 => Iv (∃ (g : Addr) (xs' : List V) (us' : List (Int × List Str)), Same H13 H14 ∧ H14 g = some (.lst xs') ∧ LDs B H14 xs' us' ∧ Rgs t us' ∧ us'.length = t.lv ∧ σ' = [some (.ref a), some (.int s), some (.int B), some v, some v2, some (.ref f), o6, o7, o8, some (.ref z), some (.ref g)]), ?_, ?_⟩
  · walk_at "rd"
    rename_i H14 g xs' us' S14 hg ld rg lu
    exact ⟨⟨g, xs', us', S14, hg, ld, rg, lu, rfl⟩⟩
  rintro σ' H14 ⟨⟨g, xs', us', S14, hg, ld, rg', lu', rfl⟩⟩
  replace tv := tv.mono S14.t
  replace tv2 := tv2.mono S14.t
  replace tvs := tvs.mono S14.t
  replace hz := S14 _ _ hz
  clear S14
  have xl' := ld.length
  have eus := rg.costs (B := B) rg' (by omega)
  refine ⟨fun σ' H15 => Iv (Same H14 H15 ∧ σ' = [some (.ref a), some (.int s), some (.int B), some v, some v2, some (.ref f), o6, o7, o8, some (.ref z), some (.ref g)]), ?_, ?_⟩
  · walk_at "rd"
    refine lc_list (K := K) (a := g) (xs := xs') (fun i ws H' => Iv (H' = H14 ∧ TVs K H14 ws ((us'.take i).map fun u => rD B u.1) ∧ ws.length = i)) ⟨⟨rfl, .nil, rfl⟩⟩ (fun i ws H' hi z => ⟨SqL.of (by rw [z.o.1]; exact hg), by rw [z.o.2.2]; omega⟩) ?_ ?_
    · rintro i x ws H' hi ⟨⟨rfl, tws, lw⟩⟩
      obtain ⟨p, c, l, u, rfl, eu, hp, hc, hl9⟩ := ld.get hi
      have dc := TV.rD' (K := K) b0 hc
      have tvn : TVs K H' (ws ++ [.ref c]) ((us'.take (i + 1)).map fun u => rD B u.1) := by
        rw [List.take_add_one, eu, List.map_append]
        exact tws.append (.cons dc .nil)
      have il := (List.getElem?_eq_some_iff.mp hi).1
      walk_at "rd"
      exact ⟨⟨rfl, tvn, by rw [List.length_append, lw]; rfl⟩⟩
    · rintro ws H' ⟨⟨rfl, tws, lw⟩⟩ w hw
      rw [xl', List.take_length] at tws
      rw [eus] at tvs
      have sw := same_new hw (.lst ws)
      have tv := tv.mono sw.t
      have tv2 := tv2.mono sw.t
      walk_at "rd"
      have dv1 : DV K (upd H' w (.lst ws)) (.ref w) (.list (us'.map fun u : Int × List Str => rD B u.1)) := .lst (SqL.of upd_same) (tws.mono sw.t).dv
      have dv2 : DV K (upd H' w (.lst ws)) (.ref z) (.list (us'.map fun u : Int × List Str => rD B u.1)) := .lst (SqL.of (kp hz hw)) (tvs.mono sw.t).dv
      refine ned dv1 dv2 (shpCo b0 us') ?_
      walk_at "rd"
      rename_i H16 v3 S16 tv3
      refine ned (d := htD B t) (tv2.mono S16.t).dv tv3.dv ((shpHt b0 t).mono (by omega)) ?_
      walk_at "rd"
      exact ⟨⟨sw.trans S16, rfl⟩⟩
  rintro σ' H15 ⟨⟨S15, rfl⟩⟩
  replace tv := tv.mono S15.t
  replace hg := S15 _ _ hg
  replace ld := ld.mono S15
  have rung : Iv (∀ i : Nat, i < t.lv → ∃ p c l u, atI xs' (i : Int) = some (.ref p) ∧ H15 p = some (.tup [.int (u.2.length : Int), .ref c, .ref l]) ∧ H15 c = some (rt (Rat.divInt u.1 B)) ∧ H15 l = some (.lst (u.2.map V.str)) ∧ Rg t i u) := ⟨fun i hi => by
    obtain ⟨p, c, l, u, ex, eu, hp, hc, hl⟩ := ld.get (List.getElem?_eq_getElem (show i < xs'.length by omega))
    refine ⟨p, c, l, u, ?_, hp, hc, hl, rg' i u eu⟩
    rw [← ex]
    exact atI_nat (List.getElem?_eq_getElem _)⟩
  have kb : Iv (0 < B ∧ Bz 128 B ∧ Bz 8000 B ∧ t.dp ≤ 40) := ⟨b0, bz1, bz, d40⟩
  have xz' : xs'.length < 1000 := by omega
  have xz' : Iv (xs'.length < 1000) := ⟨xz'⟩
  clear bz bz1 b0 hl hl2 lt50 d40 xz tl0 tv2 S15 ld eus rg rg'
  walk_at "rd"
  refine lc_range (lo := 0) (n := ((xs'.length : Nat) : Int).toNat) (fun i ws H' => Iv (Same H15 H' ∧ ws = [])) ⟨⟨Same.refl _, rfl⟩⟩ (fun i ws H' hi z => by rw [z.o.2]; exact small1000 (by decide)) ?_ ?_
  · rintro i ws H16 hi ⟨⟨S16, rfl⟩⟩
    obtain ⟨b0, bz1, bz, d40⟩ := kb.o
    have hi : i < xs'.length := by omega
    obtain ⟨p, c, l, u, e1, hp, hc, hl, r⟩ := rung.o i (by omega)
    have hp := S16 _ _ hp
    have hc := S16 _ _ hc
    have hl := S16 _ _ hl
    have hg := S16 _ _ hg
    have tv := tv.mono S16.t
    have ei : (0 : Int) + (i : Int) = (i : Int) := by omega
    have eu : ((u.2.length : Nat) : Int) = (i : Int) + 1 := by have := r.len; omega
    have rp := r.ps
    have xz' := small1000 (Nat.le_of_lt xz'.o)
    rw [ei]
    walk_at "rd"
    rename_i H17 S17
    exact ⟨⟨S16.trans S17, rfl⟩⟩
  · rintro ws H16 ⟨⟨S16, rfl⟩⟩ w hw
    walk_at "rd"
    exact q _

end

theorem fin {K : PySem.W.Frag} {h : Heap} {mg : Str → Option Value} {fa f0 f1 f2 f3 f4 f5 f6 f7 f8 f9 f10 f11 f12 f13 f14 f15 f16 f17 f18 f19 f20 f21 f22 f23 f24 f25  : Addr} (X : K.In h) (G : h.Ns mainGlobals mg) (hfa : mg "law" = some (.ref fa))
    {od0 an0 od1 an1 od2 an2 od3 an3 od4 an4 od5 an5 od6 an6 od7 an7 od8 an8 od9 an9 od10 an10 od11 an11 od12 an12 od13 an13 od14 an14 od15 an15 od16 an16 od17 an17 od18 an18 od19 an19 od20 an20 od21 an21 od22 an22 od23 an23 od24 an24 od25 an25 : Option Addr} {sl0 sl1 sl2 sl3 sl4 sl5 sl6 sl7 sl8 sl9 sl10 sl11 sl12 sl13 sl14 sl15 sl16 sl17 sl18 sl19 sl20 sl21 sl22 sl23 sl24 sl25 : Array (Option Value)} {oc0 kV0 dc0 pm0 cd0 ct0 oc1 kV1 dc1 pm1 cd1 ct1 oc2 kV2 dc2 pm2 cd2 ct2 oc3 kV3 dc3 pm3 cd3 ct3 oc4 kV4 dc4 pm4 cd4 ct4 oc5 kV5 dc5 pm5 cd5 ct5 oc6 kV6 dc6 pm6 cd6 ct6 oc7 kV7 dc7 pm7 cd7 ct7 oc8 kV8 dc8 pm8 cd8 ct8 oc9 kV9 dc9 pm9 cd9 ct9 oc10 kV10 dc10 pm10 cd10 ct10 oc11 kV11 dc11 pm11 cd11 ct11 oc12 kV12 dc12 pm12 cd12 ct12 oc13 kV13 dc13 pm13 cd13 ct13 oc14 kV14 dc14 pm14 cd14 ct14 oc15 kV15 dc15 pm15 cd15 ct15 oc16 kV16 dc16 pm16 cd16 ct16 oc17 kV17 dc17 pm17 cd17 ct17 oc18 kV18 dc18 pm18 cd18 ct18 oc19 kV19 dc19 pm19 cd19 ct19 oc20 kV20 dc20 pm20 cd20 ct20 oc21 kV21 dc21 pm21 cd21 ct21 oc22 kV22 dc22 pm22 cd22 ct22 oc23 kV23 dc23 pm23 cd23 ct23 oc24 kV24 dc24 pm24 cd24 ct24 oc25 kV25 dc25 pm25 cd25 ct25 : Value}
    (a0 : PySem.W.nsIn K mainGlobals "greatest_divisor" = some (some (.ref f0)))
    (l0 : K.lookup f0 = some ⟨oc0, od0, .func (PySem.W.fnOf "greatest_divisor" "greatest_divisor" (defArgs s_greatest_divisor) (defBody s_greatest_divisor) (defScope s_greatest_divisor) .none kV0 dc0 pm0 an0 cd0 ct0), sl0⟩)
    (k_c0 : PySem.W.codeIn K cd0 "greatest_divisor" = true)
    (k_k0 : PySem.W.keepIn K (.ref f0) = true)
    (a1 : PySem.W.nsIn K mainGlobals "plus" = some (some (.ref f1)))
    (l1 : K.lookup f1 = some ⟨oc1, od1, .func (PySem.W.fnOf "plus" "plus" (defArgs s_plus) (defBody s_plus) (defScope s_plus) .none kV1 dc1 pm1 an1 cd1 ct1), sl1⟩)
    (k_c1 : PySem.W.codeIn K cd1 "plus" = true)
    (k_k1 : PySem.W.keepIn K (.ref f1) = true)
    (a2 : PySem.W.nsIn K mainGlobals "minus" = some (some (.ref f2)))
    (l2 : K.lookup f2 = some ⟨oc2, od2, .func (PySem.W.fnOf "minus" "minus" (defArgs s_minus) (defBody s_minus) (defScope s_minus) .none kV2 dc2 pm2 an2 cd2 ct2), sl2⟩)
    (k_c2 : PySem.W.codeIn K cd2 "minus" = true)
    (k_k2 : PySem.W.keepIn K (.ref f2) = true)
    (a3 : PySem.W.nsIn K mainGlobals "trees_by_place" = some (some (.ref f3)))
    (l3 : K.lookup f3 = some ⟨oc3, od3, .func (PySem.W.fnOf "trees_by_place" "trees_by_place" (defArgs s_trees_by_place) (defBody s_trees_by_place) (defScope s_trees_by_place) .none kV3 dc3 pm3 an3 cd3 ct3), sl3⟩)
    (k_c3 : PySem.W.codeIn K cd3 "trees_by_place" = true)
    (k_k3 : PySem.W.keepIn K (.ref f3) = true)
    (a4 : PySem.W.nsIn K mainGlobals "common_bottom" = some (some (.ref f4)))
    (l4 : K.lookup f4 = some ⟨oc4, od4, .func (PySem.W.fnOf "common_bottom" "common_bottom" (defArgs s_common_bottom) (defBody s_common_bottom) (defScope s_common_bottom) .none kV4 dc4 pm4 an4 cd4 ct4), sl4⟩)
    (k_c4 : PySem.W.codeIn K cd4 "common_bottom" = true)
    (k_k4 : PySem.W.keepIn K (.ref f4) = true)
    (a5 : PySem.W.nsIn K mainGlobals "lifted" = some (some (.ref f5)))
    (l5 : K.lookup f5 = some ⟨oc5, od5, .func (PySem.W.fnOf "lifted" "lifted" (defArgs s_lifted) (defBody s_lifted) (defScope s_lifted) .none kV5 dc5 pm5 an5 cd5 ct5), sl5⟩)
    (k_c5 : PySem.W.codeIn K cd5 "lifted" = true)
    (k_k5 : PySem.W.keepIn K (.ref f5) = true)
    (a6 : PySem.W.nsIn K mainGlobals "in_whole_costs" = some (some (.ref f6)))
    (l6 : K.lookup f6 = some ⟨oc6, od6, .func (PySem.W.fnOf "in_whole_costs" "in_whole_costs" (defArgs s_in_whole_costs) (defBody s_in_whole_costs) (defScope s_in_whole_costs) .none kV6 dc6 pm6 an6 cd6 ct6), sl6⟩)
    (k_c6 : PySem.W.codeIn K cd6 "in_whole_costs" = true)
    (k_k6 : PySem.W.keepIn K (.ref f6) = true)
    (a7 : PySem.W.nsIn K mainGlobals "cost_by_change" = some (some (.ref f7)))
    (l7 : K.lookup f7 = some ⟨oc7, od7, .func (PySem.W.fnOf "cost_by_change" "cost_by_change" (defArgs s_cost_by_change) (defBody s_cost_by_change) (defScope s_cost_by_change) .none kV7 dc7 pm7 an7 cd7 ct7), sl7⟩)
    (k_c7 : PySem.W.codeIn K cd7 "cost_by_change" = true)
    (k_k7 : PySem.W.keepIn K (.ref f7) = true)
    (a8 : PySem.W.nsIn K mainGlobals "best_pair" = some (some (.ref f8)))
    (l8 : K.lookup f8 = some ⟨oc8, od8, .func (PySem.W.fnOf "best_pair" "best_pair" (defArgs s_best_pair) (defBody s_best_pair) (defScope s_best_pair) .none kV8 dc8 pm8 an8 cd8 ct8), sl8⟩)
    (k_c8 : PySem.W.codeIn K cd8 "best_pair" = true)
    (k_k8 : PySem.W.keepIn K (.ref f8) = true)
    (a9 : PySem.W.nsIn K mainGlobals "rungs" = some (some (.ref f9)))
    (l9 : K.lookup f9 = some ⟨oc9, od9, .func (PySem.W.fnOf "rungs" "rungs" (defArgs s_rungs) (defBody s_rungs) (defScope s_rungs) .none kV9 dc9 pm9 an9 cd9 ct9), sl9⟩)
    (k_c9 : PySem.W.codeIn K cd9 "rungs" = true)
    (k_k9 : PySem.W.keepIn K (.ref f9) = true)
    (a10 : PySem.W.nsIn K mainGlobals "ladder" = some (some (.ref f10)))
    (l10 : K.lookup f10 = some ⟨oc10, od10, .func (PySem.W.fnOf "ladder" "ladder" (defArgs s_ladder) (defBody s_ladder) (defScope s_ladder) .none kV10 dc10 pm10 an10 cd10 ct10), sl10⟩)
    (k_c10 : PySem.W.codeIn K cd10 "ladder" = true)
    (k_k10 : PySem.W.keepIn K (.ref f10) = true)
    (a11 : PySem.W.nsIn K mainGlobals "_law_cell" = some (some (.ref f11)))
    (l11 : K.lookup f11 = some ⟨oc11, od11, .func (PySem.W.fnOf "_law_cell" "_law_cell" (defArgs s_law_cell) (defBody s_law_cell) (defScope s_law_cell) .none kV11 dc11 pm11 an11 cd11 ct11), sl11⟩)
    (k_c11 : PySem.W.codeIn K cd11 "_law_cell" = true)
    (k_k11 : PySem.W.keepIn K (.ref f11) = true)
    (a12 : PySem.W.nsIn K mainGlobals "_law_next" = some (some (.ref f12)))
    (l12 : K.lookup f12 = some ⟨oc12, od12, .func (PySem.W.fnOf "_law_next" "_law_next" (defArgs s_law_next) (defBody s_law_next) (defScope s_law_next) .none kV12 dc12 pm12 an12 cd12 ct12), sl12⟩)
    (k_c12 : PySem.W.codeIn K cd12 "_law_next" = true)
    (k_k12 : PySem.W.keepIn K (.ref f12) = true)
    (a13 : PySem.W.nsIn K mainGlobals "_law_ratio" = some (some (.ref f13)))
    (l13 : K.lookup f13 = some ⟨oc13, od13, .func (PySem.W.fnOf "_law_ratio" "_law_ratio" (defArgs s_law_ratio) (defBody s_law_ratio) (defScope s_law_ratio) .none kV13 dc13 pm13 an13 cd13 ct13), sl13⟩)
    (k_c13 : PySem.W.codeIn K cd13 "_law_ratio" = true)
    (k_k13 : PySem.W.keepIn K (.ref f13) = true)
    (a14 : PySem.W.nsIn K mainGlobals "_law_alike" = some (some (.ref f14)))
    (l14 : K.lookup f14 = some ⟨oc14, od14, .func (PySem.W.fnOf "_law_alike" "_law_alike" (defArgs s_law_alike) (defBody s_law_alike) (defScope s_law_alike) .none kV14 dc14 pm14 an14 cd14 ct14), sl14⟩)
    (k_c14 : PySem.W.codeIn K cd14 "_law_alike" = true)
    (k_k14 : PySem.W.keepIn K (.ref f14) = true)
    (a15 : PySem.W.nsIn K mainGlobals "_law_joined" = some (some (.ref f15)))
    (l15 : K.lookup f15 = some ⟨oc15, od15, .func (PySem.W.fnOf "_law_joined" "_law_joined" (defArgs s_law_joined) (defBody s_law_joined) (defScope s_law_joined) .none kV15 dc15 pm15 an15 cd15 ct15), sl15⟩)
    (k_c15 : PySem.W.codeIn K cd15 "_law_joined" = true)
    (k_k15 : PySem.W.keepIn K (.ref f15) = true)
    (a16 : PySem.W.nsIn K mainGlobals "_law_tree" = some (some (.ref f16)))
    (l16 : K.lookup f16 = some ⟨oc16, od16, .func (PySem.W.fnOf "_law_tree" "_law_tree" (defArgs s_law_tree) (defBody s_law_tree) (defScope s_law_tree) .none kV16 dc16 pm16 an16 cd16 ct16), sl16⟩)
    (k_c16 : PySem.W.codeIn K cd16 "_law_tree" = true)
    (k_k16 : PySem.W.keepIn K (.ref f16) = true)
    (a17 : PySem.W.nsIn K mainGlobals "_law_level" = some (some (.ref f17)))
    (l17 : K.lookup f17 = some ⟨oc17, od17, .func (PySem.W.fnOf "_law_level" "_law_level" (defArgs s_law_level) (defBody s_law_level) (defScope s_law_level) .none kV17 dc17 pm17 an17 cd17 ct17), sl17⟩)
    (k_c17 : PySem.W.codeIn K cd17 "_law_level" = true)
    (k_k17 : PySem.W.keepIn K (.ref f17) = true)
    (a18 : PySem.W.nsIn K mainGlobals "_law_handed" = some (some (.ref f18)))
    (l18 : K.lookup f18 = some ⟨oc18, od18, .func (PySem.W.fnOf "_law_handed" "_law_handed" (defArgs s_law_handed) (defBody s_law_handed) (defScope s_law_handed) .none kV18 dc18 pm18 an18 cd18 ct18), sl18⟩)
    (k_c18 : PySem.W.codeIn K cd18 "_law_handed" = true)
    (k_k18 : PySem.W.keepIn K (.ref f18) = true)
    (a19 : PySem.W.nsIn K mainGlobals "_law_drawn" = some (some (.ref f19)))
    (l19 : K.lookup f19 = some ⟨oc19, od19, .func (PySem.W.fnOf "_law_drawn" "_law_drawn" (defArgs s_law_drawn) (defBody s_law_drawn) (defScope s_law_drawn) .none kV19 dc19 pm19 an19 cd19 ct19), sl19⟩)
    (k_c19 : PySem.W.codeIn K cd19 "_law_drawn" = true)
    (k_k19 : PySem.W.keepIn K (.ref f19) = true)
    (a20 : PySem.W.nsIn K mainGlobals "_law_sum" = some (some (.ref f20)))
    (l20 : K.lookup f20 = some ⟨oc20, od20, .func (PySem.W.fnOf "_law_sum" "_law_sum" (defArgs s_law_sum) (defBody s_law_sum) (defScope s_law_sum) .none kV20 dc20 pm20 an20 cd20 ct20), sl20⟩)
    (k_c20 : PySem.W.codeIn K cd20 "_law_sum" = true)
    (k_k20 : PySem.W.keepIn K (.ref f20) = true)
    (a21 : PySem.W.nsIn K mainGlobals "_law_many_ends" = some (some (.ref f21)))
    (l21 : K.lookup f21 = some ⟨oc21, od21, .func (PySem.W.fnOf "_law_many_ends" "_law_many_ends" (defArgs s_law_many_ends) (defBody s_law_many_ends) (defScope s_law_many_ends) .none kV21 dc21 pm21 an21 cd21 ct21), sl21⟩)
    (k_c21 : PySem.W.codeIn K cd21 "_law_many_ends" = true)
    (k_k21 : PySem.W.keepIn K (.ref f21) = true)
    (a22 : PySem.W.nsIn K mainGlobals "_law_ends" = some (some (.ref f22)))
    (l22 : K.lookup f22 = some ⟨oc22, od22, .func (PySem.W.fnOf "_law_ends" "_law_ends" (defArgs s_law_ends) (defBody s_law_ends) (defScope s_law_ends) .none kV22 dc22 pm22 an22 cd22 ct22), sl22⟩)
    (k_c22 : PySem.W.codeIn K cd22 "_law_ends" = true)
    (k_k22 : PySem.W.keepIn K (.ref f22) = true)
    (a23 : PySem.W.nsIn K mainGlobals "_law_is_pruning" = some (some (.ref f23)))
    (l23 : K.lookup f23 = some ⟨oc23, od23, .func (PySem.W.fnOf "_law_is_pruning" "_law_is_pruning" (defArgs s_law_is_pruning) (defBody s_law_is_pruning) (defScope s_law_is_pruning) .none kV23 dc23 pm23 an23 cd23 ct23), sl23⟩)
    (k_c23 : PySem.W.codeIn K cd23 "_law_is_pruning" = true)
    (k_k23 : PySem.W.keepIn K (.ref f23) = true)
    (a24 : PySem.W.nsIn K mainGlobals "_law_rung" = some (some (.ref f24)))
    (l24 : K.lookup f24 = some ⟨oc24, od24, .func (PySem.W.fnOf "_law_rung" "_law_rung" (defArgs s_law_rung) (defBody s_law_rung) (defScope s_law_rung) .none kV24 dc24 pm24 an24 cd24 ct24), sl24⟩)
    (k_c24 : PySem.W.codeIn K cd24 "_law_rung" = true)
    (k_k24 : PySem.W.keepIn K (.ref f24) = true)
    (a25 : PySem.W.nsIn K mainGlobals "law" = some (some (.ref f25)))
    (l25 : K.lookup f25 = some ⟨oc25, od25, .func (PySem.W.fnOf "law" "law" (defArgs s_law) (defBody s_law) (defScope s_law) .none kV25 dc25 pm25 an25 cd25 ct25), sl25⟩)
    (k_c25 : PySem.W.codeIn K cd25 "law" = true)
    (k_k25 : PySem.W.keepIn K (.ref f25) = true)
    (z_abs : PySem.W.nsIn K mainGlobals "abs" = some none)
    (z_bool : PySem.W.nsIn K mainGlobals "bool" = some none)
    (z_int : PySem.W.nsIn K mainGlobals "int" = some none)
    (z_isinstance : PySem.W.nsIn K mainGlobals "isinstance" = some none)
    (z_len : PySem.W.nsIn K mainGlobals "len" = some none)
    (z_list : PySem.W.nsIn K mainGlobals "list" = some none)
    (z_max : PySem.W.nsIn K mainGlobals "max" = some none)
    (z_min : PySem.W.nsIn K mainGlobals "min" = some none)
    (z_range : PySem.W.nsIn K mainGlobals "range" = some none)
    (z_set : PySem.W.nsIn K mainGlobals "set" = some none)
    (z_sorted : PySem.W.nsIn K mainGlobals "sorted" = some none)
    (z_tuple : PySem.W.nsIn K mainGlobals "tuple" = some none)
    : ∃ T : Tx K mg, T.f_law = fa ∧ ∀ (s : Shared) (u : Value), BindsTo s T.d_law ⟨[u], []⟩ [("_law_script", u)] := by
  have e := hfa.symm.trans (PySem.W.mg_of X G a25)
  cases e
  have F0 := fun_mk (st := s_greatest_divisor) l0 k_c0 k_k0
  have b0 := F0.binds (ps := ["one", "other"]) fun _ _ _ _ _ _ us hl => match us, hl with | [_, _], _ => rfl
  have F1 := fun_mk (st := s_plus) l1 k_c1 k_k1
  have b1 := F1.binds (ps := ["one", "other"]) fun _ _ _ _ _ _ us hl => match us, hl with | [_, _], _ => rfl
  have F2 := fun_mk (st := s_minus) l2 k_c2 k_k2
  have b2 := F2.binds (ps := ["one", "other"]) fun _ _ _ _ _ _ us hl => match us, hl with | [_, _], _ => rfl
  have F3 := fun_mk (st := s_trees_by_place) l3 k_c3 k_k3
  have b3 := F3.binds (ps := ["tree"]) fun _ _ _ _ _ _ us hl => match us, hl with | [_], _ => rfl
  have F4 := fun_mk (st := s_common_bottom) l4 k_c4 k_k4
  have b4 := F4.binds (ps := ["tree"]) fun _ _ _ _ _ _ us hl => match us, hl with | [_], _ => rfl
  have F5 := fun_mk (st := s_lifted) l5 k_c5 k_k5
  have b5 := F5.binds (ps := ["tree", "bottom"]) fun _ _ _ _ _ _ us hl => match us, hl with | [_, _], _ => rfl
  have F6 := fun_mk (st := s_in_whole_costs) l6 k_c6 k_k6
  have b6 := F6.binds (ps := ["tree"]) fun _ _ _ _ _ _ us hl => match us, hl with | [_], _ => rfl
  have F7 := fun_mk (st := s_cost_by_change) l7 k_c7 k_k7
  have b7 := F7.binds (ps := ["known", "own", "before", "places"]) fun _ _ _ _ _ _ us hl => match us, hl with | [_, _, _, _], _ => rfl
  have F8 := fun_mk (st := s_best_pair) l8 k_c8 k_k8
  have b8 := F8.binds (ps := ["yes", "no", "leaves"]) fun _ _ _ _ _ _ us hl => match us, hl with | [_, _, _], _ => rfl
  have F9 := fun_mk (st := s_rungs) l9 k_c9 k_k9
  have b9 := F9.binds (ps := ["whole"]) fun _ _ _ _ _ _ us hl => match us, hl with | [_], _ => rfl
  have F10 := fun_mk (st := s_ladder) l10 k_c10 k_k10
  have b10 := F10.binds (ps := ["tree"]) fun _ _ _ _ _ _ us hl => match us, hl with | [_], _ => rfl
  have F11 := fun_mk (st := s_law_cell) l11 k_c11 k_k11
  have b11 := F11.binds (ps := ["_law_script", "_law_k"]) fun _ _ _ _ _ _ us hl => match us, hl with | [_, _], _ => rfl
  have F12 := fun_mk (st := s_law_next) l12 k_c12 k_k12
  have b12 := F12.binds (ps := ["_law_cell_here", "_law_k"]) fun _ _ _ _ _ _ us hl => match us, hl with | [_, _], _ => rfl
  have F13 := fun_mk (st := s_law_ratio) l13 k_c13 k_k13
  have b13 := F13.binds (ps := ["_law_top", "_law_bottom"]) fun _ _ _ _ _ _ us hl => match us, hl with | [_, _], _ => rfl
  have F14 := fun_mk (st := s_law_alike) l14 k_c14 k_k14
  have b14 := F14.binds (ps := ["_law_found", "_law_due"]) fun _ _ _ _ _ _ us hl => match us, hl with | [_, _], _ => rfl
  have F15 := fun_mk (st := s_law_joined) l15 k_c15 k_k15
  have b15 := F15.binds (ps := ["_law_pile", "_law_gain"]) fun _ _ _ _ _ _ us hl => match us, hl with | [_, _], _ => rfl
  have F16 := fun_mk (st := s_law_tree) l16 k_c16 k_k16
  have b16 := F16.binds (ps := ["_law_cells", "_law_scale"]) fun _ _ _ _ _ _ us hl => match us, hl with | [_, _], _ => rfl
  have F17 := fun_mk (st := s_law_level) l17 k_c17 k_k17
  have b17 := F17.binds (ps := ["_law_cell_here", "_law_many", "_law_scale"]) fun _ _ _ _ _ _ us hl => match us, hl with | [_, _, _], _ => rfl
  have F18 := fun_mk (st := s_law_handed) l18 k_c18 k_k18
  have b18 := F18.binds (ps := ["_law_tree_here", "_law_bottom"]) fun _ _ _ _ _ _ us hl => match us, hl with | [_, _], _ => rfl
  have F19 := fun_mk (st := s_law_drawn) l19 k_c19 k_k19
  have b19 := F19.binds (ps := ["_law_tree_here", "_law_place", "_law_cell_here"]) fun _ _ _ _ _ _ us hl => match us, hl with | [_, _, _], _ => rfl
  have F20 := fun_mk (st := s_law_sum) l20 k_c20 k_k20
  have b20 := F20.binds (ps := ["_law_tree_here", "_law_places"]) fun _ _ _ _ _ _ us hl => match us, hl with | [_, _], _ => rfl
  have F21 := fun_mk (st := s_law_many_ends) l21 k_c21 k_k21
  have b21 := F21.binds (ps := ["_law_tree_here"]) fun _ _ _ _ _ _ us hl => match us, hl with | [_], _ => rfl
  have F22 := fun_mk (st := s_law_ends) l22 k_c22 k_k22
  have b22 := F22.binds (ps := ["_law_tree_here", "_law_place"]) fun _ _ _ _ _ _ us hl => match us, hl with | [_, _], _ => rfl
  have F23 := fun_mk (st := s_law_is_pruning) l23 k_c23 k_k23
  have b23 := F23.binds (ps := ["_law_tree_here", "_law_places"]) fun _ _ _ _ _ _ us hl => match us, hl with | [_, _], _ => rfl
  have F24 := fun_mk (st := s_law_rung) l24 k_c24 k_k24
  have b24 := F24.binds (ps := ["_law_rung_here", "_law_tree_here", "_law_bottom", "_law_many"]) fun _ _ _ _ _ _ us hl => match us, hl with | [_, _, _, _], _ => rfl
  have F25 := fun_mk (st := s_law) l25 k_c25 k_k25
  have b25 := F25.binds (ps := ["_law_script"]) fun _ _ _ _ _ _ us hl => match us, hl with | [_], _ => rfl
  exact ⟨⟨_, _, F0, b0, PySem.W.mg_of X G a0, _, _, F1, b1, PySem.W.mg_of X G a1, _, _, F2, b2, PySem.W.mg_of X G a2, _, _, F3, b3, PySem.W.mg_of X G a3, _, _, F4, b4, PySem.W.mg_of X G a4, _, _, F5, b5, PySem.W.mg_of X G a5, _, _, F6, b6, PySem.W.mg_of X G a6, _, _, F7, b7, PySem.W.mg_of X G a7, _, _, F8, b8, PySem.W.mg_of X G a8, _, _, F9, b9, PySem.W.mg_of X G a9, _, _, F10, b10, PySem.W.mg_of X G a10, _, _, F11, b11, PySem.W.mg_of X G a11, _, _, F12, b12, PySem.W.mg_of X G a12, _, _, F13, b13, PySem.W.mg_of X G a13, _, _, F14, b14, PySem.W.mg_of X G a14, _, _, F15, b15, PySem.W.mg_of X G a15, _, _, F16, b16, PySem.W.mg_of X G a16, _, _, F17, b17, PySem.W.mg_of X G a17, _, _, F18, b18, PySem.W.mg_of X G a18, _, _, F19, b19, PySem.W.mg_of X G a19, _, _, F20, b20, PySem.W.mg_of X G a20, _, _, F21, b21, PySem.W.mg_of X G a21, _, _, F22, b22, PySem.W.mg_of X G a22, _, _, F23, b23, PySem.W.mg_of X G a23, _, _, F24, b24, PySem.W.mg_of X G a24, _, _, F25, b25, PySem.W.mg_of X G a25, PySem.W.mg_none_of X G z_abs, PySem.W.mg_none_of X G z_bool, PySem.W.mg_none_of X G z_int, PySem.W.mg_none_of X G z_isinstance, PySem.W.mg_none_of X G z_len, PySem.W.mg_none_of X G z_list, PySem.W.mg_none_of X G z_max, PySem.W.mg_none_of X G z_min, PySem.W.mg_none_of X G z_range, PySem.W.mg_none_of X G z_set, PySem.W.mg_none_of X G z_sorted, PySem.W.mg_none_of X G z_tuple⟩, rfl, fun s u => .of_eq rfl⟩

end Lw

/-! THE CLOSING: the program's top, run once by the kernel, its objects in a tree -/
abbrev PySem.W.Fast.tw890079885701501099 : PySem.Program := PySem.Challenge.pw_prunepath_k38_ladders
theorem PySem.W.Fast.te890079885701501099 : PySem.Challenge.pw_prunepath_k38_ladders = PySem.W.Fast.tw890079885701501099 := rfl
namespace Cz
open PySem PySem.W PyProof.Rows
def goT (ok : Thread → Bool) (st : SharedT → Thread → Option (SharedT × Thread)) : Nat → SharedT → Thread → Option SharedT
  | 0, _, _ => none
  | n + 1, s, t => match through t with
    | true => some s
    | false => match ok t with
      | false => none
      | true => match st s t with
        | some (s', t') => goT ok st n s' t'
        | none => none
theorem goT_of {tb : String → Option Builtin} {p : Program} {w : World} {n₀ : Nat} {ann : Option Value} : ∀ {n : Nat} {s s₁ : SharedT} {t : Thread}, goT (stepOk n₀ ann) (stepT (denote tb) p w) n s t = some s₁ → topRun tb p w n₀ ann n s.abs t = some s₁.abs
  | 0, _, _, _, h => by cases h
  | n + 1, s, s₁, t, h => by
    unfold goT at h
    unfold topRun
    cases h1 : through t with
    | true =>
      rw [h1] at h
      obtain rfl := Option.some.inj h
      rfl
    | false =>
      rw [h1] at h
      cases h2 : stepOk n₀ ann t with
      | false => rw [h2] at h; cases h
      | true =>
        rw [h2] at h
        cases h3 : stepT (denote tb) p w s t with
        | none => rw [h3] at h; cases h
        | some z =>
          obtain ⟨s', t'⟩ := z
          rw [h3] at h
          simp only [stepT_spec h3]
          exact goT_of h
noncomputable def bt0 (P : Params) : BT := (((((((((((BT.nil.ins 0 (boot_o_0 P)).ins 1 (boot_o_1 P)).ins 2 (boot_o_2 P)).ins 3 (boot_o_3 P)).ins 4 (boot_o_4 P)).ins 5 (boot_o_5 P)).ins 6 (boot_o_6 P)).ins 7 (boot_o_7 P)).ins 8 (boot_o_8 P)).ins 9 (boot_o_9 P)).ins 10 (boot_o_10 P))
theorem bt0_abs (P : Params) : absHeap (bt0 P) 11 (boot_heap P).life = boot_heap P := rfl
noncomputable def sT (w : World) (os : OsState) : SharedT := ⟨bt0 w.params, 11, (boot_heap w.params).life, Array.mk [], boot_drawn, boot_toks, os⟩
noncomputable def sA (w : World) (os : OsState) : Shared := ⟨boot_heap w.params, Array.mk [], boot_drawn, boot_toks, os⟩
theorem sT_abs (w : World) (os : OsState) : (sT w os).abs = sA w os := by
  unfold sT SharedT.abs sA
  dsimp only
  rw [bt0_abs]
theorem left_tree {p q : Program} {loose : List Str} {Xt : Shared → Bool} {α : Type} {Yf : Shared → α} {Ya : World → α} {N : Nat} {g0 : Bool}
    (o : ∀ w : World, (fencedOpening treeTable p w N).map (fun s => (s.heap, s.gens, s.drawn, s.toks)) = some (boot_heap w.params, Array.mk [], boot_drawn, boot_toks))
    (h : ∀ w : World, (fun os : OsState => (goT (stepOk 11 ((boot_heap w.params).nsMap mainGlobals "__annotations__")) (stepT (denote treeTable) p w) N (sT w os) (topStub p)).map fun s => (staticsOk (importedModules p.main.body) (boot_heap w.params) s.abs.heap && namesBound p s.abs.heap && gensDone s.abs && laidKept (boot_heap w.params) s.abs.heap, openSeen q loose (importedModules p.main.body) Xt g0 s.abs)) = fun _ => some (true, openGood q loose))
    (h' : ∀ w : World, (fun os : OsState => (goT (stepOk 11 ((boot_heap w.params).nsMap mainGlobals "__annotations__")) (stepT (denote treeTable) p w) N (sT w os) (topStub p)).map fun s => Yf s.abs) = fun _ => some (Ya w)) :
    LeftO p q loose Xt Yf Ya N g0 := fun w => by
  obtain ⟨⟨h1, gs, d, k, os⟩, e, e'⟩ := Option.map_eq_some_iff.mp (o w)
  obtain ⟨rfl, rfl, rfl, rfl⟩ : h1 = boot_heap w.params ∧ gs = Array.mk [] ∧ d = boot_drawn ∧ k = boot_toks := by simpa using e'
  unfold openEnds
  rw [e]
  obtain ⟨s₁, e1, e2⟩ := Option.map_eq_some_iff.mp (congrFun (h w) os)
  injection e2 with e2 e3
  have e4 := congrFun (h' w) os
  rw [e1] at e4
  have e4 : Yf s₁.abs = Ya w := Option.some.inj e4
  have e5 := goT_of e1
  rw [sT_abs] at e5
  have ez : topFrom treeTable p w N (sA w os) = some s₁.abs := by
    unfold topFrom
    have c : ((sA w os).heap.isNs mainGlobals && (sA w os).gens.size == 0) = true := by kernel_rfl
    rw [c]
    show (topRun treeTable p w 11 ((boot_heap w.params).nsMap mainGlobals "__annotations__") N (sA w os) (topStub p)).bind _ = _
    rw [e5]
    show (match staticsOk (importedModules p.main.body) (boot_heap w.params) s₁.abs.heap && namesBound p s₁.abs.heap && gensDone s₁.abs && laidKept (boot_heap w.params) s₁.abs.heap with
      | true => some s₁.abs
      | false => none) = some s₁.abs
    rw [e2]
  show (topFrom treeTable p w N (sA w os)).map _ = _
  rw [ez]
  show some (openSeen q loose (importedModules p.main.body) Xt g0 s₁.abs, Yf s₁.abs) = some (openGood q loose, Ya w)
  rw [e3, e4]
def keep : List Nat := [1, 2, 3, 5, 6, 7, 8, 10, 12, 13, 14, 16, 17, 18, 19, 20, 21, 22, 23, 24, 25, 26, 27, 28, 29, 30]
def q : Program := PySem.W.view PySem.Challenge.pw_prunepath_k38_ladders keep
def loose : List Str := []
set_option maxRecDepth 100000 in
set_option maxHeartbeats 0 in
theorem run1 : ∀ w : World, (fun os : OsState => (goT (stepOk 11 ((boot_heap w.params).nsMap mainGlobals "__annotations__")) (stepT (denote treeTable) PySem.Challenge.pw_prunepath_k38_ladders w) 1840 (sT w os) (topStub PySem.Challenge.pw_prunepath_k38_ladders)).map fun s => (staticsOk (importedModules PySem.Challenge.pw_prunepath_k38_ladders.main.body) (boot_heap w.params) s.abs.heap && namesBound PySem.Challenge.pw_prunepath_k38_ladders s.abs.heap && gensDone s.abs && laidKept (boot_heap w.params) s.abs.heap, openSeen q loose (importedModules PySem.Challenge.pw_prunepath_k38_ladders.main.body) (fun s => xlAt q [] s && recOk (RowW.records (OpenRow.toRowW (OpenLaw.row PySem.Challenge.rw_prunepath_k38_ladders))) s) true s.abs)) = fun _ => some (true, openGood q loose) := by
  rw [PySem.W.Fast.te6613529449190102663, PySem.W.Fast.te10156331382660048174, PySem.W.Fast.te11892475500146522536, PySem.W.Fast.te14364793385576792824, PySem.W.Fast.te4187177175401517315, PySem.W.Fast.te5923862056798008813]
  (intro w; kernel_rfl)
end Cz

open PySem PySem.W PyProof.Rows
local macro_rules | `(tactic| o_head $H) => `(tactic| (refine holds_open (q := Cz.q) (loose := Cz.loose) (Xt := fun s => xlAt Cz.q [] s && recOk (RowW.records (OpenRow.toRowW (OpenLaw.row PySem.Challenge.rw_prunepath_k38_ladders))) s) (XP := XL Cz.q []) (Yf := Hook.obs $H) (Ya := Hook.val $H) (YP := Hook.says $H) (N := 1840) ?hl (Hook.of $H) (Hook.keeps $H) (fun s e => xl_of s (Bool.and_eq_true_iff.mp e).1) XL.keeps (by rfl) (by rfl) (by rfl) (fun s e => recFacts_of (Bool.and_eq_true_iff.mp e).2) (by rfl) (by first | assumption | decide +kernel) (by decide +kernel) ⟨rfl, rfl, rfl, rfl, rfl, by decide +kernel⟩ ?hw ?hc; (case hl => (refine Cz.left_tree (boot_open (by kernel_rfl) (by decide) fun s => by kernel_rfl) Cz.run1 ?_; rw [PySem.W.Fast.te6613529449190102663, PySem.W.Fast.te10156331382660048174, PySem.W.Fast.te11892475500146522536, PySem.W.Fast.te14364793385576792824]; (intro w; kernel_rfl))); (case hw => w_witness2)))
set_option maxRecDepth 100000 in
set_option maxHeartbeats 0 in
theorem PySem.Challenge.cw_prunepath_k38_ladders_holds : PySem.Challenge.rw_prunepath_k38_ladders.Holds := by
  w_on; o_law; k_head
  k_fill
  refine L2.walk_ofX (l := PySem.Challenge.rw_prunepath_k38_ladders) (n := 63) (k := 24) (x := "_law_script") (sp := Lw.sp_law) rfl (by decide) rfl ⟨rfl, by decide, by decide, rfl⟩ (fun w h Y => PySem.W.kIn_of Y) ?F ?S
  case F =>
    intro w mg fa h KX G hmg
    have T : ∃ T : Lw.Tx (L2.KOf KX) mg, T.f_law = fa ∧ ∀ (s : Shared) (u : Value), BindsTo s T.d_law ⟨[u], []⟩ [("_law_script", u)] := by
      dsimp only [L2.KOf]
      refine' Lw.fin KX G hmg ?ga0 ?gl0 ?gk_c0 ?gk_k0 ?ga1 ?gl1 ?gk_c1 ?gk_k1 ?ga2 ?gl2 ?gk_c2 ?gk_k2 ?ga3 ?gl3 ?gk_c3 ?gk_k3 ?ga4 ?gl4 ?gk_c4 ?gk_k4 ?ga5 ?gl5 ?gk_c5 ?gk_k5 ?ga6 ?gl6 ?gk_c6 ?gk_k6 ?ga7 ?gl7 ?gk_c7 ?gk_k7 ?ga8 ?gl8 ?gk_c8 ?gk_k8 ?ga9 ?gl9 ?gk_c9 ?gk_k9 ?ga10 ?gl10 ?gk_c10 ?gk_k10 ?ga11 ?gl11 ?gk_c11 ?gk_k11 ?ga12 ?gl12 ?gk_c12 ?gk_k12 ?ga13 ?gl13 ?gk_c13 ?gk_k13 ?ga14 ?gl14 ?gk_c14 ?gk_k14 ?ga15 ?gl15 ?gk_c15 ?gk_k15 ?ga16 ?gl16 ?gk_c16 ?gk_k16 ?ga17 ?gl17 ?gk_c17 ?gk_k17 ?ga18 ?gl18 ?gk_c18 ?gk_k18 ?ga19 ?gl19 ?gk_c19 ?gk_k19 ?ga20 ?gl20 ?gk_c20 ?gk_k20 ?ga21 ?gl21 ?gk_c21 ?gk_k21 ?ga22 ?gl22 ?gk_c22 ?gk_k22 ?ga23 ?gl23 ?gk_c23 ?gk_k23 ?ga24 ?gl24 ?gk_c24 ?gk_k24 ?ga25 ?gl25 ?gk_c25 ?gk_k25 ?gz_abs ?gz_bool ?gz_int ?gz_isinstance ?gz_len ?gz_list ?gz_max ?gz_min ?gz_range ?gz_set ?gz_sorted ?gz_tuple
      (case ga0 => first | k_is | k_exc | kit_is | kts_exm)
      (case gl0 => first | k_is | k_exc | kit_is | kts_exm)
      (case gk_c0 => first | k_is | k_exc | kit_is | kts_exm)
      (case gk_k0 => first | k_is | k_exc | kit_is | kts_exm)
      (case ga1 => first | k_is | k_exc | kit_is | kts_exm)
      (case gl1 => first | k_is | k_exc | kit_is | kts_exm)
      (case gk_c1 => first | k_is | k_exc | kit_is | kts_exm)
      (case gk_k1 => first | k_is | k_exc | kit_is | kts_exm)
      (case ga2 => first | k_is | k_exc | kit_is | kts_exm)
      (case gl2 => first | k_is | k_exc | kit_is | kts_exm)
      (case gk_c2 => first | k_is | k_exc | kit_is | kts_exm)
      (case gk_k2 => first | k_is | k_exc | kit_is | kts_exm)
      (case ga3 => first | k_is | k_exc | kit_is | kts_exm)
      (case gl3 => first | k_is | k_exc | kit_is | kts_exm)
      (case gk_c3 => first | k_is | k_exc | kit_is | kts_exm)
      (case gk_k3 => first | k_is | k_exc | kit_is | kts_exm)
      (case ga4 => first | k_is | k_exc | kit_is | kts_exm)
      (case gl4 => first | k_is | k_exc | kit_is | kts_exm)
      (case gk_c4 => first | k_is | k_exc | kit_is | kts_exm)
      (case gk_k4 => first | k_is | k_exc | kit_is | kts_exm)
      (case ga5 => first | k_is | k_exc | kit_is | kts_exm)
      (case gl5 => first | k_is | k_exc | kit_is | kts_exm)
      (case gk_c5 => first | k_is | k_exc | kit_is | kts_exm)
      (case gk_k5 => first | k_is | k_exc | kit_is | kts_exm)
      (case ga6 => first | k_is | k_exc | kit_is | kts_exm)
      (case gl6 => first | k_is | k_exc | kit_is | kts_exm)
      (case gk_c6 => first | k_is | k_exc | kit_is | kts_exm)
      (case gk_k6 => first | k_is | k_exc | kit_is | kts_exm)
      (case ga7 => first | k_is | k_exc | kit_is | kts_exm)
      (case gl7 => first | k_is | k_exc | kit_is | kts_exm)
      (case gk_c7 => first | k_is | k_exc | kit_is | kts_exm)
      (case gk_k7 => first | k_is | k_exc | kit_is | kts_exm)
      (case ga8 => first | k_is | k_exc | kit_is | kts_exm)
      (case gl8 => first | k_is | k_exc | kit_is | kts_exm)
      (case gk_c8 => first | k_is | k_exc | kit_is | kts_exm)
      (case gk_k8 => first | k_is | k_exc | kit_is | kts_exm)
      (case ga9 => first | k_is | k_exc | kit_is | kts_exm)
      (case gl9 => first | k_is | k_exc | kit_is | kts_exm)
      (case gk_c9 => first | k_is | k_exc | kit_is | kts_exm)
      (case gk_k9 => first | k_is | k_exc | kit_is | kts_exm)
      (case ga10 => first | k_is | k_exc | kit_is | kts_exm)
      (case gl10 => first | k_is | k_exc | kit_is | kts_exm)
      (case gk_c10 => first | k_is | k_exc | kit_is | kts_exm)
      (case gk_k10 => first | k_is | k_exc | kit_is | kts_exm)
      (case ga11 => first | k_is | k_exc | kit_is | kts_exm)
      (case gl11 => first | k_is | k_exc | kit_is | kts_exm)
      (case gk_c11 => first | k_is | k_exc | kit_is | kts_exm)
      (case gk_k11 => first | k_is | k_exc | kit_is | kts_exm)
      (case ga12 => first | k_is | k_exc | kit_is | kts_exm)
      (case gl12 => first | k_is | k_exc | kit_is | kts_exm)
      (case gk_c12 => first | k_is | k_exc | kit_is | kts_exm)
      (case gk_k12 => first | k_is | k_exc | kit_is | kts_exm)
      (case ga13 => first | k_is | k_exc | kit_is | kts_exm)
      (case gl13 => first | k_is | k_exc | kit_is | kts_exm)
      (case gk_c13 => first | k_is | k_exc | kit_is | kts_exm)
      (case gk_k13 => first | k_is | k_exc | kit_is | kts_exm)
      (case ga14 => first | k_is | k_exc | kit_is | kts_exm)
      (case gl14 => first | k_is | k_exc | kit_is | kts_exm)
      (case gk_c14 => first | k_is | k_exc | kit_is | kts_exm)
      (case gk_k14 => first | k_is | k_exc | kit_is | kts_exm)
      (case ga15 => first | k_is | k_exc | kit_is | kts_exm)
      (case gl15 => first | k_is | k_exc | kit_is | kts_exm)
      (case gk_c15 => first | k_is | k_exc | kit_is | kts_exm)
      (case gk_k15 => first | k_is | k_exc | kit_is | kts_exm)
      (case ga16 => first | k_is | k_exc | kit_is | kts_exm)
      (case gl16 => first | k_is | k_exc | kit_is | kts_exm)
      (case gk_c16 => first | k_is | k_exc | kit_is | kts_exm)
      (case gk_k16 => first | k_is | k_exc | kit_is | kts_exm)
      (case ga17 => first | k_is | k_exc | kit_is | kts_exm)
      (case gl17 => first | k_is | k_exc | kit_is | kts_exm)
      (case gk_c17 => first | k_is | k_exc | kit_is | kts_exm)
      (case gk_k17 => first | k_is | k_exc | kit_is | kts_exm)
      (case ga18 => first | k_is | k_exc | kit_is | kts_exm)
      (case gl18 => first | k_is | k_exc | kit_is | kts_exm)
      (case gk_c18 => first | k_is | k_exc | kit_is | kts_exm)
      (case gk_k18 => first | k_is | k_exc | kit_is | kts_exm)
      (case ga19 => first | k_is | k_exc | kit_is | kts_exm)
      (case gl19 => first | k_is | k_exc | kit_is | kts_exm)
      (case gk_c19 => first | k_is | k_exc | kit_is | kts_exm)
      (case gk_k19 => first | k_is | k_exc | kit_is | kts_exm)
      (case ga20 => first | k_is | k_exc | kit_is | kts_exm)
      (case gl20 => first | k_is | k_exc | kit_is | kts_exm)
      (case gk_c20 => first | k_is | k_exc | kit_is | kts_exm)
      (case gk_k20 => first | k_is | k_exc | kit_is | kts_exm)
      (case ga21 => first | k_is | k_exc | kit_is | kts_exm)
      (case gl21 => first | k_is | k_exc | kit_is | kts_exm)
      (case gk_c21 => first | k_is | k_exc | kit_is | kts_exm)
      (case gk_k21 => first | k_is | k_exc | kit_is | kts_exm)
      (case ga22 => first | k_is | k_exc | kit_is | kts_exm)
      (case gl22 => first | k_is | k_exc | kit_is | kts_exm)
      (case gk_c22 => first | k_is | k_exc | kit_is | kts_exm)
      (case gk_k22 => first | k_is | k_exc | kit_is | kts_exm)
      (case ga23 => first | k_is | k_exc | kit_is | kts_exm)
      (case gl23 => first | k_is | k_exc | kit_is | kts_exm)
      (case gk_c23 => first | k_is | k_exc | kit_is | kts_exm)
      (case gk_k23 => first | k_is | k_exc | kit_is | kts_exm)
      (case ga24 => first | k_is | k_exc | kit_is | kts_exm)
      (case gl24 => first | k_is | k_exc | kit_is | kts_exm)
      (case gk_c24 => first | k_is | k_exc | kit_is | kts_exm)
      (case gk_k24 => first | k_is | k_exc | kit_is | kts_exm)
      (case ga25 => first | k_is | k_exc | kit_is | kts_exm)
      (case gl25 => first | k_is | k_exc | kit_is | kts_exm)
      (case gk_c25 => first | k_is | k_exc | kit_is | kts_exm)
      (case gk_k25 => first | k_is | k_exc | kit_is | kts_exm)
      (case gz_abs => first | k_is | k_exc | kit_is | kts_exm)
      (case gz_bool => first | k_is | k_exc | kit_is | kts_exm)
      (case gz_int => first | k_is | k_exc | kit_is | kts_exm)
      (case gz_isinstance => first | k_is | k_exc | kit_is | kts_exm)
      (case gz_len => first | k_is | k_exc | kit_is | kts_exm)
      (case gz_list => first | k_is | k_exc | kit_is | kts_exm)
      (case gz_max => first | k_is | k_exc | kit_is | kts_exm)
      (case gz_min => first | k_is | k_exc | kit_is | kts_exm)
      (case gz_range => first | k_is | k_exc | kit_is | kts_exm)
      (case gz_set => first | k_is | k_exc | kit_is | kts_exm)
      (case gz_sorted => first | k_is | k_exc | kit_is | kts_exm)
      (case gz_tuple => first | k_is | k_exc | kit_is | kts_exm)
    obtain ⟨T, rfl, hb⟩ := T
    exact ⟨T.d_law, hb, fun base kb nb => Lw.ok_law T⟩
  case S => exact fun K H a ns hl hO hS => ⟨a, ns, rfl, L2.SqF.of_only hO hS, hl, fun _ => rfl⟩
