import PyProof.Rows.All
import Wide.All
import OpenK.AllK
import Wide.FinOn
import Lean
import PyProof.EqAt
import PyProof.EqKinds
import PyProof.TupleCall
import KE.KRevSl
import KE.KDictSum
import KE.BitLaws
import KE.KIntText
import KE.IntTextLaws
import KE.KSortTup
import PyProof.DictItems
import PyProof.DictItemsLoops
import PyProof.DictWalks
import PySem.Challenge.RW_prunepath_k42_answers_of_pruned_trees
set_option Elab.async false
set_option linter.all false
set_option maxRecDepth 100000
/-! THE HAND LAYER, for ints, bools, texts, own classes, LISTS and tuples (index, slices, in, append, pop ..), calls, loops. Paste it whole ahead of your own text; what your proof does not reach may be deleted. -/
namespace L2
open PySem PySem.Spec PyProof.Rows

/-- a key: an int or a str -/
abbrev Key := Sum Int Str
def keyIs : Key → Value → Bool
  | .inl k, v => Value.isInt k v
  | .inr x, v => Value.isStrOf x v
def keyH (w : World) : Key → Int
  | .inl k => hashInt k
  | .inr x => hashStr w x
theorem keyIs_shape : ∀ {k : Key} {v : Value}, keyIs k v = true → (∃ i t, k = Sum.inl i ∧ v = Value.int i t) ∨ (∃ x t, k = Sum.inr x ∧ v = Value.str x t)
  | .inl i, v, h => by
    obtain ⟨t, e⟩ := Value.isInt_shape (k := i) (v := v) h
    exact .inl ⟨i, t, rfl, e⟩
  | .inr x, v, h => by
    obtain ⟨t, e⟩ := Value.isStrOf_shape (x := x) (v := v) h
    exact .inr ⟨x, t, rfl, e⟩
theorem keyIs_int (i : Int) (t : Tok) : keyIs (.inl i) (.int i t) = true := by simp [keyIs, Value.isInt]
theorem keyIs_str (x : Str) (t : Tok) : keyIs (.inr x) (.str x t) = true := by simp [keyIs, Value.isStrOf]
theorem key_ll (a b : Int) : decide ((Sum.inl a : Key) = Sum.inl b) = (a == b) := by
  by_cases e : a = b
  · subst e; simp
  · have h : ¬ (Sum.inl a : Key) = Sum.inl b := fun q => e (Sum.inl.inj q)
    rw [decide_eq_false h]
    exact (beq_eq_false_iff_ne.mpr e).symm
theorem key_rr (a b : Str) : decide ((Sum.inr a : Key) = Sum.inr b) = decide (a = b) := by
  by_cases e : a = b
  · subst e; simp
  · have h : ¬ (Sum.inr a : Key) = Sum.inr b := fun q => e (Sum.inr.inj q)
    rw [decide_eq_false h, decide_eq_false e]
theorem key_lr (a : Int) (b : Str) : decide ((Sum.inl a : Key) = Sum.inr b) = false := decide_eq_false (fun q => nomatch q)
theorem key_rl (a : Str) (b : Int) : decide ((Sum.inr a : Key) = Sum.inl b) = false := decide_eq_false (fun q => nomatch q)

def mixKind (prog : Program) (w : World) : PySem.KeyKind prog w Key where
  is := keyIs
  hash := keyH w
  inj := fun v a b ha hb => by
    rcases keyIs_shape ha with ⟨i, t, rfl, rfl⟩ | ⟨x, t, rfl, rfl⟩
    · rcases keyIs_shape hb with ⟨j, u, rfl, e⟩ | ⟨y, u, rfl, e⟩
      · injection e with e1 _; rw [e1]
      · exact nomatch e
    · rcases keyIs_shape hb with ⟨j, u, rfl, e⟩ | ⟨y, u, rfl, e⟩
      · exact nomatch e
      · injection e with e1 _; rw [e1]
  byValue := fun k v h => by
    rcases keyIs_shape h with ⟨i, t, rfl, rfl⟩ | ⟨x, t, rfl, rfl⟩ <;> rfl
  pyHash := fun hv h => by
    rcases keyIs_shape hv with ⟨i, t, rfl, rfl⟩ | ⟨x, t, rfl, rfl⟩
    · exact wpAny_pyHash_int h
    · exact wpAny_pyHash_str h
  eqBool := fun hu hv h => by
    rcases keyIs_shape hu with ⟨i, t, rfl, rfl⟩ | ⟨x, t, rfl, rfl⟩
    · rcases keyIs_shape hv with ⟨j, u, rfl, rfl⟩ | ⟨y, u, rfl, rfl⟩
      · rw [key_ll] at h; exact wpAny_eqBool_int h
      · rw [key_lr] at h; exact SeqAt.EqAt.int_str i t y u _ _ _ _ h
    · rcases keyIs_shape hv with ⟨j, u, rfl, rfl⟩ | ⟨y, u, rfl, rfl⟩
      · rw [key_rl] at h; exact SeqAt.EqAt.str_int x t j u _ _ _ _ h
      · rw [key_rr] at h; exact wpAny_eqBool_str h
  «strs» := fun k x t v h => by
    rcases keyIs_shape h with ⟨i, u, rfl, e⟩ | ⟨y, u, rfl, e⟩
    · exact nomatch e
    · injection e with e1 _
      subst e1
      cases v <;> rfl

theorem mixKind_int (prog : Program) (w : World) (i : Int) (t : Tok) : (mixKind prog w).is (.inl i) (.int i t) = true := keyIs_int i t
theorem mixKind_str (prog : Program) (w : World) (x : Str) (t : Tok) : (mixKind prog w).is (.inr x) (.str x t) = true := keyIs_str x t
end L2

namespace L2
open PySem PySem.Spec PyProof.Rows

/-- a value, without the heap -/
inductive V where
  | non | bl (b : Bool) | int (i : Int) | str (x : Str) | byt (b : Array UInt8) | flt (b : UInt64) | ref (a : Addr) | ty (n : String)
  deriving DecidableEq

def RelV : V → Value → Prop
  | .non, u => u = Value.none
  | .bl b, u => u = Value.bool b
  | .int i, u => ∃ t, u = Value.int i t
  | .str x, u => ∃ t, u = Value.str x t
  | .byt b, u => ∃ t, u = Value.bytes b t
  | .flt b, u => ∃ t, u = Value.float b t
  | .ref a, u => u = Value.ref a
  | .ty n, u => u = Value.type n

abbrev Vals : List V → List Value → Prop := Paired RelV
theorem Vals.length {xs : List V} {us : List Value} (r : Vals xs us) : xs.length = us.length := Paired.length r
theorem Vals.get : ∀ {xs : List V} {us : List Value} {i : Nat} {x : V}, Vals xs us → xs[i]? = some x → ∃ u, us[i]? = some u ∧ RelV x u
  | _, _, _, _, .nil, e => by simp at e
  | _, _, 0, _, .cons r _, e => by simp at e; subst e; exact ⟨_, rfl, r⟩
  | _, _, i + 1, x, .cons _ t, e => by
    obtain ⟨u, h1, h2⟩ := Vals.get (i := i) (x := x) t (by simpa using e)
    exact ⟨u, by simpa using h1, h2⟩
theorem Vals.append : ∀ {xs ys : List V} {us ws : List Value}, Vals xs us → Vals ys ws → Vals (xs ++ ys) (us ++ ws)
  | _, _, _, _, .nil, s => s
  | _, _, _, _, .cons r t, s => .cons r (Vals.append t s)
theorem Vals.take : ∀ {xs : List V} {us : List Value} (n : Nat), Vals xs us → Vals (xs.take n) (us.take n)
  | _, _, 0, _ => .nil
  | _, _, _ + 1, .nil => .nil
  | _, _, n + 1, .cons r t => .cons r (Vals.take n t)
theorem Vals.drop : ∀ {xs : List V} {us : List Value} (n : Nat), Vals xs us → Vals (xs.drop n) (us.drop n)
  | _, _, 0, r => r
  | _, _, _ + 1, .nil => .nil
  | _, _, n + 1, .cons _ t => Vals.drop n t
def RelO : Option V → Option Value → Prop
  | some v, some u => RelV v u
  | none, none => True
  | _, _ => False
def KV {κ : Type} : List (κ × V) → List (κ × Value) → Prop := Paired fun (p : κ × V) (q : κ × Value) => p.1 = q.1 ∧ RelV p.2 q.2

/-- a key of a dict (00_mix): an int or a text -/
def kV : Key → V
  | .inl i => .int i
  | .inr x => .str x

/-- what stands at a tracked address -/
inductive HO where
  /-- a list -/
  | lst (xs : List V)
  /-- a tuple (never changes) -/
  | tup (xs : List V)
  /-- a dict whose keys are ints and texts; one whose keys are tuples of ints and texts (the empty one is both) -/
  | dK (kvs : List (Key × V)) | dT (kvs : List (List Key × V))
  /-- a set of ints: its members, its size -/
  | set (S : Int → Bool) (n : Nat)
  /-- an instance of the class at C, its dict at dx, its attributes -/
  | ins (C dx : Addr) (fs : List (Str × V))
  /-- the dict of the instance at x -/
  | own (x : Addr)
  /-- the dict of an exception -/
  | xd (fs : List (Str × V))
  /-- a bound method, f of x -/
  | met (f x : Addr)
  /-- a range object lo, lo + 1, .. below hi -/
  | rng (lo hi : Int)
  /-- a thing that is known to the object (the script; a dict while a loop walks it): read, never written while it is so -/
  | frz (o : Obj) (u : HO)
  /-- a code object's table -/
  | tbl (ps : Array Value)
  /-- any other thing, by what is true of its one object (a def of one's own: SetO a S n := HO.ext fun h => ..) -/
  | ext (φ : Heap → Prop)

abbrev Hp := Addr → Option HO
def upd (H : Hp) (a : Addr) (o : HO) : Hp := fun b => if b = a then some o else H b
theorem upd_same {H : Hp} {a : Addr} {o : HO} : upd H a o a = some o := by unfold upd; rw [if_pos rfl]
theorem upd_ne {H : Hp} {a b : Addr} {o : HO} (h : b ≠ a) : upd H a o b = H b := by unfold upd; rw [if_neg h]
/-- two objects of different content stand apart -/
theorem ne_of {H : Hp} {a b : Addr} {o u : HO} (h : H a = some o) (h' : H b = some u) (d : o ≠ u) : a ≠ b := by
  intro e; subst e; rw [h] at h'; exact d (Option.some.inj h')
theorem ne_of_none {H : Hp} {a b : Addr} {o : HO} (h : H a = some o) (h' : H b = none) : a ≠ b := by
  intro e; subst e; rw [h] at h'; cases h'

section
variable (P : Program) (w : World)
def ObjOk (H : Hp) (h : Heap) (a : Addr) : HO → Prop
  | .lst xs => xs.length ≤ sizeLine ∧ ∃ (its : List Value) (n : Nat), Vals xs its ∧ h.get? a = some { cls := .type "list", data := .seq its.toArray n }
  | .tup xs => xs.length ≤ sizeLine ∧ ∃ its : List Value, Vals xs its ∧ IsTup h a its.toArray
  | .dK kvs => kvs.length ≤ sizeLine ∧ (a == sysModules) = false ∧ ∃ vs, KV kvs vs ∧ h.DictOf (mixKind P w) a vs
  | .dT kvs => kvs.length ≤ sizeLine ∧ (a == sysModules) = false ∧ ∃ xs : List (List Key × Addr × Value),
      Paired (fun (p : List Key × V) (q : List Key × Addr × Value) => p.1 = q.1 ∧ H q.2.1 = some (.tup (p.1.map kV)) ∧ RelV p.2 q.2.2) kvs xs ∧
      ∃ o es ep, h.get? a = some o ∧ o.ExactDict ∧ o.data = .dict es ep ∧ es.toList = xs.map (entryOfKey (tupleKind (mixKind P w))) ∧ (xs.map (·.1)).Nodup
  | .set S n => h.SetOf (intKind P w) a S n
  | .ins C dx fs => H dx = some (.own a) ∧ fs.length ≤ 1000 ∧ dx ≠ a ∧ h.get? a = some (PySem.W.instObj C dx) ∧
      ∃ mA, h.Ns1 dx mA ∧ (∀ f, RelO (fs.lookup f) (mA f)) ∧ PySem.Within mA (fs.map (·.1))
  | .own _ => ∃ o, h.get? a = some o
  | .xd fs => ∃ mA, h.Ns1 a mA ∧ ∀ f, RelO (fs.lookup f) (mA f)
  | .rng lo hi => ∃ t u v, h.get? a = some { cls := .type "range", data := .fields #[.int lo t, .int hi u, .int 1 v] }
  | .frz o u => h.get? a = some o ∧ ObjOk H h a u
  | .tbl ps => h.get? a = some { cls := .none, data := .fields ps }
  | .met f x => h.get? a = some (PySem.W.methodObj (.ref f) (.ref x))
  | .ext φ => φ h ∧ (∃ o, h.get? a = some o) ∧ ∀ h1 h2 : Heap, φ h1 → (∀ o, h1.get? a = some o → h2.get? a = some o) → φ h2
/-- the abstract heap is held -/
def HOk (H : Hp) (h : Heap) : Prop := ∀ a o, H a = some o → ObjOk P w H h a o
end

section
variable {P : Program} {w : World} {H H' : Hp} {h h' : Heap} {a : Addr} {o : HO}
theorem ObjOk.lt (x : ObjOk P w H h a o) : a < h.objs.size := by
  cases o with
  | lst xs => obtain ⟨_, _, _, _, e⟩ := x; exact Heap.lt_size e
  | tup xs => obtain ⟨_, _, _, p⟩ := x; exact p.lt
  | dK kvs => obtain ⟨_, _, _, _, o, _, _, e, _⟩ := x; exact Heap.lt_size e
  | dT kvs => obtain ⟨_, _, _, _, o, _, _, e, _⟩ := x; exact Heap.lt_size e
  | set S n => obtain ⟨o, _, _, _, e, _⟩ := x; exact Heap.lt_size e
  | ins C dx fs => obtain ⟨_, _, _, e, _⟩ := x; exact Heap.lt_size e
  | own y => obtain ⟨_, e⟩ := x; exact Heap.lt_size e
  | xd fs => obtain ⟨_, ⟨_, _, _, e, _⟩, _⟩ := x; exact Heap.lt_size e
  | rng lo hi => obtain ⟨_, _, _, e⟩ := x; exact Heap.lt_size e
  | frz ob u => obtain ⟨e, _⟩ := x; exact Heap.lt_size e
  | tbl ps => exact Heap.lt_size (show h.get? a = some _ from x)
  | met f y => exact Heap.lt_size (show h.get? a = some _ from x)
  | ext φ => obtain ⟨_, ⟨_, e⟩, _⟩ := x; exact Heap.lt_size e
theorem Paired.mapP {α β : Type} {F G : α → β → Prop} : ∀ {l₁ : List α} {l₂ : List β}, Paired F l₁ l₂ → (∀ a b, F a b → G a b) → Paired G l₁ l₂
  | _, _, .nil, _ => .nil
  | _, _, .cons r t, f => .cons (f _ _ r) (Paired.mapP t f)
/-- what an object's description leans on: its own object, its own dict, the tuples -/
theorem ObjOk.stay (x : ObjOk P w H h a o) (k : ∀ b u, (b = a ∨ H b = some (.own a)) → h.get? b = some u → h'.get? b = some u)
    (ho : ∀ b, H b = some (.own a) → H' b = some (.own a)) (ht : ∀ b xs, H b = some (.tup xs) → H' b = some (.tup xs)) : ObjOk P w H' h' a o := by
  induction o with
  | lst xs => obtain ⟨z, its, n, r, e⟩ := x; exact ⟨z, its, n, r, k _ _ (.inl rfl) e⟩
  | tup xs => obtain ⟨z, its, r, ob, e, c⟩ := x; exact ⟨z, its, r, ob, k _ _ (.inl rfl) e, c⟩
  | dK kvs => obtain ⟨z, y, vs, r, ob, es, ep, e, c⟩ := x; exact ⟨z, y, vs, r, ob, es, ep, k _ _ (.inl rfl) e, c⟩
  | dT kvs =>
    obtain ⟨z, y, xs, r, ob, es, ep, e, c⟩ := x
    exact ⟨z, y, xs, Paired.mapP r fun p q z => ⟨z.1, ht _ _ z.2.1, z.2.2⟩, ob, es, ep, k _ _ (.inl rfl) e, c⟩
  | set S n => obtain ⟨ob, es, ep, t, e, c⟩ := x; exact ⟨ob, es, ep, t, k _ _ (.inl rfl) e, c⟩
  | ins C dx fs =>
    obtain ⟨d, z, ne, e, mA, ⟨od, es, ep, e2, c⟩, r⟩ := x
    exact ⟨ho _ d, z, ne, k _ _ (.inl rfl) e, mA, ⟨od, es, ep, k _ _ (.inr d) e2, c⟩, r⟩
  | own y => obtain ⟨ob, e⟩ := x; exact ⟨ob, k _ _ (.inl rfl) e⟩
  | xd fs => obtain ⟨mA, ⟨od, es, ep, e, c⟩, r⟩ := x; exact ⟨mA, ⟨od, es, ep, k _ _ (.inl rfl) e, c⟩, r⟩
  | rng lo hi => obtain ⟨t, u, v, e⟩ := x; exact ⟨t, u, v, k _ _ (.inl rfl) e⟩
  | frz ob u ih => obtain ⟨e, q⟩ := x; exact ⟨k _ _ (.inl rfl) e, ih q⟩
  | tbl ps =>
    have e : h.get? a = some { cls := .none, data := .fields ps } := x
    show h'.get? a = some { cls := .none, data := .fields ps }
    exact k a _ (.inl rfl) e
  | met f y =>
    have e : h.get? a = some (PySem.W.methodObj (.ref f) (.ref y)) := x
    show h'.get? a = some (PySem.W.methodObj (.ref f) (.ref y))
    exact k a _ (.inl rfl) e
  | ext φ => obtain ⟨p, ⟨o, e⟩, st⟩ := x; exact ⟨st _ _ p fun o q => k _ _ (.inl rfl) q, ⟨o, k _ _ (.inl rfl) e⟩, st⟩
theorem HOk.lt (x : HOk P w H h) (e : H a = some o) : a < h.objs.size := (x a o e).lt
theorem HOk.fresh (x : HOk P w H h) (e : h.objs.size ≤ a) : H a = none := by
  cases q : H a with
  | none => rfl
  | some u => exact absurd (Nat.lt_of_lt_of_le (x.lt q) e) (Nat.lt_irrefl _)
/-- every object of the heap is kept -/
theorem HOk.kept (x : HOk P w H h) (k : ∀ b u, h.get? b = some u → h'.get? b = some u) : HOk P w H h' := fun a o e =>
  (x a o e).stay (fun b u _ q => k b u q) (fun _ q => q) fun _ _ q => q
/-- a new object is laid and tracked -/
theorem HOk.laid (x : HOk P w H h) (k : ∀ b u, h.get? b = some u → h'.get? b = some u) (hp : h.objs.size ≤ a) (new : ObjOk P w (upd H a o) h' a o) : HOk P w (upd H a o) h' := fun b u e => by
  have hn := x.fresh hp
  by_cases hb : b = a
  · subst hb; rw [upd_same] at e; cases e; exact new
  · rw [upd_ne hb] at e
    exact (x b u e).stay (fun c v _ q => k c v q) (fun c q => by rw [upd_ne (ne_of_none q hn)]; exact q) fun c xs q => by rw [upd_ne (ne_of_none q hn)]; exact q
end

/-- what may be read as u: it is u, or a known u -/
def Rd (H : Hp) (a : Addr) (u : HO) : Prop := H a = some u ∨ ∃ o, H a = some (.frz o u)
theorem Rd.ok {P : Program} {w : World} {H : Hp} {h : Heap} {a : Addr} {u : HO} (r : Rd H a u) (x : HOk P w H h) : ObjOk P w H h a u := by
  rcases r with r | ⟨o, r⟩
  · exact x a u r
  · obtain ⟨_, q⟩ := x a _ r
    exact q
/-- what may be written -/
def Mut : Option HO → Prop
  | some (.lst _) => True
  | some (.dK _) => True
  | some (.dT _) => True
  | some (.set _ _) => True
  | some (.ins _ _ _) => True
  | some (.ext _) => True
  | _ => False
section
variable {P : Program} {w : World} {H : Hp} {h h' : Heap} {x e : Addr} {o' : HO}
/-- the object at e is changed: x itself, or the dict of the instance x -/
theorem HOk.write (ok : HOk P w H h) (mu : Mut (H x)) (he : e = x ∨ H e = some (.own x)) (k : ∀ b u, b ≠ e → h.get? b = some u → h'.get? b = some u) (heo : ∃ u, h'.get? e = some u)
    (new : ObjOk P w (upd H x o') h' x o') : HOk P w (upd H x o') h' := fun b u q => by
  have nown : ∀ c y, H c = some (.own y) → c ≠ x := fun c y r z => by subst z; rw [r] at mu; exact mu
  have ntup : ∀ c xs, H c = some (.tup xs) → c ≠ x := fun c xs r z => by subst z; rw [r] at mu; exact mu
  by_cases hb : b = x
  · subst hb; rw [upd_same] at q; cases q; exact new
  · rw [upd_ne hb] at q
    by_cases hbe : b = e
    · have q' : H b = some (.own x) := by
        rcases he with z | z
        · exact absurd (hbe.trans z) hb
        · rw [hbe]; exact z
      rw [q] at q'; cases q'
      obtain ⟨v, hv⟩ := heo
      exact ⟨v, by rw [hbe]; exact hv⟩
    · refine (ok b u q).stay (fun c v hc r => k c v ?_ r) (fun c r => by rw [upd_ne (nown c b r)]; exact r) fun c xs r => by rw [upd_ne (ntup c xs r)]; exact r
      rcases hc with rfl | hc
      · exact hbe
      · rintro rfl
        rcases he with z | z
        · exact nown c b hc z
        · rw [hc] at z; cases z; exact hb rfl
end

/-! ### kept unless tracked; of the frames at fs (the callers') the slots may change (an exception that passes writes there); of the records at ex (iterators) nothing is said -/
structure Un (fs ex : List Addr) (H H' : Hp) (h h' : Heap) : Prop where
  keep : ∀ b o, h.get? b = some o → H b = none → b ∉ fs → b ∉ ex → h'.get? b = some o
  slot : ∀ b o, h.get? b = some o → H b = none → b ∈ fs → b ∉ ex → ∃ sl, h'.get? b = some { o with slots := sl }
  free : ∀ b o, h.get? b = some o → H b = none → b ∉ ex → H' b = none
  there : ∀ b o, h.get? b = some o → b ∉ ex → ∃ o', h'.get? b = some o'
  tups : ∀ b xs, H b = some (.tup xs) → H' b = some (.tup xs)
  frzs : ∀ b o u, H b = some (.frz o u) → H' b = some (.frz o u)
  tbls : ∀ b ps, H b = some (.tbl ps) → ∃ more, H' b = some (.tbl (ps ++ more))
section
variable {fs fs' ex ex' : List Addr} {H H1 H2 : Hp} {h h1 h2 h' : Heap} {a x e : Addr} {o : HO}
theorem Un.any (u : Un fs ex H H1 h h1) {b : Addr} {ob : Obj} (q : h.get? b = some ob) (n : H b = none) (hx : b ∉ ex) : ∃ sl, h1.get? b = some { ob with slots := sl } := by
  by_cases hb : b ∈ fs
  · exact u.slot b ob q n hb hx
  · exact ⟨ob.slots, u.keep b ob q n hb hx⟩
theorem Un.kept (k : ∀ b u, h.get? b = some u → h'.get? b = some u) : Un fs ex H H h h' :=
  ⟨fun b ob q _ _ _ => k b ob q, fun b ob q _ _ _ => ⟨ob.slots, k b ob q⟩, fun _ _ _ n _ => n, fun b ob q _ => ⟨ob, k b ob q⟩, fun _ _ q => q, fun _ _ _ q => q, fun _ ps q => ⟨#[], by rw [q]; simp⟩⟩
theorem Un.refl : Un fs ex H H h h := Un.kept fun _ _ q => q
theorem Un.laid (k : ∀ b u, h.get? b = some u → h'.get? b = some u) (hp : h.objs.size ≤ a) (hn : H a = none) : Un fs ex H (upd H a o) h h' where
  keep := fun b u q _ _ _ => k b u q
  slot := fun b u q _ _ _ => ⟨u.slots, k b u q⟩
  free := fun b u q n _ => by rw [upd_ne (Nat.ne_of_lt (Nat.lt_of_lt_of_le (Heap.lt_size q) hp))]; exact n
  there := fun b u q _ => ⟨u, k b u q⟩
  tups := fun b xs q => by rw [upd_ne (ne_of_none q hn)]; exact q
  frzs := fun b u xs q => by rw [upd_ne (ne_of_none q hn)]; exact q
  tbls := fun b ps q => ⟨#[], by rw [upd_ne (ne_of_none q hn), q]; simp⟩
theorem Un.write (mu : Mut (H x)) (he : e = x ∨ H e = some (.own x)) (k : ∀ b u, b ≠ e → h.get? b = some u → h'.get? b = some u) (heo : ∃ u, h'.get? e = some u) : Un fs ex H (upd H x o) h h' := by
  have hx : ∀ b, H b = none → b ≠ x := fun b n z => by subst z; rw [n] at mu; exact mu
  have hb : ∀ b, H b = none → b ≠ e := fun b n z => by
    subst z
    rcases he with r | r
    · exact hx b n r
    · rw [n] at r; cases r
  have hm : ∀ b u, H b = some u → ¬ Mut (some u) → b ≠ x := fun b u q nm z => by subst z; rw [q] at mu; exact nm mu
  refine ⟨fun b u q n _ _ => k b u (hb b n) q, fun b u q n _ _ => ⟨u.slots, k b u (hb b n) q⟩, fun b u q n _ => by rw [upd_ne (hx b n)]; exact n, fun b u q _ => ?_,
    fun b xs q => by rw [upd_ne (hm b _ q fun z => z)]; exact q, fun b u xs q => by rw [upd_ne (hm b _ q fun z => z)]; exact q, fun b ps q => ⟨#[], by rw [upd_ne (hm b _ q fun z => z), q]; simp⟩⟩
  by_cases hbe : b = e
  · subst hbe; exact heo
  · exact ⟨u, k b u hbe q⟩
end

/-! ### the heap without what is tracked -/
def trk (h : Heap) (H : Hp) : List Addr := (List.range h.objs.size).filter fun a => (H a).isSome
def hidT (h : Heap) (H : Hp) : Heap := PySem.W.hideAll h (trk h H)
theorem hidT_size (h : Heap) (H : Hp) : (hidT h H).objs.size = h.objs.size := PySem.W.hideAll_size _ _
theorem hidT_get {h : Heap} {H : Hp} {b : Addr} {o : Obj} (e : h.get? b = some o) (n : H b = none) : (hidT h H).get? b = some o :=
  PySem.W.hideAll_get _ e fun hm => by
    have q : (H b).isSome = true := (List.mem_filter.mp hm).2
    rw [n] at q; simp at q
theorem of_hidT {h : Heap} {H : Hp} {b : Addr} {o : Obj} (e : (hidT h H).get? b = some o) : h.get? b = some o ∧ H b = none := by
  have e' : h.get? b = some o := PySem.W.of_hideAll (trk h H) e
  refine ⟨e', ?_⟩
  cases q : H b with
  | none => rfl
  | some x =>
    have hm : b ∈ trk h H := List.mem_filter.mpr ⟨List.mem_range.mpr (Heap.lt_size e'), by simp [q]⟩
    have z : (hidT h H).get? b = none := PySem.W.hideAll_none (trk h H) hm
    rw [z] at e; cases e

/-! ### OpenK's ledger, filled with every new object but one -/
def allNews (g h : Heap) (L : Addr) : List (Addr × Obj) := (List.range h.objs.size).filterMap fun a => if a = L ∨ (g.get? a).isSome = true then none else (h.get? a).map fun o => (a, o)
def rest (g h : Heap) (L d : Addr) : List (Addr × Obj) := (allNews g h L).filter fun p => decide (p.1 ≠ d)
end L2

namespace L2
open PySem PySem.Spec PyProof.Rows

/-- the module's facts, over the base: the heap at the law's entry without what is tracked there -/
structure Mod (K : PySem.W.Frag) (mg : Str → Option Value) (base : Heap) : Prop where
  kin : K.In base
  glob : base.Ns mainGlobals mg
  blt : ∃ mb, base.Ns builtinsNs mb ∧ ∀ x : Str, x ≠ "__name__" → mb x = bootBuiltins x
  nolimit : base.NoLimit

/-- the context: a def's body (or a comprehension's block) running. base: fixed through the whole law; s₀, H₀: the entry; outer: the frames whose slots others may change (a def's callers); stack: all frames that run;
   ex: iterators that were made ahead of the entry and are walked here (a comprehension's); fn: the names whose cells were made at the entry (a def: all; a comprehension's block: its own); calm: not within an except suite; pn: pins that every state bears; xe: what is wanted of an exception that leaves the code -/
structure Cx where
  prog : Program
  w : World
  K : PySem.W.Frag
  mg : Str → Option Value
  base : Heap
  A : Around
  N : List Str
  s₀ : Shared
  H₀ : Hp
  env : Env
  outer : List Env
  stack : List Env
  ex : List Addr
  fn : Str → Bool
  calm : Bool
  pn : List (Addr × Obj)
  xe : Value → Shared → Prop
/-- the callers' frames -/
def frs (l : List Env) : List Addr := l.filterMap (·.frame)
abbrev Cx.fs (X : Cx) : List Addr := frs X.outer

def Vis (sc : Scope) (x : Str) : Prop := sc.names.lookup x = some .local ∨ sc.names.lookup x = some .cell ∨ sc.names.lookup x = some .free
def Loc (sc : Scope) (x : Str) : Prop := sc.names.lookup x = some .local ∨ sc.names.lookup x = some .cell
def Look (env : Env) (h : Heap) (m : Str → Option Value) (x : Str) (u : Value) : Prop :=
  (env.kindOf x = some .local ∧ m x = some u) ∨ ((env.kindOf x = some .cell ∨ env.kindOf x = some .free) ∧ ∃ c, env.cells.lookup x = some c ∧ h.IsCell c (some u))

structure Cx.Ok (X : Cx) : Prop where
  mod : Mod X.K X.mg X.base
  kind : X.env.scope.kind = .function
  glob : X.env.globals = mainGlobals
  blt : X.env.builtins = builtinsNs
  above : X.s₀.heap.objs.size ≤ X.env.locals
  inj : ∀ x y c, X.env.cells.lookup x = some c → X.env.cells.lookup y = some c → x = y
  has : ∀ x, (X.env.kindOf x = some .cell ∨ X.env.kindOf x = some .free) → ∃ c, X.env.cells.lookup x = some c
  cab : ∀ x c, X.fn x = true → X.env.cells.lookup x = some c → X.s₀.heap.objs.size ≤ c
  hd : X.calm = true → X.A.handled = none
  frames : X.A.frames = some X.stack
  stk : X.stack = X.outer ∨ (X.stack = X.env :: X.outer ∧ X.env.frame = some X.env.locals)
  exf : ∀ b ∈ X.ex, b ≠ X.env.locals ∧ ∀ x c, X.env.cells.lookup x = some c → c ≠ b
  bs : ∀ b o, X.base.get? b = some o → X.s₀.heap.get? b = some o ∧ X.H₀ b = none
  bsz : X.base.objs.size ≤ X.s₀.heap.objs.size
  noex : ∀ b o, X.base.get? b = some o → b ∉ X.ex
  exfs : ∀ b ∈ X.ex, b ∉ X.fs
  funs : X.s₀.heap.FunFrames X.base X.outer
  frf : ∀ b ∈ X.fs, X.H₀ b = none

structure Inv (X : Cx) (pins : List (Addr × Obj)) (σ : List (Option V)) (H : Hp) (s : Shared) : Prop where
  ok : X.Ok
  os : s.os = X.s₀.os
  bare : AllBare s.gens
  base : Un X.fs X.ex X.H₀ H X.s₀.heap s.heap
  loc : ∃ m, s.heap.Ns X.env.locals m ∧ ∀ (i : Nat) (x : Str) (v : V), X.N[i]? = some x → σ[i]? = some (some v) → Vis X.env.scope x → ∃ u, RelV v u ∧ Look X.env s.heap m x u
  cell : ∀ x c, X.env.cells.lookup x = some c → ∃ v, s.heap.IsCell c v
  free : H X.env.locals = none
  freeC : ∀ x c, X.env.cells.lookup x = some c → H c = none
  pin : ∀ p ∈ X.pn ++ pins, s.heap.get? p.1 = some p.2 ∧ H p.1 = none ∧ p.1 ≠ X.env.locals ∧ p.1 ∉ X.fs ∧ ∀ v, p.2.data ≠ .cell v
  hok : HOk X.prog X.w H s.heap
  len : σ.length = X.N.length

section
variable {X : Cx} {pins : List (Addr × Obj)} {σ : List (Option V)} {H H' : Hp} {s : Shared} {h' : Heap}

theorem Cx.Ok.nofr (ok : X.Ok) {b : Addr} {o : Obj} (e : X.base.get? b = some o) : b ∉ X.fs := fun hb => by
  have := (ok.funs.mem hb).1
  rw [e] at this; cases this
theorem Inv.bs (I : Inv X pins σ H s) : ∀ b o, X.base.get? b = some o → s.heap.get? b = some o ∧ H b = none := fun b o e =>
  ⟨I.base.keep b o (I.ok.bs b o e).1 (I.ok.bs b o e).2 (I.ok.nofr e) (I.ok.noex b o e), I.base.free b o (I.ok.bs b o e).1 (I.ok.bs b o e).2 (I.ok.noex b o e)⟩
theorem Inv.bk (I : Inv X pins σ H s) : ∀ b o, X.base.get? b = some o → s.heap.get? b = some o := fun b o e => (I.bs b o e).1
theorem Inv.mod (I : Inv X pins σ H s) : Mod X.K X.mg X.base := I.ok.mod
theorem Inv.kIn (I : Inv X pins σ H s) : X.K.In s.heap := I.ok.mod.kin.keeps I.bk
theorem Inv.lt (I : Inv X pins σ H s) : X.env.locals < s.heap.objs.size := let ⟨_, hn, _⟩ := I.loc; hn.lt
theorem Inv.sz (I : Inv X pins σ H s) : X.s₀.heap.objs.size ≤ s.heap.objs.size := Nat.le_trans I.ok.above (Nat.le_of_lt I.lt)
theorem Inv.nofs (I : Inv X pins σ H s) {a : Addr} (h : s.heap.objs.size ≤ a) : a ∉ X.fs := fun hb => by
  obtain ⟨_, o, ho, _⟩ := I.ok.funs.mem hb
  exact absurd (Nat.lt_of_lt_of_le (Heap.lt_size ho) (Nat.le_trans I.sz h)) (Nat.lt_irrefl _)
theorem Inv.cne (I : Inv X pins σ H s) : ∀ x c, X.env.cells.lookup x = some c → c ≠ X.env.locals := fun x c e z => by
  obtain ⟨v, o, ho, hd⟩ := I.cell x c e
  obtain ⟨m, ⟨o', es, ep, ho', hd', _⟩, _⟩ := I.loc
  rw [z, ho'] at ho; cases ho; rw [hd'] at hd; cases hd
theorem Inv.funs (I : Inv X pins σ H s) : s.heap.FunFrames X.base X.outer := by
  have all : ∀ (l : List Env), (∀ b ∈ frs l, b ∈ X.fs) → X.s₀.heap.FunFrames X.base l → s.heap.FunFrames X.base l := by
    intro l
    induction l with
    | nil => intro _ _; trivial
    | cons env r ih =>
      intro hs hl
      obtain ⟨hk, ⟨L, o, hf, hn, ho, hd⟩, hr⟩ := hl
      have hL : L ∈ X.fs := hs L (by unfold frs; rw [List.filterMap_cons, hf]; exact List.mem_cons_self)
      obtain ⟨sl, e⟩ := I.base.slot L o ho (I.ok.frf L hL) hL fun z => I.ok.exfs L z hL
      exact ⟨hk, ⟨L, _, hf, hn, e, hd⟩, ih (fun b hb => hs b (by unfold frs; rw [List.filterMap_cons, hf]; exact List.mem_cons_of_mem _ hb)) hr⟩
  exact all X.outer (fun _ hb => hb) I.ok.funs

/-- the frames that run, for a call -/
theorem Inv.stack (I : Inv X pins σ H s) : s.heap.FunFrames X.base X.stack := by
  rcases I.ok.stk with e | ⟨e, hf⟩
  · rw [e]; exact I.funs
  · rw [e]
    obtain ⟨m, hn, _⟩ := I.loc
    refine .cons (by rw [I.ok.kind]; decide) hf hn ?_ I.funs
    exact Heap.get?_none_of_le (Nat.le_trans I.ok.bsz I.ok.above)
theorem Inv.stkSub (I : Inv X pins σ H s) : ∀ b ∈ frs X.stack, b ∈ X.env.locals :: X.fs := fun b hb => by
  rcases I.ok.stk with e | ⟨e, hf⟩
  · rw [e] at hb; exact List.mem_cons_of_mem _ hb
  · rw [e] at hb
    unfold frs at hb
    rw [List.filterMap_cons, hf] at hb
    exact hb
theorem Inv.stkFree (I : Inv X pins σ H s) : ∀ b ∈ frs X.stack, H b = none := fun b hb => by
  rcases List.mem_cons.mp (I.stkSub b hb) with e | hb
  · rw [e]; exact I.free
  · obtain ⟨_, o, ho, _⟩ := I.ok.funs.mem hb
    exact I.base.free b o ho (I.ok.frf b hb) fun z => I.ok.exfs b z hb

/-- THE STEP: the untracked objects but the frame and the records at ch are kept (the callers' frames up to slots), the frame's map is kept, the new abstract heap is held -/
theorem Inv.step {g' : Array GenState} {t' : Nat} {d' : Drawn} {ch : List Addr} (I : Inv X pins σ H s)
    (hch : ∀ b ∈ ch, (b ∈ X.ex ∨ X.s₀.heap.objs.size ≤ b) ∧ b ≠ X.env.locals ∧ (∀ x c, X.env.cells.lookup x = some c → c ≠ b) ∧ ∀ p ∈ X.pn ++ pins, p.1 ≠ b)
    (keep : ∀ b o, b ≠ X.env.locals → b ∉ X.fs → b ∉ ch → s.heap.get? b = some o → H b = none → h'.get? b = some o)
    (slot : ∀ b o, b ≠ X.env.locals → b ∈ X.fs → b ∉ ch → s.heap.get? b = some o → H b = none → ∃ sl, h'.get? b = some { o with slots := sl }) (free : ∀ b o, b ∉ ch → s.heap.get? b = some o → H b = none → H' b = none)
    (there : ∀ b o, b ∉ ch → s.heap.get? b = some o → ∃ o', h'.get? b = some o')
    (tups : ∀ b xs, H b = some (.tup xs) → H' b = some (.tup xs)) (frzs : ∀ b o u, H b = some (.frz o u) → H' b = some (.frz o u)) (tbls : ∀ b ps, H b = some (.tbl ps) → ∃ more, H' b = some (.tbl (ps ++ more)))
    (ns : ∀ m, s.heap.Ns X.env.locals m → h'.Ns X.env.locals m) (hok : HOk X.prog X.w H' h') (hg : AllBare g') :
    Inv X pins σ H' { s with heap := h', gens := g', drawn := d', toks := t' } := by
  have neL : ∀ b o, X.s₀.heap.get? b = some o → b ≠ X.env.locals := fun b o e => Nat.ne_of_lt (Nat.lt_of_lt_of_le (Heap.lt_size e) I.ok.above)
  have neC : ∀ b o, X.s₀.heap.get? b = some o → b ∉ X.ex → b ∉ ch := fun b o e hx hb => by
    rcases (hch b hb).1 with z | z
    · exact hx z
    · exact absurd (Nat.lt_of_lt_of_le (Heap.lt_size e) z) (Nat.lt_irrefl _)
  have cellK : ∀ x c, X.env.cells.lookup x = some c → ∀ v, s.heap.IsCell c v → h'.IsCell c v := fun x c e v ⟨o, ho, hd⟩ => by
    have nch : c ∉ ch := fun z => (hch c z).2.2.1 x c e rfl
    by_cases hc : c ∈ X.fs
    · obtain ⟨sl, q⟩ := slot c o (I.cne x c e) hc nch ho (I.freeC x c e)
      exact ⟨_, q, hd⟩
    · exact ⟨o, keep c o (I.cne x c e) hc nch ho (I.freeC x c e), hd⟩
  refine ⟨I.ok, I.os, hg, ⟨fun b o e n hb hx => ?_, fun b o e n hb hx => ?_, fun b o e n hx => ?_, fun b o e hx => ?_, fun b xs e => tups b xs (I.base.tups b xs e), fun b o xs e => frzs b o xs (I.base.frzs b o xs e), fun b ps e => ?_⟩, ?_, fun x c e => ?_, ?_, fun x c e => ?_, fun p hp => ?_, hok, I.len⟩
  · exact keep b o (neL b o e) hb (neC b o e hx) (I.base.keep b o e n hb hx) (I.base.free b o e n hx)
  · obtain ⟨sl, e1⟩ := I.base.slot b o e n hb hx
    obtain ⟨sl', e2⟩ := slot b _ (neL b o e) hb (neC b o e hx) e1 (I.base.free b o e n hx)
    exact ⟨sl', e2⟩
  · obtain ⟨o', e1⟩ := I.base.there b o e hx
    exact free b o' (neC b o e hx) e1 (I.base.free b o e n hx)
  · obtain ⟨o', e1⟩ := I.base.there b o e hx
    exact there b o' (neC b o e hx) e1
  · obtain ⟨m1, e1⟩ := I.base.tbls b ps e
    obtain ⟨m2, e2⟩ := tbls b _ e1
    exact ⟨m1 ++ m2, by rw [e2, Array.append_assoc]⟩
  · obtain ⟨m, hn, hl⟩ := I.loc
    refine ⟨m, ns m hn, fun i x v e1 e2 e3 => ?_⟩
    obtain ⟨u, r, l⟩ := hl i x v e1 e2 e3
    refine ⟨u, r, ?_⟩
    rcases l with l | ⟨k, c, e, z⟩
    · exact .inl l
    · exact .inr ⟨k, c, e, cellK x c e _ z⟩
  · obtain ⟨v, z⟩ := I.cell x c e
    exact ⟨v, cellK x c e v z⟩
  · obtain ⟨m, ⟨o, _, _, ho, _⟩, _⟩ := I.loc
    exact free _ o (fun z => (hch _ z).2.1 rfl) ho I.free
  · obtain ⟨v, o, ho, hd⟩ := I.cell x c e
    exact free c o (fun z => (hch c z).2.2.1 x c e rfl) ho (I.freeC x c e)
  · obtain ⟨e, n, ne, nf, d⟩ := I.pin p hp
    have nch : p.1 ∉ ch := fun z => (hch p.1 z).2.2.2 p hp rfl
    exact ⟨keep p.1 p.2 ne nf nch e n, free p.1 p.2 nch e n, ne, nf, d⟩
/-- .. where the frame's own object is kept too -/
theorem Inv.un {t' : Nat} (I : Inv X pins σ H s) (u : Un X.fs [] H H' s.heap h') (hok : HOk X.prog X.w H' h') : Inv X pins σ H' { s with heap := h', toks := t' } := by
  obtain ⟨m, ⟨o, es, ep, ho, r⟩, _⟩ := id I.loc
  obtain ⟨sl, hL⟩ := u.any ho I.free (by simp)
  exact I.step (g' := s.gens) (d' := s.drawn) (ch := []) (fun _ z => nomatch z) (fun b o _ hb _ e n => u.keep b o e n hb (by simp)) (fun b o _ hb _ e n => u.slot b o e n hb (by simp)) (fun b o _ e n => u.free b o e n (by simp)) (fun b o _ e => u.there b o e (by simp)) u.tups u.frzs u.tbls (fun m' hm => by
    obtain ⟨o', es', ep', ho', r'⟩ := hm
    rw [ho] at ho'; cases ho'
    exact ⟨_, es', ep', hL, r'⟩) hok I.bare
/-- behind a call (or a comprehension's block): the slots of this frame may have changed too, the records at ch may have turned -/
theorem Inv.call {g' : Array GenState} {t' : Nat} {d' : Drawn} {ch : List Addr} (I : Inv X pins σ H s) (u : Un (frs X.stack) ch H H' s.heap h') (hok : HOk X.prog X.w H' h') (hg : AllBare g')
    (hch : ∀ b ∈ ch, (b ∈ X.ex ∨ X.s₀.heap.objs.size ≤ b) ∧ b ≠ X.env.locals ∧ (∀ x c, X.env.cells.lookup x = some c → c ≠ b) ∧ ∀ p ∈ X.pn ++ pins, p.1 ≠ b) :
    Inv X pins σ H' { s with heap := h', gens := g', drawn := d', toks := t' } := by
  obtain ⟨m, ⟨o, es, ep, ho, r⟩, _⟩ := id I.loc
  obtain ⟨sl, hL⟩ := u.any ho I.free fun z => (hch _ z).2.1 rfl
  exact I.step (ch := ch) hch (fun b o hL hb hc e n => u.keep b o e n (fun z => (List.mem_cons.mp (I.stkSub b z)).elim hL hb) hc) (fun b o _ _ hc e n => u.any e n hc) (fun b o hc e n => u.free b o e n hc) (fun b o hc e => u.there b o e hc) u.tups u.frzs u.tbls (fun m' hm => by
    obtain ⟨o', es', ep', ho', r'⟩ := hm
    rw [ho] at ho'; cases ho'
    exact ⟨_, es', ep', hL, r'⟩) hok hg
/-- an untracked record of ours (an iterator) has turned -/
theorem Inv.turned {t' : Nat} {it : Addr} (I : Inv X pins σ H s) (k : ∀ b o, b ≠ it → s.heap.get? b = some o → h'.get? b = some o) (hn : H it = none) (hL : it ≠ X.env.locals)
    (h1 : it ∈ X.ex ∨ X.s₀.heap.objs.size ≤ it) (h2 : ∀ x c, X.env.cells.lookup x = some c → c ≠ it) (h3 : ∀ p ∈ X.pn ++ pins, p.1 ≠ it) : Inv X pins σ H { s with heap := h', toks := t' } := by
  have nit : ∀ b u, H b = some u → b ≠ it := fun b u e z => by rw [z, hn] at e; cases e
  refine I.step (g' := s.gens) (d' := s.drawn) (ch := [it]) (fun b hb => ?_) (fun b o _ _ hc e _ => k b o (fun z => hc (by simp [z])) e) (fun b o _ _ hc e _ => ⟨o.slots, k b o (fun z => hc (by simp [z])) e⟩) (fun _ _ _ _ n => n)
    (fun b o hc e => ⟨o, k b o (fun z => hc (by simp [z])) e⟩) (fun _ _ e => e) (fun _ _ _ e => e) (fun b ps e => ⟨#[], by rw [e]; simp⟩) (fun m hm => ?_) (fun b u e => ?_) I.bare
  · have e : b = it := by simpa using hb
    subst e
    exact ⟨h1, hL, h2, h3⟩
  · obtain ⟨o, es, ep, ho, r⟩ := hm
    exact ⟨o, es, ep, k _ o (Ne.symm hL) ho, r⟩
  · refine (I.hok b u e).stay (fun c v hc q => k c v ?_ q) (fun _ q => q) fun _ _ q => q
    rcases hc with z | z
    · rw [z]; exact nit b u e
    · exact nit c _ z
theorem Inv.tok (I : Inv X pins σ H s) (t : Nat) : Inv X pins σ H { s with toks := t } := I.un (h' := s.heap) (t' := t) Un.refl I.hok
/-- all objects kept -/
theorem Inv.kept {t' : Nat} (I : Inv X pins σ H s) (k : ∀ b u, s.heap.get? b = some u → h'.get? b = some u) : Inv X pins σ H { s with heap := h', toks := t' } := I.un (Un.kept k) (I.hok.kept k)
/-- a new object laid and tracked -/
theorem Inv.laid {a : Addr} {o : HO} {t' : Nat} (I : Inv X pins σ H s) (k : ∀ b u, s.heap.get? b = some u → h'.get? b = some u) (hp : s.heap.objs.size ≤ a) (new : ObjOk X.prog X.w (upd H a o) h' a o) :
    Inv X pins σ (upd H a o) { s with heap := h', toks := t' } := I.un (Un.laid k hp (I.hok.fresh hp)) (I.hok.laid k hp new)
/-- an object written -/
theorem Inv.write {x e : Addr} {o : HO} {t' : Nat} (I : Inv X pins σ H s) (mu : Mut (H x)) (he : e = x ∨ H e = some (.own x)) (k : ∀ b u, b ≠ e → s.heap.get? b = some u → h'.get? b = some u) (heo : ∃ u, h'.get? e = some u)
    (new : ObjOk X.prog X.w (upd H x o) h' x o) : Inv X pins σ (upd H x o) { s with heap := h', toks := t' } := I.un (Un.write mu he k heo) (I.hok.write mu he k heo new)
/-- forgetting slots, pins -/
theorem Inv.weak {σ' : List (Option V)} (I : Inv X pins σ H s) (hl : σ'.length = σ.length) (w : ∀ (i : Nat) v, σ'[i]? = some (some v) → σ[i]? = some (some v)) : Inv X pins σ' H s :=
  ⟨I.ok, I.os, I.bare, I.base, let ⟨m, hn, hl'⟩ := I.loc; ⟨m, hn, fun i x v e1 e2 e3 => hl' i x v e1 (w i v e2) e3⟩, I.cell, I.free, I.freeC, I.pin, I.hok, hl.trans I.len⟩
theorem Inv.pins_of {pins' : List (Addr × Obj)} (I : Inv X pins σ H s) (h : ∀ p ∈ pins', s.heap.get? p.1 = some p.2 ∧ H p.1 = none ∧ p.1 ≠ X.env.locals ∧ p.1 ∉ X.fs ∧ ∀ v, p.2.data ≠ .cell v) : Inv X pins' σ H s :=
  ⟨I.ok, I.os, I.bare, I.base, I.loc, I.cell, I.free, I.freeC, fun p hp => (List.mem_append.mp hp).elim (fun z => I.pin p (List.mem_append_left _ z)) (h p), I.hok, I.len⟩

theorem nodup_ix {N : List Str} (hN : N.Nodup) {i j : Nat} {x : Str} (a : N[i]? = some x) (b : N[j]? = some x) : i = j := by
  obtain ⟨h1, e1⟩ := List.getElem?_eq_some_iff.mp a
  obtain ⟨h2, e2⟩ := List.getElem?_eq_some_iff.mp b
  exact (List.getElem_inj hN).mp (e1.trans e2.symm)

/-- a name is stored; what changed -/
theorem store_ok2 {M : Model} {A : Around} {E : Value → Shared → Prop} {i : Nat} {x : Str} {v : V} {u : Value} {Q : Unit → Shared → Prop} (I : Inv X pins σ H s) (hN : X.N.Nodup) (hi : X.N[i]? = some x) (hx : Loc X.env.scope x) (r : RelV v u)
    (h : ∀ s', Inv X pins (σ.set i (some v)) H s' → (∃ a, Heap.SameBut a s.heap s'.heap ∧ (a = X.env.locals ∨ X.env.cells.lookup x = some a)) → Q () s') (hf : X.fn x = true ∨ X.env.scope.names.lookup x = some .local := by first | exact .inl rfl | exact .inr rfl | assumption) : wpAny M A (storeName X.env x u) Q E s := by
  obtain ⟨m, hn, hl⟩ := id I.loc
  have hcls : (X.env.scope.kind == .class || (X.env.scope.kind == .module && X.env.locals != X.env.globals)) = false := by rw [I.ok.kind]; rfl
  have hiσ : i < σ.length := by rw [I.len]; exact (List.getElem?_eq_some_iff.mp hi).1
  have cne := I.cne
  have tracked : ∀ {a : Addr} {h' : Heap}, (∃ o, s.heap.get? a = some o ∧ H a = none) → Heap.SameBut a s.heap h' → HOk X.prog X.w H h' := fun {a h'} ha hs b ob e => by
    obtain ⟨_, _, hfree⟩ := ha
    refine (I.hok b ob e).stay (fun c w' hc q => (hs.2 c ?_).trans q) (fun _ q => q) fun _ _ q => q
    rintro rfl
    rcases hc with rfl | hc
    · rw [hfree] at e; cases e
    · rw [hfree] at hc; cases hc
  rcases hx with hk | hk
  · refine wpAny_storeName_local hk hn (fun h' hn' hs => ?_) hcls
    obtain ⟨oL, _, _, hoL, _⟩ := id hn
    refine h _ ⟨I.ok, I.os, I.bare, ⟨fun b o e n hb hx => ?_, fun b o e n hb hx => ?_, I.base.free, fun b o e hx => ?_, I.base.tups, I.base.frzs, I.base.tbls⟩, ⟨_, hn', fun j y v' e1 e2 e3 => ?_⟩, fun y c e => ?_, I.free, I.freeC, fun p hp => ?_, tracked ⟨oL, hoL, I.free⟩ hs, by simpa using I.len⟩ ⟨_, hs, .inl rfl⟩
    · exact (hs.2 b (Nat.ne_of_lt (Nat.lt_of_lt_of_le (Heap.lt_size e) I.ok.above))).trans (I.base.keep b o e n hb hx)
    · obtain ⟨sl, e1⟩ := I.base.slot b o e n hb hx
      exact ⟨sl, (hs.2 b (Nat.ne_of_lt (Nat.lt_of_lt_of_le (Heap.lt_size e) I.ok.above))).trans e1⟩
    · obtain ⟨o', e1⟩ := I.base.there b o e hx
      exact ⟨o', (hs.2 b (Nat.ne_of_lt (Nat.lt_of_lt_of_le (Heap.lt_size e) I.ok.above))).trans e1⟩
    · by_cases hj : j = i
      · subst hj
        rw [hi] at e1; cases e1
        rw [List.getElem?_set_self hiσ] at e2
        cases e2
        exact ⟨u, r, .inl ⟨hk, by simp⟩⟩
      · rw [List.getElem?_set_ne (Ne.symm hj)] at e2
        obtain ⟨u', r', q⟩ := hl j y v' e1 e2 e3
        refine ⟨u', r', ?_⟩
        rcases q with ⟨k, e⟩ | ⟨k, c, e, z⟩
        · refine .inl ⟨k, ?_⟩
          have : y ≠ x := fun e => hj (nodup_ix hN e1 (e ▸ hi))
          simp [this, e]
        · exact .inr ⟨k, c, e, z.sameBut hs (cne y c e)⟩
    · obtain ⟨w', z⟩ := I.cell y c e
      exact ⟨w', z.sameBut hs (cne y c e)⟩
    · obtain ⟨e, n, ne, nf, d⟩ := I.pin p hp
      exact ⟨(hs.2 p.1 ne).trans e, n, ne, nf, d⟩
  · have hfn : X.fn x = true := by
      rcases hf with z | z
      · exact z
      · rw [z] at hk; cases hk
    obtain ⟨c, hc⟩ := I.ok.has x (.inl hk)
    obtain ⟨w', z⟩ := I.cell x c hc
    refine wpAny_storeName_cell I.ok.kind hk hc z (fun h' hc' hs => ?_)
    obtain ⟨oc, hoc, hocd⟩ := id z
    refine h { s with heap := h' } ⟨I.ok, I.os, I.bare, ⟨fun b o e n hb hx => ?_, fun b o e n hb hx => ?_, I.base.free, fun b o e hx => ?_, I.base.tups, I.base.frzs, I.base.tbls⟩, ⟨m, hn.sameBut hs (Ne.symm (cne x c hc)), fun j y v' e1 e2 e3 => ?_⟩, fun y c' e => ?_, I.free, I.freeC, fun p hp => ?_, tracked ⟨oc, hoc, I.freeC x c hc⟩ hs, by simpa using I.len⟩ ⟨c, hs, .inr hc⟩
    · exact (hs.2 b (Nat.ne_of_lt (Nat.lt_of_lt_of_le (Heap.lt_size e) (I.ok.cab x c hfn hc)))).trans (I.base.keep b o e n hb hx)
    · obtain ⟨sl, e1⟩ := I.base.slot b o e n hb hx
      exact ⟨sl, (hs.2 b (Nat.ne_of_lt (Nat.lt_of_lt_of_le (Heap.lt_size e) (I.ok.cab x c hfn hc)))).trans e1⟩
    · obtain ⟨o', e1⟩ := I.base.there b o e hx
      exact ⟨o', (hs.2 b (Nat.ne_of_lt (Nat.lt_of_lt_of_le (Heap.lt_size e) (I.ok.cab x c hfn hc)))).trans e1⟩
    · by_cases hj : j = i
      · subst hj
        rw [hi] at e1; cases e1
        rw [List.getElem?_set_self hiσ] at e2
        cases e2
        exact ⟨u, r, .inr ⟨.inl hk, c, hc, hc'⟩⟩
      · rw [List.getElem?_set_ne (Ne.symm hj)] at e2
        obtain ⟨u', r', q⟩ := hl j y v' e1 e2 e3
        refine ⟨u', r', ?_⟩
        rcases q with q | ⟨k, c', e, z'⟩
        · exact .inl q
        · refine .inr ⟨k, c', e, z'.sameBut hs ?_⟩
          rintro rfl
          exact hj (nodup_ix hN e1 (I.ok.inj _ _ _ e hc ▸ hi))
    · by_cases hcc : c' = c
      · subst hcc; exact ⟨_, hc'⟩
      · obtain ⟨w2, z2⟩ := I.cell y c' e
        exact ⟨w2, z2.sameBut hs hcc⟩
    · obtain ⟨e, n, ne, nf, d⟩ := I.pin p hp
      refine ⟨(hs.2 p.1 ?_).trans e, n, ne, nf, d⟩
      intro q
      rw [q, hoc] at e
      have q' : oc = p.2 := Option.some.inj e
      exact d w' (by rw [← q']; exact hocd)
theorem store_ok {M : Model} {A : Around} {E : Value → Shared → Prop} {i : Nat} {x : Str} {v : V} {u : Value} {Q : Unit → Shared → Prop} (I : Inv X pins σ H s) (hN : X.N.Nodup) (hi : X.N[i]? = some x) (hx : Loc X.env.scope x) (r : RelV v u)
    (h : ∀ s', Inv X pins (σ.set i (some v)) H s' → Q () s') (hf : X.fn x = true ∨ X.env.scope.names.lookup x = some .local := by first | exact .inl rfl | exact .inr rfl | assumption) : wpAny M A (storeName X.env x u) Q E s :=
  store_ok2 I hN hi hx r (fun s' I' _ => h s' I') hf
/-- behind a call or a block, the state as it is -/
theorem Inv.call' {s' : Shared} {ch : List Addr} (I : Inv X pins σ H s) (ho : s'.os = s.os) (u : Un (frs X.stack) ch H H' s.heap s'.heap) (hok : HOk X.prog X.w H' s'.heap) (hg : AllBare s'.gens)
    (hch : ∀ b ∈ ch, (b ∈ X.ex ∨ X.s₀.heap.objs.size ≤ b) ∧ b ≠ X.env.locals ∧ (∀ x c, X.env.cells.lookup x = some c → c ≠ b) ∧ ∀ p ∈ X.pn ++ pins, p.1 ≠ b) : Inv X pins σ H' s' := by
  obtain ⟨h', g', d', t', o'⟩ := s'
  have e : o' = s.os := ho
  subst e
  exact I.call (g' := g') (t' := t') (d' := d') u hok hg hch
end

/-! ### the judgements -/
/-- an exception: its class, its own dict's address (where it has one), the abstract heap behind it -/
abbrev XK := Value → Option Addr → Hp → Prop
abbrev St := List (Option V)
abbrev VK := V → Hp → Prop
/-- an expression's reading; a test's; an argument list's -/
abbrev TE := St → Hp → VK → Prop
abbrev TT := St → Hp → (Bool → Hp → Prop) → Prop
abbrev TA := St → Hp → (List V → Hp → Prop) → Prop
/-- what is wanted behind a statement -/
structure Ends where
  nx : St → Hp → Prop
  rt : VK
  bk : St → Hp → Prop := fun _ _ => False
  ct : St → Hp → Prop := fun _ _ => False
abbrev TS := Ends → St → Hp → Prop

def EP (X : Cx) (pins : List (Addr × Obj)) (σ : St) (Q : VK) (u : Value) (s' : Shared) : Prop := ∃ v H', Inv X pins σ H' s' ∧ RelV v u ∧ Q v H'
def TP (X : Cx) (pins : List (Addr × Obj)) (σ : St) (Q : Bool → Hp → Prop) (b : Bool) (s' : Shared) : Prop := ∃ H', Inv X pins σ H' s' ∧ Q b H'
def AP (X : Cx) (pins : List (Addr × Obj)) (σ : St) (Q : List V → Hp → Prop) (us : List Value) (s' : Shared) : Prop := ∃ vs H', Inv X pins σ H' s' ∧ Vals vs us ∧ Q vs H'
def SP (X : Cx) (pins : List (Addr × Obj)) (D : Ends) (f : Flow) (s' : Shared) : Prop :=
  match f with
  | .next => ∃ σ' H', Inv X pins σ' H' s' ∧ D.nx σ' H'
  | .brk => ∃ σ' H', Inv X pins σ' H' s' ∧ D.bk σ' H'
  | .cont => ∃ σ' H', Inv X pins σ' H' s' ∧ D.ct σ' H'
  | .ret u => ∃ v σ' H', Inv X pins σ' H' s' ∧ RelV v u ∧ D.rt v H'

def PE (X : Cx) (e : Expr) (t : TE) : Prop :=
  ∀ (pins : List (Addr × Obj)) (s : Shared) (σ : St) (H : Hp) (Q : VK), Inv X pins σ H s → t σ H Q → wpAny (model X.prog X.w) X.A (eval e X.env) (EP X pins σ Q) X.xe s
def PT (X : Cx) (e : Expr) (t : TT) : Prop :=
  ∀ (pins : List (Addr × Obj)) (s : Shared) (σ : St) (H : Hp) (Q : Bool → Hp → Prop), Inv X pins σ H s → t σ H Q → wpAny (model X.prog X.w) X.A (isTrue e X.env (eval e X.env)) (TP X pins σ Q) X.xe s
/-- a test whatever its 'whole' is (and, or) -/
def PW (X : Cx) (e : Expr) (t : TT) : Prop :=
  ∀ (whole : Sem Value) (pins : List (Addr × Obj)) (s : Shared) (σ : St) (H : Hp) (Q : Bool → Hp → Prop), Inv X pins σ H s → t σ H Q → wpAny (model X.prog X.w) X.A (isTrue e X.env whole) (TP X pins σ Q) X.xe s
theorem PW.pt {X : Cx} {e : Expr} {t : TT} (h : PW X e t) : PT X e t := h _
/-- an argument list (no star), from the left -/
def PA (X : Cx) (es : List Expr) (t : TA) : Prop :=
  ∀ (pos : Pos) (pins : List (Addr × Obj)) (s : Shared) (σ : St) (H : Hp) (Q : List V → Hp → Prop), Inv X pins σ H s → t σ H Q → wpAny (model X.prog X.w) X.A (spliced (backTo pos (starEach es X.env))) (AP X pins σ Q) X.xe s
def PS (X : Cx) (st : Stmt) (t : TS) : Prop :=
  ∀ (pins : List (Addr × Obj)) (s : Shared) (σ : St) (H : Hp) (D : Ends), Inv X pins σ H s → t D σ H → wpAny (model X.prog X.w) X.A (exec st X.env) (SP X pins D) X.xe s
def PSs (X : Cx) (st : List Stmt) (t : TS) : Prop :=
  ∀ (pins : List (Addr × Obj)) (s : Shared) (σ : St) (H : Hp) (D : Ends), Inv X pins σ H s → t D σ H → wpAny (model X.prog X.w) X.A (execs st X.env) (SP X pins D) X.xe s
/-- weaken the end -/
theorem thn {α : Type} {t : Sem α} {Q Q' : α → Shared → Prop} {M : Model} {A : Around} {E : Value → Shared → Prop} {s : Shared} (h : wpAny M A t Q E s) (hQ : ∀ a s, Q a s → Q' a s) : wpAny M A t Q' E s := wpAny_mono h hQ fun _ _ x => x
end L2

namespace L2
open PySem PySem.Spec PyProof.Rows
section
variable {X : Cx}

/-! ### names and constants -/
def tVar (i : Nat) : TE := fun σ H Q => ∃ v, σ[i]? = some (some v) ∧ Q v H
def tC (v : V) : TE := fun _ H Q => Q v H
theorem pe_var {i : Nat} {x : Str} {pos : Pos} (hN : X.N[i]? = some x) (hv : Vis X.env.scope x) (hd : (x == ("__debug__" : Str)) = false := by decide) (hcd : (x == ("__classdict__" : Str)) = false := by decide) : PE X (.Name x pos) (tVar i) := by
  intro pins s σ H Q I h
  obtain ⟨v, e, h⟩ := h
  obtain ⟨m, hn, hl⟩ := I.loc
  obtain ⟨u, r, l⟩ := hl i x v hN e hv
  have fin : EP X pins σ Q u s := ⟨v, H, I, r, h⟩
  rcases l with ⟨hk, hm⟩ | ⟨hk, c, hc, hcell⟩
  · exact wpAny_Name (wpAny_loadName_local I.ok.kind hk hn hm fin) hd
  · rcases hk with hk | hk
    · exact wpAny_Name (wpAny_loadName_cell I.ok.kind hk hc hcell fin) hd
    · exact wpAny_Name (wpAny_loadName_free I.ok.kind hk hc hcell fin hcd) hd
theorem pe_int {i j pos} : PE X (.Constant (.int i) j pos) (tC (.int i)) := fun _ _ _ H _ I h => wpAny_Constant_int ⟨.int i, H, I.tok _, ⟨_, rfl⟩, h⟩
theorem pe_bl {b j pos} : PE X (.Constant (.bool b) j pos) (tC (.bl b)) := fun _ _ _ H _ I h => Constant_bool ⟨.bl b, H, I, rfl, h⟩
theorem pe_non {j pos} : PE X (.Constant .none j pos) (tC .non) := fun _ _ _ H _ I h => Constant_none ⟨.non, H, I, rfl, h⟩
theorem pe_str {x j pos} : PE X (.Constant (.str x) j pos) (tC (.str x)) := fun _ _ _ H _ I h => Calls.Constant_str ⟨.str x, H, I.tok _, ⟨_, rfl⟩, h⟩

/-- a global name of the def -/
def Gl (X : Cx) (x : Str) : Prop := X.env.kindOf x = some .globalImplicit
theorem ld_glob {E : Value → Shared → Prop} {pins : List (Addr × Obj)} {s : Shared} {σ : St} {H : Hp} {x : Str} {u : Value} {pos : Pos} {Q : Value → Shared → Prop} (I : Inv X pins σ H s) (hg : Gl X x) (hm : X.mg x = some u) (h : Q u s)
    (hd : (x == ("__debug__" : Str)) = false := by decide) : wpAny (model X.prog X.w) X.A (eval (.Name x pos) X.env) Q E s :=
  Calls.Name_function_global I.ok.kind hg (Calls.loadGlobal_global (by rw [I.ok.glob]; exact I.mod.glob.keeps I.bk) hm h) hd
theorem ld_blt {E : Value → Shared → Prop} {pins : List (Addr × Obj)} {s : Shared} {σ : St} {H : Hp} {x : Str} {u : Value} {pos : Pos} {Q : Value → Shared → Prop} (I : Inv X pins σ H s) (hg : Gl X x) (hm : X.mg x = none) (hv : bootBuiltins x = some u) (h : Q u s)
    (hn : x ≠ "__name__" := by decide) (hd : (x == ("__debug__" : Str)) = false := by decide) : wpAny (model X.prog X.w) X.A (eval (.Name x pos) X.env) Q E s := by
  obtain ⟨mb, h1, h2⟩ := I.mod.blt
  exact Calls.Name_function_global I.ok.kind hg (Calls.loadGlobal_builtin (by rw [I.ok.glob]; exact I.mod.glob.keeps I.bk) hm (by rw [I.ok.blt]; exact h1.keeps I.bk) ((h2 x hn).trans hv) h) hd
/-- a module's constant, a class, a function, as a value -/
theorem pe_glob {x : Str} {v : V} {u : Value} {pos : Pos} (hg : Gl X x) (hm : X.mg x = some u) (r : RelV v u) (hd : (x == ("__debug__" : Str)) = false := by decide) : PE X (.Name x pos) (tC v) :=
  fun _ _ _ H _ I h => ld_glob I hg hm ⟨v, H, I, r, h⟩ hd
theorem pe_bltn {x : Str} {v : V} {u : Value} {pos : Pos} (hg : Gl X x) (hm : X.mg x = none) (hv : bootBuiltins x = some u) (r : RelV v u) (hn : x ≠ "__name__" := by decide) (hd : (x == ("__debug__" : Str)) = false := by decide) : PE X (.Name x pos) (tC v) :=
  fun _ _ _ H _ I h => ld_blt I hg hm hv ⟨v, H, I, r, h⟩ hn hd

/-! ### arithmetic -/
/-- two ints -/
def t2I (ta tb : TE) (k : Int → Int → Hp → Prop) : St → Hp → Prop := fun σ H => ta σ H fun x H1 => tb σ H1 fun y H2 => ∃ i j, x = .int i ∧ y = .int j ∧ k i j H2
def tAdd (ta tb : TE) : TE := fun σ H Q => t2I ta tb (fun i j H2 => Q (.int (i + j)) H2) σ H
def tSub (ta tb : TE) : TE := fun σ H Q => t2I ta tb (fun i j H2 => Q (.int (i - j)) H2) σ H
/-- the left factor below 2^64 -/
def tMul (ta tb : TE) : TE := fun σ H Q => t2I ta tb (fun i j H2 => (-(2 ^ 64) < i ∧ i < 2 ^ 64) ∧ Q (.int (i * j)) H2) σ H
variable {a b : Expr} {ta tb : TE} {pos : Pos}
/-! ### comparisons -/
def PC (X : Cx) (op : CmpOp) (a b : Expr) (t : TE) : Prop :=
  ∀ (pins : List (Addr × Obj)) (s : Shared) (σ : St) (H : Hp) (Q : VK), Inv X pins σ H s → t σ H Q →
    wpAny (model X.prog X.w) X.A (eval a X.env) (fun v s₁ => wpAny (model X.prog X.w) X.A (eval b X.env) (fun u s₂ => wpAny (model X.prog X.w) X.A (compareOp op v u) (EP X pins σ Q) X.xe s₂) X.xe s₁) X.xe s
def tCmp (p : Int → Int → Bool) (ta tb : TE) : TE := fun σ H Q => t2I ta tb (fun i j H2 => Q (.bl (p i j)) H2) σ H
abbrev tLt : TE → TE → TE := tCmp fun i j => decide (i < j)
abbrev tLe : TE → TE → TE := tCmp fun i j => decide (i ≤ j)
abbrev tGt : TE → TE → TE := tCmp fun i j => decide (j < i)
abbrev tGe : TE → TE → TE := tCmp fun i j => decide (j ≤ i)
abbrev tEqI : TE → TE → TE := tCmp fun i j => decide (i = j)
abbrev tNeI : TE → TE → TE := tCmp fun i j => !decide (i = j)
/-- is None -/
def tIsN (ta : TE) : TE := fun σ H Q => ta σ H fun x H1 => Q (.bl (decide (x = .non))) H1
def tNotN (ta : TE) : TE := fun σ H Q => ta σ H fun x H1 => Q (.bl (!decide (x = .non))) H1
/-- a comparison as a value, as a test -/
def tB (t : TE) : TT := fun σ H Q => t σ H fun x H1 => ∃ c, x = .bl c ∧ Q c H1
/-- an expression whose value is a bool, as a test -/
theorem pt_val {e : Expr} {t : TE} (h : PE X e t) (he : ∀ whole, isTrue e X.env whole = (do let v ← whole; standAt e.pos; holding [v] (truthy v)) := by intro _; rfl) : PT X e (tB t) := by
  intro pins s σ H Q I hw
  refine isTrue_plain (thn (h pins s σ H _ I hw) fun v s1 ⟨x, H1, I1, r1, q1⟩ => ?_) (he _)
  obtain ⟨d, rfl, q⟩ := q1
  cases r1
  exact wpAny_truthy_bool ⟨H1, I1, q⟩

/-! ### and, or, not -/
variable {tA tB' : TT} {rest : List Expr}
def tAnd (t u : TT) : TT := fun σ H Q => t σ H fun c H1 => if c = true then u σ H1 Q else Q false H1
def tOr (t u : TT) : TT := fun σ H Q => t σ H fun c H1 => if c = true then Q true H1 else u σ H1 Q
def tNot (t : TT) : TT := fun σ H Q => t σ H fun c H1 => Q (!c) H1
theorem pw_and1 (ha : PT X a tA) : PW X (.BoolOp .And [a] pos) tA := by
  intro wh pins s σ H Q I h
  refine isTrue_and (thn (ha pins s σ H Q I h) fun c s1 e => ?_)
  cases c with
  | true => exact isTrue_and_nil e
  | false => exact e
theorem pw_or1 (ha : PT X a tA) : PW X (.BoolOp .Or [a] pos) tA := by
  intro wh pins s σ H Q I h
  refine isTrue_or (thn (ha pins s σ H Q I h) fun c s1 e => ?_)
  cases c with
  | false => exact isTrue_or_nil e
  | true => exact e
theorem pw_and (ha : PT X a tA) (hb : PW X (.BoolOp .And (b :: rest) pos) tB') : PW X (.BoolOp .And (a :: b :: rest) pos) (tAnd tA tB') := by
  intro wh pins s σ H Q I h
  refine isTrue_and (thn (ha pins s σ H _ I h) fun c s1 ⟨H1, I1, q1⟩ => ?_)
  cases c with
  | true => exact hb wh pins s1 σ H1 Q I1 q1
  | false => exact ⟨H1, I1, q1⟩
theorem pw_or (ha : PT X a tA) (hb : PW X (.BoolOp .Or (b :: rest) pos) tB') : PW X (.BoolOp .Or (a :: b :: rest) pos) (tOr tA tB') := by
  intro wh pins s σ H Q I h
  refine isTrue_or (thn (ha pins s σ H _ I h) fun c s1 ⟨H1, I1, q1⟩ => ?_)
  cases c with
  | true => exact ⟨H1, I1, q1⟩
  | false => exact hb wh pins s1 σ H1 Q I1 q1
theorem pt_not (ha : PT X a tA) : PT X (.UnaryOp .Not a pos) (tNot tA) := by
  intro pins s σ H Q I h
  exact isTrue_not (ha pins s σ H (fun c H1 => Q (!c) H1) I h)
/-- .. as values (bools) -/
def tAndV (ta tb : TE) : TE := fun σ H Q => ta σ H fun x H1 => ∃ c, x = .bl c ∧ if c = true then tb σ H1 Q else Q (.bl false) H1
def tOrV (ta tb : TE) : TE := fun σ H Q => ta σ H fun x H1 => ∃ c, x = .bl c ∧ if c = true then Q (.bl true) H1 else tb σ H1 Q
def tNotV (ta : TE) : TE := fun σ H Q => ta σ H fun x H1 => ∃ c, x = .bl c ∧ Q (.bl (!c)) H1
theorem pe_one {op} {t : TE} (h : PE X a t) : PE X (.BoolOp op [a] pos) t := fun pins s σ H Q I hw => BoolOp_one (h pins s σ H Q I hw)
theorem pe_and (ha : PE X a ta) (hb : PE X (.BoolOp .And (b :: rest) pos) tb) : PE X (.BoolOp .And (a :: b :: rest) pos) (tAndV ta tb) := by
  intro pins s σ H Q I h
  refine BoolOp_and (thn (ha pins s σ H _ I h) fun v s1 ⟨x, H1, I1, r1, q1⟩ => ?_)
  obtain ⟨c, rfl, q1⟩ := q1
  cases r1
  refine wpAny_truthy_bool ?_
  cases c with
  | true => exact hb pins s1 σ H1 Q I1 q1
  | false => exact ⟨.bl false, H1, I1, rfl, q1⟩
theorem pe_not (ha : PE X a ta) : PE X (.UnaryOp .Not a pos) (tNotV ta) := by
  intro pins s σ H Q I h
  refine UnaryOp_ (thn (ha pins s σ H _ I h) fun v s1 ⟨x, H1, I1, r1, q1⟩ => ?_)
  obtain ⟨c, rfl, q1⟩ := q1
  cases r1
  exact not_of (wpAny_truthy_bool ⟨.bl (!c), H1, I1, rfl, q1⟩)
/-- a if t else b -/
def tIf (t : TT) (ta tb : TE) : TE := fun σ H Q => t σ H fun c H1 => if c = true then ta σ H1 Q else tb σ H1 Q
end
end L2

namespace L2
open PySem PySem.Spec PyProof.Rows

/-! ### a list, a tuple that is read: tracked, frozen, or an object of the module -/
def SqL (K : PySem.W.Frag) (H : Hp) (a : Addr) (xs : List V) : Prop :=
  Rd H a (.lst xs) ∨
    ∃ (o : Obj) (its : Array Value) (n : Nat), K.lookup a = some o ∧ o.cls = .type "list" ∧ o.dict = none ∧ o.data = .seq its n ∧ its.size ≤ sizeLine ∧ Vals xs its.toList
def SqT (K : PySem.W.Frag) (H : Hp) (a : Addr) (xs : List V) : Prop :=
  Rd H a (.tup xs) ∨
    ∃ (o : Obj) (its : Array Value) (n : Nat), K.lookup a = some o ∧ o.cls = .type "tuple" ∧ o.data = .seq its n ∧ its.size ≤ sizeLine ∧ Vals xs its.toList
def absV : Value → Option V
  | .none => some .non
  | .bool b => some (.bl b)
  | .int i _ => some (.int i)
  | .str x _ => some (.str x)
  | .bytes b _ => some (.byt b)
  | .float b _ => some (.flt b)
  | .ref a => some (.ref a)
  | .type n => some (.ty n)
  | _ => none
theorem RelV.abs {x : V} {u : Value} (r : RelV x u) : absV u = some x := by
  cases x with
  | non => cases r; rfl
  | bl _ => cases r; rfl
  | int _ => obtain ⟨t, rfl⟩ := r; rfl
  | str _ => obtain ⟨t, rfl⟩ := r; rfl
  | byt _ => obtain ⟨t, rfl⟩ := r; rfl
  | flt _ => obtain ⟨t, rfl⟩ := r; rfl
  | ref _ => cases r; rfl
  | ty _ => cases r; rfl
theorem RelV.inj {x y : V} {u : Value} (r : RelV x u) (q : RelV y u) : x = y := Option.some.inj (r.abs.symm.trans q.abs)
theorem Vals.inj : ∀ {xs ys : List V} {us : List Value}, Vals xs us → Vals ys us → xs = ys
  | _, _, _, .nil, .nil => rfl
  | _, _, _, .cons r t, .cons r' t' => by rw [r.inj r', Vals.inj t t']
section
variable {X : Cx} {pins : List (Addr × Obj)} {σ : St} {H : Hp} {s : Shared} {a : Addr} {xs ys : List V}
theorem SqL.of {K : PySem.W.Frag} (h : H a = some (.lst xs)) : SqL K H a xs := .inl (.inl h)
theorem SqT.of {K : PySem.W.Frag} (h : H a = some (.tup xs)) : SqT K H a xs := .inl (.inl h)
theorem Inv.list (I : Inv X pins σ H s) (h : SqL X.K H a xs) : ∃ its : List Value, Vals xs its ∧ PlainL s.heap a its.toArray ∧ xs.length ≤ sizeLine := by
  rcases h with h | ⟨o, its, n, hk, hc, hd, hs, hz, r⟩
  · obtain ⟨z, its, n, r, e⟩ := h.ok I.hok
    exact ⟨its, r, ⟨_, n, e, rfl, rfl, rfl⟩, z⟩
  · refine ⟨its.toList, r, ⟨o, n, I.kIn a o hk, hc, hd, by simpa using hs⟩, ?_⟩
    have e := r.length
    simp only [Array.length_toList] at e
    omega
theorem Inv.tuple (I : Inv X pins σ H s) (h : SqT X.K H a xs) : ∃ its : List Value, Vals xs its ∧ IsTup s.heap a its.toArray ∧ xs.length ≤ sizeLine := by
  rcases h with h | ⟨o, its, n, hk, hc, hs, hz, r⟩
  · obtain ⟨z, its, r, p⟩ := h.ok I.hok
    exact ⟨its, r, p, z⟩
  · refine ⟨its.toList, r, ⟨o, I.kIn a o hk, hc, n, by simpa using hs⟩, ?_⟩
    have e := r.length
    simp only [Array.length_toList] at e
    omega
theorem Inv.list_inj (I : Inv X pins σ H s) (h : SqL X.K H a xs) (h' : SqL X.K H a ys) : xs = ys := by
  obtain ⟨its, r, ⟨o, n, e, _, _, d⟩, _⟩ := I.list h
  obtain ⟨its', r', ⟨o', n', e', _, _, d'⟩, _⟩ := I.list h'
  rw [e] at e'; cases e'
  rw [d] at d'
  injection d' with d1 _
  have : its = its' := by simpa using congrArg Array.toList d1
  subst this
  exact r.inj r'
end

/-! ### another wish about exceptions -/
abbrev Cx.wish (X : Cx) (E : Value → Shared → Prop) : Cx := { X with xe := E }
/-- no exception leaves -/
abbrev Cx.nox (X : Cx) : Cx := X.wish fun _ _ => False
theorem Cx.Ok.wish {X : Cx} (ok : X.Ok) (E : Value → Shared → Prop) : (X.wish E).Ok :=
  ⟨ok.mod, ok.kind, ok.glob, ok.blt, ok.above, ok.inj, ok.has, ok.cab, ok.hd, ok.frames, ok.stk, ok.exf, ok.bs, ok.bsz, ok.noex, ok.exfs, ok.funs, ok.frf⟩
theorem Cx.Ok.unwish {X : Cx} {E : Value → Shared → Prop} (ok : (X.wish E).Ok) : X.Ok :=
  ⟨ok.mod, ok.kind, ok.glob, ok.blt, ok.above, ok.inj, ok.has, ok.cab, ok.hd, ok.frames, ok.stk, ok.exf, ok.bs, ok.bsz, ok.noex, ok.exfs, ok.funs, ok.frf⟩
section
variable {X : Cx} {pins : List (Addr × Obj)} {σ : St} {H : Hp} {s : Shared} {E : Value → Shared → Prop}
theorem Inv.wish (I : Inv X pins σ H s) (E : Value → Shared → Prop) : Inv (X.wish E) pins σ H s := ⟨I.ok.wish E, I.os, I.bare, I.base, I.loc, I.cell, I.free, I.freeC, I.pin, I.hok, I.len⟩
theorem Inv.unwish (I : Inv (X.wish E) pins σ H s) : Inv X pins σ H s := ⟨I.ok.unwish, I.os, I.bare, I.base, I.loc, I.cell, I.free, I.freeC, I.pin, I.hok, I.len⟩
end

/-! ### blocks and small statements -/
section
variable {X : Cx} {st : Stmt} {rest : List Stmt} {t u : TS} {e : Expr} {te : TE} {pos : Pos}
def tNext : TS := fun D σ H => D.nx σ H
def tSeq (t u : TS) : TS := fun D σ H => t { D with nx := u D } σ H
theorem pss_nil : PSs X [] tNext := fun _ _ σ H _ I h => wpAny_execs_nil ⟨σ, H, I, h⟩
theorem pss_cons (h1 : PS X st t) (h2 : PSs X rest u) : PSs X (st :: rest) (tSeq t u) := by
  intro pins s σ H D I h
  refine wpAny_execs_cons (thn (h1 pins s σ H { D with nx := u D } I h) fun f s1 q => ?_)
  cases f with
  | next =>
    obtain ⟨σ', H', I', q⟩ := q
    exact h2 pins s1 σ' H' D I' q
  | ret v => exact q
  | brk => exact q
  | cont => exact q
theorem pss_one (h1 : PS X st t) : PSs X [st] t := by
  intro pins s σ H D I h
  refine wpAny_execs_cons (thn (h1 pins s σ H D I h) fun f s1 q => ?_)
  cases f with
  | next => exact wpAny_execs_nil q
  | ret v => exact q
  | brk => exact q
  | cont => exact q
def tBreak : TS := fun D σ H => D.bk σ H
def tCont : TS := fun D σ H => D.ct σ H
/-- in a def's body nothing is shown -/
theorem Inv.quiet {pins : List (Addr × Obj)} {σ : St} {H : Hp} {s : Shared} (I : Inv X pins σ H s) : interactive X.env = false := by simp [interactive, I.ok.kind]
/-- an expression whose value is dropped -/
def tDrop (te : TE) : TS := fun D σ H => te σ H fun _ H1 => D.nx σ H1
theorem ps_expr (he : PE X e te) (hs : swapsWith e none pos.line X.env = pure false := by rfl) : PS X (.Expr e pos) (tDrop te) := by
  intro pins s σ H D I h
  exact wpAny_Expr_any (thn (he pins s σ H _ I h) fun v s1 ⟨x, H1, I1, r1, q1⟩ => ⟨σ, H1, I1, q1⟩) I.quiet hs
def tRet (te : TE) : TS := fun D σ H => te σ H D.rt
theorem ps_ret (he : PE X e te) : PS X (.Return (some e) pos) (tRet te) := by
  intro pins s σ H D I h
  exact wpAny_Return_some (thn (he pins s σ H _ I h) fun v s1 ⟨x, H1, I1, r1, q1⟩ => ⟨x, σ, H1, I1, r1, q1⟩)
def tRetN : TS := fun D _ H => D.rt .non H
def tIfS (c : TT) (t u : TS) : TS := fun D σ H => c σ H fun b H1 => if b = true then t D σ H1 else u D σ H1
theorem ps_if {c : Expr} {a b : List Stmt} {tc : TT} (hc : PT X c tc) (ha : PSs X a t) (hb : PSs X b u) : PS X (.If c a b pos) (tIfS tc t u) := by
  intro pins s σ H D I h
  refine wpAny_If (thn (hc pins s σ H _ I h) fun d s1 ⟨H1, I1, q1⟩ => ?_)
  cases d with
  | true => exact ha pins s1 σ H1 D I1 q1
  | false => exact hb pins s1 σ H1 D I1 q1
/-- code that the proof never comes to -/
def tNever : TS := fun _ _ _ => False
theorem ps_never : PS X st tNever := fun _ _ _ _ _ _ h => h.elim
end

/-! ### targets -/
abbrev TG := V → St → Hp → (St → Hp → Prop) → Prop
abbrev TGs := List V → St → Hp → (St → Hp → Prop) → Prop
def PG (X : Cx) (target : Expr) (t : TG) : Prop :=
  ∀ (pins : List (Addr × Obj)) (s : Shared) (σ : St) (H : Hp) (v : V) (u : Value) (Q : St → Hp → Prop), Inv X pins σ H s → RelV v u → t v σ H Q →
    wpAny (model X.prog X.w) X.A (assign target X.env u) (fun _ s' => ∃ σ' H', Inv X pins σ' H' s' ∧ Q σ' H') X.xe s
/-- several targets, one after another -/
def PGs (X : Cx) (ts : List Expr) (t : TGs) : Prop :=
  ∀ (pins : List (Addr × Obj)) (s : Shared) (σ : St) (H : Hp) (vs : List V) (us : List Value) (Q : St → Hp → Prop), Inv X pins σ H s → Vals vs us → t vs σ H Q →
    wpAny (model X.prog X.w) X.A (assignInOrder ((assignEach ts X.env).map (·.2)) us) (fun _ s' => ∃ σ' H', Inv X pins σ' H' s' ∧ Q σ' H') X.xe s
/-- o[i] = v, by values -/
abbrev TSet := V → V → V → Hp → (Hp → Prop) → Prop
def PSet (X : Cx) (t : TSet) : Prop :=
  ∀ (pins : List (Addr × Obj)) (s : Shared) (σ : St) (H : Hp) (o i v : V) (ov iv u : Value) (Q : Hp → Prop), Inv X pins σ H s → RelV o ov → RelV i iv → RelV v u → t o i v H Q →
    wpAny (model X.prog X.w) X.A (setItem ov iv u) (fun _ s' => ∃ H', Inv X pins σ H' s' ∧ Q H') X.xe s
/-- a op= b, by values -/
abbrev TIp := V → V → Hp → VK → Prop
def PIp (X : Cx) (op : Operator) (t : TIp) : Prop :=
  ∀ (pins : List (Addr × Obj)) (s : Shared) (σ : St) (H : Hp) (x y : V) (v u : Value) (Q : VK), Inv X pins σ H s → RelV x v → RelV y u → t x y H Q →
    wpAny (model X.prog X.w) X.A (inplaceOp op v u) (EP X pins σ Q) X.xe s
section
variable {X : Cx} {pos : Pos}
def gName (i : Nat) : TG := fun v σ H Q => Q (σ.set i (some v)) H
theorem pg_name {i : Nat} {x : Str} (hN : X.N.Nodup) (hi : X.N[i]? = some x) (hx : Loc X.env.scope x) (hf : X.fn x = true ∨ X.env.scope.names.lookup x = some .local := by first | exact .inl rfl | exact .inr rfl | assumption) : PG X (.Name x pos) (gName i) := by
  intro pins s σ H v u Q I r h
  exact wpAny_assign_Name (store_ok I hN hi hx r (fun s' I' => ⟨_, H, I', h⟩) hf)
def gNil : TGs := fun vs σ H Q => vs = [] ∧ Q σ H
def gCons (t : TG) (u : TGs) : TGs := fun vs σ H Q => ∃ v r, vs = v :: r ∧ t v σ H fun σ' H' => u r σ' H' Q
theorem pgs_nil : PGs X [] gNil := by
  intro pins s σ H vs us Q I r h
  obtain ⟨e, h⟩ := h
  subst e
  cases r
  exact assignInOrder_nil ⟨σ, H, I, h⟩
theorem pgs_cons {e : Expr} {es : List Expr} {t : TG} {u : TGs} (h1 : PG X e t) (h2 : PGs X es u)
    (hs : (assignEach (e :: es) X.env).map (·.2) = assign e X.env :: (assignEach es X.env).map (·.2) := by rfl) : PGs X (e :: es) (gCons t u) := by
  intro pins s σ H vs us Q I r h
  obtain ⟨v, vr, e1, h⟩ := h
  subst e1
  cases r with
  | cons r rr =>
    rw [hs]
    refine assignInOrder_cons (thn (h1 pins s σ H _ _ _ I r h) fun _ s1 ⟨σ1, H1, I1, q1⟩ => ?_)
    exact h2 pins s1 σ1 H1 _ _ Q I1 rr q1
/-- (a, b, ..) = a tuple of that length -/
def gTup (K : PySem.W.Frag) (n : Nat) (t : TGs) : TG := fun v σ H Q => ∃ a xs, v = .ref a ∧ SqT K H a xs ∧ xs.length = n ∧ t xs σ H Q
theorem pg_tup {es : List Expr} {k : Nat} {t : TGs} {n : Nat} (hc : X.calm = true) (h : PGs X es t)
    (hn : (assignEach es X.env).length = n := by rfl) (hst : (assignEach es X.env).findIdx? (·.1) = none := by rfl) : PG X (.Tuple es k pos) (gTup X.K n t) := by
  intro pins s σ H v u Q I r hw
  obtain ⟨a, xs, e1, hq, hl, hw⟩ := hw
  subst e1
  cases r
  obtain ⟨its, rv, ht, hz⟩ := I.tuple hq
  refine assign_Tuple_tuple (I.ok.hd hc) ht (by simp [hn, ← hl, rv.length]) hst fun h' hx => ?_
  have I1 : Inv X pins σ H { s with heap := h' } := I.kept (t' := s.toks) fun b o e => hx b o (Nat.ne_of_lt (Heap.lt_size e)) e
  exact h pins _ σ H xs _ Q I1 (by simpa using rv) hw
/-- o[i] = .. -/
def gSub (to ti : TE) (t : TSet) : TG := fun v σ H Q => to σ H fun o H1 => ti σ H1 fun i H2 => t o i v H2 fun H3 => Q σ H3
/-- target = value -/
def tAsg (te : TE) (g : TG) : TS := fun D σ H => te σ H fun x H1 => g x σ H1 D.nx
/-- name = value -/
theorem ps_set {i : Nat} {x : Str} {e : Expr} {te : TE} {pos' : Pos} (hN : X.N.Nodup) (hi : X.N[i]? = some x) (hx : Loc X.env.scope x) (he : PE X e te) (hs : swapsWith e (some (.Name x pos')) pos.line X.env = pure false := by rfl) (hf : X.fn x = true ∨ X.env.scope.names.lookup x = some .local := by first | exact .inl rfl | exact .inr rfl | assumption) :
    PS X (.Assign [.Name x pos'] e pos) (tAsg te (gName i)) := by
  intro pins s σ H D I h
  refine wpAny_Assign_Name (thn (he pins s σ H _ I h) fun v s1 ⟨y, H1, I1, r1, q1⟩ => ?_) hs
  exact store_ok I1 hN hi hx r1 (fun s2 I2 => ⟨_, H1, I2, q1⟩) hf
/-- a, b = x, y with plain local names: stored from the right; the pair itself is not tracked (the opening rows as in PyProof/Rows/TupAssign.lean:23) -/
def tPar (i j : Nat) (ta : TA) : TS := fun D σ H => ta σ H fun vs H1 => ∃ v w, vs = [v, w] ∧ D.nx ((σ.set i (some v)).set j (some w)) H1
/-- name op= e -/
def tAug (i : Nat) (te : TE) (ti : TIp) : TS := fun D σ H => ∃ x, σ[i]? = some (some x) ∧ te σ H fun y H1 => ti x y H1 fun z H2 => D.nx (σ.set i (some z)) H2
/-- o[i] op= e -/
def tAugS (to ti te : TE) (tget : V → V → Hp → VK → Prop) (tip : TIp) (tset : TSet) : TS := fun D σ H => to σ H fun o H1 => ti σ H1 fun i H2 => tget o i H2 fun x H3 => te σ H3 fun y H4 => tip x y H4 fun z H5 => tset o i z H5 fun H6 => D.nx σ H6
/-- o[i], by values -/
def PGet (X : Cx) (t : V → V → Hp → VK → Prop) : Prop :=
  ∀ (pins : List (Addr × Obj)) (s : Shared) (σ : St) (H : Hp) (o i : V) (ov iv : Value) (Q : VK), Inv X pins σ H s → RelV o ov → RelV i iv → t o i H Q →
    wpAny (model X.prog X.w) X.A (getItem ov iv) (EP X pins σ Q) X.xe s
/-- ints -/
def ipI (f : Int → Int → Int) : TIp := fun x y H Q => ∃ i j, x = .int i ∧ y = .int j ∧ Q (.int (f i j)) H
end

/-! ### while -/
section
variable {X : Cx} {pos : Pos}
/-- the invariant W with its measure -/
def tWhile (c : TT) (tb : TS) : TS := fun D σ H => ∃ W : Nat → St → Hp → Prop, (∃ m, W m σ H) ∧ ∀ m σ H, W m σ H →
  c σ H fun b H1 => if b = true then ∃ N : St → Hp → Prop, (∀ σ' H', N σ' H' → ∃ m', m' < m ∧ W m' σ' H') ∧ tb { D with nx := N, ct := N, bk := D.nx } σ H1 else D.nx σ H1
theorem ps_while {c : Expr} {body : List Stmt} {tc : TT} {tb : TS} (hp : PassesOwn (model X.prog X.w) X.A X.env X.xe) (hc : PT X c tc) (hb : PSs X body tb) : PS X (.While c body [] pos) (tWhile tc tb) := by
  intro pins s σ H D I h
  obtain ⟨W, ⟨m0, w0⟩, turn⟩ := h
  refine wpAny_While (codeAny_whileLoop (fun n s' => ∃ σ' H', Inv X pins σ' H' s' ∧ W n σ' H') ?_ m0 ⟨σ, H, I, w0⟩)
  rintro n s1 ⟨σ1, H1, I1, w1⟩
  refine wpAny_passesOwn hp (thn (hc pins s1 σ1 H1 _ I1 (turn n σ1 H1 w1)) fun b s2 ⟨H2, I2, q2⟩ => ?_)
  cases b with
  | true =>
    obtain ⟨N, hN, q2⟩ := q2
    rw [if_pos rfl]
    refine wpAny_passesOwn hp (thn (hb pins s2 σ1 H2 _ I2 q2) fun f s3 q3 => ?_)
    cases f with
    | next =>
      obtain ⟨σ3, H3, I3, n3⟩ := q3
      obtain ⟨m', hm, w3⟩ := hN σ3 H3 n3
      exact ⟨m', hm, σ3, H3, I3, w3⟩
    | cont =>
      obtain ⟨σ3, H3, I3, n3⟩ := q3
      obtain ⟨m', hm, w3⟩ := hN σ3 H3 n3
      exact ⟨m', hm, σ3, H3, I3, w3⟩
    | brk => exact q3
    | ret v => exact q3
  | false =>
    rw [if_neg Bool.false_ne_true]
    exact wpAny_execs_nil ⟨σ1, H2, I2, q2⟩
end

/-! ### what a loop or a comprehension walks -/
/-- at turn i: it yields x (the heap may grow), or it stops -/
structure It where
  go : Nat → Hp → Prop
  yld : Nat → Hp → V → Hp → Prop
  stop : Nat → Hp → Prop
/-- the iterator's own objects may turn: they are not the frame's, not pinned, younger than the entry (or a comprehension's own) -/
def FpOk (X : Cx) (pins : List (Addr × Obj)) (H : Hp) (b : Addr) : Prop :=
  H b = none ∧ b ≠ X.env.locals ∧ b ∉ X.fs ∧ (b ∈ X.ex ∨ X.s₀.heap.objs.size ≤ b) ∧ (∀ x c, X.env.cells.lookup x = some c → c ≠ b) ∧ ∀ p ∈ X.pn ++ pins, p.1 ≠ b
theorem Inv.fpOk {X : Cx} {pins : List (Addr × Obj)} {σ : St} {H H' : Hp} {s : Shared} {b : Addr} (I : Inv X pins σ H s) (hb : s.heap.objs.size ≤ b) (hn : H' b = none) : FpOk X pins H' b := by
  refine ⟨hn, Nat.ne_of_gt (Nat.lt_of_lt_of_le I.lt hb), I.nofs hb, .inr (Nat.le_trans I.sz hb), fun x c e z => ?_, fun p hp z => ?_⟩
  · obtain ⟨v, q⟩ := I.cell x c e
    exact absurd (Nat.lt_of_lt_of_le q.lt (by rw [z]; exact hb)) (Nat.lt_irrefl _)
  · exact absurd (Nat.lt_of_lt_of_le (Heap.lt_size (I.pin p hp).1) (by rw [z]; exact hb)) (Nat.lt_irrefl _)
structure Turn (P : Program) (w : World) (K : PySem.W.Frag) (tg : Expr) (J : It) (fp : List Addr) (it : Addr) (tn : Nat → Heap → Prop) : Prop where
  mem : it ∈ fp
  obj : ∀ i h, tn i h → ∀ b ∈ fp, ∃ o, h.get? b = some o ∧ ∀ v, o.data ≠ .cell v
  keep : ∀ i h h', tn i h → (∀ b ∈ fp, ∀ o, h.get? b = some o → h'.get? b = some o) → tn i h'
  item : ∀ (X : Cx), X.prog = P → X.w = w → X.K = K → X.calm = true → ∀ (i : Nat) (pins : List (Addr × Obj)) (s : Shared) (σ : St) (H : Hp) (E : Value → Shared → Prop), Inv X pins σ H s → (∀ b ∈ fp, FpOk X pins H b) → tn i s.heap → J.go i H →
    wpAny (model P w) X.A (pyNext (.ref it)) (fun r s1 => ∃ u, r = some u ∧
      wpAny (model P w) X.A (letOwnedTupleGo tg (.ref it) u) (fun _ s2 => ∃ x H', Inv X pins σ H' s2 ∧ RelV x u ∧ J.yld i H x H' ∧ tn (i + 1) s2.heap ∧ ∀ b ∈ fp, H' b = none) E s1) E s
  done : ∀ (X : Cx), X.prog = P → X.w = w → X.K = K → X.calm = true → ∀ (i : Nat) (pins : List (Addr × Obj)) (s : Shared) (σ : St) (H : Hp) (E : Value → Shared → Prop), Inv X pins σ H s → (∀ b ∈ fp, FpOk X pins H b) → tn i s.heap → J.stop i H →
    wpAny (model P w) X.A (pyNext (.ref it)) (fun r s1 => r = none ∧ Inv X pins σ H s1) E s
  self : ∀ (A : Around) (i : Nat) (s : Shared) (Q : Value → Shared → Prop) (E : Value → Shared → Prop), tn i s.heap → Q (.ref it) s → wpAny (model P w) A (pyIter (.ref it)) Q E s
abbrev TI := St → Hp → (It → Hp → Prop) → Prop
/-- an iterator has come -/
def PIE (X : Cx) (pins : List (Addr × Obj)) (σ : St) (tg : Expr) (R : It → Hp → Prop) (itv : Value) (s2 : Shared) : Prop :=
  ∃ (it : Addr) (fp : List Addr) (tn : Nat → Heap → Prop) (J : It) (H' : Hp), itv = .ref it ∧ Inv X pins σ H' s2 ∧ Turn X.prog X.w X.K tg J fp it tn ∧ tn 0 s2.heap ∧ (∀ b ∈ fp, FpOk X pins H' b) ∧ R J H'
def PI (X : Cx) (tg iter : Expr) (wi : TI) : Prop :=
  ∀ (pins : List (Addr × Obj)) (s : Shared) (σ : St) (H : Hp) (R : It → Hp → Prop), Inv X pins σ H s → wi σ H R →
    wpAny (model X.prog X.w) X.A (eval iter X.env) (fun v s1 => wpAny (model X.prog X.w) X.A (pyIter v) (PIE X pins σ tg R) X.xe s1) X.xe s

/-- the step ahead of the store is nothing for an iterator that keeps no tuple -/
theorem go_of {M : Model} {A : Around} {E : Value → Shared → Prop} {s : Shared} {tg : Expr} {it : Addr} {u : Value} {o : Obj} {n : String} {vs : Array Value} {Q : Unit → Shared → Prop} (ho : s.heap.get? it = some o) (hc : o.cls = .type n) (hd : o.data = .fields vs)
    (hn : ["enumerate", "zip", "dict_itemiterator", "dict_reverseitemiterator", "odict_iterator", "itertools.zip_longest", "itertools.pairwise"].contains n = false) (hQ : Q () s) : wpAny M A (letOwnedTupleGo tg (.ref it) u) Q E s := by
  unfold letOwnedTupleGo
  cases tg <;> first
    | exact wpAny_pure hQ
    | (cases u <;> first
        | exact wpAny_pure hQ
        | (refine wpAny_bind (wpAny_load ho ?_)
           rw [hc, hd]
           show wpAny M A (if (["enumerate", "zip", "dict_itemiterator", "dict_reverseitemiterator", "odict_iterator", "itertools.zip_longest", "itertools.pairwise"].contains n && vs[0]? == some (rawInt _)) = true then _ else _) Q E s
           rw [if_neg (by intro h; rw [hn, Bool.false_and] at h; cases h)]
           exact wpAny_pure hQ))

/-- the list at a, as it stands at each turn (a loop may append to it) -/
def Itl (K : PySem.W.Frag) (a : Addr) : It :=
  ⟨fun i H => ∃ xs x, SqL K H a xs ∧ xs[i]? = some x, fun i H x H' => H' = H ∧ ∀ xs, SqL K H a xs → xs[i]? = some x, fun i H => ∃ xs, SqL K H a xs ∧ xs.length ≤ i⟩
def Itt (K : PySem.W.Frag) (a : Addr) : It :=
  ⟨fun i H => ∃ xs x, SqT K H a xs ∧ xs[i]? = some x, fun i H x H' => H' = H ∧ ∀ xs, SqT K H a xs → xs[i]? = some x, fun i H => ∃ xs, SqT K H a xs ∧ xs.length ≤ i⟩
/-- lo, lo + 1, .. (n of them) -/
def Itr (lo : Int) (n : Nat) : It := ⟨fun i _ => i < n, fun i H x H' => H' = H ∧ x = .int (lo + i), fun i _ => n ≤ i⟩
theorem turn_list {P : Program} {w : World} {K : PySem.W.Frag} {tg : Expr} (a it : Addr) : Turn P w K tg (Itl K a) [it] it (fun i h => h.IsListIter it a i) where
  mem := by simp
  obj := fun i h st b hb => by
    have e : b = it := by simpa using hb
    subst e
    obtain ⟨o, e, c, d⟩ := st
    exact ⟨o, e, fun v z => by rw [d] at z; cases z⟩
  keep := fun i h h' st k => st.at fun o e => k it (by simp) o e
  item := by
    intro X hP hw hK hc i pins s σ H E I hf st hg
    subst hP hw hK
    obtain ⟨xs, x, hq, hx⟩ := hg
    obtain ⟨its, rv, p, hz⟩ := I.list hq
    obtain ⟨u, hu, ru⟩ := rv.get hx
    obtain ⟨f0, f1, f2, f3, f4, f5⟩ := hf it (by simp)
    refine wpAny_pyNext_list_item st p.isList (x := u) (by simpa using hu) fun h' st' sb => ?_
    have I1 : Inv X pins σ H { s with heap := h' } := I.turned (t' := s.toks) (fun b o hb e => (sb.2 b hb).trans e) f0 f1 f3 f4 f5
    obtain ⟨o, e, c, d⟩ := id st'
    exact ⟨u, rfl, go_of (s := { s with heap := h' }) e c d (by decide) ⟨x, H, I1, ru, ⟨rfl, fun ys hy => by rw [I.list_inj hy hq]; exact hx⟩, st', fun b hb => (hf b hb).1⟩⟩
  done := by
    intro X hP hw hK hc i pins s σ H E I hf st hg
    subst hP hw hK
    obtain ⟨xs, hq, hx⟩ := hg
    obtain ⟨its, rv, p, hz⟩ := I.list hq
    obtain ⟨f0, f1, f2, f3, f4, f5⟩ := hf it (by simp)
    have hl := rv.length
    exact wpAny_pyNext_list_end (I.ok.hd hc) st p.isList (by simp; omega) fun h' eb => ⟨rfl, I.turned (t' := s.toks) (fun b o hb e => eb b o hb e) f0 f1 f3 f4 f5⟩
  self := fun _ _ _ _ _ st h => wpAny_pyIter_listiter st h
theorem turn_range {P : Program} {w : World} {K : PySem.W.Frag} {tg : Expr} (it : Addr) (lo : Int) (n : Nat) : Turn P w K tg (Itr lo n) [it] it (fun i h => IsRangeIter h it (lo + (i : Nat) * 1) ((n : Int) - (i : Nat)) 1) where
  mem := by simp
  obj := fun i h st b hb => by
    have e : b = it := by simpa using hb
    subst e
    exact ⟨_, st, fun v z => by
      have z' : Data.fields _ = Data.cell v := z
      cases z'⟩
  keep := fun i h h' st k => k it (by simp) _ st
  item := by
    intro X hP hw hK hc i pins s σ H E I hf st hg
    subst hP hw hK
    obtain ⟨f0, f1, f2, f3, f4, f5⟩ := hf it (by simp)
    have W := Walks.range (prog := X.prog) (w := X.w) (I.ok.hd hc) it lo 1 n
    refine W.item i s _ _ hg st fun v h' tk hv st' kk => ?_
    obtain ⟨t, rfl⟩ := hv
    have I1 : Inv X pins σ H { s with heap := h', toks := tk } := I.turned (fun b o hb e => kk b o (by simpa using hb) e) f0 f1 f3 f4 f5
    refine ⟨_, rfl, go_of (s := { s with heap := h', toks := tk }) (n := "range_iterator") st' rfl rfl (by decide) ⟨.int (lo + i), H, I1, ⟨t, ?_⟩, ⟨rfl, rfl⟩, st', fun b hb => (hf b hb).1⟩⟩
    rw [Int.mul_one]
  done := by
    intro X hP hw hK hc i pins s σ H E I hf st hg
    subst hP hw hK
    obtain ⟨f0, f1, f2, f3, f4, f5⟩ := hf it (by simp)
    exact wpAny_pyNext_range_end (I.ok.hd hc) st (by have : n ≤ i := hg; omega) fun h' eb => ⟨rfl, I.turned (t' := s.toks) (fun b o hb e => eb b o hb e) f0 f1 f3 f4 f5⟩
  self := fun _ _ _ _ _ st h => wpAny_pyIter_rangeiter st h
end L2

namespace L2
open PySem PySem.Spec PyProof.Rows
section
variable {X : Cx} {tg : Expr}
def iList (K : PySem.W.Frag) (tl : TE) : TI := fun σ H R => tl σ H fun x H1 => ∃ a, x = .ref a ∧ (∃ xs, SqL K H1 a xs) ∧ R (Itl K a) H1
def iTup (K : PySem.W.Frag) (tl : TE) : TI := fun σ H R => tl σ H fun x H1 => ∃ a, x = .ref a ∧ (∃ xs, SqT K H1 a xs) ∧ R (Itt K a) H1
theorem pi_list {l : Expr} {tl : TE} (hl : PE X l tl) : PI X tg l (iList X.K tl) := by
  intro pins s σ H R I h
  refine thn (hl pins s σ H _ I h) fun v s1 ⟨x, H1, I1, r1, q1⟩ => ?_
  obtain ⟨a, e, ⟨xs, hq⟩, q⟩ := q1
  subst e
  cases r1
  obtain ⟨its, rv, p, hz⟩ := I1.list hq
  refine wpAny_pyIter_list p.isList ?_
  refine ⟨s1.heap.objs.size, [s1.heap.objs.size], _, _, H1, rfl, I1.kept (t' := s1.toks) fun b o e => Heap.get?_push_of_some _ e, turn_list a _, ⟨_, Heap.get?_push_size _ rfl, rfl, rfl⟩, fun b hb => ?_, q⟩
  have e : b = s1.heap.objs.size := by simpa using hb
  subst e
  exact I1.fpOk (Nat.le_refl _) (I1.hok.fresh (Nat.le_refl _))
/-- a range object just made, walked -/
theorem range_it {pins : List (Addr × Obj)} {σ : St} {H : Hp} {s : Shared} {R : It → Hp → Prop} {E : Value → Shared → Prop} {lo hi : Int} {t u v : Tok} {tk : Nat} (I : Inv X pins σ H s) (h1 : -(2 ^ 62) ≤ lo) (h2 : lo < 2 ^ 62) (h3 : -(2 ^ 62) ≤ hi) (h4 : hi < 2 ^ 62)
    (q : R (Itr lo (hi - lo).toNat) H) : wpAny (model X.prog X.w) X.A (pyIter (.ref s.heap.objs.size)) (PIE X pins σ tg R) E { s with heap := s.heap.push { cls := .type "range", data := .fields #[.int lo t, .int hi u, .int 1 v] }, toks := tk } := by
  refine wpAny_pyIter_range (IsRange.new ..) (small_one h1 h2 h3 h4) ?_
  have I1 : Inv X pins σ H { s with heap := s.heap.push { cls := .type "range", data := .fields #[.int lo t, .int hi u, .int 1 v] }, toks := tk } := I.kept fun b o e => Heap.get?_push_of_some _ e
  refine ⟨(s.heap.push { cls := .type "range", data := .fields #[.int lo t, .int hi u, .int 1 v] }).objs.size, [(s.heap.push { cls := .type "range", data := .fields #[.int lo t, .int hi u, .int 1 v] }).objs.size], _, _, H, rfl,
    I1.kept (t' := tk) fun b o e => Heap.get?_push_of_some _ e, turn_range _ lo (hi - lo).toNat, ?_, fun b hb => ?_, q⟩
  · have e1 : lo + ((0 : Nat) : Int) * 1 = lo := by simp
    have e2 : (((hi - lo).toNat : Nat) : Int) - ((0 : Nat) : Int) = Builtin.Range.rangeSize lo hi 1 := by rw [rangeSize_one]; split <;> omega
    show IsRangeIter _ _ (lo + ((0 : Nat) : Int) * 1) ((((hi - lo).toNat : Nat) : Int) - ((0 : Nat) : Int)) 1
    rw [e1, e2]
    exact Heap.get?_push_size _ rfl
  · have e : b = (s.heap.push { cls := .type "range", data := .fields #[.int lo t, .int hi u, .int 1 v] }).objs.size := by simpa using hb
    subst e
    exact I1.fpOk (Nat.le_refl _) (I1.hok.fresh (Nat.le_refl _))
def iRng1 (ta : TA) : TI := fun σ H R => ta σ H fun vs H1 => ∃ j : Int, vs = [.int j] ∧ -(2 ^ 62) ≤ j ∧ j < 2 ^ 62 ∧ R (Itr 0 j.toNat) H1
def iRng2 (ta : TA) : TI := fun σ H R => ta σ H fun vs H1 => ∃ i j : Int, vs = [.int i, .int j] ∧ (-(2 ^ 62) ≤ i ∧ i < 2 ^ 62 ∧ -(2 ^ 62) ≤ j ∧ j < 2 ^ 62) ∧ R (Itr i (j - i).toNat) H1
theorem pi_range1 {a : Expr} {ta : TA} {p pos : Pos} (hg : Gl X "range") (hm : X.mg "range" = none) (ha : PA X [a] ta) (hs : starEach [a] X.env = [(false, eval a X.env)] := by rfl) : PI X tg (.Call (.Name "range" p) [a] [] pos) (iRng1 ta) := by
  intro pins s σ H R I h
  refine Call_ (ld_blt I hg hm boot_range (PyProof.Rows.callWith_type1 (thn (ha pos pins s σ H _ I h) fun us s1 ⟨vs, H1, I1, r1, q1⟩ => ?_) hs rfl))
  obtain ⟨j, e, q1, q2, q⟩ := q1
  subst e
  cases r1 with
  | cons r rr =>
    cases rr
    obtain ⟨t, rfl⟩ := r
    exact call_range_1 (range_it I1 (by omega) (by omega) q1 q2 (by simpa using q))
/-! ### for -/
/-- W: the invariant by the turn and a measure; N: what the body is to reach -/
def tFor (wi : TI) (g : TG) (tb : TS) : TS := fun D σ H => wi σ H fun J H1 => ∃ W : Nat → Nat → St → Hp → Prop, (∃ m, W 0 m σ H1) ∧ ∀ i m σ H, W i m σ H →
  (J.stop i H ∧ D.nx σ H) ∨ (J.go i H ∧ ∃ N : St → Hp → Prop, (∀ σ' H', N σ' H' → ∃ m', m' < m ∧ W (i + 1) m' σ' H') ∧ ∀ x H', J.yld i H x H' → g x σ H' fun σ2 H2 => tb { D with nx := N, ct := N, bk := D.nx } σ2 H2)
/-- the records at fp as they stand -/
def pinsAt (fp : List Addr) (h : Heap) : List (Addr × Obj) := fp.filterMap fun b => (h.get? b).map fun o => (b, o)
theorem mem_pinsAt {fp : List Addr} {h : Heap} {b : Addr} {o : Obj} (hb : b ∈ fp) (e : h.get? b = some o) : (b, o) ∈ pinsAt fp h := List.mem_filterMap.mpr ⟨b, hb, by rw [e]; rfl⟩
theorem of_pinsAt {fp : List Addr} {h : Heap} {p : Addr × Obj} (hp : p ∈ pinsAt fp h) : p.1 ∈ fp ∧ h.get? p.1 = some p.2 := by
  obtain ⟨b, hb, e⟩ := List.mem_filterMap.mp hp
  cases q : h.get? b with
  | none => rw [q] at e; cases e
  | some o =>
    rw [q] at e
    have e' : (b, o) = p := Option.some.inj e
    subst e'
    exact ⟨hb, q⟩
theorem Inv.pinned {pins : List (Addr × Obj)} {σ : St} {H : Hp} {s : Shared} {fp : List Addr} (I : Inv X pins σ H s) (hf : ∀ b ∈ fp, FpOk X pins H b) (ho : ∀ b ∈ fp, ∃ o, s.heap.get? b = some o ∧ ∀ v, o.data ≠ .cell v) : Inv X (pins ++ pinsAt fp s.heap) σ H s :=
  I.pins_of fun p hp => (List.mem_append.mp hp).elim (fun z => I.pin p (List.mem_append_right _ z)) fun z => by
    obtain ⟨hb, e⟩ := of_pinsAt z
    obtain ⟨f0, f1, f2, _⟩ := hf p.1 hb
    obtain ⟨o, e', d⟩ := ho p.1 hb
    rw [e] at e'; cases e'
    exact ⟨e, f0, f1, f2, d⟩
theorem Inv.unpinned {pins pl : List (Addr × Obj)} {σ : St} {H : Hp} {s : Shared} (I : Inv X (pins ++ pl) σ H s) : Inv X pins σ H s := I.pins_of fun p hp => I.pin p (List.mem_append_right _ (List.mem_append_left _ hp))
theorem ps_for {iter : Expr} {body : List Stmt} {wi : TI} {g : TG} {tb : TS} {pos : Pos} (hp : PassesOwn (model X.prog X.w) X.A X.env X.xe) (hc : X.calm = true) (hi : PI X tg iter wi) (hg : PG X tg g) (hb : PSs X body tb)
    (hs : ∀ x, foldedSetIterable iter X.env x = pure x := by intro _; rfl) : PS X (.For tg iter body [] pos) (tFor wi g tb) := by
  intro pins s σ H D I h
  refine wpAny_For (thn (hi pins s σ H _ I h) fun v s1 h1 => thn h1 fun itv s2 h2 => ?_) hs
  obtain ⟨it, fp, tn, J, H2, e, I2, T, st2, f2, W, ⟨m0, w0⟩, turn⟩ := h2
  subst e
  -- what stays true of the iterator's objects through the loop
  have stat : ∀ {H' : Hp}, (∀ b ∈ fp, H' b = none) → ∀ b ∈ fp, FpOk X pins H' b := fun hn b hb => ⟨hn b hb, (f2 b hb).2⟩
  refine codeAny_forLoop_any (fun n s' => ∃ i σ' H', Inv X pins σ' H' s' ∧ tn i s'.heap ∧ (∀ b ∈ fp, H' b = none) ∧ W i n σ' H') ?_ m0 ⟨0, σ, H2, I2, st2, fun b hb => (f2 b hb).1, w0⟩
  rintro n s3 ⟨i, σ3, H3, I3, st3, fr3, w3⟩
  rcases turn i n σ3 H3 w3 with ⟨stop, qn⟩ | ⟨go, N, hN, step⟩
  · refine wpAny_passesOwn hp (thn (T.done X rfl rfl rfl hc i pins s3 σ3 H3 X.xe I3 (stat fr3) st3 stop) fun r s4 ⟨hr, I4⟩ => ?_)
    subst hr
    exact wpAny_execs_nil ⟨σ3, H3, I4, qn⟩
  · refine wpAny_passesOwn hp (thn (T.item X rfl rfl rfl hc i pins s3 σ3 H3 X.xe I3 (stat fr3) st3 go) fun r s4 ⟨u, hr, h4⟩ => ?_)
    subst hr
    refine wpAny_passesOwn hp (thn h4 fun _ s5 ⟨x, H5, I5, r5, y5, st5, fr5⟩ => ?_)
    have I5' := I5.pinned (stat fr5) (T.obj _ _ st5)
    refine wpAny_passesOwn hp (thn (hg _ s5 σ3 H5 x u _ I5' r5 (step x H5 y5)) fun _ s6 ⟨σ6, H6, I6, q6⟩ => ?_)
    refine wpAny_passesOwn hp (thn (hb _ s6 σ6 H6 _ I6 q6) fun f s7 q7 => ?_)
    have again : ∀ {σ7 : St} {H7 : Hp}, Inv X (pins ++ pinsAt fp s5.heap) σ7 H7 s7 → N σ7 H7 → ∃ m, m < n ∧ ∃ i σ' H', Inv X pins σ' H' s7 ∧ tn i s7.heap ∧ (∀ b ∈ fp, H' b = none) ∧ W i m σ' H' := fun {σ7 H7} I7 n7 => by
      obtain ⟨m', hm, w7⟩ := hN σ7 H7 n7
      refine ⟨m', hm, i + 1, σ7, H7, I7.unpinned, T.keep _ _ _ st5 fun b hb o e => (I7.pin (b, o) (List.mem_append_right _ (List.mem_append_right _ (mem_pinsAt hb e)))).1, fun b hb => ?_, w7⟩
      obtain ⟨o, e, d⟩ := T.obj _ _ st5 b hb
      exact (I7.pin (b, o) (List.mem_append_right _ (List.mem_append_right _ (mem_pinsAt hb e)))).2.1
    cases f with
    | next => obtain ⟨σ7, H7, I7, n7⟩ := q7; exact again I7 n7
    | cont => obtain ⟨σ7, H7, I7, n7⟩ := q7; exact again I7 n7
    | brk => obtain ⟨σ7, H7, I7, q7⟩ := q7; exact ⟨σ7, H7, I7.unpinned, q7⟩
    | ret v => obtain ⟨x7, σ7, H7, I7, r7, q7⟩ := q7; exact ⟨x7, σ7, H7, I7.unpinned, r7, q7⟩
end

/-! ### the forms one uses -/
/-- over a list that the body leaves as it is -/
theorem for_list {K : PySem.W.Frag} {a : Addr} {xs : List V} {g : TG} {tb : TS} {D : Ends} {σ : St} {H : Hp} (Pv : Nat → St → Hp → Prop) (h0 : Pv 0 σ H) (hl : ∀ i σ H, i ≤ xs.length → Pv i σ H → SqL K H a xs)
    (hs : ∀ i x σ H, xs[i]? = some x → Pv i σ H → g x σ H fun σ2 H2 => tb { D with nx := Pv (i + 1), ct := Pv (i + 1), bk := D.nx } σ2 H2) (hd : ∀ σ H, Pv xs.length σ H → D.nx σ H) :
    ∃ W : Nat → Nat → St → Hp → Prop, (∃ m, W 0 m σ H) ∧ ∀ i m σ H, W i m σ H →
      ((Itl K a).stop i H ∧ D.nx σ H) ∨ ((Itl K a).go i H ∧ ∃ N : St → Hp → Prop, (∀ σ' H', N σ' H' → ∃ m', m' < m ∧ W (i + 1) m' σ' H') ∧ ∀ x H', (Itl K a).yld i H x H' → g x σ H' fun σ2 H2 => tb { D with nx := N, ct := N, bk := D.nx } σ2 H2) := by
  refine ⟨fun i m σ H => m = xs.length - i ∧ i ≤ xs.length ∧ Pv i σ H, ⟨xs.length, by simp, Nat.zero_le _, h0⟩, ?_⟩
  rintro i m σ H ⟨rfl, hi, p⟩
  have q := hl i σ H hi p
  by_cases hlt : i < xs.length
  · refine .inr ⟨⟨xs, xs[i], q, by simp [hlt]⟩, Pv (i + 1), fun σ' H' p' => ⟨xs.length - (i + 1), by omega, rfl, hlt, p'⟩, fun x H' y => ?_⟩
    obtain ⟨e, y⟩ := y
    subst e
    exact hs i x σ _ (y xs q) p
  · have e : i = xs.length := by omega
    subst e
    exact .inl ⟨⟨xs, q, Nat.le_refl _⟩, hd σ H p⟩
theorem for_range {lo : Int} {n : Nat} {g : TG} {tb : TS} {D : Ends} {σ : St} {H : Hp} (Pv : Nat → St → Hp → Prop) (h0 : Pv 0 σ H)
    (hs : ∀ i σ H, i < n → Pv i σ H → g (.int (lo + i)) σ H fun σ2 H2 => tb { D with nx := Pv (i + 1), ct := Pv (i + 1), bk := D.nx } σ2 H2) (hd : ∀ σ H, Pv n σ H → D.nx σ H) :
    ∃ W : Nat → Nat → St → Hp → Prop, (∃ m, W 0 m σ H) ∧ ∀ i m σ H, W i m σ H →
      ((Itr lo n).stop i H ∧ D.nx σ H) ∨ ((Itr lo n).go i H ∧ ∃ N : St → Hp → Prop, (∀ σ' H', N σ' H' → ∃ m', m' < m ∧ W (i + 1) m' σ' H') ∧ ∀ x H', (Itr lo n).yld i H x H' → g x σ H' fun σ2 H2 => tb { D with nx := N, ct := N, bk := D.nx } σ2 H2) := by
  refine ⟨fun i m σ H => m = n - i ∧ i ≤ n ∧ Pv i σ H, ⟨n, by simp, Nat.zero_le _, h0⟩, ?_⟩
  rintro i m σ H ⟨rfl, hi, p⟩
  by_cases hlt : i < n
  · refine .inr ⟨hlt, Pv (i + 1), fun σ' H' p' => ⟨n - (i + 1), by omega, rfl, hlt, p'⟩, fun x H' y => ?_⟩
    obtain ⟨e, y⟩ := y
    subst e y
    exact hs i σ _ hlt p
  · have e : i = n := by omega
    subst e
    exact .inl ⟨Nat.le_refl _, hd σ H p⟩
/-- while, by a word and a measure of the state -/
theorem while_by {c : TT} {tb : TS} {D : Ends} {σ : St} {H : Hp} (Pv : St → Hp → Prop) (μ : St → Hp → Nat) (h0 : Pv σ H)
    (hs : ∀ σ H, Pv σ H → c σ H fun b H1 => if b = true then tb { D with nx := fun σ' H' => Pv σ' H' ∧ μ σ' H' < μ σ H, ct := fun σ' H' => Pv σ' H' ∧ μ σ' H' < μ σ H, bk := D.nx } σ H1 else D.nx σ H1)
    (mono : ∀ σ H Q Q', (∀ b H1, Q b H1 → Q' b H1) → c σ H Q → c σ H Q') : tWhile c tb D σ H := by
  refine ⟨fun m σ H => m = μ σ H ∧ Pv σ H, ⟨_, rfl, h0⟩, ?_⟩
  rintro m σ H ⟨rfl, p⟩
  refine mono σ H _ _ (fun b H1 q => ?_) (hs σ H p)
  cases b with
  | true => exact ⟨_, fun σ' H' ⟨p', l⟩ => ⟨_, l, rfl, p'⟩, q⟩
  | false => exact q
end L2

namespace L2
open PySem PySem.Spec PyProof.Rows

abbrev R2 := V → V → Hp → VK → Prop
/-- a two-place operation on values: f is binaryOp op, inplaceOp op or compareOp op -/
def OpR (X : Cx) (f : Value → Value → Sem Value) (r : R2) : Prop :=
  ∀ (pins : List (Addr × Obj)) (s : Shared) (σ : St) (H : Hp) (x y : V) (v u : Value) (Q : VK), Inv X pins σ H s → RelV x v → RelV y u → r x y H Q →
    wpAny (model X.prog X.w) X.A (f v u) (EP X pins σ Q) X.xe s
/-- a one-place operation -/
def UnR (X : Cx) (f : Value → Sem Value) (r : V → Hp → VK → Prop) : Prop :=
  ∀ (pins : List (Addr × Obj)) (s : Shared) (σ : St) (H : Hp) (x : V) (v : Value) (Q : VK), Inv X pins σ H s → RelV x v → r x H Q →
    wpAny (model X.prog X.w) X.A (f v) (EP X pins σ Q) X.xe s
/-- a call of a value that is known (a builtin, a type) with values -/
def CallR (X : Cx) (f : Value) (r : List V → Hp → VK → Prop) : Prop :=
  ∀ (pins : List (Addr × Obj)) (s : Shared) (σ : St) (H : Hp) (xs : List V) (us : List Value) (Q : VK), Inv X pins σ H s → Vals xs us → r xs H Q →
    wpAny (model X.prog X.w) X.A (call f us) (EP X pins σ Q) X.xe s
/-- a value's truth -/
def TruR (X : Cx) (r : V → Hp → (Bool → Hp → Prop) → Prop) : Prop :=
  ∀ (pins : List (Addr × Obj)) (s : Shared) (σ : St) (H : Hp) (x : V) (v : Value) (Q : Bool → Hp → Prop), Inv X pins σ H s → RelV x v → r x H Q →
    wpAny (model X.prog X.w) X.A (truthy v) (TP X pins σ Q) X.xe s

def tOp (r : R2) (ta tb : TE) : TE := fun σ H Q => ta σ H fun x H1 => tb σ H1 fun y H2 => r x y H2 Q
def tUn (r : V → Hp → VK → Prop) (ta : TE) : TE := fun σ H Q => ta σ H fun x H1 => r x H1 Q
/-- ints in, under C, and a value out -/
def rI (C : Int → Int → Prop) (g : Int → Int → V) : R2 := fun x y H Q => ∃ i j, x = .int i ∧ y = .int j ∧ C i j ∧ Q (g i j) H
def rI0 (g : Int → Int → V) : R2 := fun x y H Q => ∃ i j, x = .int i ∧ y = .int j ∧ Q (g i j) H
def rU (g : Int → V) : V → Hp → VK → Prop := fun x H Q => ∃ i, x = .int i ∧ Q (g i) H

section
variable {X : Cx} {a b c : Expr} {ta tb tc : TE} {pos : Pos}

theorem binT (ha : PE X a ta) (hb : PE X b tb) {pins : List (Addr × Obj)} {s : Shared} {σ : St} {H : Hp} {R : V → V → Hp → Prop} (I : Inv X pins σ H s)
    (h : ta σ H fun x H1 => tb σ H1 fun y H2 => R x y H2) {Q : Value → Shared → Prop} {f : Value → Value → Sem Value}
    (hf : ∀ v u s2 x y H2, Inv X pins σ H2 s2 → RelV x v → RelV y u → R x y H2 → wpAny (model X.prog X.w) X.A (f v u) Q X.xe s2) :
    wpAny (model X.prog X.w) X.A (eval a X.env) (fun v s₁ => wpAny (model X.prog X.w) X.A (eval b X.env) (fun u s₂ => wpAny (model X.prog X.w) X.A (f v u) Q X.xe s₂) X.xe s₁) X.xe s := by
  refine thn (ha pins s σ H _ I h) fun v s1 ⟨x, H1, I1, r1, q1⟩ => ?_
  refine thn (hb pins s1 σ H1 _ I1 q1) fun u s2 ⟨y, H2, I2, r2, q2⟩ => ?_
  exact hf v u s2 x y H2 I2 r1 r2 q2

theorem pe_op {op : Operator} {r : R2} (ho : OpR X (binaryOp op) r) (ha : PE X a ta) (hb : PE X b tb) : PE X (.BinOp a op b pos) (tOp r ta tb) := by
  intro pins s σ H Q I h
  exact wpAny_BinOp (binT ha hb I h fun v u s2 x y H2 I2 rx ry q => ho pins s2 σ H2 x y v u Q I2 rx ry q)
theorem pe_un {op : UnaryOp} {r : V → Hp → VK → Prop} (ho : UnR X (unaryOp op) r) (ha : PE X a ta) : PE X (.UnaryOp op a pos) (tUn r ta) := by
  intro pins s σ H Q I h
  exact UnaryOp_ (thn (ha pins s σ H _ I h) fun v s1 ⟨x, H1, I1, r1, q1⟩ => ho pins s1 σ H1 x v Q I1 r1 q1)
/-! ### ints -/
theorem opI {f : Value → Value → Sem Value} {C : Int → Int → Prop} {g : Int → Int → Int}
    (rule : ∀ (i j : Int) (t u : Tok) (s : Shared) (Q : Value → Shared → Prop) (E : Value → Shared → Prop), C i j → Q (.int (g i j) s.toks) { s with toks := s.toks + 1 } → wpAny (model X.prog X.w) X.A (f (.int i t) (.int j u)) Q E s) :
    OpR X f (rI C fun i j => .int (g i j)) := by
  intro pins s σ H x y v u Q I rx ry h
  obtain ⟨i, j, rfl, rfl, hc, q⟩ := h
  obtain ⟨t, rfl⟩ := rx
  obtain ⟨t', rfl⟩ := ry
  exact rule i j t t' s _ _ hc ⟨.int (g i j), H, I.tok _, ⟨_, rfl⟩, q⟩
theorem opI0 {f : Value → Value → Sem Value} {g : Int → Int → Int}
    (rule : ∀ (i j : Int) (t u : Tok) (s : Shared) (Q : Value → Shared → Prop) (E : Value → Shared → Prop), Q (.int (g i j) s.toks) { s with toks := s.toks + 1 } → wpAny (model X.prog X.w) X.A (f (.int i t) (.int j u)) Q E s) :
    OpR X f (rI0 fun i j => .int (g i j)) := by
  intro pins s σ H x y v u Q I rx ry h
  obtain ⟨i, j, rfl, rfl, q⟩ := h
  obtain ⟨t, rfl⟩ := rx
  obtain ⟨t', rfl⟩ := ry
  exact rule i j t t' s _ _ ⟨.int (g i j), H, I.tok _, ⟨_, rfl⟩, q⟩
theorem opB0 {f : Value → Value → Sem Value} {g : Int → Int → Bool}
    (rule : ∀ (i j : Int) (t u : Tok) (s : Shared) (Q : Value → Shared → Prop) (E : Value → Shared → Prop), Q (.bool (g i j)) s → wpAny (model X.prog X.w) X.A (f (.int i t) (.int j u)) Q E s) :
    OpR X f (rI0 fun i j => .bl (g i j)) := by
  intro pins s σ H x y v u Q I rx ry h
  obtain ⟨i, j, rfl, rfl, q⟩ := h
  obtain ⟨t, rfl⟩ := rx
  obtain ⟨t', rfl⟩ := ry
  exact rule i j t t' s _ _ ⟨.bl (g i j), H, I, rfl, q⟩

def CDiv (i j : Int) : Prop := 0 < j ∧ j < 1073741824
def CDivN (i j : Int) : Prop := j ≠ 0 ∧ j.natAbs < 1073741824
def CPow (i j : Int) : Prop := 0 ≤ j ∧ j ≤ 1000000 ∧ i.natAbs < 2 ^ 64
def CMul (i j : Int) : Prop := (-(2 ^ 64) < i ∧ i < 2 ^ 64) ∨ (-(2 ^ 64) < j ∧ j < 2 ^ 64)
theorem op_add : OpR X (binaryOp .Add) (rI0 fun i j => .int (i + j)) := opI0 fun _ _ _ _ _ _ _ q => add_int q
theorem op_sub : OpR X (binaryOp .Sub) (rI0 fun i j => .int (i - j)) := opI0 fun _ _ _ _ _ _ _ q => sub_int q
/-- % by a positive divisor of any size -/
theorem op_mod : OpR X (binaryOp .Mod) (rI (fun _ j => 0 < j) fun i j => .int (i % j)) := opI fun i j _ _ _ _ _ hc q => by
  have h1 : (0 : Int) < j := hc
  exact mod_int' (by omega) (by rw [Int.fmod_eq_emod_of_nonneg i (by omega)]; exact q)
theorem op_pow : OpR X (binaryOp .Pow) (rI CPow fun i j => .int (i ^ j.toNat)) := opI fun _ _ _ _ _ _ _ hc q => pow_int_small hc.1 hc.2.1 hc.2.2 q
theorem unI {f : Value → Sem Value} {g : Int → Int}
    (rule : ∀ (i : Int) (t : Tok) (s : Shared) (Q : Value → Shared → Prop) (E : Value → Shared → Prop), Q (.int (g i) s.toks) { s with toks := s.toks + 1 } → wpAny (model X.prog X.w) X.A (f (.int i t)) Q E s) :
    UnR X f (rU fun i => .int (g i)) := by
  intro pins s σ H x v Q I rx h
  obtain ⟨i, rfl, q⟩ := h
  obtain ⟨t, rfl⟩ := rx
  exact rule i t s _ _ ⟨.int (g i), H, I.tok _, ⟨_, rfl⟩, q⟩
theorem un_neg : UnR X (unaryOp .USub) (rU fun i => .int (-i)) := unI fun _ _ _ _ _ q => neg_int q
/-! ### bools among ints: n += (a < b) -/
end

/-! ### comparisons -/
/-- the scalars that == tells apart as data does -/
def scal : V → V → Bool
  | .non, .non => true | .non, .int _ => true | .int _, .non => true | .non, .bl _ => true | .bl _, .non => true | .non, .str _ => true | .str _, .non => true
  | .int _, .int _ => true | .bl _, .bl _ => true | .str _, .str _ => true | .byt _, .byt _ => true
  | .int _, .str _ => true | .str _, .int _ => true | .bl _, .str _ => true | .str _, .bl _ => true
  | _, _ => false
def rEq : R2 := fun x y H Q => scal x y = true ∧ Q (.bl (decide (x = y))) H
def rNe : R2 := fun x y H Q => scal x y = true ∧ Q (.bl (!decide (x = y))) H

theorem dec_int {i j : Int} : decide (V.int i = V.int j) = (i == j) := by
  rw [Bool.eq_iff_iff]
  simp
theorem dec_bl {i j : Bool} : decide (V.bl i = V.bl j) = (i == j) := by
  rw [Bool.eq_iff_iff]
  simp
theorem dec_str {i j : Str} : decide (V.str i = V.str j) = (i == j) := by
  rw [Bool.eq_iff_iff]
  simp
theorem dec_byt {i j : Array UInt8} : decide (V.byt i = V.byt j) = (i.toList == j.toList) := by
  rw [Bool.eq_iff_iff]
  cases i
  cases j
  simp

section
variable {X : Cx} {a b c : Expr} {ta tb tc : TE} {pos : Pos}
theorem fin_bl {pins : List (Addr × Obj)} {σ : St} {H : Hp} {s : Shared} {Q : VK} {k k' : Bool} (I : Inv X pins σ H s) (q : Q (.bl k) H) (e : k = k') : EP X pins σ Q (.bool k') s := by
  subst e
  exact ⟨.bl k, H, I, rfl, q⟩
theorem op_eq : OpR X (compareOp .Eq) rEq := by
  intro pins s σ H x y v u Q I rx ry h
  obtain ⟨hs, q⟩ := h
  cases x with
  | non =>
    cases rx
    cases y with
    | non => cases ry; exact PySem.EqNone.eq_none_none (fin_bl I q (by simp))
    | bl j => cases ry; exact PySem.EqNone.eq_none_bool (fin_bl I q (by simp))
    | int j => obtain ⟨t', rfl⟩ := ry; exact PySem.EqNone.eq_none_int (fin_bl I q (by simp))
    | str j => obtain ⟨t', rfl⟩ := ry; exact PySem.EqNone.eq_none_str (fin_bl I q (by simp))
    | _ => exact absurd (show false = true from hs) Bool.false_ne_true
  | bl i =>
    cases rx
    cases y with
    | non => cases ry; exact PySem.EqNone.eq_bool_none (fin_bl I q (by simp))
    | bl j => cases ry; exact eq_bool (fin_bl I q dec_bl)
    | str j => obtain ⟨t', rfl⟩ := ry; exact PySem.EqMixed.eq_bool_str (fin_bl I q (by simp))
    | _ => exact absurd (show false = true from hs) Bool.false_ne_true
  | int i =>
    obtain ⟨t, rfl⟩ := rx
    cases y with
    | non => cases ry; exact PySem.EqNone.eq_int_none (fin_bl I q (by simp))
    | int j => obtain ⟨t', rfl⟩ := ry; exact eq_int (fin_bl I q dec_int)
    | str j => obtain ⟨t', rfl⟩ := ry; exact PySem.EqMixed.eq_int_str (fin_bl I q (by simp))
    | _ => exact absurd (show false = true from hs) Bool.false_ne_true
  | str i =>
    obtain ⟨t, rfl⟩ := rx
    cases y with
    | non => cases ry; exact PySem.EqNone.eq_str_none (fin_bl I q (by simp))
    | bl j => cases ry; exact PySem.EqMixed.eq_str_bool (fin_bl I q (by simp))
    | int j => obtain ⟨t', rfl⟩ := ry; exact PySem.EqMixed.eq_str_int (fin_bl I q (by simp))
    | str j => obtain ⟨t', rfl⟩ := ry; exact eq_str (fin_bl I q dec_str)
    | _ => exact absurd (show false = true from hs) Bool.false_ne_true
  | byt i =>
    obtain ⟨t, rfl⟩ := rx
    cases y with
    | byt j => obtain ⟨t', rfl⟩ := ry; exact PySem.W.eq_bytes (fin_bl I q dec_byt)
    | _ => exact absurd (show false = true from hs) Bool.false_ne_true
  | _ => cases y <;> exact absurd (show false = true from hs) Bool.false_ne_true
theorem op_ne : OpR X (compareOp .NotEq) rNe := by
  intro pins s σ H x y v u Q I rx ry h
  obtain ⟨hs, q⟩ := h
  cases x with
  | non =>
    cases rx
    cases y with
    | non => cases ry; exact PySem.EqNone.ne_none_none (fin_bl I q (by simp))
    | bl j => cases ry; exact PySem.EqNone.ne_none_bool (fin_bl I q (by simp))
    | int j => obtain ⟨t', rfl⟩ := ry; exact PySem.EqNone.ne_none_int (fin_bl I q (by simp))
    | str j => obtain ⟨t', rfl⟩ := ry; exact PySem.EqNone.ne_none_str (fin_bl I q (by simp))
    | _ => exact absurd (show false = true from hs) Bool.false_ne_true
  | bl i =>
    cases rx
    cases y with
    | non => cases ry; exact PySem.EqNone.ne_bool_none (fin_bl I q (by simp))
    | bl j => cases ry; exact ne_bool (fin_bl I q (congrArg not dec_bl))
    | str j => obtain ⟨t', rfl⟩ := ry; exact PySem.EqMixed.ne_bool_str (fin_bl I q (by simp))
    | _ => exact absurd (show false = true from hs) Bool.false_ne_true
  | int i =>
    obtain ⟨t, rfl⟩ := rx
    cases y with
    | non => cases ry; exact PySem.EqNone.ne_int_none (fin_bl I q (by simp))
    | int j => obtain ⟨t', rfl⟩ := ry; exact ne_int (fin_bl I q (congrArg not dec_int))
    | str j => obtain ⟨t', rfl⟩ := ry; exact PySem.EqMixed.ne_int_str (fin_bl I q (by simp))
    | _ => exact absurd (show false = true from hs) Bool.false_ne_true
  | str i =>
    obtain ⟨t, rfl⟩ := rx
    cases y with
    | non => cases ry; exact PySem.EqNone.ne_str_none (fin_bl I q (by simp))
    | bl j => cases ry; exact PySem.EqMixed.ne_str_bool (fin_bl I q (by simp))
    | int j => obtain ⟨t', rfl⟩ := ry; exact PySem.EqMixed.ne_str_int (fin_bl I q (by simp))
    | str j => obtain ⟨t', rfl⟩ := ry; exact ne_str (fin_bl I q (congrArg not dec_str))
    | _ => exact absurd (show false = true from hs) Bool.false_ne_true
  | byt i =>
    obtain ⟨t, rfl⟩ := rx
    cases y with
    | byt j => obtain ⟨t', rfl⟩ := ry; exact PySem.W.ne_bytes (fin_bl I q (congrArg not dec_byt))
    | _ => exact absurd (show false = true from hs) Bool.false_ne_true
  | _ => cases y <;> exact absurd (show false = true from hs) Bool.false_ne_true

theorem op_lt : OpR X (compareOp .Lt) (rI0 fun i j => .bl (decide (i < j))) := opB0 fun _ _ _ _ _ _ _ q => lt_int q
theorem op_le : OpR X (compareOp .LtE) (rI0 fun i j => .bl (decide (i ≤ j))) := opB0 fun _ _ _ _ _ _ _ q => le_int q
theorem op_gt : OpR X (compareOp .Gt) (rI0 fun i j => .bl (decide (j < i))) := opB0 fun _ _ _ _ _ _ _ q => gt_int q
/-- is None, is not None: the right side a value none -/
theorem op_isN : OpR X (compareOp .Is) (fun x y H Q => y = .non ∧ Q (.bl (decide (x = .non))) H) := by
  intro pins s σ H x y v u Q I rx ry h
  obtain ⟨rfl, q⟩ := h
  cases ry
  refine is_none_gen (fin_bl I q ?_)
  cases x <;> first
    | (cases rx; rfl)
    | (obtain ⟨t, rfl⟩ := rx; rfl)
/-- is, is not of two objects that are tracked lists or instances -/
def isObj : HO → Bool
  | .lst _ => true
  | .ins _ _ _ => true
  | _ => false
theorem nomark (b : Expr) {op : CmpOp} (h : op ≠ .In := by decide) (h2 : op ≠ .NotIn := by decide) : behindInMarks op b = false := by
  have e1 : (op == CmpOp.In) = false := by cases op <;> first | rfl | exact absurd rfl h
  have e2 : (op == CmpOp.NotIn) = false := by cases op <;> first | rfl | exact absurd rfl h2
  cases b <;> simp [behindInMarks, e1, e2]
/-- a comparison as a value; hm: nomark b, or (for in, not in) by with_unfolding_all rfl -/
theorem pe_cmpR {op : CmpOp} {r : R2} (ho : OpR X (compareOp op) r) (ha : PE X a ta) (hb : PE X b tb) (hm : behindInMarks op b = false) : PE X (.Compare a [op] [b] pos) (tOp r ta tb) := by
  intro pins s σ H Q I h
  exact wpAny_Compare1 (binT ha hb I h fun v u s2 x y H2 I2 rx ry q => ho pins s2 σ H2 x y v u Q I2 rx ry q) hm
/-- a reading of a value as a test -/
def tTest (t : TE) : TT := fun σ H Q => t σ H fun x H' => ∃ k, x = .bl k ∧ Q k H'
theorem pt_cmpR {op : CmpOp} {r : R2} (ho : OpR X (compareOp op) r) (ha : PE X a ta) (hb : PE X b tb) (hm : behindInMarks op b = false) : PT X (.Compare a [op] [b] pos) (tTest (tOp r ta tb)) := by
  intro pins s σ H Q I h
  refine wpAny_isTrue_Compare1 (thn (ha pins s σ H _ I h) fun v s1 ⟨x, H1, I1, r1, q1⟩ => thn (hb pins s1 σ H1 _ I1 q1) fun u s2 ⟨y, H2, I2, r2, q2⟩ =>
    thn (ho pins s2 σ H2 x y v u _ I2 r1 r2 q2) fun c s3 ⟨z, H3, I3, r3, k, e, q3⟩ => ?_) hm
  subst e
  cases r3
  exact wpAny_truthy_bool ⟨H3, I3, q3⟩
/-- a op1 b op2 c -/
def tChain (r r' : R2) (ta tb tc : TE) : TE := fun σ H Q => ta σ H fun x H1 => tb σ H1 fun y H2 => r x y H2 fun z H3 => ∃ k, z = .bl k ∧
  (if k = true then tc σ H3 fun w' H4 => r' y w' H4 Q else Q (.bl false) H3)
/-! ### truth -/
/-- a value's truth by the abstract heap -/
def TruV (K : PySem.W.Frag) (x : V) (H : Hp) (k : Bool) : Prop :=
  match x with
  | .non => k = false
  | .bl b => k = b
  | .int i => k = (i != 0)
  | .str y => y.length ≤ sizeLine ∧ k = ((y.length : Int) != 0)
  | .byt y => y.size ≤ sizeLine ∧ k = ((y.size : Int) != 0)
  | .ref p => (∃ xs, SqL K H p xs ∧ k = !xs.isEmpty) ∨ (∃ xs, SqT K H p xs ∧ k = !xs.isEmpty) ∨ ∃ kvs, H p = some (.dK kvs) ∧ k = !kvs.isEmpty
  | _ => False
theorem line63 : (sizeLine : Nat) < 2 ^ 63 := by rw [sizeLine_eq]; decide
/-! ### strs and bytes -/
theorem op_add_str : OpR X (binaryOp .Add) (fun x y H Q => ∃ i j, x = .str i ∧ y = .str j ∧ i.length + j.length ≤ sizeLine ∧ Q (.str (i ++ j)) H) := by
  intro pins s σ H x y v u Q I rx ry h
  obtain ⟨i, j, rfl, rfl, hz, q⟩ := h
  obtain ⟨t, rfl⟩ := rx
  obtain ⟨t', rfl⟩ := ry
  exact add_str (fun t' tk => ⟨.str (i ++ j), H, I.tok _, ⟨_, rfl⟩, q⟩) hz
def PlainIxT (b : Expr) : Prop := ∀ o i, subscripted b false o i = operate [o, i] (getItem o i)
/-! ### scalar builtins, by CallR -/
theorem vals1 {x : V} {us : List Value} (r : Vals [x] us) : ∃ u, us = [u] ∧ RelV x u := by
  cases r with
  | cons r1 r2 => cases r2; exact ⟨_, rfl, r1⟩
theorem vals2 {x y : V} {us : List Value} (r : Vals [x, y] us) : ∃ u w', us = [u, w'] ∧ RelV x u ∧ RelV y w' := by
  cases r with
  | cons r1 r2 =>
    cases r2 with
    | cons r3 r4 => cases r4; exact ⟨_, _, rfl, r1, r3⟩
theorem call_abs : CallR X (.builtin "abs") (fun xs H Q => ∃ i, xs = [.int i] ∧ Q (.int (if i < 0 then -i else i)) H) := by
  intro pins s σ H xs us Q I r h
  obtain ⟨i, rfl, q⟩ := h
  obtain ⟨u, rfl, t, rfl⟩ := vals1 r
  exact call_abs_int fun u tk => ⟨.int (if i < 0 then -i else i), H, I.tok _, ⟨_, rfl⟩, q⟩
theorem call_max2 (hc : X.calm = true) : CallR X (.builtin "max") (fun xs H Q => ∃ i j, xs = [.int i, .int j] ∧ Q (.int (if j > i then j else i)) H) := by
  intro pins s σ H xs us Q I r h
  obtain ⟨i, j, rfl, q⟩ := h
  obtain ⟨u, w', rfl, ⟨t, rfl⟩, ⟨t', rfl⟩⟩ := vals2 r
  refine max_two_ints (I.ok.hd hc) fun h' tk k => ⟨_, H, I.kept k, ?_, q⟩
  by_cases hj : j > i
  · rw [if_pos hj, if_pos hj]; exact ⟨_, rfl⟩
  · rw [if_neg hj, if_neg hj]; exact ⟨_, rfl⟩
/-- len of a str, a bytes, a list, a tuple -/
def LenV (K : PySem.W.Frag) (x : V) (H : Hp) (n : Nat) : Prop :=
  match x with
  | .str y => y.length ≤ sizeLine ∧ n = y.length
  | .byt y => y.size ≤ sizeLine ∧ n = y.size
  | .ref p => (∃ xs, SqL K H p xs ∧ n = xs.length) ∨ ∃ xs, SqT K H p xs ∧ n = xs.length
  | _ => False
end
end L2

namespace L2
open PySem PySem.Spec PyProof.Rows

/-! ### an instance, its attributes a map -/
structure ObjM (h : Heap) (x dx C : Addr) (mA : Str → Option Value) : Prop where
  obj : h.get? x = some (PySem.W.instObj C dx)
  ns : h.Ns1 dx mA
  ne : dx ≠ x

theorem lookIn_ns {h : Heap} {dx : Addr} {mA : Str → Option Value} (n : h.Ns1 dx mA) : ∃ od, h.get? dx = some od ∧ ∀ name, PySem.W.lookIn name od = some (mA name) := by
  obtain ⟨o, es, ep, ho, hd, hk, _, hm⟩ := n
  refine ⟨o, ho, fun name => ?_⟩
  have e := hm name
  unfold nsFind findBy at e
  rw [← Array.find?_toList] at e
  unfold PySem.W.lookIn
  rw [hd]
  dsimp only
  split
  · rename_i y q
    rw [q] at e
    exact congrArg some e
  · rename_i q
    rw [q] at e
    have a : es.toList.any (·.refKey) = false := by
      rw [List.any_eq_false]
      intro y hy
      obtain ⟨z, t, hkey⟩ := hk y (Array.mem_toList_iff.mp hy)
      simp [DictEntry.refKey, hkey]
    have a' : ¬ es.toList.any (·.refKey) = true := by rw [a]; exact Bool.false_ne_true
    rw [if_neg a']
    exact congrArg some e

theorem ObjM.look {h : Heap} {x dx C : Addr} {mA : Str → Option Value} (I : ObjM h x dx C mA) : ∃ od, PySem.W.InstAt h x (PySem.W.instObj C dx) C (some od) ∧ ∀ name, PySem.W.lookIn name od = some (mA name) :=
  let ⟨od, ho, hl⟩ := lookIn_ns I.ns
  ⟨od, ⟨I.obj, rfl, rfl, ho⟩, hl⟩

section
variable {prog : Program} {w : World} {A : Around} {E : Value → Shared → Prop} {s : Shared} {K : PySem.W.Frag} {x dx C f : Addr} {mA : Str → Option Value} {name : Str} {v : Value}

theorem get_map {expr : Bool} {Q : Value → Shared → Prop} (X : K.In s.heap) (I : ObjM s.heap x dx C mA) (hg : PySem.W.plainGet K C name = true) (hh : PySem.W.hasDictIn K C = true)
    (ha : PySem.W.findIn K (.ref C) name = some none) (hv : mA name = some v) (hv' : PySem.W.handedIn v = true) (h : Q v { s with toks := s.toks + 1 }) :
    wpAny (model prog w) A (getAttr (.ref x) name expr) Q E s := by
  obtain ⟨od, J, hl⟩ := I.look
  exact PySem.W.get_value X J (PySem.W.plainGet_of hg).1 (PySem.W.findObj_own hh ha rfl (by rw [hl, hv])) hv' h

theorem get_meth {pl : Sem Bool} {Q : Value × List Value → Shared → Prop} (X : K.In s.heap) (I : ObjM s.heap x dx C mA) (hg : PySem.W.plainGet K C name = true)
    (hf : PySem.W.findIn K (.ref C) name = some (some (.ref f))) (ht : PySem.W.isFn K (.ref f) = true) (hv : mA name = none) (h : Q (.ref f, [.ref x]) s) :
    wpAny (model prog w) A (getMethod (.ref x) name pl) Q E s := by
  obtain ⟨od, J, hl⟩ := I.look
  exact PySem.W.method_fn X J (PySem.W.plainGet_of hg).1 (PySem.W.plainGet_of hg).2 hf (beq_iff_eq.mp ht) (by show (PySem.W.lookIn name od).map (·.isSome) = some false; rw [hl, hv]; rfl) h

theorem set_map {ns : List Str} {Q : Unit → Shared → Prop} (X : K.In s.heap) (I : ObjM s.heap x dx C mA)
    (hs : PySem.W.findIn K (.ref C) "__setattr__" = some (some (.builtin "object.__setattr__"))) (hp : PySem.W.plainOver K C = true) (ht : PySem.W.takerIn K C name = some none) (hh : PySem.W.hasDictIn K C = true)
    (hw : PySem.Within mA ns) (hsz : ns.length ≤ sizeLine)
    (h : ∀ h', ObjM h' x dx C (fun y => if y = name then some v else mA y) → Heap.SameBut dx s.heap h' → Q () { s with heap := h', toks := s.toks + 2 }) :
    wpAny (model prog w) A (setAttr (.ref x) name v) Q E s := by
  obtain ⟨od, J, hl⟩ := I.look
  refine PySem.W.set_plain X J hs (PySem.W.osa_open (s := { s with toks := s.toks + 1 }) (r := none) X J hp ht fun b => ?_)
  obtain ⟨cd, hc, hd'⟩ := PySem.W.any_some hh
  have hx : s.heap.get? x = some ⟨.ref C, some dx, .plain, #[]⟩ := I.obj
  refine wpAny_bind (wpAny_pure (wpAny_bind (wpAny_bind (wpAny_loadPart hx (wpAny_bind (PySem.W.Looks.here (s := { s with toks := s.toks + 1 }) (PySem.W.looks_clsIn X hc) ?_))))))
  rw [hd']
  refine wpAny_pure (a := some dx) (wpAny_bind (wpAny_pure (wpAny_bind ?_)))
  refine wpAny_nsSet1 (s := { s with toks := s.toks + 1 }) I.ns fun h' hn2 hs2 => ?_
  obtain ⟨oD, esD, epD, hoD, hdD, hcD⟩ := hn2.count (PySem.Within.cons name v hw)
  refine wpAny_bind (wpAny_lookBehind hoD (by rw [hdD]; exact pastItsLine_dict (Nat.le_trans hcD (by rw [List.length_cons]; omega))) ?_)
  exact wpAny_pure (h _ ⟨(hs2.2 _ (Ne.symm I.ne)).trans I.obj, hn2, I.ne⟩ hs2)

/-- C(..): the dict at the heap's end, the instance behind it; then its __init__ -/
theorem make_map {R : Result → Shared → Prop} {vs : List Value} {kw : List (Str × Value)} (X : K.In s.heap) (hm : PySem.W.makesIn K C = true)
    (hi : PySem.W.findIn K (.ref C) "__init__" = some (some (.ref f))) (hf : PySem.W.typeIn K (.ref f) = some (.type "function"))
    (h : codeAny (model prog w) (A.under (.builtin "type.__call__" ⟨.ref C :: vs, kw⟩)) (.call (.ref f) ⟨.ref (s.heap.objs.size + 1) :: vs, kw⟩) (PySem.W.InitBack (s.heap.objs.size + 1) R)
      { s with heap := (s.heap.push PySem.W.emptyDict).push (PySem.W.instObj C s.heap.objs.size) }) :
    codeAny (model prog w) A (.call (.ref C) ⟨vs, kw⟩) R s := by
  obtain ⟨hh, g, d, t, os⟩ := s
  exact PySem.W.make_core (PySem.W.makes_of X hm) (PySem.W.looks_findIn X hi) (fun self => PySem.W.bind_fn X self hf) (.inl rfl) h
end

/-! ### the attributes as a list of pairs -/
def putF (f : Str) (v : V) : List (Str × V) → List (Str × V)
  | [] => [(f, v)]
  | (g, x) :: r => if g = f then (g, v) :: r else (g, x) :: putF f v r
theorem lookup_putF (f g : Str) (v : V) : ∀ fs : List (Str × V), (putF f v fs).lookup g = if g = f then some v else fs.lookup g
  | [] => by
    show List.lookup g [(f, v)] = _
    by_cases h : g = f
    · have hb : (g == f) = true := beq_iff_eq.mpr h
      simp only [List.lookup, hb, if_pos h]
    · have hb : (g == f) = false := beq_eq_false_iff_ne.mpr h
      simp only [List.lookup, hb, if_neg h]
  | (k, x) :: r => by
    have ih := lookup_putF f g v r
    rw [show putF f v ((k, x) :: r) = (if k = f then (k, v) :: r else (k, x) :: putF f v r) from rfl]
    by_cases hk : k = f
    · rw [if_pos hk]
      by_cases h : g = k
      · have hb : (g == k) = true := beq_iff_eq.mpr h
        simp only [List.lookup, hb, if_pos (h.trans hk)]
      · have hb : (g == k) = false := beq_eq_false_iff_ne.mpr h
        simp only [List.lookup, hb, if_neg (fun e : g = f => h (e.trans hk.symm))]
    · rw [if_neg hk]
      by_cases h : g = k
      · have hb : (g == k) = true := beq_iff_eq.mpr h
        simp only [List.lookup, hb, if_neg (fun e : g = f => hk (h.symm.trans e))]
      · have hb : (g == k) = false := beq_eq_false_iff_ne.mpr h
        simp only [List.lookup, hb]
        exact ih
theorem keys_putF (f : Str) (v : V) : ∀ fs : List (Str × V), f ∈ (putF f v fs).map (·.1) ∧ ∀ g, g ∈ fs.map (·.1) → g ∈ (putF f v fs).map (·.1)
  | [] => ⟨by simp [putF], fun g h => by simp at h⟩
  | (k, x) :: r => by
    obtain ⟨i1, i2⟩ := keys_putF f v r
    rw [show putF f v ((k, x) :: r) = (if k = f then (k, v) :: r else (k, x) :: putF f v r) from rfl]
    by_cases hk : k = f
    · rw [if_pos hk]
      subst hk
      exact ⟨by simp, fun g h => by simpa using h⟩
    · rw [if_neg hk]
      refine ⟨?_, fun g h => ?_⟩
      · rw [List.map_cons]
        exact List.mem_cons_of_mem _ i1
      · rw [List.map_cons] at h ⊢
        rcases List.mem_cons.mp h with e | e
        · exact List.mem_cons.mpr (.inl e)
        · exact List.mem_cons_of_mem _ (i2 g e)
theorem length_putF (f : Str) (v : V) : ∀ fs : List (Str × V), (putF f v fs).length ≤ fs.length + 1
  | [] => by simp [putF]
  | (k, x) :: r => by
    have ih := length_putF f v r
    rw [show putF f v ((k, x) :: r) = (if k = f then (k, v) :: r else (k, x) :: putF f v r) from rfl]
    by_cases hk : k = f
    · rw [if_pos hk, List.length_cons, List.length_cons]; omega
    · rw [if_neg hk, List.length_cons, List.length_cons]; omega

theorem RelO.some_of {v : V} {o : Option Value} (r : RelO (some v) o) : ∃ u, o = some u ∧ RelV v u := by
  cases o with
  | none => exact (show False from r).elim
  | some u => exact ⟨u, rfl, r⟩
theorem RelO.none_of {o : Option Value} (r : RelO none o) : o = none := by
  cases o with
  | none => rfl
  | some u => exact (show False from r).elim
theorem handed_of {v : V} {u : Value} (r : RelV v u) : PySem.W.handedIn u = true := by
  cases v with
  | non => cases (show u = Value.none from r); rfl
  | bl b => cases (show u = Value.bool b from r); rfl
  | int i => obtain ⟨t, e⟩ := (show ∃ t, u = Value.int i t from r); cases e; rfl
  | str x => obtain ⟨t, e⟩ := (show ∃ t, u = Value.str x t from r); cases e; rfl
  | byt b => obtain ⟨t, e⟩ := (show ∃ t, u = Value.bytes b t from r); cases e; rfl
  | flt b => obtain ⟨t, e⟩ := (show ∃ t, u = Value.float b t from r); cases e; rfl
  | ref a => cases (show u = Value.ref a from r); rfl
  | ty n => cases (show u = Value.type n from r); rfl

section
variable {P : Program} {w : World} {H H' : Hp} {h h' : Heap} {a C dx : Addr} {fs fs' : List (Str × V)}
theorem ins_get (hok : HOk P w H h) (e : H a = some (.ins C dx fs)) : ∃ mA, ObjM h a dx C mA ∧ (∀ f, RelO (fs.lookup f) (mA f)) ∧ PySem.Within mA (fs.map (·.1)) ∧ fs.length ≤ 1000 ∧ H dx = some (.own a) := by
  obtain ⟨d, z, ne, ob, mA, n, r, q⟩ := (show ObjOk P w H h a (.ins C dx fs) from hok a _ e)
  exact ⟨mA, ⟨ob, n, ne⟩, r, q, z, d⟩
end

/-! ### what of the text a class must have -/
structure Cls (K : PySem.W.Frag) (C : Addr) : Prop where
  pg : PySem.W.plainGet K C Str.empty = true
  hd : PySem.W.hasDictIn K C = true
  po : PySem.W.plainOver K C = true
  sa : PySem.W.findIn K (.ref C) "__setattr__" = some (some (.builtin "object.__setattr__"))
theorem Cls.get {K : PySem.W.Frag} {C : Addr} (c : Cls K C) (f : Str) : PySem.W.plainGet K C f = true := c.pg
/-- no class of it has the name -/
def NoAttr (K : PySem.W.Frag) (C : Addr) (f : Str) : Prop := PySem.W.findIn K (.ref C) f = some none
theorem NoAttr.taker {K : PySem.W.Frag} {C : Addr} {f : Str} (n : NoAttr K C f) : PySem.W.takerIn K C f = some none := by
  unfold PySem.W.takerIn
  rw [show PySem.W.findIn K (.ref C) f = some none from n]
  rfl
/-- a constant of the class -/
structure Con (K : PySem.W.Frag) (C : Addr) (f : Str) (v : V) (u : Value) : Prop where
  at_ : PySem.W.findIn K (.ref C) f = some (some u)
  rel : RelV v u
  get : PySem.W.specialIn K u "__get__" = some none
  cp : PySem.W.copiedNames.contains f = false
/-- a method: a plain def of the class or of one above it -/
structure Meth (K : PySem.W.Frag) (C : Addr) (m : Str) (f : Addr) : Prop where
  at_ : PySem.W.findIn K (.ref C) m = some (some (.ref f))
  fn : PySem.W.isFn K (.ref f) = true
  kp : PySem.W.keepIn K (.ref f) = true

section
variable {X : Cx} {pins : List (Addr × Obj)} {σ : St} {H : Hp} {s : Shared} {a C dx : Addr} {fs : List (Str × V)} {f : Str} {v : V} {A : Around} {E : Value → Shared → Prop}

theorem getattr_ok {b : Bool} {Q : Value → Shared → Prop} (I : Inv X pins σ H s) (e : H a = some (.ins C dx fs)) (c : Cls X.K C) (n : NoAttr X.K C f) (l : fs.lookup f = some v)
    (h : ∀ u s', Inv X pins σ H s' → RelV v u → Q u s') : wpAny (model X.prog X.w) A (getAttr (.ref a) f b) Q E s := by
  obtain ⟨mA, O, r, _, _, _⟩ := ins_get I.hok e
  obtain ⟨u, hu, ru⟩ := RelO.some_of (v := v) (o := mA f) (by rw [← l]; exact r f)
  exact get_map I.kIn O (c.get f) c.hd n hu (handed_of ru) (h u _ (I.tok _) ru)

theorem getmeth_ok {m : Str} {g : Addr} {pl : Sem Bool} {Q : Value × List Value → Shared → Prop} (I : Inv X pins σ H s) (e : H a = some (.ins C dx fs)) (c : Cls X.K C) (k : Meth X.K C m g) (l : fs.lookup m = none)
    (h : Q (.ref g, [.ref a]) s) : wpAny (model X.prog X.w) A (getMethod (.ref a) m pl) Q E s := by
  obtain ⟨mA, O, r, _, _, _⟩ := ins_get I.hok e
  have hn : mA m = none := RelO.none_of (by rw [← l]; exact r m)
  exact get_meth I.kIn O (c.get m) k.at_ k.fn hn h

theorem setattr_ok {y : V} {u : Value} {Q : Unit → Shared → Prop} (I : Inv X pins σ H s) (e : H a = some (.ins C dx fs)) (c : Cls X.K C) (n : NoAttr X.K C f) (hl : fs.length < 1000) (ry : RelV y u)
    (h : ∀ s', Inv X pins σ (upd H a (.ins C dx (putF f y fs))) s' → Q () s') : wpAny (model X.prog X.w) A (setAttr (.ref a) f u) Q E s := by
  obtain ⟨mA, O, r, wi, _, ho⟩ := ins_get I.hok e
  have hz : (fs.map (·.1)).length ≤ sizeLine := by rw [List.length_map, sizeLine_eq]; omega
  refine set_map I.kIn O c.sa c.po n.taker c.hd wi hz fun h' O' sb => h _ ?_
  have hd : ∃ o, h'.get? dx = some o := let ⟨o, _, _, e', _⟩ := O'.ns; ⟨o, e'⟩
  refine I.write (x := a) (e := dx) (by rw [e]; exact True.intro) (.inr ho) (fun b q hb z => (sb.2 b hb).trans z) hd ?_
  refine ⟨by rw [upd_ne O.ne]; exact ho, ?_, O.ne, O'.obj, _, O'.ns, fun g => ?_, fun g hg => ?_⟩
  · have := length_putF f y fs; omega
  · show RelO ((putF f y fs).lookup g) (if g = f then some u else mA g)
    rw [lookup_putF]
    by_cases q : g = f
    · rw [if_pos q, if_pos q]; exact ry
    · rw [if_neg q, if_neg q]; exact r g
  · by_cases q : g = f
    · rw [q]; exact (keys_putF f y fs).1
    · refine (keys_putF f y fs).2 g (wi g fun z => hg ?_)
      show (if g = f then some u else mA g) = none
      rw [if_neg q]; exact z

/-- a new instance, tracked, without attributes -/
theorem Inv.made (I : Inv X pins σ H s) : Inv X pins σ (upd (upd H s.heap.objs.size (.own (s.heap.objs.size + 1))) (s.heap.objs.size + 1) (.ins C s.heap.objs.size []))
    { s with heap := (s.heap.push PySem.W.emptyDict).push (PySem.W.instObj C s.heap.objs.size) } := by
  have e1 : (s.heap.push PySem.W.emptyDict).get? s.heap.objs.size = some PySem.W.emptyDict := Heap.get?_push_size s.heap rfl
  have e2 : ((s.heap.push PySem.W.emptyDict).push (PySem.W.instObj C s.heap.objs.size)).get? (s.heap.objs.size + 1) = some (PySem.W.instObj C s.heap.objs.size) := by
    have := Heap.get?_push_size (s.heap.push PySem.W.emptyDict) (o := PySem.W.instObj C s.heap.objs.size) rfl
    rwa [Heap.size_push] at this
  have e3 : (s.heap.push PySem.W.emptyDict).Ns s.heap.objs.size (fun _ => none) := ⟨PySem.W.emptyDict, #[], _, e1, rfl, (fun e he => absurd he (by simp)), fun _ => rfl⟩
  have I1 := I.laid (a := s.heap.objs.size) (o := .own (s.heap.objs.size + 1)) (h' := s.heap.push PySem.W.emptyDict) (t' := s.toks) (fun b u q => Heap.get?_push_of_some _ q) (Nat.le_refl _) ⟨_, e1⟩
  refine I1.laid (a := s.heap.objs.size + 1) (o := .ins C s.heap.objs.size []) (t' := s.toks) (fun b u q => Heap.get?_push_of_some _ q) (Nat.le_of_eq (Heap.size_push _ _)) ?_
  have ne : s.heap.objs.size ≠ s.heap.objs.size + 1 := Nat.ne_of_lt (Nat.lt_succ_self _)
  refine ⟨by rw [upd_ne ne, upd_same], Nat.zero_le _, ne, e2, fun _ => none, (Heap.Ns1.of_empty e3).at fun o q => Heap.get?_push_of_some _ q, fun _ => True.intro, fun y hy => absurd rfl hy⟩

/-- e.f where nothing but the object is asked: through attributeBase (super) and the last hold -/
theorem attr_of {prog : Program} {w : World} {env : Env} {e : Expr} {f : Str} {pos : Pos} {s : Shared} {Q : Value → Shared → Prop} (hb : attributeBase e f env (eval e env) = eval e env)
    (h : wpAny (model prog w) A (eval e env) (fun o s₁ => wpAny (model prog w) A (getAttr o f true) Q E s₁) E s) : wpAny (model prog w) A (eval (.Attribute e f pos) env) Q E s :=
  Attribute_any_ h (by rw [arm_eval_Attribute, hb])
end

/-! ### readings and rules -/
/-- e.f, an attribute of the instance -/
def tFld (K : PySem.W.Frag) (ta : TE) (f : Str) : TE := fun σ H Q => ta σ H fun x H1 => ∃ a C dx fs v, x = .ref a ∧ H1 a = some (.ins C dx fs) ∧ Cls K C ∧ NoAttr K C f ∧ fs.lookup f = some v ∧ Q v H1
/-- e.f, a constant of the class -/
def tCon (K : PySem.W.Frag) (ta : TE) (f : Str) : TE := fun σ H Q => ta σ H fun x H1 => ∃ a C dx fs v u, x = .ref a ∧ H1 a = some (.ins C dx fs) ∧ Cls K C ∧ Con K C f v u ∧ fs.lookup f = none ∧ Q v H1
/-- e.f = value -/
def sFld (K : PySem.W.Frag) (ta tv : TE) (f : Str) : TS := fun D σ H => tv σ H fun y H1 => ta σ H1 fun x H2 => ∃ a C dx fs, x = .ref a ∧ H2 a = some (.ins C dx fs) ∧ Cls K C ∧ NoAttr K C f ∧ fs.length < 1000 ∧
  D.nx σ (upd H2 a (.ins C dx (putF f y fs)))
/-- an augmented operator on two values -/
def InOp (X : Cx) (op : Operator) (rd : V → V → Hp → VK → Prop) : Prop :=
  ∀ (pins : List (Addr × Obj)) (s : Shared) (σ : St) (H : Hp) (x y : V) (u v : Value) (Q : VK), Inv X pins σ H s → RelV x u → RelV y v → rd x y H Q → wpAny (model X.prog X.w) X.A (inplaceOp op u v) (EP X pins σ Q) X.xe s
/-- e.f op= value -/
def sFldAug (K : PySem.W.Frag) (ta tv : TE) (rd : V → V → Hp → VK → Prop) (f : Str) : TS := fun D σ H => ta σ H fun x H1 => ∃ a C dx fs v, x = .ref a ∧ H1 a = some (.ins C dx fs) ∧ Cls K C ∧ NoAttr K C f ∧ fs.lookup f = some v ∧
  tv σ H1 fun y H2 => rd v y H2 fun z H3 => ∃ dx' fs', H3 a = some (.ins C dx' fs') ∧ fs'.length < 1000 ∧ D.nx σ (upd H3 a (.ins C dx' (putF f z fs')))

section
variable {X : Cx} {o e value : Expr} {f : Str} {pos pos' tpos : Pos} {ta tv : TE}
theorem pe_fld (he : PE X e ta) (hb : attributeBase e f X.env (eval e X.env) = eval e X.env) : PE X (.Attribute e f pos) (tFld X.K ta f) := by
  intro pins s σ H Q I h
  refine attr_of hb (thn (he pins s σ H _ I h) fun u s1 ⟨x, H1, I1, rx, a, C, dx, fs, v, ex, ea, c, n, l, q⟩ => ?_)
  subst ex
  obtain rfl : u = Value.ref a := rx
  exact getattr_ok I1 ea c n l fun u' s2 I2 ru => ⟨v, H1, I2, ru, q⟩
theorem ps_fld (ha : PE X o ta) (hv : PE X value tv) (hs : swapsWith value (some (.Attribute o f pos')) pos.line X.env = pure false) : PS X (.Assign [.Attribute o f pos'] value pos) (sFld X.K ta tv f) := by
  intro pins s σ H D I h
  refine plainObj_wpAny_Assign_Attribute (thn (hv pins s σ H _ I h) fun u s1 ⟨y, H1, I1, ry, q⟩ => thn (ha pins s1 σ H1 _ I1 q) fun ov s2 ⟨x, H2, I2, rx, a, C, dx, fs, ex, ea, c, n, l, q2⟩ => ?_) hs
  subst ex
  obtain rfl : ov = Value.ref a := rx
  exact setattr_ok I2 ea c n l ry fun s3 I3 => ⟨σ, _, I3, q2⟩
def rAdd : V → V → Hp → VK → Prop := fun x y H Q => ∃ i j, x = .int i ∧ y = .int j ∧ Q (.int (i + j)) H
def rSub : V → V → Hp → VK → Prop := fun x y H Q => ∃ i j, x = .int i ∧ y = .int j ∧ Q (.int (i - j)) H
end

/-! ### isinstance -/
section
variable {X : Cx} {pins : List (Addr × Obj)} {σ : St} {H : Hp} {s : Shared} {A : Around} {E : Value → Shared → Prop} {Q : Value → Shared → Prop} {c : Value} {b : Bool}
/-- the type of a value, as the fragment's deciders take it; for an instance its class -/
inductive TyOf (K : PySem.W.Frag) (H : Hp) : V → Value → Prop where
  | non : TyOf K H .non (.type "NoneType")
  | bl (x : Bool) : TyOf K H (.bl x) (.type "bool")
  | int (i : Int) : TyOf K H (.int i) (.type "int")
  | str (x : Str) : TyOf K H (.str x) (.type "str")
  | flt (x : UInt64) : TyOf K H (.flt x) (.type "float")
  | lst {a : Addr} {xs : List V} (e : H a = some (.lst xs)) : TyOf K H (.ref a) (.type "list")
  | frz {a : Addr} {o : Obj} {xs : List V} (e : H a = some (.frz o (.lst xs))) : TyOf K H (.ref a) (.type "list")
  | tup {a : Addr} {xs : List V} (e : H a = some (.tup xs)) : TyOf K H (.ref a) (.type "tuple")
  | dK {a : Addr} {kvs : List (Key × V)} (e : H a = some (.dK kvs)) : TyOf K H (.ref a) (.type "dict")
  | dT {a : Addr} {kvs : List (List Key × V)} (e : H a = some (.dT kvs)) : TyOf K H (.ref a) (.type "dict")
  | ins {a C dx : Addr} {fs : List (Str × V)} (e : H a = some (.ins C dx fs)) (cl : Cls K C) (ha : PySem.W.findIn K (.ref C) "__class__" = some (some (.builtin "object.__class__")))
      (hn : PySem.W.specialIn K (.builtin "object.__class__") "__get__" = some (some (.builtin "getset_descriptor.__get__"))) (htk : PySem.W.takesIn K (.builtin "object.__class__") = some true)
      (hm : PySem.W.mroIn K C (.type "object") = some true) : TyOf K H (.ref a) (.ref C)
/-- isinstance(x, c) for one class c, a built-in or an own one: kitOne's answer -/
theorem isinst_ok {x : V} {u t : Value} (I : Inv X pins σ H s) (rx : RelV x u) (ty : TyOf X.K H x t) (e : PySem.W.kitOne X.K t c = some b) (h : ∀ tk, Q (.bool b) { s with toks := tk }) :
    wpAny (model X.prog X.w) A (call (.builtin "isinstance") [u, c]) Q E s := by
  cases ty with
  | non => cases (show u = Value.none from rx); exact PySem.W.kia_one PySem.W.kitx_none I.kIn True.intro e (fun z => nomatch z) h
  | bl y => cases (show u = Value.bool y from rx); exact PySem.W.kia_one PySem.W.kitx_bool I.kIn True.intro e (fun z => nomatch z) h
  | int i => obtain ⟨t, q⟩ := (show ∃ t, u = Value.int i t from rx); cases q; exact PySem.W.kia_one PySem.W.kitx_int I.kIn True.intro e (fun z => nomatch z) h
  | str y => obtain ⟨t, q⟩ := (show ∃ t, u = Value.str y t from rx); cases q; exact PySem.W.kia_one PySem.W.kitx_str I.kIn True.intro e (fun z => nomatch z) h
  | flt y => obtain ⟨t, q⟩ := (show ∃ t, u = Value.float y t from rx); cases q; exact PySem.W.kia_one PySem.W.kitx_float I.kIn True.intro e (fun z => nomatch z) h
  | @lst a xs ea =>
    cases (show u = Value.ref a from rx)
    obtain ⟨_, _, n, _, h1⟩ := (show ObjOk X.prog X.w H s.heap a (.lst xs) from I.hok a _ ea)
    exact PySem.W.kia_one PySem.W.kitx_list I.kIn ⟨_, h1, rfl⟩ e (fun z => nomatch z) h
  | @frz a ob xs ea =>
    cases (show u = Value.ref a from rx)
    obtain ⟨_, _, _, n, _, h1⟩ := (show ObjOk X.prog X.w H s.heap a (.frz ob (.lst xs)) from I.hok a _ ea)
    exact PySem.W.kia_one PySem.W.kitx_list I.kIn ⟨_, h1, rfl⟩ e (fun z => nomatch z) h
  | @tup a xs ea =>
    cases (show u = Value.ref a from rx)
    obtain ⟨_, _, _, p⟩ := (show ObjOk X.prog X.w H s.heap a (.tup xs) from I.hok a _ ea)
    obtain ⟨o, h1, h2, _⟩ := p
    exact PySem.W.kia_one PySem.W.kitx_tuple I.kIn ⟨o, h1, h2⟩ e (fun z => nomatch z) h
  | @dK a kvs ea =>
    cases (show u = Value.ref a from rx)
    obtain ⟨_, _, vs, _, p⟩ := (show ObjOk X.prog X.w H s.heap a (.dK kvs) from I.hok a _ ea)
    obtain ⟨o, es, ep, h1, h2, _⟩ := p
    exact PySem.W.kia_one PySem.W.kitx_dict I.kIn ⟨o, h1, h2.1⟩ e (fun z => nomatch z) h
  | @dT a kvs ea =>
    cases (show u = Value.ref a from rx)
    obtain ⟨_, _, xs, _, o, es, ep, h1, h2, _⟩ := (show ObjOk X.prog X.w H s.heap a (.dT kvs) from I.hok a _ ea)
    exact PySem.W.kia_one PySem.W.kitx_dict I.kIn ⟨o, h1, h2.1⟩ e (fun z => nomatch z) h
  | @ins a C dx fs ea cl ha hn htk hm =>
    cases (show u = Value.ref a from rx)
    obtain ⟨mA, O, _⟩ := ins_get I.hok ea
    obtain ⟨od, J, _⟩ := O.look
    exact PySem.W.kia_one (PySem.W.kitx_own (cl.get _) cl.hd ha hn htk hm) I.kIn J e (fun z => nomatch z) h
end
end L2

namespace L2
open PySem PySem.Spec PyProof.Rows

/-! ### room -/
structure Room (k : Nat) (A : Around) : Prop where
  hd : A.handled = none
  dp : A.depth + 3 * k + 5 < recursionLimit
  un : A.units + 16 * k + 200 < cLine
  gd : A.guards = some []
theorem Room.mono {j k : Nat} {A : Around} (r : Room k A) (h : j ≤ k) : Room j A := ⟨r.hd, by have := r.dp; omega, by have := r.un; omega, r.gd⟩
theorem Room.deeper {k : Nat} {A : Around} (r : Room (k + 1) A) (env : Env) : Room k (A.deeper env) :=
  ⟨r.hd, by have := r.dp; show A.depth + 1 + 3 * k + 5 < _; omega, by have := r.un; show A.units + 3 + 16 * k + 200 < _; omega, r.gd⟩
theorem make_depth {A : Around} {C : Addr} {us : List Value} {kw : List (Str × Value)} : (A.under (.builtin "type.__call__" ⟨.ref C :: us, kw⟩)).depth = A.depth + 1 := by
  first | rfl | simp [Around.under, Code.weight, Code.isCreation, Code.isGuard, Code.isCaller, Code.frames, Code.isFrame, guardIds]
theorem make_units {A : Around} {C : Addr} {us : List Value} {kw : List (Str × Value)} : (A.under (.builtin "type.__call__" ⟨.ref C :: us, kw⟩)).units = A.units + 1 := by
  first | rfl | simp [Around.under, Code.cUnits, Code.frames, Code.isFrame]
theorem Room.make {k : Nat} {A : Around} (r : Room (k + 1) A) (C : Addr) (us : List Value) (kw : List (Str × Value)) : Room k (A.under (.builtin "type.__call__" ⟨.ref C :: us, kw⟩)) :=
  ⟨r.hd, by have := r.dp; rw [make_depth]; omega, by have := r.un; rw [make_units]; omega, by have := r.gd; first | exact this | simpa [Around.under, Code.isGuard, guardIds] using this⟩
theorem Room.depth {k : Nat} {A : Around} (r : Room k A) : A.depth < recursionLimit := by have := r.dp; omega
theorem Room.units {k : Nat} {A : Around} (r : Room k A) : A.units + 64 < cLine := by have := r.un; omega
theorem Room.units0 {k : Nat} {A : Around} (r : Room k A) : A.units < cLine := by have := r.un; omega

/-! ### argument lists and displays -/
def tNil : TA := fun _ H Q => Q [] H
def tCons (ta : TE) (tr : TA) : TA := fun σ H Q => ta σ H fun x H1 => tr σ H1 fun xs H2 => Q (x :: xs) H2
section
variable {X : Cx} {e : Expr} {es : List Expr} {te : TE} {t : TA} {pos : Pos}
theorem pa_nil : PA X [] tNil := fun _ _ _ _ H Q I h => Calls.spliced_nil ⟨[], H, I, .nil, h⟩
theorem pa_cons (ha : PE X e te) (hr : PA X es t) (hs : starEach (e :: es) X.env = (false, eval e X.env) :: starEach es X.env := by rfl) : PA X (e :: es) (tCons te t) := by
  intro pos pins s σ H Q I h
  rw [hs]
  show wpAny _ _ (spliced ((false, eval e X.env) :: backTo pos (starEach es X.env))) _ _ s
  refine Calls.spliced_cons (thn (ha pins s σ H _ I h) fun u s1 ⟨x, H1, I1, r1, q1⟩ => ?_)
  exact thn (hr pos pins s1 σ H1 _ I1 q1) fun us s2 ⟨xs, H2, I2, r2, q2⟩ => ⟨x :: xs, H2, I2, .cons r1 r2, q2⟩

/-- a tuple, a list of written items -/
def tTup (t : TA) : TE := fun σ H Q => t σ H fun xs H1 => xs.length ≤ sizeLine ∧ ∀ p, H1 p = none → Q (.ref p) (upd H1 p (.tup xs))
def tLst (t : TA) : TE := fun σ H Q => t σ H fun xs H1 => xs.length ≤ sizeLine ∧ ∀ p, H1 p = none → Q (.ref p) (upd H1 p (.lst xs))
theorem pe_tup {x1} (h : PA X es t) : PE X (.Tuple es x1 pos) (tTup t) := by
  intro pins s σ H Q I hq
  refine wpAny_Tuple_spliced (thn (h pos pins s σ H _ I hq) fun us s1 ⟨xs, H1, I1, r, z, q⟩ => ⟨by rw [← r.length]; exact z, ?_⟩)
  have hf : H1 s1.heap.objs.size = none := I1.hok.fresh (Nat.le_refl _)
  refine ⟨.ref s1.heap.objs.size, upd H1 s1.heap.objs.size (.tup xs), I1.laid (t' := s1.toks) (fun b u e => Heap.get?_push_of_some _ e) (Nat.le_refl _) ?_, rfl, q _ hf⟩
  exact ⟨z, us, r, ⟨_, Heap.get?_push_size _ rfl, rfl, _, rfl⟩⟩
theorem pe_lst (h : PA X es t) : PE X (.List es pos) (tLst t) := by
  intro pins s σ H Q I hq
  refine wpAny_List_spliced (thn (h pos pins s σ H _ I hq) fun us s1 ⟨xs, H1, I1, r, z, q⟩ => ⟨by rw [← r.length]; exact z, ?_⟩)
  have hf : H1 s1.heap.objs.size = none := I1.hok.fresh (Nat.le_refl _)
  refine ⟨.ref s1.heap.objs.size, upd H1 s1.heap.objs.size (.lst xs), I1.laid (t' := s1.toks) (fun b u e => Heap.get?_push_of_some _ e) (Nat.le_refl _) ?_, rfl, q _ hf⟩
  exact ⟨z, us, 0, r, Heap.get?_push_size _ rfl⟩
end

/-! ### what a def promises -/
/-- a def's promise: the bound arguments in the parameters' order, the heap, the wanted end, the wanted exception -/
abbrev Sp := List V → Hp → VK → XK → Prop
/-- how an exception lies behind a call (file 08 gives it): the callers' frames, abstract heap and state ahead of the call, the wish, the exception, the state -/
abbrev CXT := List Env → Hp → Shared → XK → Value → Shared → Prop

/-- the state at a call -/
structure Env0 (P : Program) (w : World) (K : PySem.W.Frag) (mg : Str → Option Value) (base : Heap) (A : Around) (outer : List Env) (s : Shared) (H : Hp) : Prop where
  frames : A.frames = some outer
  mod : Mod K mg base
  bs : ∀ b o, base.get? b = some o → s.heap.get? b = some o ∧ H b = none
  bsz : base.objs.size ≤ s.heap.objs.size
  funs : s.heap.FunFrames base outer
  frf : ∀ b ∈ frs outer, H b = none
  hok : HOk P w H s.heap
  bare : AllBare s.gens
/-- a call's end -/
def CE (outer : List Env) (P : Program) (w : World) (H : Hp) (s : Shared) (Q : VK) (u : Value) (s' : Shared) : Prop :=
  ∃ v H', s'.os = s.os ∧ AllBare s'.gens ∧ Un (frs outer) [] H H' s.heap s'.heap ∧ HOk P w H' s'.heap ∧ RelV v u ∧ Q v H'
def CR (CX : CXT) (outer : List Env) (P : Program) (w : World) (H : Hp) (s : Shared) (Q : VK) (E : XK) (r : Result) (s' : Shared) : Prop :=
  match r with
  | .ok (.ret u) => CE outer P w H s Q u s'
  | .ok _ => False
  | .error e => CX outer H s E e s'
structure FnOk (P : Program) (w : World) (K : PySem.W.Frag) (mg : Str → Option Value) (base : Heap) (CX : CXT) (k : Nat) (f : Addr) (fd : FuncData) (ps : List Str) (sp : Sp) : Prop where
  len : ∀ vs H Q E, sp vs H Q E → vs.length = ps.length
  run : ∀ (A : Around) (outer : List Env) (s : Shared) (H : Hp) (args : Args) (us : List Value) (vs : List V) (Q : VK) (E : XK), Room k A → Env0 P w K mg base A outer s H → BindsTo s fd args (ps.zip us) → Vals vs us → sp vs H Q E →
    codeAny (model P w) A (.call (.ref f) args) (CR CX outer P w H s Q E) s
theorem Env0.make {P : Program} {w : World} {K : PySem.W.Frag} {mg : Str → Option Value} {base : Heap} {A : Around} {outer : List Env} {s : Shared} {H : Hp} (e : Env0 P w K mg base A outer s H) (C : Addr) (us : List Value) (kw : List (Str × Value)) :
    Env0 P w K mg base (A.under (.builtin "type.__call__" ⟨.ref C :: us, kw⟩)) outer s H := ⟨by first | exact e.frames | (simpa [Around.under, Code.envs, Code.isFrame, pushEnvs] using e.frames), e.mod, e.bs, e.bsz, e.funs, e.frf, e.hok, e.bare⟩
section
variable {X : Cx} {pins : List (Addr × Obj)} {σ : St} {H : Hp} {s s' : Shared}
/-- from a body: what a callee wants -/
theorem Inv.env0 (I : Inv X pins σ H s) : Env0 X.prog X.w X.K X.mg X.base X.A X.stack s H :=
  ⟨I.ok.frames, I.ok.mod, I.bs, Nat.le_trans I.ok.bsz I.sz, I.stack, I.stkFree, I.hok, I.bare⟩
/-- behind a call -/
theorem Inv.after {Q : VK} {u : Value} (I : Inv X pins σ H s) (h : CE X.stack X.prog X.w H s Q u s') : EP X pins σ Q u s' := by
  obtain ⟨v, H', os, bare, un, hok, r, q⟩ := h
  obtain ⟨hh, g, d, t, os'⟩ := s'
  obtain rfl : os' = s.os := os
  exact ⟨v, H', I.call (h' := hh) (g' := g) (d' := d) (t' := t) (ch := []) un hok bare (fun b z => absurd z (by simp)), r, q⟩
end

/-! ### calls -/
/-- f(..): the written arguments, then the defaults dvs; E: what is wanted of an exception -/
def tCall (sp : Sp) (dvs : List V) (E : XK) (t : TA) : TE := fun σ H Q => t σ H fun vs H1 => sp (vs ++ dvs) H1 Q E
/-- o.m(..) of an instance of the class at C -/
def tMeth (C : Addr) (m : Str) (sp : Sp) (dvs : List V) (E : XK) (ta : TE) (t : TA) : TE := fun σ H Q => ta σ H fun x H1 => ∃ a dx fs, x = .ref a ∧ H1 a = some (.ins C dx fs) ∧ fs.lookup m = none ∧
  t σ H1 fun vs H2 => sp (x :: (vs ++ dvs)) H2 Q E
/-- C(..): a new instance and its dict, then __init__ -/
def tMake (C : Addr) (sp : Sp) (dvs : List V) (E : XK) (t : TA) : TE := fun σ H Q => t σ H fun vs H1 => ∀ x dx, H1 x = none → H1 dx = none → dx ≠ x →
  sp (.ref x :: (vs ++ dvs)) (upd (upd H1 dx (.own x)) x (.ins C dx [])) (fun v H2 => v = .non ∧ Q (.ref x) H2) E

/-- how the parameters are bound: us the positional arguments, kw the keywords' values by name, ds the defaults that fill up -/
def Binds (K : PySem.W.Frag) (fd : FuncData) (ps : List Str) (ds : List Value) : Prop :=
  ∀ (s : Shared) (us : List Value), K.In s.heap → (us ++ ds).length = ps.length → BindsTo s fd ⟨us, []⟩ (ps.zip (us ++ ds))
/-- every parameter is given -/
theorem Binds.all {K : PySem.W.Frag} {fd : FuncData} {ps : List Str} (h : ∀ us : List Value, us.length = ps.length → bindArgs fd ⟨us, []⟩ = pure (ps.zip us)) : Binds K fd ps [] := fun s us _ hl => by
  rw [List.append_nil] at hl ⊢
  exact .of_eq (h us hl)

/-- an exception of a callee reaches what this body wants of exceptions -/
def Passes (CX : CXT) (X : Cx) (E : XK) : Prop := ∀ (pins : List (Addr × Obj)) (σ : St) (H : Hp) (s : Shared) (e : Value) (s' : Shared), Inv X pins σ H s → CX X.stack H s E e s' → X.xe e s'

section
variable {X : Cx} {CX : CXT} {k : Nat} {f C : Addr} {fd : FuncData} {ps : List Str} {sp : Sp} {dvs : List V} {ds : List Value} {E : XK} {x m : Str} {p pos apos : Pos} {e o : Expr} {es : List Expr} {ta : TE} {t : TA}

/-- the callee runs -/
theorem run_fn {pins : List (Addr × Obj)} {σ : St} {H : Hp} {s : Shared} {Q : VK} {us : List Value} {vs : List V} (F : FnOk X.prog X.w X.K X.mg X.base CX k f fd ps sp) (hr : Room k X.A) (hb : Binds X.K fd ps ds) (hd : Vals dvs ds) (hx : Passes CX X E)
    (I : Inv X pins σ H s) (r : Vals vs us) (h : sp (vs ++ dvs) H Q E) : wpAny (model X.prog X.w) X.A (call (.ref f) us) (EP X pins σ Q) X.xe s := by
  have r2 : Vals (vs ++ dvs) (us ++ ds) := r.append hd
  have hl : (us ++ ds).length = ps.length := by rw [← r2.length]; exact F.len _ _ _ _ h
  refine wpAny_call (codeAny_mono (F.run X.A X.stack s H ⟨us, []⟩ (us ++ ds) (vs ++ dvs) Q E hr I.env0 (hb s us I.kIn hl) r2 h) fun r s' hq => ?_)
  cases r with
  | error e => exact hx pins σ H s e s' I hq
  | ok fl =>
    cases fl with
    | ret u => exact I.after hq
    | next => exact False.elim hq
    | brk => exact False.elim hq
    | cont => exact False.elim hq

theorem pe_call (F : FnOk X.prog X.w X.K X.mg X.base CX k f fd ps sp) (hr : Room k X.A) (hg : Gl X x) (hm : X.mg x = some (.ref f)) (hk : PySem.W.keepIn X.K (.ref f) = true) (hb : Binds X.K fd ps ds) (hd : Vals dvs ds) (hx : Passes CX X E)
    (ha : PA X (e :: es) t) (hdb : (x == ("__debug__" : Str)) = false := by decide) (he : starEach (e :: es) X.env = (false, eval e X.env) :: starEach es X.env := by rfl) (hpl : (backTo pos (starEach es X.env)).any (·.1) = false := by rfl) :
    PE X (.Call (.Name x p) (e :: es) [] pos) (tCall sp dvs E t) := by
  intro pins s σ H Q I h
  refine wpAny_Call_Name_kw (ld_glob I hg hm ?_ hdb)
  refine PySem.W.callWith_K (h₀ := X.base) I.ok.mod.kin hk (thn (ha pos pins s σ H _ I h) fun us s1 ⟨vs, H1, I1, r, q⟩ => ⟨I1.kIn, ?_⟩) he hpl
  exact run_fn F hr hb hd hx I1 r q
/-- what a class must have to be made -/
structure Mk (K : PySem.W.Frag) (C f : Addr) : Prop where
  makes : PySem.W.makesIn K C = true
  init : PySem.W.findIn K (.ref C) "__init__" = some (some (.ref f))
  fn : PySem.W.isFn K (.ref f) = true
  kp : PySem.W.keepIn K (.ref C) = true

theorem run_make {pins : List (Addr × Obj)} {σ : St} {H : Hp} {s : Shared} {Q : VK} {us : List Value} {vs : List V} (M : Mk X.K C f) (F : FnOk X.prog X.w X.K X.mg X.base CX k f fd ps sp) (hr : Room (k + 1) X.A) (hb : Binds X.K fd ps ds) (hd : Vals dvs ds)
    (hx : Passes CX X E) (I : Inv X pins σ H s) (r : Vals vs us)
    (h : ∀ x dx, H x = none → H dx = none → dx ≠ x → sp (.ref x :: (vs ++ dvs)) (upd (upd H dx (.own x)) x (.ins C dx [])) (fun v H2 => v = .non ∧ Q (.ref x) H2) E) :
    wpAny (model X.prog X.w) X.A (call (.ref C) us) (EP X pins σ Q) X.xe s := by
  have hq := h (s.heap.objs.size + 1) s.heap.objs.size (I.hok.fresh (Nat.le_succ _)) (I.hok.fresh (Nat.le_refl _)) (Nat.ne_of_lt (Nat.lt_succ_self _))
  have I2 := Inv.made (C := C) I
  have r2 : Vals (V.ref (s.heap.objs.size + 1) :: (vs ++ dvs)) (Value.ref (s.heap.objs.size + 1) :: (us ++ ds)) := .cons rfl (r.append hd)
  have hl : (Value.ref (s.heap.objs.size + 1) :: us ++ ds).length = ps.length := by
    have e := r2.length
    rw [F.len _ _ _ _ hq] at e
    exact e.symm
  refine wpAny_call (make_map (f := f) I.kIn M.makes M.init (beq_iff_eq.mp M.fn) (codeAny_mono (F.run _ X.stack _ _ ⟨Value.ref (s.heap.objs.size + 1) :: us, []⟩ (Value.ref (s.heap.objs.size + 1) :: (us ++ ds)) _ _ E (hr.make C us [])
    (I2.env0.make C us []) (hb _ (Value.ref (s.heap.objs.size + 1) :: us) I2.kIn hl) r2 hq) fun r s' hq' => ?_))
  cases r with
  | error e => exact hx pins σ _ _ e s' I2 hq'
  | ok fl =>
    cases fl with
    | ret u =>
      obtain ⟨v, H', I3, rv, ev, q3⟩ := I2.after hq'
      subst ev
      exact ⟨rv, ⟨V.ref (s.heap.objs.size + 1), H', I3, rfl, q3⟩⟩
    | next => exact False.elim hq'
    | brk => exact False.elim hq'
    | cont => exact False.elim hq'
theorem pe_make (M : Mk X.K C f) (F : FnOk X.prog X.w X.K X.mg X.base CX k f fd ps sp) (hr : Room (k + 1) X.A) (hg : Gl X x) (hm : X.mg x = some (.ref C)) (hb : Binds X.K fd ps ds) (hd : Vals dvs ds) (hx : Passes CX X E)
    (ha : PA X (e :: es) t) (hdb : (x == ("__debug__" : Str)) = false := by decide) (he : starEach (e :: es) X.env = (false, eval e X.env) :: starEach es X.env := by rfl) (hpl : (backTo pos (starEach es X.env)).any (·.1) = false := by rfl) :
    PE X (.Call (.Name x p) (e :: es) [] pos) (tMake C sp dvs E t) := by
  intro pins s σ H Q I h
  refine wpAny_Call_Name_kw (ld_glob I hg hm ?_ hdb)
  refine PySem.W.callWith_K (h₀ := X.base) I.ok.mod.kin M.kp (thn (ha pos pins s σ H _ I h) fun us s1 ⟨vs, H1, I1, r, q⟩ => ⟨I1.kIn, ?_⟩) he hpl
  exact run_make M F hr hb hd hx I1 r q
end

/-! ### keywords -/
/-- the values of the keywords, from the left -/
def PK (X : Cx) (kws : List Keyword) (t : TA) : Prop :=
  ∀ (pos : Pos) (pins : List (Addr × Obj)) (s : Shared) (σ : St) (H : Hp) (Q : List V → Hp → Prop), Inv X pins σ H s → t σ H Q → wpAny (model X.prog X.w) X.A (evalAll ((backToKw pos (keywordEach kws X.env)).map (·.2))) (AP X pins σ Q) X.xe s
section
variable {X : Cx} {CX : CXT} {k : Nat} {f C : Addr} {fd : FuncData} {ps ks : List Str} {sp : Sp} {E : XK} {x m : Str} {p pos apos kpos : Pos} {e o : Expr} {es : List Expr} {kws : List Keyword} {te ta : TE} {t tk : TA} {nm : Option Str}
/-- how a call with keywords binds: g puts the positional values us and the keywords' values ws (names ks) in the parameters' order, defaults among them -/
structure KBinds (K : PySem.W.Frag) (fd : FuncData) (ps ks : List Str) (g : List Value → List Value → List Value) (gV : List V → List V → List V) : Prop where
  to : ∀ (s : Shared) (us ws : List Value), K.In s.heap → (g us ws).length = ps.length → BindsTo s fd ⟨us, ks.zip ws⟩ (ps.zip (g us ws))
  rel : ∀ {vs : List V} {us : List Value} {zs : List V} {ws : List Value}, Vals vs us → Vals zs ws → Vals (gV vs zs) (g us ws)
def tCallK (sp : Sp) (gV : List V → List V → List V) (E : XK) (t tk : TA) : TE := fun σ H Q => t σ H fun vs H1 => tk σ H1 fun zs H2 => sp (gV vs zs) H2 Q E
variable {g : List Value → List Value → List Value} {gV : List V → List V → List V}
end

/-! ### a def's body keeps its promise -/
/-- names: the parameters first -/
structure FnScope (N P : List Str) (sc : Scope) : Prop where
  kind : sc.kind = .function
  co : sc.isCoroutine = false
  gen : sc.isGenerator = false
  nd : N.Nodup
  pre : N.take P.length = P
  par : ∀ x ∈ P, sc.names.lookup x = some .local ∨ sc.names.lookup x = some .cell
  nofree : ∀ y ∈ sc.names, y.2 ≠ .free

theorem bindL_out {kindOf : Str → Option NameKind} {x : Str} : ∀ {binds : List (Str × Value)} {m : Str → Option Value}, (∀ v, (x, v) ∉ binds) → bindL kindOf binds m x = m x
  | [], _, _ => rfl
  | (n, v) :: r, m, h => by
    unfold bindL
    rw [bindL_out fun w hw => h w (List.mem_cons_of_mem _ hw)]
    split
    · have : x ≠ n := by rintro rfl; exact h v List.mem_cons_self
      simp [this]
    · rfl
theorem bindC_out {kindOf : Str → Option NameKind} {x : Str} : ∀ {binds : List (Str × Value)} {m : Str → Option Value}, (∀ v, (x, v) ∉ binds) → bindC kindOf binds m x = m x
  | [], _, _ => rfl
  | (n, v) :: r, m, h => by
    unfold bindC
    rw [bindC_out fun w hw => h w (List.mem_cons_of_mem _ hw)]
    split
    · rfl
    · have : x ≠ n := by rintro rfl; exact h v List.mem_cons_self
      simp [this]
theorem bindL_get {kindOf : Str → Option NameKind} {x : Str} {v : Value} : ∀ {P : List Str} {vs : List Value} {i : Nat} {m : Str → Option Value}, P.Nodup → P[i]? = some x → vs[i]? = some v → kindOf x = some .local →
    bindL kindOf (P.zip vs) m x = some v
  | [], _, _, _, _, h, _, _ => by simp at h
  | _ :: _, [], _, _, _, _, h, _ => by simp at h
  | p :: P, w :: vs, 0, m, nd, h1, h2, hk => by
    simp at h1 h2; subst h1; subst h2
    show bindL kindOf ((p, w) :: P.zip vs) m p = _
    unfold bindL
    rw [bindL_out fun v hv => (List.nodup_cons.mp nd).1 (List.of_mem_zip hv).1, if_pos hk]
    simp
  | p :: P, w :: vs, i + 1, m, nd, h1, h2, hk => by
    show bindL kindOf ((p, w) :: P.zip vs) m x = _
    unfold bindL
    exact bindL_get (i := i) (List.nodup_cons.mp nd).2 (by simpa using h1) (by simpa using h2) hk
theorem bindC_get {kindOf : Str → Option NameKind} {x : Str} {v : Value} : ∀ {P : List Str} {vs : List Value} {i : Nat} {m : Str → Option Value}, P.Nodup → P[i]? = some x → vs[i]? = some v → kindOf x ≠ some .local →
    bindC kindOf (P.zip vs) m x = some v
  | [], _, _, _, _, h, _, _ => by simp at h
  | _ :: _, [], _, _, _, _, h, _ => by simp at h
  | p :: P, w :: vs, 0, m, nd, h1, h2, hk => by
    simp at h1 h2; subst h1; subst h2
    show bindC kindOf ((p, w) :: P.zip vs) m p = _
    unfold bindC
    rw [bindC_out fun v hv => (List.nodup_cons.mp nd).1 (List.of_mem_zip hv).1, if_neg hk]
    simp
  | p :: P, w :: vs, i + 1, m, nd, h1, h2, hk => by
    show bindC kindOf ((p, w) :: P.zip vs) m x = _
    unfold bindC
    exact bindC_get (i := i) (List.nodup_cons.mp nd).2 (by simpa using h1) (by simpa using h2) hk

/-- the names' values at the entry -/
def start (N : List Str) (vs : List V) : St := vs.map some ++ List.replicate (N.length - vs.length) none

/-- the context of a def's body, at its entry; an exception leaves the frame, then lies as CX says -/
def cxOf (CX : CXT) (P : Program) (w : World) (K : PySem.W.Frag) (mg : Str → Option Value) (base : Heap) (N : List Str) (qual : Str) (scope : Scope) (f : Addr) (cd : Value) (A : Around) (outer : List Env) (s : Shared) (H : Hp) (E : XK) : Cx where
  prog := P
  w := w
  K := K
  mg := mg
  base := base
  A := A.deeper (envOfC qual scope s.heap.objs.size f cd)
  N := N
  s₀ := s
  H₀ := H
  env := envOfC qual scope s.heap.objs.size f cd
  outer := outer
  stack := envOfC qual scope s.heap.objs.size f cd :: outer
  ex := []
  calm := true
  fn := fun _ => true
  pn := []
  xe := fun e s' => wpAny (model P w) (A.deeper (envOfC qual scope s.heap.objs.size f cd)) (leaving (envOfC qual scope s.heap.objs.size f cd) e) (fun _ s'' => CX outer H s E e s'') (fun e' s'' => CX outer H s E e' s'') s'

theorem cell_has {sc : Scope} {n : Nat} {x : Str} (h : sc.names.lookup x = some .cell) : ∃ c, (cellsFrom n sc.names []).lookup x = some c := by
  have q := PySem.W.cellsFrom_some sc.names n [] (.inl h)
  exact Option.isSome_iff_exists.mp q

theorem inv_start {CX : CXT} {P : Program} {w : World} {K : PySem.W.Frag} {mg : Str → Option Value} {base : Heap} {N ps : List Str} {qual : Str} {scope : Scope} {f : Addr} {cd : Value} {A : Around} {outer : List Env} {s s1 : Shared} {H : Hp} {E : XK} {us : List Value} {vs : List V}
    (S : FnScope N ps scope) (hd : A.handled = none) (e0 : Env0 P w K mg base A outer s H) (hl : vs.length = ps.length) (r : Vals vs us)
    (x : InCallC s s.heap.objs.size (bindL (envOfC qual scope s.heap.objs.size f cd).kindOf (ps.zip us) fun _ => none) (cellsFrom (s.heap.objs.size + 1) scope.names []) (bindC (envOfC qual scope s.heap.objs.size f cd).kindOf (ps.zip us) fun _ => none) s1) :
    Inv (cxOf CX P w K mg base N qual scope f cd A outer s H E) [] (start N vs) H s1 := by
  have hpl : ps.length ≤ N.length := by have := congrArg List.length S.pre; rw [List.length_take] at this; omega
  obtain ⟨h1, tk, rfl, hk⟩ := x.done
  have noA : ∀ b : Addr, b ∉ (cxOf CX P w K mg base N qual scope f cd A outer s H E).ex := fun b z => absurd (show b ∈ ([] : List Addr) from z) (by simp)
  refine ⟨⟨e0.mod, S.kind, rfl, rfl, Nat.le_refl _, fun y z c h1 h2 => ?_, fun y hy => ?_, fun y c _ h => ?_, fun _ => hd, Around.frames_deeper e0.frames, .inr ⟨rfl, rfl⟩, fun b z => absurd z (noA b), e0.bs, e0.bsz, fun b _ _ => noA b, fun b z => absurd z (noA b), e0.funs, e0.frf⟩,
    rfl, e0.bare, Un.kept hk, ⟨_, x.toInCall.ns, fun i y v h1 h2 h3 => ?_⟩, fun y c h => ⟨_, x.cell y c h⟩, e0.hok.fresh (Nat.le_refl _), fun y c h => ?_, fun p hp => absurd (show p ∈ ([] : List (Addr × Obj)) from hp) (by simp), e0.hok.kept hk, ?_⟩
  · exact name_of_addr x.apart (PySem.mem_of_lookup h1) (PySem.mem_of_lookup h2)
  · have hy : scope.names.lookup y = some .cell ∨ scope.names.lookup y = some .free := hy
    rcases hy with hy | hy
    · exact cell_has hy
    · exact absurd rfl (S.nofree _ (PySem.mem_of_lookup hy))
  · exact Nat.le_of_lt (x.above y c (PySem.mem_of_lookup h))
  · have hi : i < vs.length := by
      unfold start at h2
      by_cases hi : i < vs.length
      · exact hi
      · rw [List.getElem?_append_right (by simpa using hi)] at h2
        rw [List.getElem?_replicate] at h2
        split at h2 <;> cases h2
    have ha : vs[i]? = some v := by
      unfold start at h2
      rw [List.getElem?_append_left (by simpa using hi), List.getElem?_map] at h2
      cases e : vs[i]? with
      | none => rw [e] at h2; cases h2
      | some a => rw [e] at h2; cases h2; rfl
    obtain ⟨u, hu, rv⟩ := r.get ha
    have hp : ps[i]? = some y := by
      rw [← S.pre, List.getElem?_take_of_lt (by omega)]; exact h1
    have ndP : ps.Nodup := by rw [← S.pre]; exact S.nd.sublist (List.take_sublist _ _)
    refine ⟨u, rv, ?_⟩
    rcases S.par y (List.mem_of_getElem? hp) with k | k
    · exact .inl ⟨k, bindL_get ndP hp hu k⟩
    · obtain ⟨c, e⟩ := cell_has (n := s.heap.objs.size + 1) k
      refine .inr ⟨.inl k, c, e, ?_⟩
      have q := x.cell y c e
      rw [bindC_get ndP hp hu (by show scope.names.lookup y ≠ _; rw [k]; decide)] at q
      exact q
  · exact e0.hok.fresh (Nat.le_of_lt (x.above y c (PySem.mem_of_lookup h)))
  · unfold start
    show _ = N.length
    rw [List.length_append, List.length_map, List.length_replicate]
    omega

/-- THE RULE: a def (or a method) of the text, by its body. The body's reading t is chosen for each entry; it is run at the parameters' values -/
theorem fn_of {CX : CXT} {P : Program} {w : World} {K : PySem.W.Frag} {mg : Str → Option Value} {base : Heap} {k : Nat} {f : Addr} {name qual : Str} {params : Arguments} {body : List Stmt} {scope : Scope} {dV kV doc pm cdv ct oc : Value} {an od : Option Addr}
    {osl : Array (Option Value)} {N ps : List Str} {sp : Sp} (lk : K.lookup f = some ⟨oc, od, .func (PySem.W.fnOf name qual params body scope dV kV doc pm an cdv ct), osl⟩) (hcd : PySem.W.codeIn K cdv qual = true) (S : FnScope N ps scope)
    (len : ∀ vs H Q E, sp vs H Q E → vs.length = ps.length)
    (hbody : ∀ (A : Around) (outer : List Env) (s : Shared) (H : Hp) (vs : List V) (Q : VK) (E : XK), Room k (A.deeper (envOfC qual scope s.heap.objs.size f cdv)) → sp vs H Q E →
      ∃ t, PSs (cxOf CX P w K mg base N qual scope f cdv A outer s H E) body t ∧ t { nx := fun _ H' => Q .non H', rt := Q } (start N vs) H) :
    FnOk P w K mg base CX (k + 1) f (PySem.W.fnOf name qual params body scope dV kV doc pm an cdv ct) ps sp := by
  refine ⟨len, fun A outer s H args us vs Q E hr e0 hb r hsp => ?_⟩
  have hl := len _ _ _ _ hsp
  have KX : K.In s.heap := e0.mod.kin.keeps fun b o e => (e0.bs b o e).1
  have lim : s.heap.NoLimit := e0.mod.nolimit.keeps fun b o e => (e0.bs b o e).1
  have hkind : ∀ y ∈ ps.zip us, scope.names.lookup y.1 = some .local ∨ (scope.names.lookup y.1 = some .cell ∧ ((cellsFrom (s.heap.objs.size + 1) scope.names []).lookup y.1).isSome = true) := fun ⟨n, v⟩ hy => by
    rcases S.par n (List.of_mem_zip hy).1 with q | q
    · exact .inl q
    · exact .inr ⟨q, PySem.W.cellsFrom_some _ _ _ (.inl q)⟩
  refine codeAny_call_function hr.depth (KX _ _ lk) rfl S.co S.gen rfl (PySem.W.codeRec_of KX hcd) (hb _ _ _ _ ?_)
  refine wpAny_newFunctionEnv_cells S.kind hkind fun env he s1 x => ?_
  subst he
  refine ⟨lim.keeps x.toInCall.keep, codeAny_func ?_⟩
  obtain ⟨t, ht, hq⟩ := hbody A outer s H vs Q E (hr.deeper _) hsp
  have I : Inv (cxOf CX P w K mg base N qual scope f cdv A outer s H E) [] (start N vs) H s1 := inv_start S hr.hd e0 hl r x
  refine wpAny_mono (ht [] s1 (start N vs) H _ I hq) (fun fl s' hs => ?_) fun e s' hs => hs
  have fin : ∀ {σ' : St} {H' : Hp} {v : V} {u : Value}, Inv (cxOf CX P w K mg base N qual scope f cdv A outer s H E) [] σ' H' s' → RelV v u → Q v H' → CE outer P w H s Q u s' :=
    fun {σ' H' v u} J rv q => ⟨v, H', J.os, J.bare, J.base, J.hok, rv, q⟩
  cases fl with
  | ret u =>
    obtain ⟨v, σ', H', J, rv, q⟩ := hs
    exact fin J rv q
  | next =>
    obtain ⟨σ', H', J, q⟩ := hs
    exact fin (v := V.non) (u := Value.none) J rfl q
  | brk =>
    obtain ⟨_, _, _, q⟩ := hs
    exact False.elim q
  | cont =>
    obtain ⟨_, _, _, q⟩ := hs
    exact False.elim q
end L2

namespace L2
open PySem PySem.Spec PyProof.Rows
section
variable {X : Cx} {x : Str} {p pos : Pos} {e : Expr} {es : List Expr} {t : TA} {id T : String} {r : List V → Hp → VK → Prop}

def tCB (r : List V → Hp → VK → Prop) (t : TA) : TE := fun σ H Q => t σ H fun vs H1 => r vs H1 Q
/-- f(e, ..), f a built-in function -/
theorem pe_callB (hc : CallR X (.builtin id) r) (hg : Gl X x) (hm : X.mg x = none) (hv : bootBuiltins x = some (.builtin id)) (ha : PA X (e :: es) t) (hn : x ≠ "__name__" := by decide) (hdb : (x == ("__debug__" : Str)) = false := by decide)
    (he : starEach (e :: es) X.env = (false, eval e X.env) :: starEach es X.env := by rfl) (hpl : (backTo pos (starEach es X.env)).any (·.1) = false := by rfl) : PE X (.Call (.Name x p) (e :: es) [] pos) (tCB r t) := by
  intro pins s σ H Q I h
  refine wpAny_Call_Name_kw (ld_blt I hg hm hv ?_ hn hdb)
  exact PyProof.Rows.callWith_builtin1 (thn (ha pos pins s σ H _ I h) fun us s1 ⟨vs, H1, I1, r1, q1⟩ => hc pins s1 σ H1 vs us Q I1 r1 q1) he hpl
/-- T(e, ..), T a built-in type -/
theorem pe_callTy (hc : CallR X (.type T) r) (hg : Gl X x) (hm : X.mg x = none) (hv : bootBuiltins x = some (.type T)) (ha : PA X (e :: es) t) (hn : x ≠ "__name__" := by decide) (hdb : (x == ("__debug__" : Str)) = false := by decide)
    (he : starEach (e :: es) X.env = (false, eval e X.env) :: starEach es X.env := by rfl) (hpl : (backTo pos (starEach es X.env)).any (·.1) = false := by rfl) : PE X (.Call (.Name x p) (e :: es) [] pos) (tCB r t) := by
  intro pins s σ H Q I h
  refine wpAny_Call_Name_kw (ld_blt I hg hm hv ?_ hn hdb)
  exact PyProof.Rows.callWith_type1 (thn (ha pos pins s σ H _ I h) fun us s1 ⟨vs, H1, I1, r1, q1⟩ => hc pins s1 σ H1 vs us Q I1 r1 q1) he hpl
end
end L2

namespace HT
open PySem PyProof.Rows

/-- t < u of tuples of ints -/
def lexLt : List Int → List Int → Bool
  | [], [] => false
  | [], _ :: _ => true
  | _ :: _, [] => false
  | x :: xs, y :: ys => if x = y then lexLt xs ys else decide (x < y)
section
open PySem.SeqAt
open PySem.AutoSeq1 (wpAny_loadPart')
open PySem.MeetsSeq PySem.MeetsSeq2 PySem.MeetsSeq3

end

section
variable {prog : Program} {w : World} {A : Around} {E : Value → Shared → Prop} {s : Shared}

/-! ### t[a:b], not the whole -/
/-- a slice's bound as a place among n (d where it is left out) -/
def sIx (n d : Nat) : Option Int → Nat
  | none => d
  | some v => if v < 0 then (v + (n : Int)).toNat else min v.toNat n
theorem sIx_none (n d : Nat) : sIx n d none = d := rfl
theorem sIx_nat (n d k : Nat) : sIx n d (some (k : Int)) = min k n := by
  show (if (k : Int) < 0 then ((k : Int) + (n : Int)).toNat else min (k : Int).toNat n) = min k n
  rw [if_neg (by omega), Int.toNat_natCast]
end
end HT

namespace L2
open PySem PySem.Spec PyProof.Rows

/-! ### the parts of a slice -/
abbrev TO := St → Hp → (Option Int → Hp → Prop) → Prop
/-- a slice's part (left out, or an int) -/
def PO (X : Cx) (e : Option Expr) (t : TO) : Prop :=
  ∀ (pins : List (Addr × Obj)) (s : Shared) (σ : St) (H : Hp) (Q : Option Int → Hp → Prop), Inv X pins σ H s → t σ H Q →
    wpAny (model X.prog X.w) X.A (evalPart e X.env) (fun u s' => ∃ o H', Inv X pins σ H' s' ∧ IsPart u o ∧ Q o H') X.xe s
def tNoPart : TO := fun _ H Q => Q none H
def tPart (t : TE) : TO := fun σ H Q => t σ H fun x H1 => ∃ i, x = .int i ∧ Q (some i) H1

section
variable {X : Cx} {e : Expr} {te : TE} {lo hi : Option Expr} {tl th : TO} {pos p2 : Pos}

theorem po_none : PO X none tNoPart := by
  intro pins s σ H Q I h
  rw [evalPart_none]
  exact wpAny_pure ⟨none, H, I, .none, h⟩
theorem po_some (h : PE X e te) : PO X (some e) (tPart te) := by
  intro pins s σ H Q I hw
  rw [evalPart_some]
  refine thn (h pins s σ H _ I hw) fun u s1 ⟨x, H1, I1, r1, q1⟩ => ?_
  obtain ⟨i, rfl, q⟩ := q1
  obtain ⟨t, rfl⟩ := r1
  exact ⟨some i, H1, I1, .int i t, q⟩

/-- what a slice of a value is, by values: the slice object stands at sl -/
def SlR (X : Cx) (r : V → Option Int → Option Int → Hp → VK → Prop) : Prop :=
  ∀ (pins : List (Addr × Obj)) (s : Shared) (σ : St) (H : Hp) (x : V) (v vl vu : Value) (lo hi : Option Int) (sl : Addr) (Q : VK), Inv X pins σ H s → RelV x v → s.heap.IsSliceOf sl vl vu .none → IsPart vl lo → IsPart vu hi → r x lo hi H Q →
    ∃ T id, typeLookup (.type T) "__getitem__" = pure (some (.builtin id)) ∧ s.TypeIs v T ∧ wpAny (model X.prog X.w) X.A (getItem v (.ref sl)) (EP X pins σ Q) X.xe s
def tSl (r : V → Option Int → Option Int → Hp → VK → Prop) (te : TE) (tl th : TO) : TE := fun σ H Q => te σ H fun x H1 => tl σ H1 fun l H2 => th σ H2 fun u H3 => r x l u H3 Q
/-- a[lo:hi], any a -/
theorem pe_slice {r : V → Option Int → Option Int → Hp → VK → Prop} (hr : SlR X r) (he : PE X e te) (hl : PO X lo tl) (hu : PO X hi th) : PE X (.Subscript e (.Slice lo hi none p2) pos) (tSl r te tl th) := by
  intro pins s σ H Q I h
  refine Subscript_ (thn (he pins s σ H _ I h) fun v s1 ⟨x, H1, I1, r1, q1⟩ => ?_)
  refine wpAny_Slice (thn (hl pins s1 σ H1 _ I1 q1) fun vl s2 ⟨l, H2, I2, pl, q2⟩ => thn (hu pins s2 σ H2 _ I2 q2) fun vu s3 ⟨u, H3, I3, pu, q3⟩ => ?_)
  rw [evalPart_none]
  refine wpAny_pure ?_
  have I4 : Inv X pins σ H3 { s3 with heap := s3.heap.push { cls := .type "slice", data := .fields #[vl, vu, .none] } } := I3.kept (t' := s3.toks) fun b ob q => Heap.get?_push_of_some _ q
  obtain ⟨T, id, hT, ht, hg⟩ := hr pins { s3 with heap := s3.heap.push { cls := .type "slice", data := .fields #[vl, vu, .none] } } σ H3 x v vl vu l u s3.heap.objs.size Q I4 r1 (Heap.IsSliceOf.new ..) pl pu q3
  show wpAny (model X.prog X.w) X.A (subscriptTail e (.Slice lo hi none p2) v (.ref s3.heap.objs.size)) (EP X pins σ Q) X.xe { s3 with heap := s3.heap.push { cls := .type "slice", data := .fields #[vl, vu, .none] } }
  exact tail_any (ops := [.ref s3.heap.objs.size, v]) ht hT hg (by with_unfolding_all rfl)

/-- the items of xs[lo:hi] -/
def cutV (xs : List V) (lo hi : Option Int) : List V := (xs.drop (HT.sIx xs.length 0 lo)).take (HT.sIx xs.length xs.length hi - HT.sIx xs.length 0 lo)
theorem cutV_length (xs : List V) (lo hi : Option Int) : (cutV xs lo hi).length ≤ xs.length := by
  unfold cutV
  rw [List.length_take, List.length_drop]
  omega
/-- t[lo:hi], not the whole of it (the whole would be t itself) -/
def rSlT (K : PySem.W.Frag) : V → Option Int → Option Int → Hp → VK → Prop := fun x lo hi H Q => ∃ a xs, x = .ref a ∧ SqT K H a xs ∧
  ¬ (HT.sIx xs.length 0 lo = 0 ∧ HT.sIx xs.length xs.length hi = xs.length) ∧ ∀ p, H p = none → Q (.ref p) (upd H p (.tup (cutV xs lo hi)))
/-! ### t < u, t + u -/
def rLtT (K : PySem.W.Frag) : R2 := fun x y H Q => ∃ a b ns ms, x = .ref a ∧ y = .ref b ∧ SqT K H a (ns.map V.int) ∧ SqT K H b (ms.map V.int) ∧ Q (.bl (HT.lexLt ns ms)) H
/-- t + u, t not empty: u empty gives t itself -/
def rCatT (K : PySem.W.Frag) : R2 := fun x y H Q => ∃ a b xs ys, x = .ref a ∧ y = .ref b ∧ SqT K H a xs ∧ SqT K H b ys ∧ xs ≠ [] ∧ xs.length + ys.length ≤ sizeLine ∧
  (ys = [] → Q (.ref a) H) ∧ (ys ≠ [] → ∀ p, H p = none → Q (.ref p) (upd H p (.tup (xs ++ ys))))
end
end L2

namespace L2
open PySem PySem.Spec PyProof.Rows

/-! ### places -/
/-- the place that an index of any sign means -/
def ixN (n : Nat) (i : Int) : Option Nat := if 0 ≤ i then (if i < n then some i.toNat else none) else if -(n : Int) ≤ i then some (i + n).toNat else none
def atI {α : Type} (xs : List α) (i : Int) : Option α := (ixN xs.length i).bind fun j => xs[j]?
theorem ixN_seq {n : Nat} {i : Int} {j : Nat} (h : ixN n i = some j) : seqIndex? i n = some j ∧ j < n ∧ -(n : Int) ≤ i ∧ i < n := by
  unfold ixN at h
  by_cases h0 : 0 ≤ i
  · rw [if_pos h0] at h
    by_cases h1 : i < n
    · rw [if_pos h1] at h
      have e : i.toNat = j := Option.some.inj h
      exact ⟨by rw [seqIndex_of h0 h1, e], by omega, by omega, h1⟩
    · rw [if_neg h1] at h; cases h
  · rw [if_neg h0] at h
    by_cases h1 : -(n : Int) ≤ i
    · rw [if_pos h1] at h
      have e : (i + n).toNat = j := Option.some.inj h
      exact ⟨by rw [seqIndex_neg (by omega) h1, e], by omega, h1, by omega⟩
    · rw [if_neg h1] at h; cases h
theorem atI_get {α : Type} {xs : List α} {i : Int} {v : α} (h : atI xs i = some v) : ∃ j, seqIndex? i xs.length = some j ∧ xs[j]? = some v ∧ j < xs.length ∧ -(xs.length : Int) ≤ i ∧ i < xs.length := by
  unfold atI at h
  cases e : ixN xs.length i with
  | none => rw [e] at h; cases h
  | some j =>
    rw [e] at h
    obtain ⟨h1, h2, h3, h4⟩ := ixN_seq e
    exact ⟨j, h1, h, h2, h3, h4⟩
theorem atI_nat {α : Type} {xs : List α} {j : Nat} {v : α} (h : xs[j]? = some v) : atI xs (j : Int) = some v := by
  have hj : j < xs.length := (List.getElem?_eq_some_iff.mp h).1
  have e : ixN xs.length (j : Int) = some j := by
    unfold ixN
    rw [if_pos (by omega), if_pos (by omega)]; simp
  unfold atI; rw [e]; exact h
theorem atI_last {α : Type} (xs : List α) (v : α) : atI (xs ++ [v]) (-1) = some v := by
  have hl : (xs ++ [v]).length = xs.length + 1 := by simp
  have e : ixN (xs ++ [v]).length (-1) = some xs.length := by
    unfold ixN
    rw [hl, if_neg (by decide), if_pos (by omega)]
    congr 1
    omega
  unfold atI
  rw [e]
  show (xs ++ [v])[xs.length]? = some v
  simp

/-! ### what may be subscripted -/
/-- what stands as an index of a plain subscript -/
def PlainIx (b : Expr) : Prop := ∀ o i, subscripted b false o i = operate [o, i] (getItem o i)
/-- a subscript by values -/
def IxR (X : Cx) (r : R2) : Prop :=
  ∀ (value slice : Expr) (pins : List (Addr × Obj)) (s : Shared) (σ : St) (H : Hp) (x y : V) (v u : Value) (Q : VK), Inv X pins σ H s → RelV x v → RelV y u → r x y H Q →
    subscripted slice false v u = operate [v, u] (getItem v u) → wpAny (model X.prog X.w) X.A (subscriptTail value slice v u) (EP X pins σ Q) X.xe s
/-- a call of a builtin's method by values: the receiver, the arguments -/
def MtR (X : Cx) (id : String) (r : V → List V → Hp → VK → Prop) : Prop :=
  ∀ (pins : List (Addr × Obj)) (s : Shared) (σ : St) (H : Hp) (x : V) (xs : List V) (v : Value) (us : List Value) (Q : VK), Inv X pins σ H s → RelV x v → Vals xs us → r x xs H Q →
    wpAny (model X.prog X.w) X.A (call (.builtin id) (v :: us)) (EP X pins σ Q) X.xe s
section
variable {X : Cx} {a b : Expr} {ta tb : TE} {pos : Pos}
/-- a[b] -/
theorem pe_ix {r : R2} (hr : IxR X r) (ha : PE X a ta) (hb : PE X b tb) (hs : PlainIx b) : PE X (.Subscript a b pos) (tOp r ta tb) := by
  intro pins s σ H Q I h
  exact Subscript_ (binT ha hb I h fun v u s2 x y H2 I2 rx ry q => hr a b pins s2 σ H2 x y v u Q I2 rx ry q (hs _ _))

def rIxL (K : PySem.W.Frag) : R2 := fun x y H Q => ∃ p xs i v, x = .ref p ∧ y = .int i ∧ SqL K H p xs ∧ atI xs i = some v ∧ Q v H
def rIxT (K : PySem.W.Frag) : R2 := fun x y H Q => ∃ p xs i v, x = .ref p ∧ y = .int i ∧ SqT K H p xs ∧ atI xs i = some v ∧ Q v H
def rIxS : R2 := fun x y H Q => ∃ z i c, x = .str z ∧ y = .int i ∧ z.length ≤ sizeLine ∧ atI z.cps.toList i = some c ∧ Q (.str ⟨#[c]⟩) H
theorem ix_list : IxR X (rIxL X.K) := by
  intro value slice pins s σ H x y v u Q I rx ry h hs
  obtain ⟨p, xs, i, z, rfl, rfl, hq, he, q⟩ := h
  cases rx
  obtain ⟨t, rfl⟩ := ry
  obtain ⟨its, r, pl, hz⟩ := I.list hq
  obtain ⟨j, h1, h2, h3, h4, h5⟩ := atI_get he
  obtain ⟨w, ew, rw'⟩ := r.get h2
  have hl := r.length
  have hn := line63
  have fin : EP X pins σ Q w s := ⟨z, H, I, rw', q⟩
  by_cases h0 : 0 ≤ i
  · have hj : i.toNat = j := by
      rw [seqIndex_of h0 h5] at h1
      exact Option.some.inj h1
    exact item_listR pl.isList h0 (by omega) (by rw [hj]; simpa using ew) fin hs
  · have hj : (i + (its.toArray.size : Int)).toNat = j := by
      rw [seqIndex_neg (by omega) h4] at h1
      rw [List.size_toArray, ← hl]
      exact Option.some.inj h1
    exact subscriptTail_builtinR (x := w) pl.isList.typeIs slot_list_getitem.lookup
      (wpAny_getItem_list_neg (Q := fun r s' => r = w ∧ EP X pins σ Q r s') pl.isList (by omega) (by rw [List.size_toArray] <;> omega) (by omega) (by rw [hj]; simpa using ew) ⟨rfl, fin⟩) hs
theorem ix_tup : IxR X (rIxT X.K) := by
  intro value slice pins s σ H x y v u Q I rx ry h hs
  obtain ⟨p, xs, i, z, rfl, rfl, hq, he, q⟩ := h
  cases rx
  obtain ⟨t, rfl⟩ := ry
  obtain ⟨its, r, pl, hz⟩ := I.tuple hq
  obtain ⟨j, h1, h2, h3, h4, h5⟩ := atI_get he
  obtain ⟨w, ew, rw'⟩ := r.get h2
  have hl := r.length
  have hn := line63
  have fin : EP X pins σ Q w s := ⟨z, H, I, rw', q⟩
  exact subscriptTail_builtinR (x := w) pl.typeIs slot_tuple_getitem.lookup
    (getItem_tuple (j := j) (Q := fun r s' => r = w ∧ EP X pins σ Q r s') pl (by omega) (by omega) (by rw [List.size_toArray, ← hl]; exact h1) (by simpa using ew) ⟨rfl, fin⟩) hs
theorem ix_str : IxR X rIxS := by
  intro value slice pins s σ H x y v u Q I rx ry h hs
  obtain ⟨z, i, c, rfl, rfl, hz, he, q⟩ := h
  obtain ⟨t, rfl⟩ := rx
  obtain ⟨t', rfl⟩ := ry
  obtain ⟨j, h1, h2, h3, h4, h5⟩ := atI_get he
  have hl : z.cps.toList.length = z.length := by simp [Str.length]
  rw [hl] at h1 h4 h5
  have hn := line63
  exact tail_any (typeIs_str s z t) slot_str_getitem.lookup (getItem_str (c := c) (by
    have e1 : decide (i < -(2 ^ 63 : Int)) = false := decide_eq_false (by omega)
    have e2 : decide (i ≥ 2 ^ 63) = false := decide_eq_false (by omega)
    rw [e1, e2, Bool.or_false]) (by rw [h1]; simpa using h2) ⟨.str ⟨#[c]⟩, H, I.tok _, ⟨_, rfl⟩, q⟩) hs
/-- list, tuple or str -/
def rIx (K : PySem.W.Frag) : R2 := fun x y H Q => rIxL K x y H Q ∨ rIxT K x y H Q ∨ rIxS x y H Q
/-! ### xs[i] = v, any sign -/
def rSetL : V → V → V → Hp → (Hp → Prop) → Prop := fun o i v H Q => ∃ p xs k j, o = .ref p ∧ i = .int k ∧ H p = some (.lst xs) ∧ ixN xs.length k = some j ∧ Q (upd H p (.lst (xs.set j v)))
/-! ### slices -/
theorem slice_bounds (lo hi : Option Int) (n : Nat) : (sliceBounds lo hi none n).1 = ((HT.sIx n 0 lo : Nat) : Int) ∧ (sliceBounds lo hi none n).2.1 = ((HT.sIx n n hi : Nat) : Int) ∧ (sliceBounds lo hi none n).2.2 = 1 := by
  refine ⟨?_, ?_, rfl⟩
  · cases lo with
    | none => simp [sliceBounds, HT.sIx]
    | some i =>
      simp only [sliceBounds, HT.sIx, Option.getD_none, show (1 : Int) > 0 by decide, if_true]
      by_cases h : i < 0
      · simp only [h, if_true] <;> omega
      · simp only [h, if_false] <;> omega
  · cases hi with
    | none => simp [sliceBounds, HT.sIx]
    | some i =>
      simp only [sliceBounds, HT.sIx, Option.getD_none, show (1 : Int) > 0 by decide, if_true]
      by_cases h : i < 0
      · simp only [h, if_true] <;> omega
      · simp only [h, if_false] <;> omega
theorem slicePick_cut (its : List Value) (lo hi : Option Int) : slicePick its.toArray lo hi none = ((its.drop (HT.sIx its.length 0 lo)).take (HT.sIx its.length its.length hi - HT.sIx its.length 0 lo)).toArray := by
  obtain ⟨h1, h2, h3⟩ := slice_bounds lo hi its.toArray.size
  unfold slicePick
  rw [h1, h2, h3]
  simp only [sliceRange_one, pick_run, List.size_toArray] <;> rfl
/-- xs[lo:hi] of a list: a new list -/
def rSlL (K : PySem.W.Frag) : V → Option Int → Option Int → Hp → VK → Prop := fun x lo hi H Q => ∃ a xs, x = .ref a ∧ SqL K H a xs ∧ ∀ p, H p = none → Q (.ref p) (upd H p (.lst (cutV xs lo hi)))
theorem sl_list : SlR X (rSlL X.K) := by
  intro pins s σ H x v vl vu lo hi sl Q I rx hs pl pu h
  obtain ⟨a, xs, rfl, hx, q⟩ := h
  cases rx
  obtain ⟨its, r, ht, hz⟩ := I.list hx
  have hlen := r.length
  refine ⟨"list", _, slot_list_getitem.lookup, ht.isList.typeIs, ?_⟩
  refine wpAny_getItem_list_slice ht.isList hs pl pu .none (by simp) ?_ (by rw [List.size_toArray] <;> omega)
  rw [slicePick_cut, ← hlen]
  refine ⟨.ref s.heap.objs.size, _, I.laid (t' := s.toks) (o := .lst (cutV xs lo hi)) (fun b ob q => Heap.get?_push_of_some _ q) (Nat.le_refl _) ?_, rfl, q _ (I.hok.fresh (Nat.le_refl _))⟩
  exact ⟨Nat.le_trans (cutV_length xs lo hi) hz, _, 0, (r.drop (HT.sIx xs.length 0 lo)).take (HT.sIx xs.length xs.length hi - HT.sIx xs.length 0 lo), Heap.get?_push_size _ rfl⟩

/-! ### in, not in: flat items -/
def flatV : V → Bool
  | .non => true
  | .bl _ => true
  | .int _ => true
  | .str _ => true
  | _ => false
/-- == of flat values -/
def eqV : V → V → Bool
  | .non, .non => true
  | .bl a, .bl b => a == b
  | .bl a, .int b => (if a then 1 else 0) == b
  | .int a, .bl b => a == (if b then 1 else 0)
  | .int a, .int b => a == b
  | .str a, .str b => a == b
  | _, _ => false
theorem eqAt_V {A : Around} {s : Shared} {y x : V} {u v : Value} (ry : RelV y u) (rx : RelV x v) (fy : flatV y = true) (fx : flatV x = true) : SeqAt.EqAt A s u v (eqV y x) := by
  cases y with
  | non =>
    cases ry
    cases x with
    | non => cases rx; exact SeqAt.EqAt.same _
    | bl b => cases rx; exact SeqAt.EqAt.none_bool b
    | int b => obtain ⟨t, rfl⟩ := rx; exact SeqAt.EqAt.none_int b t
    | str b => obtain ⟨t, rfl⟩ := rx; exact SeqAt.EqAt.none_str b t
    | _ => exact absurd (show false = true from fx) Bool.false_ne_true
  | bl a =>
    cases ry
    cases x with
    | non => cases rx; exact SeqAt.EqAt.bool_none a
    | bl b => cases rx; exact SeqAt.EqAt.bool_bool a b
    | int b => obtain ⟨t, rfl⟩ := rx; exact SeqAt.EqAt.bool_int a b t
    | str b => obtain ⟨t, rfl⟩ := rx; exact SeqAt.EqAt.bool_str a b t
    | _ => exact absurd (show false = true from fx) Bool.false_ne_true
  | int a =>
    obtain ⟨t', rfl⟩ := ry
    cases x with
    | non => cases rx; exact SeqAt.EqAt.int_none a t'
    | bl b => cases rx; exact SeqAt.EqAt.int_bool a t' b
    | int b => obtain ⟨t, rfl⟩ := rx; exact SeqAt.EqAt.int_int a t' b t
    | str b => obtain ⟨t, rfl⟩ := rx; exact SeqAt.EqAt.int_str a t' b t
    | _ => exact absurd (show false = true from fx) Bool.false_ne_true
  | str a =>
    obtain ⟨t', rfl⟩ := ry
    cases x with
    | non => cases rx; exact SeqAt.EqAt.str_none a t'
    | bl b => cases rx; exact SeqAt.EqAt.str_bool a t' b
    | int b => obtain ⟨t, rfl⟩ := rx; exact SeqAt.EqAt.str_int a t' b t
    | str b => obtain ⟨t, rfl⟩ := rx; exact SeqAt.EqAt.str_str a t' b t
    | _ => exact absurd (show false = true from fx) Bool.false_ne_true
  | _ => exact absurd (show false = true from fy) Bool.false_ne_true
/-- the items' answers, read off the values (a value's own answer does not lean on its token) -/
def eqU (x : V) (u : Value) : Bool := match u with
  | .none => eqV .non x
  | .bool b => eqV (.bl b) x
  | .int i _ => eqV (.int i) x
  | .str z _ => eqV (.str z) x
  | _ => false
theorem eqU_of {x y : V} {u : Value} (r : RelV y u) (f : flatV y = true) : eqU x u = eqV y x := by
  cases y with
  | non => cases r; rfl
  | bl b => cases r; rfl
  | int i => obtain ⟨t, rfl⟩ := r; rfl
  | str z => obtain ⟨t, rfl⟩ := r; rfl
  | _ => exact absurd (show false = true from f) Bool.false_ne_true
theorem any_eqU {x : V} : ∀ {xs : List V} {us : List Value}, Vals xs us → xs.all flatV = true → us.any (eqU x) = xs.any fun y => eqV y x
  | _, _, .nil, _ => rfl
  | y :: xs, u :: us, .cons r t, f => by
    rw [List.all_cons, Bool.and_eq_true] at f
    rw [List.any_cons, List.any_cons, eqU_of r f.1, any_eqU t f.2]
theorem mem_eqAt {A : Around} {s : Shared} {x : V} {v : Value} (rx : RelV x v) (fx : flatV x = true) : ∀ {xs : List V} {us : List Value}, Vals xs us → xs.all flatV = true → ∀ u ∈ us, SeqAt.EqAt A s u v (eqU x u)
  | _, _, .nil, _ => fun u hu => by cases hu
  | y :: xs, u :: us, .cons r t, f => fun u' hu => by
    rw [List.all_cons, Bool.and_eq_true] at f
    rcases List.mem_cons.mp hu with rfl | hu
    · rw [eqU_of r f.1]; exact eqAt_V r rx f.1 fx
    · exact mem_eqAt rx fx t f.2 u' hu
def inV (x : V) (xs : List V) : Bool := xs.any fun y => eqV y x
/-- x in a list or tuple of flat items -/
def rIn (K : PySem.W.Frag) (neg : Bool) : R2 := fun x y H Q => ∃ p xs, y = .ref p ∧ (SqL K H p xs ∨ SqT K H p xs) ∧ flatV x = true ∧ xs.all flatV = true ∧ Q (.bl (if neg then !inV x xs else inV x xs)) H
theorem op_notIn_seq : OpR X (compareOp .NotIn) (rIn X.K true) := by
  intro pins s σ H x y v u Q I rx ry h
  obtain ⟨p, xs, rfl, hq, fx, fs, q⟩ := h
  cases ry
  rcases hq with hq | hq
  · obtain ⟨its, r, pl, hz⟩ := I.list hq
    refine SeqAt.notIn_listAt (eqU x) pl.isList (fun w hw => mem_eqAt rx fx r fs w (by simpa using hw)) ⟨.bl _, H, I, rfl, ?_⟩
    rw [show its.toArray.any (eqU x) = its.any (eqU x) by simp, any_eqU r fs]
    exact q
  · obtain ⟨its, r, pl, hz⟩ := I.tuple hq
    refine SeqAt.notIn_tupleAt (eqU x) pl (fun w hw => mem_eqAt rx fx r fs w (by simpa using hw)) ⟨.bl _, H, I, rfl, ?_⟩
    rw [show its.toArray.any (eqU x) = its.any (eqU x) by simp, any_eqU r fs]
    exact q
/-! ### len, list(x), tuple(x) of any list or tuple that is read -/
theorem call_len_seq : CallR X (.builtin "len") (fun xs H Q => ∃ p ys, xs = [.ref p] ∧ (SqL X.K H p ys ∨ SqT X.K H p ys) ∧ Q (.int ys.length) H) := by
  intro pins s σ H xs us Q I r h
  obtain ⟨p, ys, rfl, hq, q⟩ := h
  obtain ⟨u, rfl, rx⟩ := vals1 r
  cases rx
  have hn := line63
  rcases hq with hq | hq
  · obtain ⟨its, r', pl, hz⟩ := I.list hq
    have hlen := r'.length
    exact Calls.call_len_list pl.isList (by simp only [List.size_toArray] <;> omega) ⟨.int ys.length, H, I.tok _, ⟨s.toks + 1, by rw [List.size_toArray, hlen]⟩, q⟩
  · obtain ⟨its, r', pl, hz⟩ := I.tuple hq
    have hlen := r'.length
    exact len_tuple pl (by simp only [List.size_toArray] <;> omega) ⟨.int ys.length, H, I.tok _, ⟨s.toks + 1, by rw [List.size_toArray, hlen]⟩, q⟩
theorem call_list_of : CallR X (.type "list") (fun xs H Q => ∃ p ys, xs = [.ref p] ∧ (SqL X.K H p ys ∨ SqT X.K H p ys) ∧ ∀ l, H l = none → Q (.ref l) (upd H l (.lst ys))) := by
  intro pins s σ H xs us Q I r h
  obtain ⟨p, ys, rfl, hq, q⟩ := h
  obtain ⟨u, rfl, rx⟩ := vals1 r
  cases rx
  have fin : ∀ (its : List Value), Vals ys its → ys.length ≤ sizeLine → ∀ (h' : Heap) (c' : Nat), (∀ b o', s.heap.get? b = some o' → h'.get? b = some o') →
      h'.get? s.heap.objs.size = some { cls := .type "list", dict := none, data := .seq its.toArray c', slots := #[] } → EP X pins σ Q (.ref s.heap.objs.size) { s with heap := h' } := fun its r' hz h' c' kp e =>
    ⟨.ref s.heap.objs.size, _, I.laid (t' := s.toks) kp (Nat.le_refl _) (show ObjOk X.prog X.w _ h' _ (.lst ys) from ⟨hz, its, c', r', e⟩), rfl, q _ (I.hok.fresh (Nat.le_refl _))⟩
  rcases hq with hq | hq
  · obtain ⟨its, r', pl, hz⟩ := I.list hq
    have hlen := r'.length
    obtain ⟨o, ho, hc, n, hd⟩ := pl.isList
    exact call_list_seq p (.inl rfl) ho hc hd (fun h' c' kp e => fin its r' hz h' c' kp e) (by simp only [List.size_toArray] <;> omega)
  · obtain ⟨its, r', pl, hz⟩ := I.tuple hq
    have hlen := r'.length
    obtain ⟨o, ho, hc, n, hd⟩ := pl
    exact call_list_seq p (.inr rfl) ho hc hd (fun h' c' kp e => fin its r' hz h' c' kp e) (by simp only [List.size_toArray] <;> omega)
/-! ### the call of a builtin's method: o.m(..) -/
/-- the value is of that builtin type -/
def tyV (K : PySem.W.Frag) (T : String) (x : V) (H : Hp) : Prop := match x with
  | .str _ => T = "str"
  | .int _ => T = "int"
  | .ref p => (T = "list" ∧ ∃ xs, SqL K H p xs) ∨ (T = "tuple" ∧ ∃ o, K.lookup p = some o ∧ o.cls = .type "tuple" ∧ o.dict = none) ∨
      (T = "dict" ∧ ((∃ kvs, H p = some (.dK kvs)) ∨ ∃ kvs, H p = some (.dT kvs))) ∨ (T = "set" ∧ ∃ S n, H p = some (.set S n))
  | _ => False
theorem tyV_is {pins : List (Addr × Obj)} {σ : St} {H : Hp} {s : Shared} {T : String} {x : V} {v : Value} (I : Inv X pins σ H s) (r : RelV x v) (ty : tyV X.K T x H) :
    s.TypeIs v T ∧ ∀ a, v = .ref a → ∃ ob, s.heap.get? a = some ob ∧ ob.dict = none := by
  cases x with
  | str z =>
    obtain ⟨t, rfl⟩ := r
    cases (show T = "str" from ty)
    exact ⟨typeIs_str s z t, fun _ e => nomatch e⟩
  | int i =>
    obtain ⟨t, rfl⟩ := r
    cases (show T = "int" from ty)
    exact ⟨typeIs_int s i t, fun _ e => nomatch e⟩
  | ref p =>
    cases r
    rcases ty with ⟨rfl, xs, hq⟩ | ⟨rfl, o, hk, hc, hd⟩ | ⟨rfl, hk⟩ | ⟨rfl, S, n, hk⟩
    · obtain ⟨its, _, pl, _⟩ := I.list hq
      refine ⟨pl.isList.typeIs, fun a e => ?_⟩
      cases e
      obtain ⟨o, n, e, c, hd, _⟩ := pl
      exact ⟨o, e, hd⟩
    · refine ⟨⟨o, I.kIn p o hk, hc⟩, fun a e => ?_⟩
      cases e
      exact ⟨o, I.kIn _ o hk, hd⟩
    · have z : ∃ o, s.heap.get? p = some o ∧ o.ExactDict := by
        rcases hk with ⟨kvs, hk⟩ | ⟨kvs, hk⟩
        · obtain ⟨_, _, _, _, o, _, _, e, ex, _⟩ := I.hok p _ hk
          exact ⟨o, e, ex⟩
        · obtain ⟨_, _, _, _, o, _, _, e, ex, _⟩ := I.hok p _ hk
          exact ⟨o, e, ex⟩
      obtain ⟨o, e, ex⟩ := z
      refine ⟨⟨o, e, ex.1⟩, fun a e2 => ?_⟩
      cases e2
      exact ⟨o, e, ex.2.1⟩
    · obtain ⟨o, _, _, _, e, ex, _⟩ := I.hok p _ hk
      refine ⟨⟨o, e, ex.1⟩, fun a e2 => ?_⟩
      cases e2
      exact ⟨o, e, ex.2.1⟩
  | _ => exact False.elim ty
def tBM0 (K : PySem.W.Frag) (T : String) (r : V → List V → Hp → VK → Prop) (to : TE) : TE := fun σ H Q => to σ H fun x H1 => tyV K T x H1 ∧ r x [] H1 Q
def tBM (K : PySem.W.Frag) (T : String) (r : V → List V → Hp → VK → Prop) (to : TE) (t : TA) : TE := fun σ H Q => to σ H fun x H1 => tyV K T x H1 ∧ t σ H1 fun xs H2 => r x xs H2 Q
variable {o e : Expr} {es : List Expr} {to : TE} {t : TA} {name : Str} {apos cpos : Pos} {T id : String} {r : V → List V → Hp → VK → Prop}
theorem pe_bm0 (pa : PlainAttrs T) (slot : Slot T name id) (hty : typeOf (.builtin id) = pure (.type "method_descriptor")) (hm : MtR X id r) (ho : PE X o to)
    (hbase : attributeBase o name X.env (eval o X.env) = eval o X.env := by rfl) (hline : (apos.endLine == cpos.line) = true := by rfl) : PE X (.Call (.Attribute o name apos) [] [] cpos) (tBM0 X.K T r to) := by
  intro pins s σ H Q I h
  refine wpAny_Call_method0_late hbase hline (thn (ho pins s σ H _ I h) fun v s1 ⟨x, H1, I1, r1, ty, q1⟩ => ?_)
  obtain ⟨h1, h2⟩ := tyV_is I1 r1 ty
  exact ⟨T, id, pa, slot, hty, h1, h2, Calls.callWith_builtin rfl (PySem.evalArgs_none (hm pins s1 σ H1 x [] v [] Q I1 r1 .nil q1))⟩
theorem pe_bm (pa : PlainAttrs T) (slot : Slot T name id) (hty : typeOf (.builtin id) = pure (.type "method_descriptor")) (hm : MtR X id r) (ho : PE X o to) (ha : PA X (e :: es) t)
    (hbase : attributeBase o name X.env (eval o X.env) = eval o X.env := by rfl)
    (hfew : ((backTo cpos (starEach (e :: es) X.env)).all (fun x => !x.1) && (backToKw cpos (keywordEach [] X.env)).all (fun x => x.1.isSome)
      && decide ((e :: es).length + ([] : List Keyword).length + (if ([] : List Keyword).isEmpty then 0 else 1) < 30)) = true := by rfl)
    (hline : (apos.endLine == cpos.line) = true := by rfl) (hs : starEach (e :: es) X.env = (false, eval e X.env) :: starEach es X.env := by rfl) (hplain : (backTo cpos (starEach es X.env)).any (·.1) = false := by rfl) :
    PE X (.Call (.Attribute o name apos) (e :: es) [] cpos) (tBM X.K T r to t) := by
  intro pins s σ H Q I h
  refine wpAny_Call_method_late hbase hfew hline rfl (thn (ho pins s σ H _ I h) fun v s1 ⟨x, H1, I1, r1, ty, q1⟩ => ?_)
  obtain ⟨h1, h2⟩ := tyV_is I1 r1 ty
  refine ⟨T, id, pa, slot, hty, h1, h2, ?_⟩
  have hA := ha cpos pins s1 σ H1 _ I1 q1
  rw [hs] at hA ⊢
  refine Calls.callWith_builtin (by show (false || (backTo cpos (starEach es X.env)).any (·.1)) = false; rw [hplain] <;> rfl) (Calls.evalArgs_plain ?_)
  exact thn hA fun us s2 ⟨vs, H2, I2, r2, q2⟩ => hm pins s2 σ H2 x vs v us Q I2 r1 r2 q2
/- xs.append(e), list.index on a module's tuple .. are MtR facts of 06m -/
end
end L2

namespace L2
open PySem PySem.Spec PyProof.Rows

def MtM (X : Cx) (id : String) (r : V → List V → Hp → VK → Prop) : Prop :=
  ∀ (pins : List (Addr × Obj)) (s : Shared) (σ : St) (H : Hp) (x : V) (xs : List V) (v : Value) (us : List Value) (Q : VK), Inv X pins σ H s → RelV x v → Vals xs us → r x xs H Q →
    wpAny (model X.prog X.w) X.A (call (.builtin id) (v :: us)) (EP X pins σ Q) X.xe s

/-! ### lists of values -/
theorem Vals.one : ∀ {x : V} {us : List Value}, Vals [x] us → ∃ u, us = [u] ∧ RelV x u
  | _, _, .cons r .nil => ⟨_, rfl, r⟩
theorem Vals.zero : ∀ {us : List Value}, Vals [] us → us = []
  | _, .nil => rfl
theorem Vals.dropLast {xs : List V} {us : List Value} (h : Vals xs us) : Vals xs.dropLast us.dropLast := by
  induction h with
  | nil => exact .nil
  | cons r t ih =>
    cases t with
    | nil => exact .nil
    | cons q t' => exact .cons r ih
theorem erase_last {α : Type} (l : List α) : l.eraseIdx (l.length - 1) = l.dropLast := by
  induction l with
  | nil => rfl
  | cons a r ih =>
    cases r with
    | nil => rfl
    | cons b r =>
      have e : (a :: b :: r).length - 1 = ((b :: r).length - 1) + 1 := by
        have h1 : (a :: b :: r).length = r.length + 2 := rfl
        have h2 : (b :: r).length = r.length + 1 := rfl
        omega
      rw [e, List.eraseIdx_cons_succ, ih]
      all_goals rfl
section
variable {X : Cx} {pins : List (Addr × Obj)} {σ : St} {H : Hp} {s : Shared} {l b : Addr} {xs ys zs : List V}

/-! ### the two steps: a tracked list is rewritten, a new list is laid -/
theorem Inv.lset {its its' : List Value} {n : Nat} {f : Array Value → Array Value} {t' : Nat} (I : Inv X pins σ H s) (hH : H l = some (.lst xs))
    (e : s.heap.get? l = some { cls := .type "list", data := .seq its.toArray n }) (hf : f its.toArray = its'.toArray) (hv : Vals ys its') (hz : ys.length ≤ sizeLine) :
    Inv X pins σ (upd H l (.lst ys)) { s with heap := s.heap.update l (Obj.mapSeq f), toks := t' } := by
  have q := PySem.IsL.update e f
  rw [hf] at q
  refine I.write (x := l) (e := l) (by rw [hH]; exact trivial) (.inl rfl) (fun b' u hb hu => (Heap.get?_update_other s.heap (Obj.mapSeq f) (Ne.symm hb)).trans hu) ⟨_, q⟩ ?_
  exact ⟨hz, its', _, hv, q⟩
theorem Inv.lnew {its : List Value} {t' : Nat} (I : Inv X pins σ H s) (hv : Vals ys its) (hz : ys.length ≤ sizeLine) :
    Inv X pins σ (upd H s.heap.objs.size (.lst ys)) { s with heap := s.heap.push { cls := .type "list", data := .seq its.toArray }, toks := t' } :=
  I.laid (fun _ _ q => Heap.get?_push_of_some _ q) (Nat.le_refl _) ⟨hz, its, 0, hv, Heap.get?_push_size _ rfl⟩
theorem Inv.fresh (I : Inv X pins σ H s) : H s.heap.objs.size = none := I.hok.fresh (Nat.le_refl _)
theorem Inv.lstM (I : Inv X pins σ H s) (hH : H l = some (.lst xs)) : xs.length ≤ sizeLine ∧ ∃ (its : List Value) (n : Nat), Vals xs its ∧ xs.length = its.length ∧ s.heap.get? l = some { cls := .type "list", data := .seq its.toArray n } := by
  obtain ⟨z, its, n, r, e⟩ := I.hok l _ hH
  exact ⟨z, its, n, r, r.length, e⟩

end

section
variable {X : Cx}

/-! ### methods -/
def rAppend : V → List V → Hp → VK → Prop := fun x vs H Q => ∃ l xs y, x = .ref l ∧ vs = [y] ∧ H l = some (.lst xs) ∧ xs.length < sizeLine ∧ Q .non (upd H l (.lst (xs ++ [y])))
theorem mt_append : MtM X "list.append" rAppend := by
  intro pins s σ H x vs v us Q I rx rv h
  obtain ⟨l, xs, y, rfl, rfl, hH, hz, q⟩ := h
  cases rx
  obtain ⟨u, rfl, ru⟩ := rv.one
  obtain ⟨z, its, n, r, hl, e⟩ := I.lstM hH
  refine call_meets F.slot_list_append ⟨_, e, rfl⟩ F.entry_list_append (F.args_list_append_2 _ _) (PySem.list_append l its.toArray n u (by rw [List.size_toArray]; omega)) ⟨e, ?_⟩
  refine ⟨.non, _, I.lset (its' := its ++ [u]) hH e (by simp) (r.append (.cons ru .nil)) ?_, rfl, q⟩
  rw [List.length_append, List.length_singleton]
  omega

def rExtend : V → List V → Hp → VK → Prop := fun x vs H Q => ∃ l b xs zs, x = .ref l ∧ vs = [.ref b] ∧ H l = some (.lst xs) ∧ H b = some (.lst zs) ∧ xs.length + zs.length ≤ sizeLine ∧ Q .non (upd H l (.lst (xs ++ zs)))
def rPop : V → List V → Hp → VK → Prop := fun x vs H Q => ∃ l xs y, x = .ref l ∧ vs = [] ∧ H l = some (.lst xs) ∧ xs[xs.length - 1]? = some y ∧ Q y (upd H l (.lst xs.dropLast))
theorem mt_pop : MtM X "list.pop" rPop := by
  intro pins s σ H x vs v us Q I rx rv h
  obtain ⟨l, xs, y, rfl, rfl, hH, hy, q⟩ := h
  cases rx
  have hus := rv.zero
  subst hus
  obtain ⟨z, its, n, r, hl, e⟩ := I.lstM hH
  obtain ⟨u, hu, ru⟩ := r.get hy
  have hy' : its.toArray[its.toArray.size - 1]? = some u := by
    show its.toArray[its.length - 1]? = some u
    rw [← Array.getElem?_toList, ← hl]
    exact hu
  refine call_meets F.slot_list_pop ⟨_, e, rfl⟩ F.entry_list_pop (F.args_list_pop_1 _) (MeetsSeq.list_pop_last l its.toArray n u hy' (by rw [List.size_toArray]; omega)) ⟨e, ?_⟩
  refine ⟨y, _, I.lset (its' := its.dropLast) hH e ?_ r.dropLast ?_, ru, q⟩
  · show its.toArray.eraseIdxIfInBounds (its.toArray.size - 1) = its.dropLast.toArray
    rw [List.size_toArray, List.eraseIdxIfInBounds_toArray, erase_last]
  · rw [List.length_dropLast]
    omega

def rPopAt : V → List V → Hp → VK → Prop := fun x vs H Q => ∃ l xs i k y, x = .ref l ∧ vs = [.int i] ∧ H l = some (.lst xs) ∧ -(2 ^ 63) ≤ i ∧ i < 2 ^ 63 ∧ seqIndex? i xs.length = some k ∧ xs[k]? = some y ∧ Q y (upd H l (.lst (xs.eraseIdx k)))
def rReverse : V → List V → Hp → VK → Prop := fun x vs H Q => ∃ l xs, x = .ref l ∧ vs = [] ∧ H l = some (.lst xs) ∧ Q .non (upd H l (.lst xs.reverse))
def rClear : V → List V → Hp → VK → Prop := fun x vs H Q => ∃ l xs, x = .ref l ∧ vs = [] ∧ H l = some (.lst xs) ∧ Q .non (upd H l (.lst []))
/-! ### list + list, list += list, list * int -/
def rCat : R2 := fun x y H Q => ∃ l b xs zs, x = .ref l ∧ y = .ref b ∧ H l = some (.lst xs) ∧ H b = some (.lst zs) ∧ xs.length + zs.length ≤ sizeLine ∧ ∀ p, H p = none → Q (.ref p) (upd H p (.lst (xs ++ zs)))
theorem op_cat : OpR X (binaryOp .Add) rCat := by
  intro pins s σ H x y v u Q I rx ry h
  obtain ⟨l, b, xs, zs, rfl, rfl, hH, hB, hz, q⟩ := h
  cases rx
  cases ry
  obtain ⟨z, its, n, r, hl, e⟩ := I.lstM hH
  obtain ⟨z2, its2, n2, r2, hl2, e2⟩ := I.lstM hB
  refine PySem.P.add_list e e2 ?_ (by rw [List.size_toArray, List.size_toArray]; omega)
  have ea : its.toArray ++ its2.toArray = (its ++ its2).toArray := by simp
  rw [ea]
  exact ⟨.ref _, _, I.lnew (t' := s.toks) (r.append r2) (by rw [List.length_append]; omega), rfl, q _ I.fresh⟩
/-- a list times an int (a negative one is nothing) -/
def rRep : R2 := fun x y H Q => ∃ l k xs, x = .ref l ∧ y = .int k ∧ H l = some (.lst xs) ∧ -(2 ^ 63) ≤ k ∧ k < 2 ^ 63 ∧ xs.length * k.toNat ≤ sizeLine ∧
  ∀ p, H p = none → Q (.ref p) (upd H p (.lst (List.replicate k.toNat xs).flatten))
/-! ### del xs[i] -/
end

/-! ### xs[a:b] = ys -/
section
variable {prog : Program} {w : World} {A : Around} {E : Value → Shared → Prop} {s : Shared}
end

section
variable {X : Cx}
end
end L2

namespace Att
open PySem PySem.W PySem.Calls PyProof.Rows

/-! ### the script -/
theorem ints_of_wellAll {P : Params} {h : Heap} : ∀ (ns : List Int) (vs : List Value), WellAll P h vs (ns.map WData.int) → IntsAre vs ns := by
  intro ns
  induction ns with
  | nil =>
    intro vs w
    rw [List.map_nil] at w
    cases w
    exact .nil
  | cons n ns ih =>
    intro vs w
    rw [List.map_cons] at w
    cases w with
    | cons a b =>
      cases a
      exact .cons _ _ (ih _ b)

theorem script_of {l : OpenLaw} {n : Nat} (hn : l.most = some n) {P : Params} {h : Heap} {args : List WData} {vals : List Value}
    (hpre : l.row.toRowW.claim.pre args = true) (hwl : WellAll P h vals args) :
    ∃ a vs ns, vals = [Value.ref a] ∧ args = [WData.list (ns.map WData.int)] ∧ h.get? a = some { cls := .type "list", data := .seq vs.toArray } ∧ IntsAre vs ns ∧ ns.length ≤ n := by
  have hsh : WShape.hasAll [] args [.list .int] = true := (pre_splitW hpre).1
  have hc : l.pre.holds [] { args := args } = true := (pre_splitW hpre).2
  obtain ⟨d, r, rfl, h1, h2⟩ := hasAllW_cons hsh
  obtain rfl := hasAllW_nil h2
  obtain ⟨xs, rfl, h3⟩ := hasW_list h1
  obtain ⟨ns, rfl⟩ := items_int h3
  have hlen : ns.length ≤ n := by
    unfold OpenLaw.pre at hc
    have h4 : (WTm.not (.lt (.lit (.int (n : Int))) (.len (.arg 0)))).holds [] { args := [.list (ns.map .int)] } = true := by
      have h4 := (holds_andW hc).1
      rw [hn] at h4
      exact h4
    have h5 := condW_of h4 (w_not (w_lt w_lit (w_len_list (w_arg rfl))))
    rw [List.length_map] at h5
    refine Nat.le_of_not_lt fun q => ?_
    have q' : (n : Int) < ((ns.length : Nat) : Int) := by omega
    first
      | (rw [decide_eq_true q'] at h5; exact absurd h5 (by decide))
      | (simp at h5; omega)
  cases hwl with
  | cons w1 w2 =>
    cases w2
    cases w1 with
    | list ho hall => exact ⟨_, _, ns, rfl, rfl, ho, ints_of_wellAll ns _ hall, hlen⟩

theorem post_true (l : OpenLaw) (args : List WData) : l.row.toRowW.claim.post args (.bool true) args = true :=
  postW_of (r := l.row.toRowW) (X := (true == true))
    (show WShape.has [] (.bool true) .bool = true by first | rfl | decide | simp [WShape.has, WShape.arms, WShape.armsAll])
    (show (WTm.eq .res (.lit (.bool true))).value [] { args := args, res := some (.bool true), after := args } = some (.bool (true == true)) from w_eq_bool (w_res rfl) w_lit) rfl

/-! ### the attachment: holds_open's last premise (the goal 'hc' behind k_head) from a wpAny of the law's body -/
/-- the same from a codeAny of the CALL (for a layer whose function contracts speak of calls) -/
theorem attach_call {l : OpenLaw} {n : Nat} {q : Program} {loose : List Str} {XP : (Str → Option Value) → Heap → Prop} {YP : World → Heap → Prop} {d : DefRec}
    (hn : l.most = some n) (hdf : d.params.defaults = [])
    (call : ∀ (w : World) (s₀ s₁ : Shared) (mg mb : Str → Option Value) (fa : Addr) (o : Obj) (pm cd doc : Value) (a : Addr) (vs : List Value) (ns : List Int),
      Ground q loose [] XP w s₀ mg mb s₁.heap → YP w s₁.heap →
      s₁.heap.get? fa = some o → o.data = .func (docDef d.name d.params d.body d.scope pm cd doc) → s₁.heap.CodeRec cd d.name → mg d.name = some (.ref fa) →
      s₁.heap.get? a = some { cls := .type "list", data := .seq vs.toArray } → IntsAre vs ns → ns.length ≤ n → s₁.gens = #[] →
      codeAny (model l.prog w) callerA (.call (.ref fa) ⟨[.ref a], []⟩) (fun r s' => r = .ok (.ret (.bool true)) ∧ OldK s₁.heap s'.heap ∧ s'.os = s₁.os ∧ AllBare s'.gens) s₁) :
    WalkO q loose XP YP l.row.toRowW d [] (fun f vs => PySem.call f vs) := by
  intro w s₀ s₁ mg mb G Y fa o pm cd doc dV kV ho hd hcd hD hmg hg args vals as hpre hlay hrd hwl hlo
  obtain rfl : dV = .none := Dflts.none hD hdf
  obtain rfl : kV = .none := Dflts.noKw hD
  obtain ⟨a, vs, ns, rfl, rfl, hobj, hints, hlen⟩ := script_of hn hpre hwl
  refine enter_call (codeAny_mono (call w s₀ s₁ mg mb fa o pm cd doc a vs ns G Y ho (fd_plain hd) hcd hmg hobj hints hlen hg) fun r s' hq => ?_)
  obtain ⟨rfl, h2, h3, h4⟩ := hq
  exact ⟨.inl ⟨.bool true, .bool true, [], rfl, fun _ => rfl, .bool true, post_true l _, fun _ => ⟨List.Pairwise.nil, fun _ hm => (nomatch hm)⟩⟩, h2, h3, h4⟩

/-! ### rules over ANY heap (no ledger) from facts about the written part K: the library's own take a ledger (News) for what they write -/
section
variable {prog : Program} {w : World} {A : Around} {E : Value → Shared → Prop} {s : Shared} {K : Frag}

/-! the whole heap as the ledger: makes every rule that writes through a ledger a rule over any heap -/
def noObjs (h : Heap) : Heap := { h with objs := #[] }
def ledger (h : Heap) (L d : Addr) : List (Addr × Obj) := (List.range h.objs.size).filterMap fun a => if a = L ∨ a = d then none else (h.get? a).map fun o => (a, o)
end
end Att

namespace L2
open PySem PySem.Spec PyProof.Rows

theorem vals_ints : ∀ {vs : List Value} {ns : List Int}, IntsAre vs ns → Vals (ns.map V.int) vs
  | _, _, .nil => .nil
  | _, _, .cons n t h => .cons ⟨t, rfl⟩ (vals_ints h)

/-- nothing is tracked but the script, known to the object (or it is an object of the module) -/
def Only (H : Hp) : Prop := ∀ b, H b = none ∨ ∃ o xs, H b = some (.frz o (.lst xs))

/-- THE HEAD: the law's promise, at the heap behind the top. F, the promise of the law's def, may use that base is part of the heap (so K.In base, base.Ns mainGlobals mg stand in Mod) -/
theorem law_call {P : Program} {w : World} {K : PySem.W.Frag} {mg mb : Str → Option Value} {CX : CXT} {k : Nat} {fa a : Addr} {fd : FuncData} {x : Str} {sp : Sp} {s₁ : Shared} {vs : List Value} {ns : List Int}
    (KX : K.In s₁.heap) (hns : s₁.heap.Ns mainGlobals mg) (hb : s₁.heap.Ns builtinsNs mb) (hbb : ∀ x : Str, x ≠ "__name__" → mb x = bootBuiltins x) (hlim : s₁.heap.NoLimit) (hg : s₁.gens = #[])
    (ha : s₁.heap.get? a = some { cls := .type "list", data := .seq vs.toArray }) (hi : IntsAre vs ns) (hl : ns.length ≤ sizeLine) (hr : Room k callerA)
    (F : ∀ base : Heap, K.In base → base.Ns mainGlobals mg → FnOk P w K mg base CX k fa fd [x] sp) (hbind : ∀ (s : Shared) (u : Value), BindsTo s fd ⟨[u], []⟩ [(x, u)])
    (hsp : ∀ H : Hp, Only H → SqL K H a (ns.map V.int) → sp [.ref a] H (fun v _ => v = .bl true) fun _ _ _ => False)
    (hCX : ∀ H e s', CX [] H s₁ (fun _ _ _ => False) e s' → False) :
    codeAny (model P w) callerA (.call (.ref fa) ⟨[.ref a], []⟩) (fun r s' => r = .ok (.ret (.bool true)) ∧ OldK s₁.heap s'.heap ∧ s'.os = s₁.os ∧ AllBare s'.gens) s₁ := by
  have rv := vals_ints hi
  have lenV := hi.length
  -- from an abstract heap in which nothing but the script may be tracked
  have core : ∀ H : Hp, Only H → SqL K H a (ns.map V.int) → HOk P w H s₁.heap → (∀ b, H b ≠ none → b = a) → (H a ≠ none → K.lookup a = none) →
      codeAny (model P w) callerA (.call (.ref fa) ⟨[.ref a], []⟩) (fun r s' => r = .ok (.ret (.bool true)) ∧ OldK s₁.heap s'.heap ∧ s'.os = s₁.os ∧ AllBare s'.gens) s₁ := by
    intro H hO hS hok hA hK
    have base_of : ∀ {b : Addr} {o : Obj}, s₁.heap.get? b = some o → H b = none → (hidT s₁.heap H).get? b = some o := fun e n => hidT_get e n
    have noA : ∀ {b : Addr} {o : Obj} {es : Array DictEntry} {ep : Nat}, s₁.heap.get? b = some o → o.data = .dict es ep → H b = none := fun {b o es ep} e d => by
      cases q : H b with
      | none => rfl
      | some u =>
        have e' : b = a := hA b (by rw [q]; simp)
        subst e'
        rw [ha] at e; cases e
        have d' : Data.seq vs.toArray _ = Data.dict es ep := d
        cases d'
    have nsK : ∀ {b : Addr} {m : Str → Option Value}, s₁.heap.Ns b m → (hidT s₁.heap H).Ns b m := fun {b m} ⟨o, es, ep, e, d, r⟩ => ⟨o, es, ep, base_of e (noA e d), d, r⟩
    have hKb : K.In (hidT s₁.heap H) := fun b o e => base_of (KX b o e) (by
      cases q : H b with
      | none => rfl
      | some u =>
        have e' : b = a := hA b (by rw [q]; simp)
        subst e'
        rw [hK (by rw [q]; simp)] at e; cases e)
    have hM : Mod K mg (hidT s₁.heap H) := ⟨hKb, nsK hns, ⟨mb, nsK hb, hbb⟩, let ⟨mc, h1, h2⟩ := hlim; ⟨mc, nsK h1, h2⟩⟩
    have e0 : Env0 P w K mg (hidT s₁.heap H) callerA [] s₁ H := ⟨rfl, hM, fun b o e => of_hidT e, Nat.le_of_eq (hidT_size _ _), trivial, fun b hb => absurd (show b ∈ ([] : List Addr) from hb) (by simp), hok, .of_eq hg⟩
    refine codeAny_mono ((F _ hKb (nsK hns)).run callerA [] s₁ H ⟨[.ref a], []⟩ [.ref a] [.ref a] _ _ hr e0 (hbind s₁ (.ref a)) (.cons rfl .nil) (hsp H hO hS)) fun r s' h => ?_
    cases r with
    | error e => exact (hCX H e s' h).elim
    | ok fl =>
      cases fl with
      | next => exact False.elim h
      | brk => exact False.elim h
      | cont => exact False.elim h
      | ret u =>
        obtain ⟨v, H', os, bare, un, hok', r', q⟩ := h
        have q' : v = .bl true := q
        subst q'
        obtain rfl : u = Value.bool true := r'
        refine ⟨rfl, OldK.of_keep fun b o e => ?_, os, bare⟩
        cases q : H b with
        | none => exact un.keep b o e q (by intro z; exact absurd (show b ∈ ([] : List Addr) from z) (by simp)) (by simp)
        | some u =>
          rcases hO b with z | ⟨ob, xs, z⟩
          · rw [q] at z; cases z
          · have z2 := un.frzs b ob _ z
            obtain ⟨e1, _⟩ := hok b _ z
            obtain ⟨e2, _⟩ := hok' b _ z2
            rw [e] at e1; cases e1
            exact e2
  cases hk : K.lookup a with
  | some o =>
    -- the script is one of the module's own objects
    have e := KX a o hk
    rw [ha] at e
    cases e
    refine core (fun _ => none) (fun _ => .inl rfl) (.inr ⟨_, vs.toArray, _, hk, rfl, rfl, rfl, by rw [List.size_toArray, lenV]; exact hl, by simpa using rv⟩) (fun b u z => by have z' : (none : Option HO) = some u := z; cases z') (fun b z => absurd rfl z) fun z => absurd rfl z
  | none =>
    refine core (fun b => if b = a then some (.frz { cls := .type "list", data := .seq vs.toArray } (.lst (ns.map V.int))) else none) (fun b => ?_) (.inl (.inr ⟨{ cls := .type "list", data := .seq vs.toArray }, if_pos rfl⟩)) (fun b u z => ?_) (fun b z => ?_) fun _ => hk
    · by_cases hb : b = a
      · exact .inr ⟨_, _, if_pos hb⟩
      · exact .inl (if_neg hb)
    · by_cases hb : b = a
      · have z' := (if_pos hb).symm.trans z
        cases z'
        subst hb
        exact ⟨ha, by rw [List.length_map]; exact hl, vs, _, rv, ha⟩
      · have z' := (if_neg hb).symm.trans z
        cases z'
    · by_cases hb : b = a
      · exact hb
      · exact absurd (if_neg hb) z
end L2

namespace L2
open PySem PySem.Spec PyProof.Rows

abbrev KOf {K : PySem.W.Frag} {h : Heap} (_ : K.In h) : PySem.W.Frag := K

/-- the goal that k_head leaves (case hc), from the law's promise. F gives the function object fd (K's own) once, then the promise over every base -/
theorem walk_of {l : PySem.W.OpenLaw} {n k : Nat} {q : Program} {loose : List Str} {XP : (Str → Option Value) → Heap → Prop} {YP : World → Heap → Prop} {d : DefRec} {K : Params → PySem.W.Frag} {CX : World → CXT} {sp : World → Sp} {x : Str}
    (hn : l.most = some n) (hn2 : n ≤ sizeLine) (hdf : d.params.defaults = []) (hr : Room k callerA)
    (hY : ∀ (w : World) (h : Heap), YP w h → (K w.params).In h)
    (F : ∀ (w : World) (mg : Str → Option Value) (fa : Addr) (h : Heap), (K w.params).In h → h.Ns mainGlobals mg → mg d.name = some (.ref fa) →
      ∃ fd : FuncData, (∀ (s : Shared) (u : Value), BindsTo s fd ⟨[u], []⟩ [(x, u)]) ∧
        ∀ base : Heap, (K w.params).In base → base.Ns mainGlobals mg → FnOk l.prog w (K w.params) mg base (CX w) k fa fd [x] (sp w))
    (hsp : ∀ (w : World) (H : Hp) (a : Addr) (ns : List Int), ns.length ≤ n → Only H → SqL (K w.params) H a (ns.map V.int) → sp w [.ref a] H (fun v _ => v = .bl true) fun _ _ _ => False)
    (hCX : ∀ (w : World) (H : Hp) (s : Shared) (e : Value) (s' : Shared), CX w [] H s (fun _ _ _ => False) e s' → False) :
    PySem.W.WalkO q loose XP YP l.row.toRowW d [] (fun f vs => PySem.call f vs) := by
  refine Att.attach_call hn hdf fun w s₀ s₁ mg mb fa o pm cd doc a vs ns G Y ho hd hcd hmg hobj hints hlen hg => ?_
  have KX := hY w _ Y
  obtain ⟨fd, hb, hF⟩ := F w mg fa _ KX G.T.g hmg
  exact law_call KX G.T.g G.T.b G.T.builtins G.T.nolimit hg hobj hints (Nat.le_trans hlen hn2) hr hF hb (fun H hO hS => hsp w H a ns hlen hO hS) fun H e s' => hCX w H s₁ e s'
end L2

/- THE LAST THEOREM (shape; LID, My.* are yours):
   My.Adr: a structure of the addresses that your layer names (classes, functions); My.Txt K t: a structure (Prop) of the equations over K;
   My.txt_mk : {K} {implicit addresses ..} (e1 : nsIn K mainGlobals "law" = some (some (.ref f))) (e2 : K.lookup f = some ⟨oc, od, .func (fnOf "law" "law" params body scope dV kV doc pm an cdv ct), sl⟩) (e3 : codeIn K cdv "law" = true) .. : ∃ t, My.Txt K t

set_option maxRecDepth 100000 in
set_option maxHeartbeats 0 in
theorem PySem.Challenge.cw_LID_holds : PySem.Challenge.rw_LID.Holds := by
  w_on; o_law; k_head; (case hw => w_witness2)
  k_fill
  refine L2.walk_of (l := PySem.Challenge.rw_LID) (n := 63) (k := 40) (x := "script") (CX := fun w => ..) (sp := fun _ => My.sp_law) rfl (by decide) rfl ⟨rfl, by decide, by decide⟩ (fun w h Y => PySem.W.kIn_of Y) ?F ?S ?C
  case F =>
    intro w mg fa h KX G hmg
    have T : ∃ t, My.Txt (L2.KOf KX) t := by
      dsimp only [L2.KOf]                          -- K must stand as «<heap const> w.params» for k_is
      refine' My.txt_mk ?e1 ?e2 ?e3 ..
      (case e1 => PySem.W.k_is)                    -- in the order: a name -> its address -> its object -> its parts
      (case e2 => PySem.W.k_is)
      ..
    obtain ⟨t, T⟩ := T
    have e0 := hmg.symm.trans (PySem.W.mg_of KX G T.law)
    cases e0                                       -- fa is the law's own address
    exact ⟨_, fun s u => .of_eq rfl, fun base kb nb => My.law_fn T kb nb⟩     -- if «.of_eq rfl» comes too early: refine' ⟨_, ?b, fun base kb nb => My.law_fn T kb nb⟩; exact fun s u => .of_eq rfl
  case S => exact fun w H a ns hl hO hS => ..
  case C => exact ..
(the tactic k_is has no namespace: write k_is) -/

/-! SHORT WORDS over the layer: a def of the text, its body, what a loop and a test want. -/
namespace L2
open PySem PySem.Spec PyProof.Rows

/-! ### the text by places -/
/-- the j-th statement of a class's body -/
def inClass (s : Stmt) (j : Nat) : Stmt := match s with
  | .ClassDef _ _ _ body _ _ _ _ _ _ _ => body.getD j (.Pass ⟨0, 0, 0, 0⟩)
  | _ => .Pass ⟨0, 0, 0, 0⟩
def defArgs (s : Stmt) : Arguments := match s with
  | .FunctionDef _ a _ _ _ _ _ _ _ _ => a
  | _ => { posonlyargs := [], args := [], vararg := none, kwonlyargs := [], kw_defaults := [], kwarg := none, defaults := [] }
def defBody (s : Stmt) : List Stmt := match s with
  | .FunctionDef _ _ b _ _ _ _ _ _ _ => b
  | _ => []
def defScope (s : Stmt) : Scope := match s with
  | .FunctionDef _ _ _ _ _ _ sc _ _ _ => sc
  | _ => { kind := .function, names := [], isGenerator := false, isCoroutine := false }

/-! ### no exception leaves a def -/
abbrev CX0 : CXT := fun _ _ _ _ _ _ => False
abbrev E0 : XK := fun _ _ _ => False
/-! ### a def (or method) of the text as it stands behind the top -/
structure Fun (K : PySem.W.Frag) (x qual : Str) (st : Stmt) (f : Addr) (fd : FuncData) : Prop where
  ex : ∃ (oc : Value) (od : Option Addr) (kV doc pm : Value) (an : Option Addr) (cdv ct : Value) (osl : Array (Option Value)),
    fd = PySem.W.fnOf x qual (defArgs st) (defBody st) (defScope st) .none kV doc pm an cdv ct ∧ K.lookup f = some ⟨oc, od, .func fd, osl⟩ ∧ PySem.W.codeIn K cdv qual = true
  kp : PySem.W.keepIn K (.ref f) = true
section
variable {P : Program} {w : World} {K : PySem.W.Frag} {mg : Str → Option Value} {base : Heap}
/-- how its arguments bind (no defaults): h is «fun _ _ _ _ _ _ us hl => match us, hl with | [_, _], _ => rfl», one _ a parameter -/
theorem Fun.binds {x qual : Str} {st : Stmt} {f : Addr} {fd : FuncData} {ps : List Str} (F : Fun K x qual st f fd)
    (h : ∀ (kV doc pm : Value) (an : Option Addr) (cdv ct : Value) (us : List Value), us.length = ps.length → bindArgs (PySem.W.fnOf x qual (defArgs st) (defBody st) (defScope st) .none kV doc pm an cdv ct) ⟨us, []⟩ = pure (ps.zip us)) : Binds K fd ps [] := by
  obtain ⟨oc, od, kV, doc, pm, an, cdv, ct, osl, rfl, lk, hcd⟩ := F.ex
  exact .all (h kV doc pm an cdv ct)
theorem fun_mk {x qual : Str} {st : Stmt} {f : Addr} {oc : Value} {od an : Option Addr} {osl : Array (Option Value)} {kV doc pm cdv ct : Value} (l : K.lookup f = some ⟨oc, od, .func (PySem.W.fnOf x qual (defArgs st) (defBody st) (defScope st) .none kV doc pm an cdv ct), osl⟩)
    (c : PySem.W.codeIn K cdv qual = true) (k : PySem.W.keepIn K (.ref f) = true) : Fun K x qual st f (PySem.W.fnOf x qual (defArgs st) (defBody st) (defScope st) .none kV doc pm an cdv ct) := ⟨⟨oc, od, kV, doc, pm, an, cdv, ct, osl, rfl, l, c⟩, k⟩
end
theorem small1000 {n : Nat} (h : n ≤ 1000) : n < sizeLine := Nat.lt_of_le_of_lt h (by decide)

/-! ### expressions in short: the name that stands in the i-th slot -/
section
variable {X : Cx}
theorem pv (i : Nat) {x : Str} {pos : Pos} (hN : X.N[i]? = some x := by rfl) (hv : Vis X.env.scope x := by first | exact Or.inl rfl | exact Or.inr (Or.inl rfl) | exact Or.inr (Or.inr rfl)) (hd : (x == ("__debug__" : Str)) = false := by decide)
    (hcd : (x == ("__classdict__" : Str)) = false := by decide) : PE X (.Name x pos) (tVar i) := pe_var hN hv hd hcd
end

/-! ### tests -/
theorem iteF {A B : Prop} (h : B) : if false = true then A else B := by
  rw [if_neg Bool.false_ne_true]
  exact h
theorem iteT {A B : Prop} (h : A) : if true = true then A else B := by
  rw [if_pos rfl]
  exact h
/-! ### heaps -/
/-- all that was tracked is as it was -/
def Same (H H' : Hp) : Prop := ∀ b o, H b = some o → H' b = some o
theorem Same.refl (H : Hp) : Same H H := fun _ _ h => h
theorem Same.trans {H H1 H2 : Hp} (a : Same H H1) (b : Same H1 H2) : Same H H2 := fun c o h => b c o (a c o h)
theorem Same.free {H H' : Hp} (e : Same H H') {l : Addr} (h : H' l = Option.none) : H l = Option.none := by
  cases q : H l with
  | none => rfl
  | some o =>
    rw [e l o q] at h
    cases h
end L2

set_option maxHeartbeats 4000000

/-! ### more rules: wide numbers, isinstance, == of tuples -/
namespace L2
open PySem PySem.Spec PyProof.Rows
/-- fewer than n bits -/
def Bz (n : Nat) (x : Int) : Prop := x.natAbs < 2 ^ n
theorem Bz.mono {m n : Nat} {x : Int} (h : Bz m x) (hn : m ≤ n) : Bz n x := Nat.lt_of_lt_of_le h (Nat.pow_le_pow_right (by decide) hn)
theorem Bz.bits {n : Nat} {x : Int} (h : Bz n x) : Builtin.Int.intBits x ≤ n := PySem.intBits_le_iff.mpr h
theorem Bz.mulOk {m n : Nat} {x y : Int} (hx : Bz m x) (hy : Bz n y) (h : m + n ≤ 134217728 := by decide) : IntMulOk x y := PySem.IntMulOk.of_le hx.bits hy.bits h
theorem Bz.le {n : Nat} {x y : Int} (hx : Bz n x) (h : y.natAbs ≤ x.natAbs) : Bz n y := Nat.lt_of_le_of_lt h hx
theorem Bz.w {x : Int} (h1 : -340282366920938463463374607431768211456 < x) (h2 : x < 340282366920938463463374607431768211456) : Bz 128 x := by
  show x.natAbs < 340282366920938463463374607431768211456
  omega
theorem Bz.log2 {n : Nat} {x : Int} (h : Bz n x) (hn : n ≤ 9000 := by decide) : x.natAbs.log2 < 9000 := by
  by_cases h0 : x.natAbs = 0
  · rw [h0]; decide +kernel
  · exact (Nat.log2_lt h0).mpr (Nat.lt_of_lt_of_le h (Nat.pow_le_pow_right (by decide) hn))
def CDivB (_ j : Int) : Prop := 0 < j ∧ j.natAbs.log2 < 9000
def CDivM (_ j : Int) : Prop := j ≠ 0 ∧ j.natAbs.log2 < 9000
section
variable {X : Cx}
theorem op_mulB : OpR X (binaryOp .Mult) (rI IntMulOk fun i j => .int (i * j)) := opI fun _ _ _ _ _ _ _ hc q => mul_int q hc
theorem op_fdivB : OpR X (binaryOp .FloorDiv) (rI CDivB fun i j => .int (i / j)) := opI fun i j _ _ _ _ _ hc q => by
  have h1 : (0 : Int) < j := hc.1
  exact floordiv_int (by omega) (by rw [Int.fdiv_eq_ediv_of_nonneg i (by omega)]; exact q) (.inl (PyProof.noPylong_of_log2 hc.2))
theorem op_fdivM : OpR X (binaryOp .FloorDiv) (rI CDivM fun i j => .int (i.fdiv j)) := opI fun i j _ _ _ _ _ hc q =>
  floordiv_int hc.1 q (.inl (PyProof.noPylong_of_log2 hc.2))
/-- a statement, by what holds between it and the rest -/
theorem ps_mid {st : Stmt} {t : TS} (h : PS X st t) : PS X st (fun D σ H => ∃ P : St → Hp → Prop, t { D with nx := P } σ H ∧ ∀ σ' H', P σ' H' → D.nx σ' H') := by
  intro pins s σ H D I hw
  obtain ⟨P', hp, hk⟩ := hw
  refine thn (h pins s σ H _ I hp) fun f s1 q => ?_
  cases f with
  | next => obtain ⟨σ', H', I', p⟩ := q; exact ⟨σ', H', I', hk _ _ p⟩
  | ret v => exact q
  | brk => exact q
  | cont => exact q
/-- isinstance(x, T), T a built-in type -/
theorem call_isi : CallR X (.builtin "isinstance") (fun xs H Q => ∃ x n t b, xs = [x, .ty n] ∧ TyOf X.K H x t ∧ PySem.W.kitOne X.K t (.type n) = some b ∧ Q (.bl b) H) := by
  intro pins s σ H xs us Q I r h
  obtain ⟨x, n, t, b, rfl, ty, e, q⟩ := h
  obtain ⟨u, w', rfl, r1, r2⟩ := vals2 r
  cases r2
  exact isinst_ok I r1 ty e fun tk => ⟨.bl b, H, I.tok tk, rfl, q⟩
/-- == of two tuples of flat items -/
def eqLV (xs ys : List V) : Bool := (List.range (min xs.length ys.length)).all (fun j => eqV (xs.getD j .non) (ys.getD j .non)) && xs.length == ys.length
def rEqT (K : PySem.W.Frag) : R2 := fun x y H Q => ∃ a b xs ys, x = .ref a ∧ y = .ref b ∧ SqT K H a xs ∧ SqT K H b ys ∧ xs.all flatV = true ∧ ys.all flatV = true ∧ Q (.bl (eqLV xs ys)) H
end
theorem kp {H : Hp} {a p : Addr} {o u : HO} (h : H a = some o) (hp : H p = none) : upd H p u a = some o := by rw [upd_ne (ne_of_none h hp)]; exact h
theorem iteN {c A B : Prop} [Decidable c] (hc : ¬ c) (h : B) : if decide c = true then A else B := by
  rw [if_neg (fun z => hc (of_decide_eq_true z))]
  exact h
theorem iteY {c A B : Prop} [Decidable c] (hc : c) (h : A) : if decide c = true then A else B := by
  rw [if_pos (decide_eq_true hc)]
  exact h
theorem ite3 {c A B : Prop} [Decidable c] (h1 : c → A) (h2 : ¬ c → B) : if decide c = true then A else B := by
  by_cases h : c
  · exact iteY h (h1 h)
  · exact iteN h (h2 h)
theorem iteNo {c A B : Prop} [Decidable c] (h1 : ¬ c → A) (h2 : c → B) : if (!decide c) = true then A else B := by
  by_cases h : c
  · rw [decide_eq_true h]; exact iteF (h2 h)
  · rw [decide_eq_false h]; exact iteT (h1 h)
theorem sz {n : Nat} (h : n ≤ 1000 := by first | decide | (simp; done) | omega) : n ≤ sizeLine := Nat.le_of_lt (small1000 h)
theorem at_ints {ns : List Int} {k : Int} (h0 : 0 ≤ k) (h : k < (ns.length : Int)) : ∃ v : Int, atI (ns.map V.int) k = some (.int v) := by
  have hk : k.toNat < ns.length := by omega
  have ek : k = ((k.toNat : Nat) : Int) := by omega
  have q : atI (ns.map V.int) ((k.toNat : Nat) : Int) = some (.int ns[k.toNat]) := atI_nat (by rw [List.getElem?_map, List.getElem?_eq_getElem hk]; rfl)
  rw [← ek] at q
  exact ⟨_, q⟩
end L2

/-! ### values as data: deep == and != -/
namespace L2
open PySem PySem.Spec PyProof.Rows
mutual
inductive DV (K : PySem.W.Frag) (H : Hp) : V → PyData → Prop
  | non : DV K H .non .none
  | bl (b : Bool) : DV K H (.bl b) (.bool b)
  | int (i : Int) : DV K H (.int i) (.int i)
  | str (x : Str) : DV K H (.str x) (.str x)
  | lst {a : Addr} {xs : List V} {ds : List PyData} : SqL K H a xs → DVs K H xs ds → DV K H (.ref a) (.list ds)
  | tup {a : Addr} {xs : List V} {ds : List PyData} : SqT K H a xs → DVs K H xs ds → DV K H (.ref a) (.tuple ds)
inductive DVs (K : PySem.W.Frag) (H : Hp) : List V → List PyData → Prop
  | nil : DVs K H [] []
  | cons {x : V} {xs : List V} {d : PyData} {ds : List PyData} : DV K H x d → DVs K H xs ds → DVs K H (x :: xs) (d :: ds)
end
section
variable {X : Cx} {pins : List (Addr × Obj)} {σ : St} {H : Hp} {s : Shared}
mutual
theorem DV.reads (I : Inv X pins σ H s) : ∀ {x : V} {d : PyData} {u : Value}, DV X.K H x d → RelV x u → ∃ as, Reads s.heap u d as
  | _, _, _, .non, r => by cases r; exact ⟨_, .none⟩
  | _, _, _, .bl b, r => by cases r; exact ⟨_, .bool b⟩
  | _, _, _, .int i, r => by obtain ⟨t, rfl⟩ := r; exact ⟨_, .int i t⟩
  | _, _, _, .str x, r => by obtain ⟨t, rfl⟩ := r; exact ⟨_, .str x t⟩
  | _, _, _, .lst h hs, r => by
    cases r
    obtain ⟨its, rv, ⟨o, n, e, c, _, dd⟩, _⟩ := I.list h
    obtain ⟨as, q⟩ := DVs.reads I hs rv
    exact ⟨_, .list e c dd (by simpa using q)⟩
  | _, _, _, .tup h hs, r => by
    cases r
    obtain ⟨its, rv, ⟨o, e, c, n, dd⟩, _⟩ := I.tuple h
    obtain ⟨as, q⟩ := DVs.reads I hs rv
    exact ⟨_, .tuple e c dd (by simpa using q)⟩
theorem DVs.reads (I : Inv X pins σ H s) : ∀ {xs : List V} {ds : List PyData} {us : List Value}, DVs X.K H xs ds → Vals xs us → ∃ as, ReadsAll s.heap us ds as
  | _, _, _, .nil, r => by cases r; exact ⟨_, .nil⟩
  | _, _, _, .cons h hs, r => by
    cases r with
    | cons r rr =>
      obtain ⟨as, q⟩ := DV.reads I h r
      obtain ⟨bs, q'⟩ := DVs.reads I hs rr
      exact ⟨_, .cons q q'⟩
end
end
def rEqD (K : PySem.W.Frag) : R2 := fun x y H Q => ∃ dx dy, DV K H x dx ∧ DV K H y dy ∧ SeqAt.shaped dx = true ∧ SeqAt.shaped dy = true ∧ Q (.bl (PyData.eqv dx dy)) H
def rNeD (K : PySem.W.Frag) : R2 := fun x y H Q => ∃ dx dy, DV K H x dx ∧ DV K H y dy ∧ SeqAt.shaped dx = true ∧ SeqAt.shaped dy = true ∧ Q (.bl (!PyData.eqv dx dy)) H
section
variable {X : Cx} {e se : Expr} {te ts : TE} {pos p2 : Pos}
theorem op_neD (hu : X.A.units + 64 < cLine) : OpR X (compareOp .NotEq) (rNeD X.K) := by
  intro pins s σ H x y v u Q I rx ry h
  obtain ⟨dx, dy, hx, hy, sx, sy, q⟩ := h
  obtain ⟨as, r1⟩ := hx.reads I rx
  obtain ⟨bs, r2⟩ := hy.reads I ry
  exact ne_dataH r1 r2 sx sy hu ⟨.bl _, H, I, rfl, q⟩
end
/-- the script, known to the object: it is never written -/
def SqF (K : PySem.W.Frag) (H : Hp) (a : Addr) (xs : List V) : Prop :=
  (∃ o, H a = some (.frz o (.lst xs))) ∨ ∃ (o : Obj) (its : Array Value) (n : Nat), K.lookup a = some o ∧ o.cls = .type "list" ∧ o.dict = none ∧ o.data = .seq its n ∧ its.size ≤ sizeLine ∧ Vals xs its.toList
theorem SqF.sq {K : PySem.W.Frag} {H : Hp} {a : Addr} {xs : List V} (h : SqF K H a xs) : SqL K H a xs := by
  rcases h with ⟨o, h⟩ | h
  · exact .inl (.inr ⟨o, h⟩)
  · exact .inr h
theorem SqF.upd {K : PySem.W.Frag} {H : Hp} {a p : Addr} {xs : List V} {u : HO} (h : SqF K H a xs) (hp : ∀ o w, H p ≠ some (.frz o w)) : SqF K (L2.upd H p u) a xs := by
  rcases h with ⟨o, h⟩ | h
  · refine .inl ⟨o, ?_⟩
    rw [upd_ne (fun e => hp o _ (by rw [← e]; exact h))]
    exact h
  · exact .inr h
theorem SqF.new {K : PySem.W.Frag} {H : Hp} {a p : Addr} {xs : List V} {u : HO} (h : SqF K H a xs) (hp : H p = none) : SqF K (L2.upd H p u) a xs := h.upd fun o w e => by rw [hp] at e; cases e
theorem SqF.of_only {K : PySem.W.Frag} {H : Hp} {a : Addr} {xs : List V} (hO : Only H) (h : SqL K H a xs) : SqF K H a xs := by
  rcases h with (h | ⟨o, h⟩) | h
  · rcases hO a with z | ⟨o, ys, z⟩
    · rw [z] at h; cases h
    · rw [z] at h; cases h
  · exact .inl ⟨o, h⟩
  · exact .inr h
theorem same_new {H : Hp} {p : Addr} (h : H p = none) (o : HO) : Same H (L2.upd H p o) := fun b u q => by rw [upd_ne (ne_of_none q h)]; exact q
theorem SqF.same {K : PySem.W.Frag} {H H' : Hp} {a : Addr} {xs : List V} (h : SqF K H a xs) (s : Same H H') : SqF K H' a xs := by
  rcases h with ⟨o, h⟩ | h
  · exact .inl ⟨o, s _ _ h⟩
  · exact .inr h
theorem cut_take (xs : List V) (m : Nat) : cutV xs none (some (m : Int)) = xs.take m := by
  unfold cutV
  rw [HT.sIx_none, HT.sIx_nat]
  simp
end L2
namespace L2
open PySem
theorem bt_isinstance : bootBuiltins "isinstance" = some (.builtin "isinstance") := by decide +kernel
theorem bt_int : bootBuiltins "int" = some (.type "int") := by decide +kernel
theorem bt_bool : bootBuiltins "bool" = some (.type "bool") := by decide +kernel
theorem bt_abs : bootBuiltins "abs" = some (.builtin "abs") := by decide +kernel
theorem bt_list : bootBuiltins "list" = some (.type "list") := by decide +kernel
theorem bt_str : bootBuiltins "str" = some (.type "str") := by decide +kernel
theorem bt_max : bootBuiltins "max" = some (.builtin "max") := by decide +kernel
theorem bt_len : bootBuiltins "len" = some (.builtin "len") := by decide +kernel
theorem bt_sorted : bootBuiltins "sorted" = some (.builtin "sorted") := by decide +kernel
theorem bt_set : bootBuiltins "set" = some (.type "set") := by decide +kernel
theorem bt_all : bootBuiltins "all" = some (.builtin "all") := by decide +kernel
theorem bt_sum : bootBuiltins "sum" = some (.builtin "sum") := by decide +kernel
theorem bt_ValueError : bootBuiltins "ValueError" = some (.type "ValueError") := by decide +kernel
end L2

namespace L2
open PySem PySem.Spec PyProof.Rows
section
variable {X : Cx} {e se : Expr} {te ts : TE} {pos p2 : Pos}
/-- xs[::-1] -/
def tRev (K : PySem.W.Frag) (te ts : TE) : TE := fun σ H Q => te σ H fun x H1 => ts σ H1 fun y H2 => ∃ a xs, x = .ref a ∧ y = .int (-1) ∧ SqL K H2 a xs ∧ ∀ p, H2 p = none → Q (.ref p) (upd H2 p (.lst xs.reverse))
end
end L2

/-! ### the greatest divisor -/
namespace M
def G (a b : Int) : Int := if Nat.gcd a.natAbs b.natAbs = 0 then 1 else (Nat.gcd a.natAbs b.natAbs : Nat)
theorem G_pos (a b : Int) : 0 < G a b := by
  unfold G
  split <;> omega
theorem G_eq {a b : Int} (h : b ≠ 0) : G a b = ((Nat.gcd a.natAbs b.natAbs : Nat) : Int) := by
  have : 0 < Nat.gcd a.natAbs b.natAbs := Nat.gcd_pos_of_pos_right _ (by omega)
  unfold G
  rw [if_neg (by omega)]
structure Inv (a b x y : Int) : Prop where
  x0 : 0 ≤ x
  y0 : 0 ≤ y
  e : Nat.gcd x.natAbs y.natAbs = Nat.gcd a.natAbs b.natAbs
theorem abs_eq (i : Int) : (if i < 0 then -i else i) = (i.natAbs : Int) := by
  split <;> omega
theorem Inv.start2 (a b : Int) : Inv a b (if a < 0 then -a else a) (if b < 0 then -b else b) := by
  rw [abs_eq, abs_eq]
  exact ⟨by omega, by omega, by simp⟩
theorem Inv.turn {a b x y : Int} (h : Inv a b x y) (hy : 0 < y) : Inv a b y (x % y) := by
  obtain ⟨x0, y0, e⟩ := h
  refine ⟨y0, Int.emod_nonneg x (by omega), ?_⟩
  rw [← e]
  have e1 : (x % y).natAbs = x.natAbs % y.natAbs := by
    obtain ⟨n, rfl⟩ := Int.eq_ofNat_of_zero_le x0
    obtain ⟨m, rfl⟩ := Int.eq_ofNat_of_zero_le y0
    exact congrArg Int.natAbs (Int.natCast_emod n m).symm
  rw [e1, Nat.gcd_comm x.natAbs y.natAbs]
  rw [Nat.gcd_comm y.natAbs (x.natAbs % y.natAbs), ← Nat.gcd_rec, Nat.gcd_comm]
theorem less {x y : Int} (hy : 0 < y) : (x % y).toNat < y.toNat := by
  have h1 := Int.emod_nonneg x (show y ≠ 0 by omega)
  have h2 := Int.emod_lt_of_pos x hy
  omega
theorem Inv.out {a b x y : Int} (h : Inv a b x y) (hy : y = 0) (hb : b ≠ 0) : x = G a b := by
  obtain ⟨x0, y0, e⟩ := h
  rw [G_eq hb, ← e, hy]
  simp
  omega
theorem G_le {a b : Int} (h : b ≠ 0) : (G a b).natAbs ≤ b.natAbs := by
  rw [G_eq h]
  exact Nat.le_of_dvd (by omega) (Nat.gcd_dvd_right _ _)
end M

namespace M
theorem num_low {t b : Int} (hb : 0 < b) : t / G t b = (Rat.divInt t b).num := by
  rw [Rat.num_divInt, G_eq (by omega), Int.sign_eq_one_of_pos hb, Int.one_mul]
  show t / _ = t / ((Nat.gcd b.natAbs t.natAbs : Nat) : Int)
  rw [Nat.gcd_comm]
theorem den_low {t b : Int} (hb : 0 < b) : b / G t b = ((Rat.divInt t b).den : Int) := by
  rw [Rat.den_divInt, if_neg (by omega), G_eq (by omega)]
  show b / _ = (((b.natAbs / Nat.gcd b.natAbs t.natAbs : Nat)) : Int)
  rw [Int.natCast_ediv, Nat.gcd_comm]
  congr 1
  omega
theorem num_neg {t b : Int} (hb : b < 0) : t.fdiv (-G t b) = (Rat.divInt t b).num := by
  have e : Rat.divInt t b = Rat.divInt (-t) (-b) := (Rat.neg_divInt_neg t b).symm
  rw [e, ← num_low (by omega)]
  have g : G (-t) (-b) = G t b := by unfold G; simp
  have h := G_pos t b
  rw [g, ← Int.fdiv_eq_ediv_of_nonneg (-t) (Int.le_of_lt h)]
  rw [← Int.neg_fdiv_neg, Int.neg_neg]
theorem den_neg {t b : Int} (hb : b < 0) : b.fdiv (-G t b) = ((Rat.divInt t b).den : Int) := by
  have e : Rat.divInt t b = Rat.divInt (-t) (-b) := (Rat.neg_divInt_neg t b).symm
  rw [e, ← den_low (by omega)]
  have g : G (-t) (-b) = G t b := by unfold G; simp
  have h := G_pos t b
  rw [g, ← Int.fdiv_eq_ediv_of_nonneg (-b) (Int.le_of_lt h)]
  rw [← Int.neg_fdiv_neg, Int.neg_neg]
end M

namespace M
def sumR : List Rat → Rat
  | [] => 0
  | r :: rs => r + sumR rs
abbrev D0 : Int := 5342931457063200
/-- a ratio over D0 whose top is not too great -/
def Item (r : Rat) : Prop := ∃ c : Int, r = Rat.divInt c D0 ∧ -(100000000000 * D0) ≤ c ∧ c ≤ 100000000000 * D0
def All (rs : List Rat) : Prop := ∀ r ∈ rs, Item r
end M

namespace M
end M

/-! ### exceptions of own classes: raised in a def, passed on, caught around a call -/
namespace L2
open PySem PySem.Spec PyProof.Rows
theorem ObjOk.there {P : Program} {w : World} {H : Hp} {h : Heap} {a : Addr} {o : HO} (x : ObjOk P w H h a o) : ∃ ob, h.get? a = some ob := by
  cases o with
  | lst xs => obtain ⟨_, _, _, _, e⟩ := x; exact ⟨_, e⟩
  | tup xs => obtain ⟨_, _, _, ob, e, _⟩ := x; exact ⟨ob, e⟩
  | dK kvs => obtain ⟨_, _, _, _, o, _, _, e, _⟩ := x; exact ⟨o, e⟩
  | dT kvs => obtain ⟨_, _, _, _, o, _, _, e, _⟩ := x; exact ⟨o, e⟩
  | set S n => obtain ⟨o, _, _, _, e, _⟩ := x; exact ⟨o, e⟩
  | ins C dx fs => obtain ⟨_, _, _, e, _⟩ := x; exact ⟨_, e⟩
  | own y => exact x
  | xd fs => obtain ⟨_, ⟨_, _, _, e, _⟩, _⟩ := x; exact ⟨_, e⟩
  | rng lo hi => obtain ⟨_, _, _, e⟩ := x; exact ⟨_, e⟩
  | frz ob u => obtain ⟨e, _⟩ := x; exact ⟨_, e⟩
  | tbl ps => exact ⟨_, x⟩
  | met f y => exact ⟨_, x⟩
  | ext φ => obtain ⟨_, e, _⟩ := x; exact e

/-- an exception ea of the class cls is in flight above the frames of outer, begun at (H, s); B: what it leaves as it is -/
structure Fly (P : Program) (w : World) (outer : List Env) (H : Hp) (s : Shared) (cls : Value) (H' : Hp) (ea : Addr) (B : Heap) (a0 : Value) (s' : Shared) : Prop where
  os : s'.os = s.os
  bare : AllBare s'.gens
  new : s.heap.get? ea = none
  un : Un (frs outer) [] H H' s.heap s'.heap
  hok : HOk P w H' s'.heap
  keepB : ∀ b o, s.heap.get? b = some o → H b = none → b ∉ frs outer → B.get? b = some o
  tracked : ∀ b u, H' b = some u → ∃ o, s'.heap.get? b = some o ∧ B.get? b = some o
  thB : ∀ b o, s.heap.get? b = some o → b ∉ frs outer → ∃ o', B.get? b = some o'
  fly : Heap.FlyingW B outer ea cls a0 s'.heap
def CXe (P : Program) (w : World) : CXT := fun outer H s E e s' => ∃ (ea : Addr) (cls : Value) (H' : Hp) (B : Heap) (a0 : Value), e = .ref ea ∧ Fly P w outer H s cls H' ea B a0 s' ∧ E cls none H'

section
variable {P : Program} {w : World} {outer : List Env} {H H' : Hp} {s s' : Shared} {cls a0 : Value} {ea : Addr} {B h' : Heap}
theorem Fly.fresh (F : Fly P w outer H s cls H' ea B a0 s') : H' ea = none := by
  cases q : H' ea with
  | none => rfl
  | some u =>
    obtain ⟨o, _, e⟩ := F.tracked ea u q
    rw [F.fly.2.1] at e
    cases e
/-- the heap turns about the exception -/
theorem Fly.move (F : Fly P w outer H s cls H' ea B a0 s') (st : B.StaysIn h') (up : s'.heap.UpToSlots h') : Un (frs outer) [] H H' s.heap h' ∧ HOk P w H' h' := by
  refine ⟨⟨fun b o e n hb _ => st b o (F.keepB b o e n hb), fun b o e n hb hx => ?_, F.un.free, fun b o e hx => ?_, F.un.tups, F.un.frzs, F.un.tbls⟩, fun a u e => ?_⟩
  · obtain ⟨sl, e1⟩ := F.un.slot b o e n hb hx
    obtain ⟨_, o2, ho2, nf⟩ := F.fly.2.2.1.mem hb
    rw [e1] at ho2
    cases ho2
    obtain ⟨sl', e2⟩ := up b _ e1 nf
    exact ⟨sl', e2⟩
  · by_cases hb : b ∈ frs outer
    · obtain ⟨_, o2, ho2, nf⟩ := F.fly.2.2.1.mem hb
      obtain ⟨sl', e2⟩ := up b _ ho2 nf
      exact ⟨_, e2⟩
    · obtain ⟨o', e'⟩ := F.thB b o e hb
      exact ⟨o', st b o' e'⟩
  · refine (F.hok a u e).stay (fun b v hb q => ?_) (fun _ q => q) fun _ _ q => q
    have tr : ∃ u', H' b = some u' := by
      rcases hb with z | z
      · rw [z]; exact ⟨u, e⟩
      · exact ⟨_, z⟩
    obtain ⟨u', e'⟩ := tr
    obtain ⟨o, e1, e2⟩ := F.tracked b u' e'
    rw [q] at e1
    cases e1
    exact st b v e2
end

section
variable {X : Cx} {pins : List (Addr × Obj)} {σ : St} {H : Hp} {s s' : Shared} {M : Model} {E : Value → Shared → Prop} {Q : Unit → Shared → Prop}
theorem Inv.notStk (I : Inv X pins σ H s) {b : Addr} {o : Obj} (e : X.s₀.heap.get? b = some o) (hb : b ∉ X.fs) : b ∉ frs X.stack := fun z =>
  (List.mem_cons.mp (I.stkSub b z)).elim (fun q => absurd q (Nat.ne_of_lt (Nat.lt_of_lt_of_le (Heap.lt_size e) I.ok.above))) hb
/-- raised here, it leaves the frame -/
theorem made_fly (I : Inv X pins σ H s) (hst : X.stack = X.env :: X.outer) (hf : X.env.frame = some X.env.locals) (hex : X.ex = []) {h1 : Heap} {ea : Addr} {cls : Value} {args : List Value} (hx : Heap.MadeExcOf s.heap h1 ea cls args)
    (k : ∀ h' a0, Fly X.prog X.w X.outer X.H₀ X.s₀ cls H ea (PySem.W.hideAll s.heap (frs X.stack)) a0 { s with heap := h' } → Q () { s with heap := h' }) :
    wpAny M X.A (leaving X.env (.ref ea)) Q E { s with heap := h1 } := by
  have noex : ∀ b : Addr, b ∉ X.ex := fun b z => by rw [hex] at z; cases z
  have hin : ∀ env ∈ X.stack, ∀ a, env.frame = some a → a ∈ frs X.stack := fun env he a ha => List.mem_filterMap.mpr ⟨env, he, ha⟩
  have hl : s.heap.FunFrames (PySem.W.hideAll s.heap (frs X.stack)) (X.env :: X.outer) := by
    have z := PySem.W.funFrames_hide I.stack hin
    rw [hst] at z ⊢
    exact z
  refine wpAny_leaves_madeW (base := PySem.W.hideAll s.heap (frs X.stack)) (h := s.heap) (by rw [I.ok.frames, hst]) hf (fun b o q => PySem.W.of_hideAll _ q) hl hx fun h' t x1 _ _ x4 => k h' (.ref t) ?_
  have st := x1.1
  have nstk : ∀ b u, H b = some u → b ∉ frs X.stack := fun b u e z => by rw [I.stkFree b z] at e; cases e
  have tr : ∀ b u, H b = some u → ∃ o, s.heap.get? b = some o ∧ h'.get? b = some o ∧ (PySem.W.hideAll s.heap (frs X.stack)).get? b = some o := fun b u e => by
    obtain ⟨o, ho⟩ := (I.hok b u e).there
    have q := PySem.W.hideAll_get (frs X.stack) ho (nstk b u e)
    exact ⟨o, ho, st b o q, q⟩
  refine ⟨I.os, I.bare, ?_, ⟨fun b o e n hb _ => ?_, fun b o e n hb _ => ?_, fun b o e n _ => I.base.free b o e n (noex b), fun b o e _ => ?_, I.base.tups, I.base.frzs, I.base.tbls⟩, fun a u e => ?_, fun b o e n hb => ?_, fun b u e => ?_, fun b o e hb => ?_, x1⟩
  · cases q : X.s₀.heap.get? ea with
    | none => rfl
    | some o =>
      obtain ⟨o', e⟩ := I.base.there ea o q (noex ea)
      rw [hx.new] at e
      cases e
  · exact st b o (PySem.W.hideAll_get _ (I.base.keep b o e n hb (noex b)) (I.notStk e hb))
  · obtain ⟨sl, e1⟩ := I.base.slot b o e n hb (noex b)
    obtain ⟨_, o2, ho2, nf⟩ := I.funs.mem hb
    rw [e1] at ho2
    cases ho2
    obtain ⟨sl', e2⟩ := x4 b _ (hx.keeps b _ e1) nf
    exact ⟨sl', e2⟩
  · by_cases hb : b ∈ X.fs
    · obtain ⟨_, o2, ho2, nf⟩ := I.funs.mem hb
      obtain ⟨sl', e2⟩ := x4 b _ (hx.keeps b _ ho2) nf
      exact ⟨_, e2⟩
    · obtain ⟨o', e'⟩ := I.base.there b o e (noex b)
      exact ⟨o', st b o' (PySem.W.hideAll_get _ e' (I.notStk e hb))⟩
  · refine (I.hok a u e).stay (fun b v hb q => ?_) (fun _ q => q) fun _ _ q => q
    have z : ∃ u', H b = some u' := by
      rcases hb with z | z
      · rw [z]; exact ⟨u, e⟩
      · exact ⟨_, z⟩
    obtain ⟨u', e'⟩ := z
    obtain ⟨o, e1, e2, _⟩ := tr b u' e'
    rw [q] at e1
    cases e1
    exact e2
  · exact PySem.W.hideAll_get _ (I.base.keep b o e n hb (noex b)) (I.notStk e hb)
  · obtain ⟨o, _, e2, e3⟩ := tr b u e
    exact ⟨o, e2, e3⟩
  · obtain ⟨o', e'⟩ := I.base.there b o e (noex b)
    exact ⟨o', PySem.W.hideAll_get _ e' (I.notStk e hb)⟩
/-- it comes from a callee and leaves this frame too -/
theorem fly_on (I : Inv X pins σ H s) (hst : X.stack = X.env :: X.outer) (hf : X.env.frame = some X.env.locals) (hex : X.ex = []) {H' : Hp} {ea : Addr} {cls a0 : Value} {B : Heap} (F : Fly X.prog X.w X.stack H s cls H' ea B a0 s')
    (k : ∀ h', Fly X.prog X.w X.outer X.H₀ X.s₀ cls H' ea B a0 { s' with heap := h' } → Q () { s' with heap := h' }) : wpAny M X.A (leaving X.env (.ref ea)) Q E s' := by
  have noex : ∀ b : Addr, b ∉ X.ex := fun b z => by rw [hex] at z; cases z
  have sub : ∀ b ∈ X.fs, b ∈ frs X.stack := fun b hb => by
    rw [hst]
    obtain ⟨env, he, hf'⟩ := List.mem_filterMap.mp hb
    exact List.mem_filterMap.mpr ⟨env, List.mem_cons_of_mem _ he, hf'⟩
  refine wpAny_leaves_onW (by rw [I.ok.frames, hst]) hf (by have z := F.fly; rw [hst] at z; exact z) fun h' x1 x2 => k h' ?_
  have st := x1.1
  have ff := F.fly.2.2.1
  refine ⟨F.os.trans I.os, F.bare, ?_, ⟨fun b o e n hb _ => ?_, fun b o e n hb _ => ?_, fun b o e n _ => ?_, fun b o e _ => ?_, fun b xs e => F.un.tups b xs (I.base.tups b xs e), fun b o u e => F.un.frzs b o u (I.base.frzs b o u e), fun b ps e => ?_⟩, fun a u e => ?_, fun b o e n hb => ?_, fun b u e => ?_, fun b o e hb => ?_, x1⟩
  · cases q : X.s₀.heap.get? ea with
    | none => rfl
    | some o =>
      obtain ⟨o', e⟩ := I.base.there ea o q (noex ea)
      rw [F.new] at e
      cases e
  · exact st b o (F.keepB b o (I.base.keep b o e n hb (noex b)) (I.base.free b o e n (noex b)) (I.notStk e hb))
  · obtain ⟨sl, e1⟩ := I.base.slot b o e n hb (noex b)
    obtain ⟨sl2, e2⟩ := F.un.slot b _ e1 (I.base.free b o e n (noex b)) (sub b hb) (by simp)
    obtain ⟨_, o2, ho2, nf⟩ := ff.mem (sub b hb)
    rw [e2] at ho2
    cases ho2
    obtain ⟨sl', e3⟩ := x2 b _ e2 nf
    exact ⟨sl', e3⟩
  · obtain ⟨o', e'⟩ := I.base.there b o e (noex b)
    exact F.un.free b o' e' (I.base.free b o e n (noex b)) (by simp)
  · by_cases hb : b ∈ X.fs
    · obtain ⟨_, o2, ho2, nf⟩ := ff.mem (sub b hb)
      obtain ⟨sl', e3⟩ := x2 b _ ho2 nf
      exact ⟨_, e3⟩
    · obtain ⟨o', e'⟩ := I.base.there b o e (noex b)
      obtain ⟨o2, e2⟩ := F.thB b o' e' (I.notStk e hb)
      exact ⟨o2, st b o2 e2⟩
  · obtain ⟨m1, e1⟩ := I.base.tbls b ps e
    obtain ⟨m2, e2⟩ := F.un.tbls b _ e1
    exact ⟨m1 ++ m2, by rw [e2, Array.append_assoc]⟩
  · refine (F.hok a u e).stay (fun b v hb q => ?_) (fun _ q => q) fun _ _ q => q
    have z : ∃ u', H' b = some u' := by
      rcases hb with z | z
      · rw [z]; exact ⟨u, e⟩
      · exact ⟨_, z⟩
    obtain ⟨u', e'⟩ := z
    obtain ⟨o, e1, e2⟩ := F.tracked b u' e'
    rw [q] at e1
    cases e1
    exact st b v e2
  · exact F.keepB b o (I.base.keep b o e n hb (noex b)) (I.base.free b o e n (noex b)) (I.notStk e hb)
  · obtain ⟨o, _, e2⟩ := F.tracked b u e
    exact ⟨o, st b o e2, e2⟩
  · obtain ⟨o', e'⟩ := I.base.there b o e (noex b)
    exact F.thB b o' e' (I.notStk e hb)
end

section
variable {P : Program} {w : World} {K : PySem.W.Frag} {mg : Str → Option Value} {base : Heap}
/-- what a callee raises passes through this def -/
theorem pass_e {N : List Str} {qual : Str} {scope : Scope} {f : Addr} {cd : Value} {A : Around} {outer : List Env} {s : Shared} {H : Hp} {E E' : XK} (hE : ∀ cls H', E' cls none H' → E cls none H') :
    Passes (CXe P w) (cxOf (CXe P w) P w K mg base N qual scope f cd A outer s H E) E' := fun pins σ H1 s1 e s' I h => by
  obtain ⟨ea, cls, H', B, a0, rfl, F, q⟩ := h
  exact fly_on I rfl rfl rfl F fun h' F' => ⟨ea, cls, H', B, a0, rfl, F', hE _ _ q⟩
/-- a def that may raise -/
theorem Fun.okx {x qual : Str} {st : Stmt} {f : Addr} {fd : FuncData} {N ps : List Str} {k : Nat} {sp : Sp} (F : Fun K x qual st f fd) (S : FnScope N ps (defScope st)) (len : ∀ vs H Q E, sp vs H Q E → vs.length = ps.length)
    (hbody : ∀ (cdv : Value) (A : Around) (outer : List Env) (s : Shared) (H : Hp) (vs : List V) (Q : VK) (E : XK), Room k (A.deeper (envOfC qual (defScope st) s.heap.objs.size f cdv)) → sp vs H Q E →
      ∃ t, PSs (cxOf (CXe P w) P w K mg base N qual (defScope st) f cdv A outer s H E) (defBody st) t ∧ t { nx := fun _ H' => Q .non H', rt := Q } (start N vs) H) : FnOk P w K mg base (CXe P w) (k + 1) f fd ps sp := by
  obtain ⟨oc, od, kV, doc, pm, an, cdv, ct, osl, rfl, lk, hcd⟩ := F.ex
  refine fn_of lk hcd S len fun A outer s H vs Q E hr hsp => ?_
  exact hbody cdv A outer s H vs Q E hr hsp
end
/-- an own class of exceptions, its built-in base B -/
structure Exc (K : PySem.W.Frag) (mg : Str → Option Value) (x : Str) (C : Addr) : Prop where
  at' : mg x = some (.ref C)
  ex : PySem.W.excIn K C [.type "ValueError", .type "Exception", .type "BaseException", .type "object"] "ValueError.__new__" = true
theorem Exc.obj {K : PySem.W.Frag} {mg : Str → Option Value} {x : Str} {C : Addr} {h : Heap} (T : Exc K mg x C) (KX : K.In h) : OwnCls x C [.type "ValueError", .type "Exception", .type "BaseException", .type "object"] "ValueError.__new__" mg h := by
  refine ⟨T.at', ?_⟩
  have q := T.ex
  unfold PySem.W.excIn at q
  split at q
  · rename_i dd cd sl ho
    split at q
    · rename_i CC bm k0 k1 k2 k3 nw k5 hm hs
      simp only [beq_iff_eq, Bool.and_eq_true, Bool.not_eq_true'] at q
      obtain ⟨⟨⟨⟨⟨r1, r2⟩, r3⟩, r4⟩, r5⟩, r6⟩ := q
      subst r1
      subst r2
      obtain ⟨nm, bs, mr, ns, qn, hd, sn, sub, ab, col, dl⟩ := cd
      dsimp only at hm r3 r5 r6
      subst hm
      subst r3
      have hsl : sl = #[k0, k1, k2, k3, some (.builtin "ValueError.__new__"), k5] := by
        obtain ⟨l⟩ := sl
        simp only at hs
        rw [hs]
      subst hsl
      exact ⟨bm, ns, nm, qn, bs, hd, sn, sub, ab, col, dd, k0, k1, k2, k3, k5, _, KX _ _ ho, .of_isNs (PySem.W.isNs_of_in KX r5), PySem.W.nsMap_none_of_in KX r5 r6, PySem.W.tail_of_in KX r4⟩
    · cases q
  · cases q
/-- raise C(e, ..) -/
def tRaise (t : TA) (C : Addr) (E : XK) : TS := fun _ σ H => t σ H fun vs H1 => vs.length ≤ sizeLine ∧ E (.ref C) none H1
section
variable {P : Program} {w : World} {K : PySem.W.Frag} {mg : Str → Option Value} {base : Heap} {N : List Str} {qual : Str} {scope : Scope} {f C : Addr} {cd : Value} {A : Around} {outer : List Env} {s₀ : Shared} {H₀ : Hp} {E : XK} {x : Str} {e : Expr} {es : List Expr} {t : TA} {np cpos pos : Pos}
theorem ps_raise (T : Exc K mg x C) (hg : Gl (cxOf (CXe P w) P w K mg base N qual scope f cd A outer s₀ H₀ E) x) (ha : PA (cxOf (CXe P w) P w K mg base N qual scope f cd A outer s₀ H₀ E) (e :: es) t) (hd : (x == ("__debug__" : Str)) = false := by decide)
    (he : starEach (e :: es) (envOfC qual scope s₀.heap.objs.size f cd) = (false, eval e (envOfC qual scope s₀.heap.objs.size f cd)) :: starEach es (envOfC qual scope s₀.heap.objs.size f cd) := by rfl)
    (hpl : (backTo cpos (starEach es (envOfC qual scope s₀.heap.objs.size f cd))).any (·.1) = false := by rfl) :
    PS (cxOf (CXe P w) P w K mg base N qual scope f cd A outer s₀ H₀ E) (.Raise (some (.Call (.Name x np) (e :: es) [] cpos)) none pos) (tRaise t C E) := by
  intro pins s σ H D I h
  obtain ⟨tl, N', nm, q, bs, hdct, sn, sub, ab, col, dd, k0, k1, k2, k3, k5, mN, hC, hN, hni, TL⟩ := (T.obj I.ok.mod.kin).obj
  have hA := ha cpos pins s σ H _ I h
  refine wpAny_Raise_call_subT (C := C) (nm := nm) (q := q) (N := N') (bs := bs) (bm := tl) (hdct := hdct) (sn := sn) (sub := sub) (ab := ab) (col := col) (dd := dd) (k0 := k0) (k1 := k1) (k2 := k2) (k3 := k3) (k5 := k5)
    PySem.F.excBase_ValueError (mN := mN) (TL.hasType PySem.F.excBase_ValueError.hasBase) (I.ok.hd rfl) ?_ hni (ld_glob I hg T.at' ⟨rfl, ?_⟩ hd)
  · show (backTo cpos (starEach (e :: es) (envOfC qual scope s₀.heap.objs.size f cd))).any (·.1) = false
    rw [he]
    show (false || (backTo cpos (starEach es (envOfC qual scope s₀.heap.objs.size f cd))).any (·.1)) = false
    rw [hpl]
    rfl
  · have hA' : wpAny (model P w) (A.deeper (envOfC qual scope s₀.heap.objs.size f cd)) (spliced (backTo cpos (starEach (e :: es) (envOfC qual scope s₀.heap.objs.size f cd)))) _ _ s := hA
    show wpAny (model P w) (A.deeper (envOfC qual scope s₀.heap.objs.size f cd)) (evalArgs (.ref C) true (backTo cpos (starEach (e :: es) (envOfC qual scope s₀.heap.objs.size f cd))) []) _ _ s
    rw [he] at hA' ⊢
    refine Calls.evalArgs_plain (wpAny_mono hA' (fun us s1 hq => ?_) fun _ _ y => y)
    obtain ⟨vs, H1, I1, r1, z, q1⟩ := hq
    refine ⟨rfl, by rw [← r1.length]; exact z, I1.bk _ _ hC, hN.keeps I1.bk, TL.keeps I1.bk, fun h' e' hm => ?_⟩
    exact made_fly I1 rfl rfl rfl hm fun h2 a0 F => ⟨e', .ref C, H1, _, a0, rfl, F, q1⟩
end

/-! ### try: f(..) except C as n: .. -/
/-- an expression that may raise, by what is wanted then -/
def PEx (X : Cx) (e : Expr) (tx : St → Hp → VK → (Value → Hp → Prop) → Prop) : Prop :=
  ∀ (pins : List (Addr × Obj)) (s : Shared) (σ : St) (H : Hp) (Q : VK) (Ex : Value → Hp → Prop), Inv X pins σ H s → tx σ H Q Ex →
    wpAny (model X.prog X.w) X.A (eval e X.env) (EP X pins σ Q) (fun ev s' => ∃ H1 s1, Inv X pins σ H1 s1 ∧ CXe X.prog X.w X.stack H1 s1 (fun cls _ H' => Ex cls H') ev s') s
section
variable {X : Cx} {k : Nat} {f C : Addr} {fd : FuncData} {ps : List Str} {sp : Sp} {dvs : List V} {ds : List Value} {x m : Str} {p pos apos : Pos} {e o : Expr} {es : List Expr} {ta : TE} {t : TA}
theorem pex_call (F : FnOk X.prog X.w X.K X.mg X.base (CXe X.prog X.w) k f fd ps sp) (hr : Room k X.A) (hg : Gl X x) (hm : X.mg x = some (.ref f)) (hk : PySem.W.keepIn X.K (.ref f) = true) (hb : Binds X.K fd ps ds) (hd : Vals dvs ds)
    (ha : PA X.nox (e :: es) t) (hdb : (x == ("__debug__" : Str)) = false := by decide) (he : starEach (e :: es) X.env = (false, eval e X.env) :: starEach es X.env := by rfl) (hpl : (backTo pos (starEach es X.env)).any (·.1) = false := by rfl) :
    PEx X (.Call (.Name x p) (e :: es) [] pos) (fun σ H Q Ex => t σ H fun vs H1 => sp (vs ++ dvs) H1 Q (fun cls _ H' => Ex cls H')) := by
  intro pins s σ H Q Ex I h
  refine wpAny_Call_Name_kw (ld_glob I hg hm ?_ hdb)
  refine PySem.W.callWith_K (h₀ := X.base) I.ok.mod.kin hk (wpAny_mono (ha pos pins s σ H _ (I.wish _) h) (fun us s1 hq => ?_) fun _ _ z => False.elim z) he hpl
  obtain ⟨vs, H1, I1, r, q⟩ := hq
  have I1' : Inv X pins σ H1 s1 := I1.unwish
  refine ⟨I1'.kIn, ?_⟩
  have r2 : Vals (vs ++ dvs) (us ++ ds) := r.append hd
  have hl : (us ++ ds).length = ps.length := by rw [← r2.length]; exact F.len _ _ _ _ q
  refine wpAny_call (codeAny_mono (F.run X.A X.stack s1 H1 ⟨us, []⟩ (us ++ ds) (vs ++ dvs) Q _ hr I1'.env0 (hb s1 us I1'.kIn hl) r2 q) fun r s' hq => ?_)
  cases r with
  | error e => exact ⟨H1, s1, I1', hq⟩
  | ok fl =>
    cases fl with
    | ret u => exact I1'.after hq
    | next => exact False.elim hq
    | brk => exact False.elim hq
    | cont => exact False.elim hq
end
/-- the context of an except suite -/
abbrev Cx.inExc (X : Cx) (ea : Addr) : Cx := { X with A := X.A.mark (some (.ref ea)), calm := false }
theorem Inv.inExc {X : Cx} {pins : List (Addr × Obj)} {σ : St} {H : Hp} {s : Shared} (I : Inv X pins σ H s) (ea : Addr) : Inv (X.inExc ea) pins σ H s :=
  ⟨⟨I.ok.mod, I.ok.kind, I.ok.glob, I.ok.blt, I.ok.above, I.ok.inj, I.ok.has, I.ok.cab, (fun z => Bool.noConfusion z), I.ok.frames, I.ok.stk, I.ok.exf, I.ok.bs, I.ok.bsz, I.ok.noex, I.ok.exfs, I.ok.funs, I.ok.frf⟩, I.os, I.bare, I.base, I.loc, I.cell, I.free, I.freeC, I.pin, I.hok, I.len⟩
theorem Inv.outExc {X : Cx} {pins : List (Addr × Obj)} {σ : St} {H : Hp} {s : Shared} {ea : Addr} (ok : X.Ok) (I : Inv (X.inExc ea) pins σ H s) : Inv X pins σ H s :=
  ⟨ok, I.os, I.bare, I.base, I.loc, I.cell, I.free, I.freeC, I.pin, I.hok, I.len⟩
/-- an exception that is held -/
abbrev exO (ea : Addr) (cls : Value) : HO := .ext fun h => ∃ (o : Obj) (vs : Array Value), h.get? ea = some o ∧ o.cls = cls ∧ o.data = .fields vs
def tTryAs (K : PySem.W.Frag) (tx : St → Hp → VK → (Value → Hp → Prop) → Prop) (C : Addr) (i : Nat) (tb : Addr → TS) : TS := fun D σ H => tx σ H (fun _ H1 => D.nx σ H1) fun cls H1 =>
  PySem.W.exmOne K cls (.ref C) = some true ∧ ∀ ea, H1 ea = none → tb ea { nx := fun _ _ => False, rt := D.rt } (σ.set i (some (.ref ea))) (upd H1 ea (exO ea cls))
theorem ps_tryAs {X : Cx} {call : Expr} {tx : St → Hp → VK → (Value → Hp → Prop) → Prop} {cn n : Str} {C : Addr} {i : Nat} {b₀ : Stmt} {suite : List Stmt} {tb : Addr → TS} {np epos hpos tpos : Pos} (hx : PEx X call tx) (hst : X.stack = X.env :: X.outer) (hf : X.env.frame = some X.env.locals)
    (hg : Gl X cn) (hm : X.mg cn = some (.ref C)) (hN : X.N.Nodup) (hi : X.N[i]? = some n) (hl : X.env.scope.names.lookup n = some .local) (hb : ∀ ea, PSs (X.inExc ea).nox (b₀ :: suite) (tb ea))
    (hs : swapsWith call none epos.line X.env = pure false := by rfl) (hd : (cn == ("__debug__" : Str)) = false := by decide) :
    PS X (.Try [.Expr call epos] [.ExceptHandler (some (.Name cn np)) (some n) (b₀ :: suite) hpos] [] [] tpos) (tTryAs X.K tx C i tb) := by
  intro pins s σ H D I h
  refine wpAny_Try_except (wpAny_execs_cons (wpAny_Expr_any (wpAny_mono (hx pins s σ H _ _ I h) (fun v s1 hq => ?_) fun ev s1 hq => ?_) I.quiet hs))
  · obtain ⟨v', H1, I1, r1, q1⟩ := hq
    exact wpAny_execs_nil (wpAny_execs_nil ⟨σ, H1, I1, q1⟩)
  obtain ⟨H1, s0, I1, ea, cls, H', B, a0, rfl, F, hcls, hbody⟩ := hq
  have hfr : X.A.frames = some (X.env :: X.outer) := by rw [I.ok.frames, hst]
  have hfly : Heap.FlyingW B (X.env :: X.outer) ea cls a0 s1.heap := by have z := F.fly; rw [hst] at z; exact z
  refine wpAny_looks_onW hfr hf hfly fun h4 x1 x2 => wpAny_landsW x1 fun h5 y1 y2 => ?_
  have m5 := F.move y1.1 (x2.trans y2)
  have I5 : Inv X pins σ H' { s1 with heap := h5 } := I1.call' (s' := { s1 with heap := h5 }) F.os m5.1 m5.2 F.bare fun b z => by cases z
  have I5e := I5.inExc ea
  refine wpAny_handleBy_cons (codeAny_handlers_test (ld_glob (X := X.inExc ea) I5e hg hm ?_ hd)) (by intro q; cases q)
  obtain ⟨ob, hob, hobc⟩ := Heap.FlyingW.there y1
  have LT : PySem.W.Looks (model X.prog X.w) h5 (typeOf (.ref ea)) cls := hobc ▸ (PySem.W.Looks.ld hob).andThen .now
  refine (PySem.W.exm_one I5.kIn LT hcls).here ?_
  show codeAny _ _ _ _ _
  refine codeAny_handlers_suite_as (lands_againW y1 fun h6 z1 z2 => ?_)
  have m6 := F.move z1.1 ((x2.trans y2).trans z2)
  obtain ⟨oe, ws, hoe, hoec, hoed, _⟩ := z1.first
  have fr := F.fresh
  have old : ∀ b o, s0.heap.get? b = some o → b ≠ ea := fun b o e z => by rw [z, F.new] at e; cases e
  have ne' : ∀ b u, H' b = some u → b ≠ ea := fun b u e z => by rw [z, fr] at e; cases e
  have u6 : Un (frs X.stack) [] H1 (upd H' ea (exO ea cls)) s0.heap h6 := by
    refine ⟨m6.1.keep, m6.1.slot, fun b o e n hx => ?_, m6.1.there, fun b xs e => ?_, fun b o u e => ?_, fun b ps e => ?_⟩
    · rw [upd_ne (old b o e)]; exact m6.1.free b o e n hx
    · have q := m6.1.tups b xs e
      rw [upd_ne (ne' b _ q)]; exact q
    · have q := m6.1.frzs b o u e
      rw [upd_ne (ne' b _ q)]; exact q
    · obtain ⟨m, q⟩ := m6.1.tbls b ps e
      exact ⟨m, by rw [upd_ne (ne' b _ q)]; exact q⟩
  have k6 : HOk X.prog X.w (upd H' ea (exO ea cls)) h6 := fun a u e => by
    by_cases ha : a = ea
    · subst ha
      rw [upd_same] at e
      cases e
      exact ⟨⟨oe, ws, hoe, hoec, hoed⟩, ⟨oe, hoe⟩, fun h1 h2 ⟨o, vs, p1, p2, p3⟩ k => ⟨o, vs, k o p1, p2, p3⟩⟩
    · rw [upd_ne ha] at e
      refine (m6.2 a u e).stay (fun _ _ _ q => q) (fun b q => ?_) fun b xs q => ?_
      · rw [upd_ne (ne' b _ q)]; exact q
      · rw [upd_ne (ne' b _ q)]; exact q
  have I6 : Inv X pins σ (upd H' ea (exO ea cls)) { s1 with heap := h6 } := I1.call' (s' := { s1 with heap := h6 }) F.os u6 k6 F.bare fun b z => by cases z
  refine store_ok (X := X.inExc ea) (v := .ref ea) (I6.inExc ea) hN hi (.inl hl) rfl (fun s7 I7 => ?_) (.inr hl)
  refine wpAny_mono (hb ea pins s7 _ _ _ (I7.wish _) (hbody ea fr)) (fun fl s8 q8 => ?_) fun _ _ z => False.elim z
  cases fl with
  | next => obtain ⟨_, _, _, z⟩ := q8; exact False.elim z
  | brk => obtain ⟨_, _, _, z⟩ := q8; exact False.elim z
  | cont => obtain ⟨_, _, _, z⟩ := q8; exact False.elim z
  | ret u =>
    obtain ⟨v8, σ8, H8, I8, r8, q8⟩ := q8
    have I8' : Inv X pins σ8 H8 s8 := Inv.outExc I.ok I8.unwish
    obtain ⟨m8, n8, _⟩ := I8'.loc
    have hcls8 : (X.env.scope.kind == .class || (X.env.scope.kind == .module && X.env.locals != X.env.globals)) = false := by rw [I.ok.kind]; rfl
    show wpAny (model X.prog X.w) X.A (do bindName X.env n .none; unbindBehindTheSuite X.env n hpos) (fun _ s₃ => SP X pins D (.ret u) s₃) X.xe s8
    refine wpAny_nameGoes hl n8 hcls8 fun h9 m9 n9 sb => ?_
    refine ⟨v8, σ8.map (fun _ => none), H8, ?_, r8, q8⟩
    have tracked : HOk X.prog X.w H8 h9 := fun b ob e => by
      refine (I8'.hok b ob e).stay (fun c w' hc q => (sb.2 c ?_).trans q) (fun _ q => q) fun _ _ q => q
      rintro rfl
      rcases hc with rfl | hc
      · rw [I8'.free] at e; cases e
      · rw [I8'.free] at hc; cases hc
    refine ⟨I8'.ok, I8'.os, I8'.bare, ⟨fun b o e n hb hx => ?_, fun b o e n hb hx => ?_, I8'.base.free, fun b o e hx => ?_, I8'.base.tups, I8'.base.frzs, I8'.base.tbls⟩, ⟨_, n9, fun j y v' e1 e2 e3 => ?_⟩, fun y c e => ?_, I8'.free, I8'.freeC, fun p hp => ?_, tracked, by rw [List.length_map]; exact I8'.len⟩
    · exact (sb.2 b (Nat.ne_of_lt (Nat.lt_of_lt_of_le (Heap.lt_size e) I8'.ok.above))).trans (I8'.base.keep b o e n hb hx)
    · obtain ⟨sl, e1⟩ := I8'.base.slot b o e n hb hx
      exact ⟨sl, (sb.2 b (Nat.ne_of_lt (Nat.lt_of_lt_of_le (Heap.lt_size e) I8'.ok.above))).trans e1⟩
    · obtain ⟨o', e1⟩ := I8'.base.there b o e hx
      exact ⟨o', (sb.2 b (Nat.ne_of_lt (Nat.lt_of_lt_of_le (Heap.lt_size e) I8'.ok.above))).trans e1⟩
    · rw [List.getElem?_map] at e2
      cases q : σ8[j]? with
      | none => rw [q] at e2; cases e2
      | some z => rw [q] at e2; cases e2
    · obtain ⟨w', z⟩ := I8'.cell y c e
      exact ⟨w', z.sameBut sb (I8'.cne y c e)⟩
    · obtain ⟨e, n, ne, nf, d⟩ := I8'.pin p hp
      exact ⟨(sb.2 p.1 ne).trans e, n, ne, nf, d⟩
end L2

/-! ### isinstance of an exception that is held -/
namespace L2
open PySem PySem.Spec PyProof.Rows
/-- what the top says of a class of exceptions, for its instances -/
structure ExcI (K : PySem.W.Frag) (C : Addr) : Prop where
  ga : PySem.W.findIn K (.ref C) "__getattribute__" = some (some (.builtin "BaseException.__getattribute__"))
  gt : PySem.W.findIn K (.ref C) "__getattr__" = some none
  cl : PySem.W.findIn K (.ref C) "__class__" = some (some (.builtin "object.__class__"))
  mb : PySem.W.mroIn K C (.type "BaseException") = some true
  mo : PySem.W.mroIn K C (.type "object") = some true
section
variable {prog : Program} {w : World} {A : Around} {E : Value → Shared → Prop} {h : Heap} {g : Array GenState} {d : Drawn} {t : Nat} {os : OsState} {a C : Addr} {o : Obj} {vs : Array Value} {K : PySem.W.Frag}
theorem exc_get {R : Result → Shared → Prop} (KX : K.In h) (T : ExcI K C) (hx : h.get? a = some o) (hc : o.cls = .ref C) (hq : R (.ok (.ret (.ref C))) ⟨h, g, d, t, os⟩) :
    codeAny (model prog w) A (.call (.builtin "getset_descriptor.__get__") ⟨[.builtin "object.__class__", .ref a, .ref C], []⟩) R ⟨h, g, d, t, os⟩ := by
  have g1 : (⟨h, g, d, t, os⟩ : Shared).TypeIs (.builtin "object.__class__") "getset_descriptor" := F.typeOf_object_class
  have LO := PySem.W.looks_mroIn (M := model prog w) KX T.mo
  rw [← F.owner_object_class] at LO
  refine codeAny_call_builtin F.slot_gs_get.plain F.entry_gs_get (F.slot_gs_get.check _ _ _ _ _ _ _ _ g1 (F.args_gs_get _ _ _) ?_)
  repeat (any_goals (first | assumption | (with_reducible refine wpAny_loadPart_at hx ?_; rw [hc]) | (with_reducible refine PySem.W.Looks.at LO ?_) | wp_step))
  refine And.intro (Code.quiet_builtin _ (by decide +kernel)) (codeAny_builtin F.entry_object_class ?_)
  repeat (any_goals (first | assumption | (with_reducible refine wpAny_loadPart_at hx ?_; rw [hc]) | wp_step))
theorem exc_entry {tk : Tok} {Q : Fin → Shared → Prop} (KX : K.In h) (T : ExcI K C) (hx : h.get? a = some o) (hc : o.cls = .ref C) (hq : Q (.done (.ret (.ref C))) ⟨h, g, d, t, os⟩) :
    wpAny (model prog w) A (Builtin.«object.__getattribute__» (⟨[.ref a, .str "__class__" tk], []⟩ : Args)) Q E ⟨h, g, d, t, os⟩ := by
  have g1 : (⟨h, g, d, t, os⟩ : Shared).TypeIs (.builtin "object.__class__") "getset_descriptor" := F.typeOf_object_class
  have g2 := F.typeOf_object_class
  have g3 := F.slot_gs_get.lookup
  have g4 := F.slot_gs_set.lookup
  have L1 := PySem.W.looks_findIn (M := model prog w) KX T.cl
  repeat (any_goals (first | assumption | (with_reducible refine wpAny_loadPart_at hx ?_; rw [hc]) | (with_reducible refine PySem.W.Looks.at L1 ?_) | wp_step))
  refine exc_get KX T hx hc ?_
  repeat (any_goals (first | assumption | (with_reducible refine PySem.W.Looks.at L1 ?_) | wp_step))
theorem exc_check {M : Model} {nameV : Value} {Q : Unit → Shared → Prop} (KX : K.In h) (T : ExcI K C) (hx : h.get? a = some o) (hc : o.cls = .ref C) (hq : Q () ⟨h, g, d, t, os⟩) :
    wpAny M A (checkBuiltinCall "BaseException.__getattribute__" ⟨[.ref a, nameV], []⟩) Q E ⟨h, g, d, t, os⟩ := by
  have k1 : builtinKind "BaseException.__getattribute__" = some .slot := by decide +kernel
  have k2 : splitId "BaseException.__getattribute__" = some ("BaseException", "__getattribute__") := by decide +kernel
  have k3 := F.args_bexc_ga (.ref a) nameV
  have LB := PySem.W.looks_mroIn (M := M) KX T.mb
  simp only [checkBuiltinCall, k1, k2]
  refine wpAny_bind ?_
  unfold isInstance
  repeat (first | (with_reducible refine wpAny_loadPart_at hx ?_; rw [hc]) | (with_reducible refine PySem.W.Looks.at LB ?_) | wp_step)
  exact hq
theorem exc_call {tk : Tok} {R : Result → Shared → Prop} (KX : K.In h) (T : ExcI K C) (hx : h.get? a = some o) (hc : o.cls = .ref C) (hq : R (.ok (.ret (.ref C))) ⟨h, g, d, t, os⟩) :
    codeAny (model prog w) A (.call (.builtin "BaseException.__getattribute__") ⟨[.ref a, .str "__class__" tk], []⟩) R ⟨h, g, d, t, os⟩ :=
  codeAny_call_builtin PySem.F.attrBase_ValueError.ga.plain F.entry_bexc_ga (exc_check KX T hx hc (exc_entry KX T hx hc hq))
theorem exc_by {tk : Tok} {fill expr : Bool} {Q : Value → Shared → Prop} (KX : K.In h) (T : ExcI K C) (hx : h.get? a = some o) (hc : o.cls = .ref C) (hq : Q (.ref C) ⟨h, g, d, t, os⟩) :
    wpAny (model prog w) A (getAttrBy (.ref a) (.str "__class__" tk) fill expr) Q E ⟨h, g, d, t, os⟩ := by
  have f3 := PySem.F.attrBase_ValueError.ga.bind (.ref a)
  have x0 : (expr && onTheHeap (Value.builtin "BaseException.__getattribute__")) = false := by cases expr <;> rfl
  have x2 : (Value.builtin "BaseException.__getattribute__" == Value.builtin "object.__getattribute__") = false := by decide +kernel
  have x1 : (onTheHeap (Value.ref C) && Value.builtin "BaseException.__getattribute__" == Value.builtin "object.__getattribute__") = false := by rw [x2]; rfl
  have L1 := PySem.W.looks_findIn (M := model prog w) KX T.ga
  have L2 := PySem.W.looks_findIn (M := model prog w) KX T.gt
  repeat (any_goals (first | assumption | (with_reducible refine wpAny_loadPart_at hx ?_; rw [hc]) | (with_reducible refine PySem.W.Looks.at L1 ?_) | (with_reducible refine PySem.W.Looks.at L2 ?_) | wp_step))
  refine exc_call KX T hx hc ?_
  repeat (any_goals (first | assumption | (with_reducible refine PySem.W.Looks.at L2 ?_) | wp_step))
theorem exc_attr {Q : Option Value → Shared → Prop} (KX : K.In h) (T : ExcI K C) (hx : h.get? a = some o) (hc : o.cls = .ref C) (hq : Q (some (.ref C)) ⟨h, g, d, t + 1, os⟩) : wpAny (model prog w) A (getAttr? (.ref a) "__class__") Q E ⟨h, g, d, t, os⟩ := by
  unfold getAttr? getAttrBy?
  repeat (any_goals (first | assumption | (with_reducible apply exc_by KX T hx hc) | wp_step))
end
theorem kitx_exc {K : PySem.W.Frag} {a C : Addr} (T : ExcI K C) : PySem.W.KitX K (.ref a) (.ref C) (fun h => ∃ o, h.get? a = some o ∧ o.cls = .ref C) where
  ty := fun _ _ _ p => by obtain ⟨o, p1, p2⟩ := p; exact p2 ▸ (PySem.W.Looks.ld p1).andThen .now
  it := fun _ h X _ => by
    obtain ⟨cd, e, _⟩ := Option.bind_eq_some_iff.mp T.mo
    unfold PySem.W.clsIn at e
    split at e
    · rename_i c0 d0 cd0 sl0 ho
      intro A' Q' E' s' k q
      unfold isType loadHead
      refine wpAny_bind (wpAny_loadPart (k _ _ (X _ _ ho)) ?_); exact wpAny_pure q
    · cases e
  ne := fun hh tp dd its n sl X htp => by
    obtain ⟨cd, e, _⟩ := Option.bind_eq_some_iff.mp T.mo
    refine Bool.eq_false_iff.mpr fun q2 => ?_
    have e2 : C = tp := Value.ref.inj (beq_iff_eq.mp q2)
    subst e2
    unfold PySem.W.clsIn at e
    split at e
    · rename_i c0 d0 cd0 sl0 ho
      have zz := (X _ _ ho).symm.trans htp
      cases zz
    · cases e
  ca := fun {prog w A E Q s} X p k => by
    obtain ⟨o, p1, p2⟩ := p
    obtain ⟨h0, g0, d0, t0, os0⟩ := s
    exact exc_attr X T p1 p2 k

section
variable {X : Cx}
/-- isinstance(e, C), e an exception that is held, C one class -/
theorem call_isiE : CallR X (.builtin "isinstance") (fun xs H Q => ∃ ea D c b, xs = [.ref ea, c] ∧ H ea = some (exO ea (.ref D)) ∧ ExcI X.K D ∧ (∀ u, RelV c u → PySem.W.kitOne X.K (.ref D) u = some b) ∧ Q (.bl b) H) := by
  intro pins s σ H xs us Q I r h
  obtain ⟨ea, D, c, b, rfl, he, T, e, q⟩ := h
  obtain ⟨u, w', rfl, r1, r2⟩ := vals2 r
  cases r1
  obtain ⟨⟨o, vs, p1, p2, _⟩, _⟩ := I.hok ea _ he
  exact PySem.W.kia_one (kitx_exc T) I.kIn ⟨o, p1, p2⟩ (e w' r2) (fun z => nomatch z) fun tk => ⟨.bl b, H, I.tok tk, rfl, q⟩
end
end L2

/-! ### a list comprehension -/
namespace L2
open PySem PySem.Spec PyProof.Rows
/-- the closure's cells -/
def clOf (cells : List (Str × Addr)) : List (Str × NameKind) → List (Str × Addr) → List (Str × Addr)
  | [], acc => acc
  | (n, k) :: r, acc => if k == .free then (match cells.lookup n with | some c => clOf cells r ((n, c) :: acc) | none => clOf cells r acc) else clOf cells r acc
theorem clOf_sub {cells : List (Str × Addr)} : ∀ {names : List (Str × NameKind)} {acc : List (Str × Addr)}, (∀ x c, acc.lookup x = some c → cells.lookup x = some c) → ∀ x c, (clOf cells names acc).lookup x = some c → cells.lookup x = some c
  | [], _, h => h
  | (n, k) :: r, acc, h => by
    intro x c
    unfold clOf
    split
    · split
      · rename_i c' hc
        refine clOf_sub (names := r) (fun y d hy => ?_) x c
        rw [List.lookup_cons] at hy
        by_cases e : y == n
        · rw [e] at hy
          cases hy
          rw [beq_iff_eq.mp e]
          exact hc
        · rw [Bool.eq_false_iff.mpr e] at hy
          exact h y d hy
      · exact clOf_sub (names := r) h x c
    · exact clOf_sub (names := r) h x c
theorem clOf_mono {cells : List (Str × Addr)} : ∀ {names : List (Str × NameKind)} {acc : List (Str × Addr)} {x : Str}, (∃ c, acc.lookup x = some c) → ∃ c, (clOf cells names acc).lookup x = some c
  | [], _, _, h => h
  | (n, k) :: r, acc, x, h => by
    unfold clOf
    split
    · split
      · refine clOf_mono (names := r) ?_
        rw [List.lookup_cons]
        by_cases e : x == n
        · rw [e]; exact ⟨_, rfl⟩
        · rw [Bool.eq_false_iff.mpr e]; exact h
      · exact clOf_mono (names := r) h
    · exact clOf_mono (names := r) h
theorem clOf_has {cells : List (Str × Addr)} : ∀ {names : List (Str × NameKind)} {acc : List (Str × Addr)} {x : Str}, (x, NameKind.free) ∈ names → (∃ c, cells.lookup x = some c) → ∃ c, (clOf cells names acc).lookup x = some c
  | [], _, _, h, _ => by cases h
  | (n, k) :: r, acc, x, h, hc => by
    unfold clOf
    rcases List.mem_cons.mp h with e | e
    · cases e
      obtain ⟨c, hc⟩ := hc
      rw [hc]
      refine clOf_mono (names := r) ⟨c, ?_⟩
      rw [List.lookup_cons, beq_self_eq_true]
    · split
      · split
        · exact clOf_has (names := r) e hc
        · exact clOf_has (names := r) e hc
      · exact clOf_has (names := r) e hc
theorem closureFor_eq {scope : Scope} {env : Env} (h : ∀ y ∈ scope.names, y.2 = .free → ∃ c, env.cells.lookup y.1 = some c) : closureFor scope env = pure (clOf env.cells scope.names []) := by
  have gen : ∀ (names : List (Str × NameKind)) (acc : List (Str × Addr)), (∀ y ∈ names, y.2 = .free → ∃ c, env.cells.lookup y.1 = some c) →
      (forIn names acc fun (x : Str × NameKind) r => (if x.2 == NameKind.free then do let c ← cellOf env x.1; pure (ForInStep.yield ((x.1, c) :: r)) else pure (ForInStep.yield r) : Sem (ForInStep (List (Str × Addr))))) = pure (clOf env.cells names acc) := by
    intro names
    induction names with
    | nil => intro acc _; rfl
    | cons y r ih =>
      intro acc h
      obtain ⟨n, k⟩ := y
      have hr : ∀ y ∈ r, y.2 = .free → ∃ c, env.cells.lookup y.1 = some c := fun y hy => h y (List.mem_cons_of_mem _ hy)
      rw [List.forIn_cons]
      unfold clOf
      by_cases e : (k == NameKind.free) = true
      · obtain ⟨c, hc⟩ := h (n, k) List.mem_cons_self (by simpa using e)
        rw [if_pos e, hc]
        have hcell : cellOf env n = pure c := by
          unfold cellOf
          rw [show env.cells.lookup n = some c from hc]
        simp only [if_pos e, hcell, pure_bind]
        exact ih _ hr
      · rw [if_neg e]
        simp only [if_neg e, pure_bind]
        exact ih _ hr
  unfold closureFor
  have g := gen scope.names [] h
  simp only [bind_pure]
  exact g
end L2

namespace L2
open PySem PySem.Spec PyProof.Rows
def rlb (env : Env) (names : List (Str × NameKind)) : List (Str × NameKind) := names.map fun (n, k) => if (k == NameKind.free && env.scope.kind == .function && env.kindOf n == some .cell) then (n, NameKind.cell) else (n, k)
theorem rlb_lookup {env : Env} : ∀ {names : List (Str × NameKind)} {x : Str}, (rlb env names).lookup x = (names.lookup x).map fun k => if (k == NameKind.free && env.scope.kind == .function && env.kindOf x == some .cell) then NameKind.cell else k
  | [], _ => rfl
  | (n, k) :: r, x => by
    have ih := @rlb_lookup env r x
    show List.lookup x ((if (k == NameKind.free && env.scope.kind == .function && env.kindOf n == some .cell) = true then (n, NameKind.cell) else (n, k)) :: rlb env r) = _
    rw [List.lookup_cons]
    cases hx : x == n with
    | true =>
      have e := beq_iff_eq.mp hx
      subst e
      by_cases hc : (k == NameKind.free && env.scope.kind == .function && env.kindOf x == some .cell) = true
      · rw [if_pos hc, List.lookup_cons, beq_self_eq_true]
        show _ = some (if (k == NameKind.free && env.scope.kind == .function && env.kindOf x == some .cell) = true then NameKind.cell else k)
        rw [if_pos hc]
      · rw [if_neg hc, List.lookup_cons, beq_self_eq_true]
        show _ = some (if (k == NameKind.free && env.scope.kind == .function && env.kindOf x == some .cell) = true then NameKind.cell else k)
        rw [if_neg hc]
    | false =>
      by_cases hcond : (k == NameKind.free && env.scope.kind == .function && env.kindOf n == some .cell) = true
      · rw [if_pos hcond, List.lookup_cons, hx]; exact ih
      · rw [if_neg hcond, List.lookup_cons, hx]; exact ih
theorem mem_of_look {names : List (Str × NameKind)} {x : Str} {k : NameKind} (h : names.lookup x = some k) : (x, k) ∈ names := PySem.mem_of_lookup h
/-- the names and the state of a comprehension's block: the targets, then the captured names -/
def lcN (X : Cx) (ts : List Str) (js : List Nat) : List Str := ts ++ js.map fun j => X.N.getD j ""
def lcS (ts : List Str) (js : List Nat) (σ : St) : St := ts.map (fun _ => none) ++ js.map fun j => (σ[j]?).join
abbrev Cx.lc (X : Cx) (scope : Scope) (ts : List Str) (js : List Nat) (C : Addr) (s2 : Shared) (H2 : Hp) (fp : List Addr) : Cx :=
  { X with N := lcN X ts js, s₀ := s2, H₀ := H2, env := compEnvC scope (clOf X.env.cells scope.names []) C X.env, outer := X.stack, ex := fp, fn := fun _ => false, pn := [], xe := fun _ _ => False }
/-- what is asked of a comprehension's scope -/
structure LcOk (X : Cx) (scope : Scope) (js : List Nat) : Prop where
  kind : scope.kind = .function
  cell : ∀ y ∈ scope.names, y.2 ≠ .cell
  names : ∀ y ∈ scope.names, y.2 = .local → scope.names.lookup y.1 = some .local
  free : ∀ y ∈ scope.names, y.2 = .free → X.env.kindOf y.1 = some .cell ∨ X.env.kindOf y.1 = some .free
  cap : ∀ j ∈ js, scope.names.lookup (X.N.getD j "") = some .free
section
variable {X : Cx} {scope : Scope} {ts : List Str} {js : List Nat} {pins : List (Addr × Obj)} {σ : St} {H H' : Hp} {s : Shared} {h' : Heap}
theorem lc_start {C : Addr} {fp : List Addr} {t' : Nat} (L : LcOk X scope js) (I : Inv X pins σ H s) (hC : s.heap.objs.size ≤ C) (hns : h'.Ns C fun _ => none) (kept : ∀ b o, s.heap.get? b = some o → h'.get? b = some o)
    (hfp : ∀ b ∈ fp, FpOk X pins H b) (hob : ∀ b ∈ fp, ∃ o, s.heap.get? b = some o) : Inv (X.lc scope ts js C s H fp) [] (lcS ts js σ) H { s with heap := h', toks := t' } := by
  have sub : ∀ x c, (clOf X.env.cells scope.names []).lookup x = some c → X.env.cells.lookup x = some c := clOf_sub (names := scope.names) (acc := []) (fun _ _ z => by cases z)
  have hasc : ∀ x, scope.names.lookup x = some .free → ∃ c, (clOf X.env.cells scope.names []).lookup x = some c := fun x hx =>
    clOf_has (mem_of_look hx) (I.ok.has x (L.free _ (mem_of_look hx) rfl))
  have kinds : ∀ x, (compEnvC scope (clOf X.env.cells scope.names []) C X.env).kindOf x = (scope.names.lookup x).map fun k => if (k == NameKind.free && X.env.scope.kind == .function && X.env.kindOf x == some .cell) then NameKind.cell else k := fun x => rlb_lookup
  have ltC : ∀ b o, s.heap.get? b = some o → b ≠ C := fun b o e => Nat.ne_of_lt (Nat.lt_of_lt_of_le (Heap.lt_size e) hC)
  have fromFree : ∀ x, ((compEnvC scope (clOf X.env.cells scope.names []) C X.env).kindOf x = some .cell ∨ (compEnvC scope (clOf X.env.cells scope.names []) C X.env).kindOf x = some .free) → scope.names.lookup x = some .free := fun x hx => by
    rw [kinds] at hx
    cases q : scope.names.lookup x with
    | none => rw [q] at hx; rcases hx with z | z <;> cases z
    | some k =>
      rw [q] at hx
      have hk : k ≠ .cell := L.cell _ (mem_of_look q)
      cases k with
      | free => rfl
      | cell => exact absurd rfl hk
      | _ => rcases hx with z | z <;> cases z
  refine ⟨⟨I.ok.mod, L.kind, I.ok.glob, I.ok.blt, hC, fun x y c h1 h2 => I.ok.inj x y c (sub x c h1) (sub y c h2), fun x hx => hasc x (fromFree x hx), fun _ _ z => Bool.noConfusion z, I.ok.hd, I.ok.frames, .inl rfl, fun b hb => ?_, I.bs, Nat.le_trans I.ok.bsz I.sz, fun b o e hb => ?_, fun b hb z => ?_, I.stack, I.stkFree⟩,
    rfl, I.bare, Un.kept kept, ⟨_, hns, fun i x v h1 h2 h3 => ?_⟩, fun x c e => ?_, I.hok.fresh hC, fun x c e => I.freeC x c (sub x c e), fun p hp => absurd (show p ∈ ([] : List (Addr × Obj)) from hp) (by simp), I.hok.kept kept, ?_⟩
  · obtain ⟨o, e⟩ := hob b hb
    exact ⟨ltC b o e, fun x c q => (hfp b hb).2.2.2.2.1 x c (sub x c q)⟩
  · rcases (hfp b hb).2.2.2.1 with z | z
    · exact I.ok.noex b o e z
    · exact absurd (Nat.lt_of_lt_of_le (Heap.lt_size e) (Nat.le_trans I.ok.bsz z)) (Nat.lt_irrefl _)
  · exact (List.mem_cons.mp (I.stkSub b z)).elim (hfp b hb).2.1 (hfp b hb).2.2.1
  · have hi : ¬ i < ts.length := fun hi => by
      have h2' : (lcS ts js σ)[i]? = some (some v) := h2
      unfold lcS at h2'
      rw [List.getElem?_append_left (by simpa using hi), List.getElem?_map, List.getElem?_eq_getElem hi] at h2'
      cases h2'
    have h2' : (lcS ts js σ)[i]? = some (some v) := h2
    have h1' : (lcN X ts js)[i]? = some x := h1
    unfold lcS at h2'
    unfold lcN at h1'
    rw [List.getElem?_append_right (by simpa using hi), List.getElem?_map, List.length_map] at h2'
    rw [List.getElem?_append_right (by omega), List.getElem?_map] at h1'
    cases q : js[i - ts.length]? with
    | none => rw [q] at h1'; cases h1'
    | some j =>
      rw [q] at h1' h2'
      have e1 : X.N.getD j "" = x := Option.some.inj h1'
      have e2 : (σ[j]?).join = some v := Option.some.inj h2'
      have e3 : σ[j]? = some (some v) := by
        cases z : σ[j]? with
        | none => rw [z] at e2; cases e2
        | some o => rw [z] at e2; exact congrArg some e2
      have hj : j < X.N.length := by rw [← I.len]; exact (List.getElem?_eq_some_iff.mp e3).1
      have e4 : X.N[j]? = some x := by
        rw [List.getElem?_eq_getElem hj, ← e1, List.getD_eq_getElem?_getD, List.getElem?_eq_getElem hj]; rfl
      have hf := L.cap j (List.mem_of_getElem? q)
      rw [e1] at hf
      have hk := L.free _ (mem_of_look hf) rfl
      obtain ⟨m, hn, hl⟩ := I.loc
      have vis : Vis X.env.scope x := by
        rcases hk with z | z
        · exact .inr (.inl z)
        · exact .inr (.inr z)
      obtain ⟨u, r, l⟩ := hl j x v e4 e3 vis
      refine ⟨u, r, ?_⟩
      rcases l with ⟨z, _⟩ | ⟨_, c, hc, hcell⟩
      · have z' : X.env.kindOf x = some .local := z
        rcases hk with k | k
        · rw [z'] at k; cases k
        · rw [z'] at k; cases k
      · obtain ⟨c', hc'⟩ := hasc x hf
        have e5 := sub x c' hc'
        rw [hc] at e5
        cases e5
        refine .inr ⟨?_, c, hc', ?_⟩
        · rw [kinds, hf]
          by_cases z : ((NameKind.free == NameKind.free) && X.env.scope.kind == .function && X.env.kindOf x == some .cell) = true
          · left; simp only [Option.map_some, if_pos z]
          · right; simp only [Option.map_some, if_neg z]
        · obtain ⟨o, ho, hd⟩ := hcell
          exact ⟨o, kept c o ho, hd⟩
  · obtain ⟨v, o, ho, hd⟩ := I.cell x c (sub x c e)
    exact ⟨v, o, kept c o ho, hd⟩
  · show (lcS ts js σ).length = (lcN X ts js).length
    unfold lcS lcN
    simp
end
end L2

namespace L2
open PySem PySem.Spec PyProof.Rows
/-- what is wanted of one turn of a comprehension's loop, the exceptions left out -/
def LcTurn (Mo : Model) (A : Around) (tgt elt : Expr) (tests : List Expr) (it lst : Value) (env : Env) (Fin : Shared → Prop) (Again : Shared → Prop) (s0 : Shared) : Prop :=
  wpAny Mo A (pyNext it) (fun nx s1 => match nx with
    | none => Fin s1
    | some v => wpAny Mo A (letOwnedTupleGo tgt it v) (fun _ s2 => wpAny Mo A (assign tgt env v) (fun _ s3 =>
        wpAny Mo A (forIn tests true fun c ok => if ok = true then (do let b ← isTrue c env (eval c env); pure (ForInStep.yield b)) else pure (ForInStep.yield ok)) (fun b s4 =>
          if b = true then wpAny Mo A (eval elt env) (fun y s5 => wpAny Mo A (call (.builtin "list.append") [lst, y]) (fun _ s6 => Again s6) (fun _ _ => False) s5) (fun _ _ => False) s4
          else Again s4) (fun _ _ => False) s3) (fun _ _ => False) s2) (fun _ _ => False) s1) (fun _ _ => False) s0
theorem compLoop_by {P : Program} {w : World} {A : Around} {R : Result → Shared → Prop} {s0 : Shared} {elt tgt iter : Expr} {tests : List Expr} {scope : Scope} {pos : Pos} {it lst : Value} {env : Env} (Iv : Nat → Shared → Prop)
    (turn : ∀ k sk, Iv k sk → LcTurn (model P w) A tgt elt tests it lst env (R (.ok .next)) (fun s' => ∃ j, j < k ∧ Iv j s') sk) (k0 : Nat) (h0 : Iv k0 s0) :
    codeAny (model P w) A (.compLoop (.ListComp elt [⟨tgt, iter, tests, 0⟩] scope pos) 0 it lst env) R s0 := by
  refine codeAny_loop rfl Iv (fun k sk hk => ?_) k0 h0
  show wpAny (model P w) A ((compTurn (.ListComp elt [⟨tgt, iter, tests, 0⟩] scope pos) 0 it lst env).onRaise fun ex => do noteFrame ex env; theTreesLotGoes ex) _ _ sk
  refine wpAny_noted (wpAny_noRaise ?_)
  rw [compTurn_list]
  refine wpAny_bind (wpAny_standAt (wpAny_bind (thn (turn k sk hk) fun nx s1 q1 => ?_)))
  cases nx with
  | none => exact wpAny_pure q1
  | some v =>
    refine wpAny_bind (thn q1 fun _ s2 q2 => wpAny_bind (thn q2 fun _ s3 q3 => wpAny_bind (thn q3 fun b s4 q4 => ?_)))
    cases b with
    | true => exact wpAny_bind (wpAny_bind (thn q4 fun y s5 q5 => wpAny_bind (thn q5 fun _ s6 q6 => wpAny_pure (wpAny_pure ⟨rfl, q6⟩))))
    | false => exact wpAny_pure ⟨rfl, q4⟩
/-- what a state still says -/
def SubS : St → St → Prop
  | [], [] => True
  | none :: a, _ :: b => SubS a b
  | some v :: a, w :: b => w = some v ∧ SubS a b
  | [], _ :: _ => False
  | _ :: _, [] => False
theorem SubS.ok : ∀ {a b : St}, SubS a b → a.length = b.length ∧ ∀ (i : Nat) v, a[i]? = some (some v) → b[i]? = some (some v)
  | [], [], _ => ⟨rfl, fun i v h => by simp at h⟩
  | none :: a, _ :: b, h => by
    obtain ⟨h1, h2⟩ := SubS.ok (a := a) (b := b) h
    refine ⟨by simp [h1], fun i v hv => ?_⟩
    cases i with
    | zero => simp at hv
    | succ i => simpa using h2 i v (by simpa using hv)
  | some u :: a, w :: b, h => by
    obtain ⟨h1, h2⟩ := SubS.ok (a := a) (b := b) h.2
    refine ⟨by simp [h1], fun i v hv => ?_⟩
    cases i with
    | zero => simpa [h.1] using hv
    | succ i => simpa using h2 i v (by simpa using hv)
  | [], _ :: _, h => False.elim h
  | none :: _, [], h => False.elim h
  | some _ :: _, [], h => False.elim h
/-- the tests of a comprehension -/
def PIfs (X : Cx) (ifs : List Expr) (t : TT) : Prop :=
  ∀ (pins : List (Addr × Obj)) (s : Shared) (σ : St) (H : Hp) (Q : Bool → Hp → Prop), Inv X pins σ H s → t σ H Q →
    wpAny (model X.prog X.w) X.A (forIn ifs true fun c r => if r = true then do let ok ← isTrue c X.env (eval c X.env); pure (ForInStep.yield ok) else pure (ForInStep.yield r)) (TP X pins σ Q) X.xe s
def tYes : TT := fun _ H Q => Q true H
theorem pf_nil {X : Cx} : PIfs X [] tYes := fun _ _ _ H _ I h => wpAny_pure ⟨H, I, h⟩
theorem pf_one {X : Cx} {c : Expr} {t : TT} (h : PT X c t) : PIfs X [c] t := fun pins s σ H Q I hq => by
  simp only [List.forIn_nil, List.forIn_cons, if_true]
  exact wpAny_bind (wpAny_bind (thn (h pins s σ H Q I hq) fun b s' hb => wpAny_pure (wpAny_pure hb)))
/-- [te for g in wi if tc]: W, the invariant by the turn, a measure, the items so far -/
def LcW (J : It) (ts : List Str) (js : List Nat) (g : TG) (tc : TT) (te : TE) (σ : St) (H1 : Hp) (Q : VK) : Prop := ∃ (W : Nat → List V → Hp → Prop) (n : Nat), W 0 [] H1 ∧ ∀ i ys H, W i ys H →
  (J.stop i H ∧ ∀ p, H p = none → Q (.ref p) (upd H p (.lst ys))) ∨
  (i < n ∧ J.go i H ∧ ys.length < sizeLine ∧ ∀ x H', J.yld i H x H' → g x (lcS ts js σ) H' fun σ2 H2 => SubS (lcS ts js σ) σ2 ∧ tc σ2 H2 fun b H3 => if b = true then te σ2 H3 fun y H4 => W (i + 1) (ys ++ [y]) H4 else W (i + 1) ys H3)
abbrev Dp (α : Type) := Addr → Shared → Hp → List Addr → α
def tLc (wi : TI) (ts : List Str) (js : List Nat) (g : Dp TG) (tc : Dp TT) (te : Dp TE) : TE := fun σ H Q => wi σ H fun J H1 => ∀ C s2 H2 fp, LcW J ts js (g C s2 H2 fp) (tc C s2 H2 fp) (te C s2 H2 fp) σ H1 Q
section
variable {X : Cx} {scope : Scope} {ts : List Str} {js : List Nat} {pins : List (Addr × Obj)} {σ : St} {H H' : Hp} {s : Shared} {tg elt iter : Expr} {ifs : List Expr} {g : Dp TG} {tc : Dp TT} {te : Dp TE} {pos : Pos} {E : Value → Shared → Prop}
/-- an object that stood untracked is tracked -/
theorem Inv.track {D : Addr} {o : HO} (I : Inv X pins σ H s) (f : FpOk X pins H D) (hD : X.s₀.heap.objs.size ≤ D) (new : ObjOk X.prog X.w (upd H D o) s.heap D o) : Inv X pins σ (upd H D o) s := by
  obtain ⟨f0, f1, f2, f3, f4, f5⟩ := f
  have ne : ∀ b u, H b = some u → b ≠ D := fun b u e z => by rw [z, f0] at e; cases e
  have ne0 : ∀ b ob, X.s₀.heap.get? b = some ob → b ≠ D := fun b ob e => Nat.ne_of_lt (Nat.lt_of_lt_of_le (Heap.lt_size e) hD)
  refine ⟨I.ok, I.os, I.bare, ⟨I.base.keep, I.base.slot, fun b ob e n hx => ?_, I.base.there, fun b xs e => ?_, fun b ob u e => ?_, fun b ps e => ?_⟩, I.loc, I.cell, ?_, fun x c e => ?_, fun p hp => ?_, fun a u e => ?_, I.len⟩
  · rw [upd_ne (ne0 b ob e)]; exact I.base.free b ob e n hx
  · have q := I.base.tups b xs e
    rw [upd_ne (ne b _ q)]; exact q
  · have q := I.base.frzs b ob u e
    rw [upd_ne (ne b _ q)]; exact q
  · obtain ⟨m, q⟩ := I.base.tbls b ps e
    exact ⟨m, by rw [upd_ne (ne b _ q)]; exact q⟩
  · rw [upd_ne (Ne.symm f1)]; exact I.free
  · rw [upd_ne (f4 x c e)]; exact I.freeC x c e
  · obtain ⟨a1, a2, a3⟩ := I.pin p hp
    exact ⟨a1, by rw [upd_ne (f5 p hp)]; exact a2, a3⟩
  · by_cases ha : a = D
    · subst ha
      rw [upd_same] at e
      cases e
      exact new
    · rw [upd_ne ha] at e
      refine (I.hok a u e).stay (fun _ _ _ q => q) (fun b q => ?_) fun b xs q => ?_
      · rw [upd_ne (ne b _ q)]; exact q
      · rw [upd_ne (ne b _ q)]; exact q
theorem lc_block {it : Addr} {fp : List Addr} {tn : Nat → Heap → Prop} {J : It} {Q : VK} {RR : Value → Addr → Result → Shared → Prop} (L : LcOk X scope js) (hc : X.calm = true) (I : Inv X pins σ H s) (T : Turn X.prog X.w X.K tg J fp it tn) (st : tn 0 s.heap)
    (hf : ∀ b ∈ fp, FpOk X pins H b) (hg : ∀ C s H fp, PG (X.lc scope ts js C s H fp) tg (g C s H fp)) (hcs : ∀ C s H fp, PIfs (X.lc scope ts js C s H fp) ifs (tc C s H fp)) (he : ∀ C s H fp, PE (X.lc scope ts js C s H fp) elt (te C s H fp)) (hw : ∀ C s2 H2 fp, LcW J ts js (g C s2 H2 fp) (tc C s2 H2 fp) (te C s2 H2 fp) σ H Q)
    (hRR : ∀ D C s' H' ys m', Inv X pins σ (upd H' D (.lst ys)) s' → FpOk X pins (upd H' D (.lst ys)) C → s'.heap.Ns C m' → Q (.ref D) (upd H' D (.lst ys)) → RR (.ref D) C (.ok .next) s') :
    wpAny (model X.prog X.w) X.A (newList []) (fun acc s₃ => wpAny (model X.prog X.w) X.A (newFunctionEnv scope X.env.globals (clOf X.env.cells scope.names []) [] X.env.qual none .none (some X.env)) (fun cenv s₄ =>
      codeAny (model X.prog X.w) X.A (.compStart (.ListComp elt [⟨tg, iter, ifs, 0⟩] scope pos) 0 (.ref it) acc { cenv with scope := relabel scope X.env }) (RR acc cenv.locals) s₄) E s₃) E s := by
  refine wpAny_newObj_type (wpAny_newFunctionEnv L.cell (by intro y hy; simp at hy) (fun h₁ hns₁ hsb₁ => ?_) L.kind)
  dsimp only at hns₁ hsb₁ ⊢
  generalize hH2 : s.heap.push { cls := .type "list", dict := none, data := .seq ([] : List Value).toArray } = G2 at hns₁ hsb₁ ⊢
  have hC : G2.objs.size = s.heap.objs.size + 1 := by rw [← hH2, Heap.size_push]
  generalize hCd : G2.objs.size = C at hns₁ hsb₁ hC ⊢
  obtain ⟨W, nn, w0, turn⟩ := hw C s H fp
  have hDC : s.heap.objs.size ≠ C := by rw [hC]; exact Nat.ne_of_lt (Nat.lt_succ_self _)
  have hCle : s.heap.objs.size ≤ C := by rw [hC]; exact Nat.le_succ _
  have below : ∀ b, b < s.heap.objs.size → b ≠ C ∧ b ≠ s.heap.objs.size := fun b hb => ⟨by rw [hC]; exact Nat.ne_of_lt (Nat.lt_succ_of_lt hb), Nat.ne_of_lt hb⟩
  have old : ∀ b o, s.heap.get? b = some o → h₁.get? b = some o := fun b o e => hsb₁.extBut b o (below b (Heap.lt_size e)).1 (Heap.get?_push_of_some _ (hH2 ▸ Heap.get?_push_of_some _ e))
  have hacc : h₁.PlainList s.heap.objs.size #[] := ⟨_, hsb₁.extBut _ _ hDC (Heap.get?_push_of_some _ (hH2 ▸ Heap.get?_push_size _ rfl))⟩
  have hob : ∀ b ∈ fp, ∃ o, s.heap.get? b = some o := fun b hb => by obtain ⟨o, e, _⟩ := T.obj 0 _ st b hb; exact ⟨o, e⟩
  have st₁ : tn 0 h₁ := T.keep 0 _ _ st fun b _ o e => old b o e
  generalize hD : s.heap.objs.size = D at hacc hDC hCle below ⊢
  have I1 : Inv (X.lc scope ts js C s H fp) [] (lcS ts js σ) H { s with heap := h₁, toks := s.toks + ([] : List (Str × Value)).length } := lc_start L I (by rw [hD]; exact hCle) hns₁ old hf hob
  have stk : ∀ b ∈ frs X.stack, b < s.heap.objs.size := fun b hb => by obtain ⟨_, o, e, _⟩ := I.stack.mem hb; exact Heap.lt_size e
  have cells : ∀ x c, (clOf X.env.cells scope.names []).lookup x = some c → X.env.cells.lookup x = some c := clOf_sub (names := scope.names) (acc := []) (fun _ _ z => by cases z)
  have stat : ∀ {K : Hp}, (∀ b ∈ D :: fp, K b = none) → ∀ b ∈ D :: fp, FpOk (X.lc scope ts js C s H fp) [] K b := fun {K} hn b hb => by
    refine ⟨hn b hb, ?_, ?_, ?_, ?_, fun p hp => absurd (show p ∈ ([] : List (Addr × Obj)) from hp) (by simp)⟩
    · rcases List.mem_cons.mp hb with z | z
      · rw [z]; exact hDC
      · obtain ⟨o, e⟩ := hob b z
        exact (below b (by rw [← hD]; exact Heap.lt_size e)).1
    · intro z
      rcases List.mem_cons.mp hb with q | q
      · have := stk b z
        rw [q, hD] at this
        exact Nat.lt_irrefl _ this
      · exact (List.mem_cons.mp (I.stkSub b z)).elim (hf b q).2.1 (hf b q).2.2.1
    · rcases List.mem_cons.mp hb with q | q
      · right; rw [q]; exact Nat.le_of_eq hD
      · exact .inl q
    · intro x c e z
      rcases List.mem_cons.mp hb with q | q
      · obtain ⟨v, qc⟩ := I.cell x c (cells x c e)
        have := qc.lt
        rw [z, q, hD] at this
        exact Nat.lt_irrefl _ this
      · exact (hf b q).2.2.2.2.1 x c (cells x c e) z
  have fr1 : ∀ b ∈ D :: fp, H b = none := fun b hb => by
    rcases List.mem_cons.mp hb with q | q
    · rw [q]; exact I.hok.fresh (by rw [hD]; exact Nat.le_refl _)
    · exact (hf b q).1
  have objs : ∀ i (h : Heap) (its : Array Value), tn i h → h.PlainList D its → ∀ b ∈ D :: fp, ∃ o, h.get? b = some o ∧ ∀ v, o.data ≠ .cell v := fun i h its t p b hb => by
    rcases List.mem_cons.mp hb with q | q
    · subst q
      obtain ⟨n, e⟩ := p
      exact ⟨_, e, fun v z => by cases z⟩
    · exact T.obj i h t b q
  have loop : ∀ s₃ : Shared, s₃ = { s with heap := h₁, toks := s.toks + ([] : List (Str × Value)).length } →
      codeAny (model X.prog X.w) X.A (.compLoop (.ListComp elt [⟨tg, iter, ifs, 0⟩] scope pos) 0 (.ref it) (.ref D) (compEnvC scope (clOf X.env.cells scope.names []) C X.env)) (RR (.ref D) C) s₃ := by
    rintro s₃ rfl
    refine compLoop_by (fun k s' => ∃ i ys its H', Inv (X.lc scope ts js C s H fp) [] (lcS ts js σ) H' s' ∧ tn i s'.heap ∧ (∀ b ∈ D :: fp, H' b = none) ∧ s'.heap.PlainList D its ∧ Vals ys its.toList ∧ ys.length ≤ sizeLine ∧ k = nn - i ∧ W i ys H') ?_ nn ⟨0, [], #[], H, I1, st₁, fr1, hacc, .nil, Nat.zero_le _, rfl, w0⟩
    rintro n s3 ⟨i, ys, its, H3, I3, st3, fr3, p3, v3, z3, rfl, w3⟩
    have I3' := I3.pinned (fp := [D]) (fun b hb => stat fr3 b (by rw [List.mem_singleton.mp hb]; exact List.mem_cons_self)) (fun b hb => objs i _ its st3 p3 b (by rw [List.mem_singleton.mp hb]; exact List.mem_cons_self))
    have sp : ∀ b ∈ fp, FpOk (X.lc scope ts js C s H fp) ([] ++ pinsAt [D] s3.heap) H3 b := fun b hb => by
      obtain ⟨a0, a1, a2, a3, a4, a5⟩ := stat fr3 b (List.mem_cons_of_mem _ hb)
      refine ⟨a0, a1, a2, a3, a4, fun p hp z => ?_⟩
      obtain ⟨q, _⟩ := of_pinsAt (show p ∈ pinsAt [D] s3.heap from hp)
      have e := List.mem_singleton.mp q
      obtain ⟨o, eo⟩ := hob b hb
      exact (below b (by rw [← hD]; exact Heap.lt_size eo)).2 (by rw [← z]; exact e)
    rcases turn i ys H3 w3 with ⟨stop, qn⟩ | ⟨hin, go, hz, step⟩
    · refine thn (T.done (X.lc scope ts js C s H fp) rfl rfl rfl hc i _ s3 _ H3 _ I3' sp st3 stop) fun r s4 ⟨hr, I4⟩ => ?_
      subst hr
      obtain ⟨n3, e3⟩ := p3
      have e4 : s4.heap.get? D = some { cls := .type "list", data := .seq its n3 } := (I4.pin (D, _) (List.mem_append_right _ (mem_pinsAt (List.mem_singleton.mpr rfl) e3))).1
      have I4' : Inv (X.lc scope ts js C s H fp) [] (lcS ts js σ) H3 s4 := Inv.unpinned (pins := []) I4
      have hlen := v3.length
      have back : Inv X pins σ H3 s4 := I.call' (ch := fp) I4'.os I4'.base I4'.hok I4'.bare fun b hb => ⟨(hf b hb).2.2.2.1, (hf b hb).2.1, (hf b hb).2.2.2.2.1, (hf b hb).2.2.2.2.2⟩
      have fD : FpOk X pins H3 D := I.fpOk (Nat.le_of_eq hD) (fr3 D List.mem_cons_self)
      have ob : ObjOk X.prog X.w (upd H3 D (.lst ys)) s4.heap D (.lst ys) := ⟨z3, its.toList, n3, v3, by simpa using e4⟩
      have tr := back.track fD (by rw [← hD]; exact I.sz) ob
      obtain ⟨m4, n4, _⟩ := I4'.loc
      refine hRR D C s4 H3 ys m4 tr ?_ n4 (qn D (fr3 D List.mem_cons_self))
      refine I.fpOk (by rw [hD]; exact hCle) ?_
      rw [upd_ne (Ne.symm hDC)]
      exact I4'.free
    · refine thn (T.item (X.lc scope ts js C s H fp) rfl rfl rfl hc i _ s3 _ H3 _ I3' sp st3 go) fun r s4 ⟨u, hr, h4⟩ => ?_
      subst hr
      refine thn h4 fun _ s5 ⟨x, H5, I5, r5, y5, st5, fr5⟩ => ?_
      obtain ⟨n3, e3⟩ := p3
      have e5 := I5.pin (D, _) (List.mem_append_right _ (mem_pinsAt (List.mem_singleton.mpr rfl) e3))
      have fr5' : ∀ b ∈ D :: fp, H5 b = none := fun b hb => by
        rcases List.mem_cons.mp hb with q | q
        · rw [q]; exact e5.2.1
        · exact fr5 b q
      have p5 : s5.heap.PlainList D its := ⟨n3, e5.1⟩
      have I5b : Inv (X.lc scope ts js C s H fp) [] (lcS ts js σ) H5 s5 := Inv.unpinned (pins := []) I5
      have I5' := I5b.pinned (fp := D :: fp) (stat fr5') (objs _ _ its st5 p5)
      refine thn (hg C s H fp _ s5 _ H5 x u _ I5' r5 (step x H5 y5)) fun _ s6 ⟨σ6, H6, I6, sub6, q6⟩ => ?_
      refine thn (hcs C s H fp _ s6 σ6 H6 _ I6 q6) fun b s7 ⟨H7, I7, q7⟩ => ?_
      have wk : ∀ {H' : Hp} {s' : Shared}, Inv (X.lc scope ts js C s H fp) ([] ++ pinsAt (D :: fp) s5.heap) σ6 H' s' → Inv (X.lc scope ts js C s H fp) ([] ++ pinsAt (D :: fp) s5.heap) (lcS ts js σ) H' s' := fun I' => I'.weak sub6.ok.1 sub6.ok.2
      have rec' : ∀ {H' : Hp} {s' : Shared}, Inv (X.lc scope ts js C s H fp) ([] ++ pinsAt (D :: fp) s5.heap) σ6 H' s' → Inv (X.lc scope ts js C s H fp) [] (lcS ts js σ) H' s' ∧ tn (i + 1) s'.heap ∧ (∀ b ∈ D :: fp, H' b = none) ∧ s'.heap.PlainList D its := fun {H' s'} I' => by
        have pin : ∀ b ∈ D :: fp, ∀ o, s5.heap.get? b = some o → s'.heap.get? b = some o ∧ H' b = none := fun b hb o e => by
          have z := I'.pin (b, o) (List.mem_append_right _ (List.mem_append_right _ (mem_pinsAt hb e)))
          exact ⟨z.1, z.2.1⟩
        refine ⟨Inv.unpinned (pins := []) (wk I'), T.keep _ _ _ st5 fun b hb o e => (pin b (List.mem_cons_of_mem _ hb) o e).1, fun b hb => ?_, ⟨n3, (pin D List.mem_cons_self _ e5.1).1⟩⟩
        obtain ⟨o, e, _⟩ := objs _ _ its st5 p5 b hb
        exact (pin b hb o e).2
      cases b with
      | false =>
        obtain ⟨j1, j2, j3, j4⟩ := rec' I7
        exact ⟨nn - (i + 1), by omega, i + 1, ys, its, H7, j1, j2, j3, j4, v3, z3, rfl, q7⟩
      | true =>
        refine thn (he C s H fp _ s7 σ6 H7 _ I7 q7) fun yv s8 ⟨y, H8, I8, r8, w8⟩ => ?_
        obtain ⟨j1, j2, j3, j4⟩ := rec' I8
        have hlen : its.size = ys.length := by have := v3.length; simp at this; omega
        refine wpAny_list_append_plain (hsz := by rw [hlen]; exact z3) j4 fun h9 p9 sb9 => ?_
        obtain ⟨f0, f1, f2, f3, f4, f5⟩ := stat j3 D List.mem_cons_self
        refine ⟨nn - (i + 1), by omega, i + 1, ys ++ [y], its.push yv, H8, j1.turned (t' := s8.toks) (fun b o hb e => (sb9.2 b hb).trans e) f0 f1 f3 f4 f5, T.keep _ _ _ j2 fun b hb o e => (sb9.2 b ?_).trans e, j3, p9, ?_, ?_, rfl, w8⟩
        · obtain ⟨o, eo⟩ := hob b hb
          exact (below b (by rw [← hD]; exact Heap.lt_size eo)).2
        · rw [Array.toList_push]
          exact v3.append (.cons r8 .nil)
        · rw [List.length_append, List.length_singleton]; exact hz
  exact codeAny_compStart_list (loop _ rfl) (T.self _ 0 _ _ _ st₁ (loop _ rfl))
end
end L2

namespace L2
open PySem PySem.Spec PyProof.Rows
section
variable {X : Cx} {scope : Scope} {ts : List Str} {js : List Nat} {tg elt iter : Expr} {ifs : List Expr} {wi : TI} {g : Dp TG} {tc : Dp TT} {te : Dp TE} {pos : Pos}
theorem pe_lc (L : LcOk X scope js) (hc : X.calm = true) (hi : PI X tg iter wi) (hg : ∀ C s H fp, PG (X.lc scope ts js C s H fp) tg (g C s H fp)) (hcs : ∀ C s H fp, PIfs (X.lc scope ts js C s H fp) ifs (tc C s H fp)) (he : ∀ C s H fp, PE (X.lc scope ts js C s H fp) elt (te C s H fp))
    (hs : ∀ x, foldedSetIterable iter X.env x = pure x := by intro _; rfl) : PE X (.ListComp elt [⟨tg, iter, ifs, 0⟩] scope pos) (tLc wi ts js g tc te) := by
  intro pins s σ H Q I h
  rw [eval_ListComp]
  refine wpAny_comprehension_free (use := none) rfl hs (closureFor_eq fun y hy hf => I.ok.has y.1 (L.free y hy hf)) L.kind L.names (thn (hi pins s σ H _ I h) fun v s1 h1 => thn h1 fun itv s2 h2 => ?_)
  obtain ⟨it, fp, tn, J, H2, rfl, I2, T, st2, f2, hw⟩ := h2
  refine lc_block (RR := fun acc C => compPost (model X.prog X.w) X.A X.xe none (EP X pins σ Q) acc C) L hc I2 T st2 f2 hg hcs he hw ?_
  intro D C s' H' ys m' I' fC hn hq
  obtain ⟨f0, f1, f2, f3, f4, f5⟩ := fC
  exact ⟨m', hn, fun h' hs' => ⟨.ref D, _, I'.turned (t' := s'.toks) (fun b o hb e => (hs'.2 b hb).trans e) f0 f1 f3 f4 f5, rfl, hq⟩⟩
end
end L2

/-! ### names for the generator -/
namespace L2
open PySem PySem.Spec PyProof.Rows
def lcOkB (scope : Scope) (ek : List (Str × NameKind)) (N : List Str) (js : List Nat) : Bool :=
  scope.kind == .function && scope.names.all (fun y => y.2 != .cell) && scope.names.all (fun y => y.2 != .local || scope.names.lookup y.1 == some .local) &&
  scope.names.all (fun y => y.2 != .free || ek.lookup y.1 == some .cell || ek.lookup y.1 == some .free) && js.all (fun j => scope.names.lookup (N.getD j "") == some .free)
theorem LcOk.of {X : Cx} {scope : Scope} {js : List Nat} (h : lcOkB scope X.env.scope.names X.N js = true) : LcOk X scope js := by
  unfold lcOkB at h
  simp only [Bool.and_eq_true, List.all_eq_true, Bool.or_eq_true, bne_iff_ne, beq_iff_eq] at h
  obtain ⟨⟨⟨⟨h1, h2⟩, h3⟩, h4⟩, h5⟩ := h
  refine ⟨h1, h2, fun y hy e => ?_, fun y hy e => ?_, h5⟩
  · exact (h3 y hy).resolve_left fun z => z e
  · rcases h4 y hy with (z | z) | z
    · exact absurd e z
    · exact .inl z
    · exact .inr z
theorem nodup_of {l : List Str} (h : decide l.Nodup = true) : l.Nodup := of_decide_eq_true h
theorem passN {X : Cx} : Passes (CXe X.prog X.w) X E0 := fun _ _ _ _ _ _ _ h => by
  obtain ⟨_, _, _, _, _, _, _, z⟩ := h
  exact z.elim
theorem powx {P : Program} {w : World} {K : PySem.W.Frag} {mg : Str → Option Value} {base : Heap} {N : List Str} {qual : Str} {scope : Scope} {f : Addr} {cd : Value} {A : Around} {outer : List Env} {s : Shared} {H : Hp} {E : XK} :
    PassesOwn (model P w) (cxOf (CXe P w) P w K mg base N qual scope f cd A outer s H E).A (cxOf (CXe P w) P w K mg base N qual scope f cd A outer s H E).env (cxOf (CXe P w) P w K mg base N qual scope f cd A outer s H E).xe := PassesOwn.leaving
theorem walk_ofX {l : PySem.W.OpenLaw} {n k : Nat} {q : Program} {loose : List Str} {XP : (Str → Option Value) → Heap → Prop} {YP : World → Heap → Prop} {d : DefRec} {K : Params → PySem.W.Frag} {sp : PySem.W.Frag → Sp} {x : Str}
    (hn : l.most = some n) (hn2 : n ≤ sizeLine) (hdf : d.params.defaults = []) (hr : Room k callerA)
    (hY : ∀ (w : World) (h : Heap), YP w h → (K w.params).In h)
    (F : ∀ (w : World) (mg : Str → Option Value) (fa : Addr) (h : Heap), (K w.params).In h → h.Ns mainGlobals mg → mg d.name = some (.ref fa) →
      ∃ fd : FuncData, (∀ (s : Shared) (u : Value), BindsTo s fd ⟨[u], []⟩ [(x, u)]) ∧
        ∀ base : Heap, (K w.params).In base → base.Ns mainGlobals mg → FnOk l.prog w (K w.params) mg base (CXe l.prog w) k fa fd [x] (sp (K w.params)))
    (hsp : ∀ (K : PySem.W.Frag) (H : Hp) (a : Addr) (ns : List Int), ns.length ≤ n → Only H → SqL K H a (ns.map V.int) → sp K [.ref a] H (fun v _ => v = .bl true) fun _ _ _ => False) :
    PySem.W.WalkO q loose XP YP l.row.toRowW d [] (fun f vs => PySem.call f vs) :=
  walk_of (K := K) (CX := fun w => CXe l.prog w) (sp := fun w => sp (K w.params)) hn hn2 hdf hr hY F (fun w H a ns h1 h2 h3 => hsp (K w.params) H a ns h1 h2 h3) fun _ H s e s' h => by
    obtain ⟨_, _, _, _, _, _, _, z⟩ := h
    exact z
end L2

namespace L2
open PySem PySem.Spec PyProof.Rows
section
variable {X : Cx}
theorem OpR.imp {f : Value → Value → Sem Value} {r r' : R2} (h : OpR X f r) (i : ∀ x y H Q, r' x y H Q → r x y H Q) : OpR X f r' := fun pins s σ H x y v u Q I rx ry hq => h pins s σ H x y v u Q I rx ry (i _ _ _ _ hq)
theorem op_eqI : OpR X (compareOp .Eq) (rI0 fun i j => .bl (decide (i = j))) := op_eq.imp fun x y H Q h => by
  obtain ⟨i, j, rfl, rfl, q⟩ := h
  refine ⟨rfl, ?_⟩
  have e : decide (V.int i = V.int j) = decide (i = j) := decide_eq_decide.mpr ⟨fun z => V.int.inj z, fun z => congrArg V.int z⟩
  rw [e]; exact q
theorem op_neI : OpR X (compareOp .NotEq) (rI0 fun i j => .bl (!decide (i = j))) := op_ne.imp fun x y H Q h => by
  obtain ⟨i, j, rfl, rfl, q⟩ := h
  refine ⟨rfl, ?_⟩
  have e : decide (V.int i = V.int j) = decide (i = j) := decide_eq_decide.mpr ⟨fun z => V.int.inj z, fun z => congrArg V.int z⟩
  rw [e]; exact q
def rS0 (g : Str → Str → V) : R2 := fun x y H Q => ∃ i j, x = .str i ∧ y = .str j ∧ Q (g i j) H
theorem op_eqS : OpR X (compareOp .Eq) (rS0 fun i j => .bl (decide (i = j))) := op_eq.imp fun x y H Q h => by
  obtain ⟨i, j, rfl, rfl, q⟩ := h
  refine ⟨rfl, ?_⟩
  have e : decide (V.str i = V.str j) = decide (i = j) := decide_eq_decide.mpr ⟨fun z => V.str.inj z, fun z => congrArg V.str z⟩
  rw [e]; exact q
theorem op_neB : OpR X (compareOp .NotEq) (fun x y H Q => ∃ i j, x = .bl i ∧ y = .bl j ∧ Q (.bl (!decide (i = j))) H) := op_ne.imp fun x y H Q h => by
  obtain ⟨i, j, rfl, rfl, q⟩ := h
  refine ⟨rfl, ?_⟩
  have e : decide (V.bl i = V.bl j) = decide (i = j) := decide_eq_decide.mpr ⟨fun z => V.bl.inj z, fun z => congrArg V.bl z⟩
  rw [e]; exact q
end
theorem ite3n {c A B : Prop} [Decidable c] (h1 : ¬ c → A) (h2 : c → B) : if (!decide c) = true then A else B := iteNo h1 h2
theorem iteB {b : Bool} {A B : Prop} (h1 : b = true → A) (h2 : b = false → B) : if b = true then A else B := by
  cases b with
  | true => exact iteT (h1 rfl)
  | false => exact iteF (h2 rfl)
/-- as it was, but at b -/
def SameB (b : Addr) (H H' : Hp) : Prop := ∀ a o, a ≠ b → H a = some o → H' a = some o
theorem Same.upd {H H' : Hp} {p : Addr} (s : Same H H') (h : H p = none) (o : HO) : Same H (upd H' p o) := fun b u q => by rw [upd_ne (ne_of_none q h)]; exact s b u q
theorem Same.new {H H' : Hp} {p : Addr} (s : Same H H') (h : H' p = none) (o : HO) : Same H (L2.upd H' p o) := s.upd (s.free h) o
end L2
namespace L2
open PySem PySem.Spec PyProof.Rows
/-- an expression of written numbers -/
theorem pe_fold {X : Cx} {e : Expr} {t : TE} (v : V) (h : PE X e t) (c : ∀ σ H Q, Q v H → t σ H Q) : PE X e (tC v) := fun pins s σ H Q I hq => h pins s σ H Q I (c σ H Q hq)
end L2
namespace L2
open PySem PySem.Spec PyProof.Rows
theorem isiTy {K : PySem.W.Frag} {t : Value} {n : String} {b : Bool} (h : PySem.W.kitOne K t (.type n) = some b) : ∀ u, RelV (.ty n) u → PySem.W.kitOne K t u = some b := fun u r => by cases r; exact h
end L2
/-- an invariant, closed to the walk -/
structure Iv (p : Prop) : Prop where
  o : p

/-! ### try: f(..) except C: .. (no name), the suite goes on -/
namespace L2
open PySem PySem.Spec PyProof.Rows
/-- the kinds of an exception that come here, and what is wanted then -/
def tTry (K : PySem.W.Frag) (tx : St → Hp → VK → (Value → Hp → Prop) → Prop) (C : Addr) (tb : Addr → TS) : TS := fun D σ H => tx σ H (fun _ H1 => D.nx σ H1) fun cls H1 =>
  PySem.W.exmOne K cls (.ref C) = some true ∧ ∀ ea, tb ea D σ H1
theorem ps_try {X : Cx} {call : Expr} {tx : St → Hp → VK → (Value → Hp → Prop) → Prop} {cn : Str} {C : Addr} {b₀ : Stmt} {suite : List Stmt} {tb : Addr → TS} {np epos hpos tpos : Pos} (hx : PEx X call tx) (hst : X.stack = X.env :: X.outer) (hf : X.env.frame = some X.env.locals)
    (hg : Gl X cn) (hm : X.mg cn = some (.ref C)) (hb : ∀ ea, PSs (X.inExc ea).nox (b₀ :: suite) (tb ea))
    (hs : swapsWith call none epos.line X.env = pure false := by rfl) (hd : (cn == ("__debug__" : Str)) = false := by decide) :
    PS X (.Try [.Expr call epos] [.ExceptHandler (some (.Name cn np)) none (b₀ :: suite) hpos] [] [] tpos) (tTry X.K tx C tb) := by
  intro pins s σ H D I h
  refine wpAny_Try_except (wpAny_execs_cons (wpAny_Expr_any (wpAny_mono (hx pins s σ H _ _ I h) (fun v s1 hq => ?_) fun ev s1 hq => ?_) I.quiet hs))
  · obtain ⟨v', H1, I1, r1, q1⟩ := hq
    exact wpAny_execs_nil (wpAny_execs_nil ⟨σ, H1, I1, q1⟩)
  obtain ⟨H1, s0, I1, ea, cls, H', B, a0, rfl, F, hcls, hbody⟩ := hq
  have hfr : X.A.frames = some (X.env :: X.outer) := by rw [I.ok.frames, hst]
  have hfly : Heap.FlyingW B (X.env :: X.outer) ea cls a0 s1.heap := by have z := F.fly; rw [hst] at z; exact z
  refine wpAny_looks_onW hfr hf hfly fun h4 x1 x2 => wpAny_landsW x1 fun h5 y1 y2 => ?_
  have m5 := F.move y1.1 (x2.trans y2)
  have I5 : Inv X pins σ H' { s1 with heap := h5 } := I1.call' (s' := { s1 with heap := h5 }) F.os m5.1 m5.2 F.bare fun b z => by cases z
  have I5e := I5.inExc ea
  refine wpAny_handleBy_cons (codeAny_handlers_test (ld_glob (X := X.inExc ea) I5e hg hm ?_ hd)) (by intro q; cases q)
  obtain ⟨ob, hob, hobc⟩ := Heap.FlyingW.there y1
  have LT : PySem.W.Looks (model X.prog X.w) h5 (typeOf (.ref ea)) cls := hobc ▸ (PySem.W.Looks.ld hob).andThen .now
  refine (PySem.W.exm_one I5.kIn LT hcls).here ?_
  show codeAny _ _ _ _ _
  refine codeAny_handlers_suite (lands_againW y1 fun h6 z1 z2 => ?_)
  have m6 := F.move z1.1 ((x2.trans y2).trans z2)
  have I6 : Inv X pins σ H' { s1 with heap := h6 } := I1.call' (s' := { s1 with heap := h6 }) F.os m6.1 m6.2 F.bare fun b z => by cases z
  refine wpAny_mono (hb ea pins _ _ _ _ ((I6.inExc ea).wish _) (hbody ea)) (fun fl s8 q8 => ?_) fun _ _ z => False.elim z
  cases fl with
  | next => obtain ⟨σ8, H8, I8, q⟩ := q8; exact ⟨σ8, H8, Inv.outExc I.ok I8.unwish, q⟩
  | brk => obtain ⟨σ8, H8, I8, q⟩ := q8; exact ⟨σ8, H8, Inv.outExc I.ok I8.unwish, q⟩
  | cont => obtain ⟨σ8, H8, I8, q⟩ := q8; exact ⟨σ8, H8, Inv.outExc I.ok I8.unwish, q⟩
  | ret u => obtain ⟨v8, σ8, H8, I8, r8, q⟩ := q8; exact ⟨v8, σ8, H8, Inv.outExc I.ok I8.unwish, r8, q⟩
end L2

/-! ### the signs of a text; all, any -/
namespace L2
open PySem PySem.Spec PyProof.Rows
/-- the signs of x -/
def Its (x : Str) : It := ⟨fun i _ => i < x.cps.size, fun i H v H' => H' = H ∧ ∃ c, x.cps[i]? = some c ∧ v = .str ⟨#[c]⟩, fun i _ => x.cps.size ≤ i⟩
theorem turn_str {P : Program} {w : World} {K : PySem.W.Frag} {tg : Expr} {it : Addr} {x : Str} {St : Nat → Heap → Prop}
    (W : ∀ A' : Around, A'.handled = none → Walks P w A' it [it] [it] x.cps.size (SignAt x) St)
    (ob : ∀ i h, St i h → ∃ (o : Obj) (n : String) (vs : Array Value), h.get? it = some o ∧ o.cls = .type n ∧ o.data = .fields vs ∧ ["enumerate", "zip", "dict_itemiterator", "dict_reverseitemiterator", "odict_iterator", "itertools.zip_longest", "itertools.pairwise"].contains n = false)
    (sf : ∀ (A : Around) (i : Nat) (s : Shared) (Q : Value → Shared → Prop) (E : Value → Shared → Prop), St i s.heap → Q (.ref it) s → wpAny (model P w) A (pyIter (.ref it)) Q E s) :
    Turn P w K tg (Its x) [it] it (fun i h => St i h ∧ i ≤ x.cps.size) where
  mem := by simp
  obj := fun i h st b hb => by
    have e : b = it := by simpa using hb
    subst e
    obtain ⟨o, n, vs, e, _, d, _⟩ := ob i h st.1
    exact ⟨o, e, fun v z => by rw [d] at z; cases z⟩
  keep := fun i h h' st k => ⟨(W {} rfl).frame i h h' st.1 k, st.2⟩
  item := by
    intro X hP hw hK hc i pins s σ H E I hf st hg
    subst hP hw hK
    obtain ⟨f0, f1, f2, f3, f4, f5⟩ := hf it (by simp)
    refine (W X.A (I.ok.hd hc)).item i s _ _ hg st.1 fun v h' tk hv st' kk => ?_
    obtain ⟨c, u, hcx, rfl⟩ := hv
    have I1 : Inv X pins σ H { s with heap := h', toks := tk } := I.turned (fun b o hb e => kk b o (by simpa using hb) e) f0 f1 f3 f4 f5
    obtain ⟨o, n, vs, e, hcl, hd, hn⟩ := ob _ _ st'
    have hi : i < x.cps.size := hg
    exact ⟨_, rfl, go_of (s := { s with heap := h', toks := tk }) e hcl hd hn ⟨.str ⟨#[c]⟩, H, I1, ⟨u, rfl⟩, ⟨rfl, c, hcx, rfl⟩, ⟨st', hi⟩, fun b hb => (hf b hb).1⟩⟩
  done := by
    intro X hP hw hK hc i pins s σ H E I hf st hg
    subst hP hw hK
    obtain ⟨f0, f1, f2, f3, f4, f5⟩ := hf it (by simp)
    have e : i = x.cps.size := Nat.le_antisymm st.2 hg
    subst e
    exact (W X.A (I.ok.hd hc)).done s _ _ st.1 fun h' tk kk => ⟨rfl, I.turned (fun b o hb e => kk b o (by simpa using hb) e) f0 f1 f3 f4 f5⟩
  self := fun A i s Q E st h => sf A i s Q E st.1 h
section
variable {X : Cx} {tg : Expr}
def iStr (tl : TE) : TI := fun σ H R => tl σ H fun x H1 => ∃ z, x = .str z ∧ R (Its z) H1
theorem pi_str {l : Expr} {tl : TE} (hl : PE X l tl) : PI X tg l (iStr tl) := by
  intro pins s σ H R I h
  refine thn (hl pins s σ H _ I h) fun v s1 ⟨x, H1, I1, r1, q1⟩ => ?_
  obtain ⟨z, e, q⟩ := q1
  subst e
  obtain ⟨t, rfl⟩ := r1
  have fp : ∀ b ∈ [s1.heap.objs.size], FpOk X pins H1 b := fun b hb => by
    have e : b = s1.heap.objs.size := by simpa using hb
    subst e
    exact I1.fpOk (Nat.le_refl _) (I1.hok.fresh (Nat.le_refl _))
  cases ha : z.cps.all (· < 128)
  · refine wpAny_pyIter_wide ha ?_
    refine ⟨s1.heap.objs.size, [s1.heap.objs.size], _, _, H1, rfl, I1.kept (t' := s1.toks) fun b o e => Heap.get?_push_of_some _ e,
      turn_str (St := fun i h => h.IsStrIter s1.heap.objs.size "str_iterator" z t i) (fun A' hA => Walks.strWide hA _ z t) (fun i h st => ?_) (fun A i s Q E st h => wpAny_pyIter_striter_wide st h), ⟨⟨_, Heap.get?_push_size _ rfl, rfl, rfl⟩, Nat.zero_le _⟩, fp, q⟩
    obtain ⟨o, e, c, d⟩ := st
    exact ⟨o, _, _, e, c, d, by decide⟩
  · refine wpAny_pyIter_ascii ha ?_
    refine ⟨s1.heap.objs.size, [s1.heap.objs.size], _, _, H1, rfl, I1.kept (t' := s1.toks) fun b o e => Heap.get?_push_of_some _ e,
      turn_str (St := fun i h => h.IsStrIter s1.heap.objs.size "str_ascii_iterator" z t i) (fun A' hA => Walks.strAscii hA _ z t) (fun i h st => ?_) (fun A i s Q E st h => wpAny_pyIter_striter_ascii st h), ⟨⟨_, Heap.get?_push_size _ rfl, rfl, rfl⟩, Nat.zero_le _⟩, fp, q⟩
    obtain ⟨o, e, c, d⟩ := st
    exact ⟨o, _, _, e, c, d, by decide⟩
end
/-- one sign -/
abbrev sg (c : Nat) : V := .str ⟨#[c]⟩
theorem for_str {x : Str} {g : TG} {tb : TS} {D : Ends} {σ : St} {H : Hp} (Pv : Nat → St → Hp → Prop) (h0 : Pv 0 σ H)
    (hs : ∀ i c σ H, x.cps[i]? = some c → Pv i σ H → g (sg c) σ H fun σ2 H2 => tb { D with nx := Pv (i + 1), ct := Pv (i + 1), bk := D.nx } σ2 H2) (hd : ∀ σ H, Pv x.cps.size σ H → D.nx σ H) :
    ∃ W : Nat → Nat → St → Hp → Prop, (∃ m, W 0 m σ H) ∧ ∀ i m σ H, W i m σ H →
      ((Its x).stop i H ∧ D.nx σ H) ∨ ((Its x).go i H ∧ ∃ N : St → Hp → Prop, (∀ σ' H', N σ' H' → ∃ m', m' < m ∧ W (i + 1) m' σ' H') ∧ ∀ v H', (Its x).yld i H v H' → g v σ H' fun σ2 H2 => tb { D with nx := N, ct := N, bk := D.nx } σ2 H2) := by
  refine ⟨fun i m σ H => m = x.cps.size - i ∧ i ≤ x.cps.size ∧ Pv i σ H, ⟨x.cps.size, by simp, Nat.zero_le _, h0⟩, ?_⟩
  rintro i m σ H ⟨rfl, hi, p⟩
  by_cases hlt : i < x.cps.size
  · refine .inr ⟨hlt, Pv (i + 1), fun σ' H' p' => ⟨x.cps.size - (i + 1), by omega, rfl, hlt, p'⟩, fun v H' y => ?_⟩
    obtain ⟨e, c, hc, ev⟩ := y
    subst e ev
    exact hs i c σ _ hc p
  · have e : i = x.cps.size := by omega
    subst e
    exact .inl ⟨Nat.le_refl _, hd σ H p⟩
/-! comprehensions, by their items -/
section
variable {K : PySem.W.Frag} {ts : List Str} {js : List Nat} {g : TG} {tc : TT} {te : TE} {σ : St} {H : Hp} {Q : VK}
theorem lc_list {a : Addr} {xs : List V} (Pv : Nat → List V → Hp → Prop) (h0 : Pv 0 [] H) (hl : ∀ i ys H, i ≤ xs.length → Pv i ys H → SqL K H a xs ∧ ys.length < sizeLine)
    (hs : ∀ i x ys H, xs[i]? = some x → Pv i ys H → g x (lcS ts js σ) H fun σ2 H2 => SubS (lcS ts js σ) σ2 ∧ tc σ2 H2 fun b H3 => if b = true then te σ2 H3 fun y H4 => i + 1 ≤ xs.length ∧ Pv (i + 1) (ys ++ [y]) H4 else i + 1 ≤ xs.length ∧ Pv (i + 1) ys H3)
    (hd : ∀ ys H, Pv xs.length ys H → ∀ p, H p = none → Q (.ref p) (upd H p (.lst ys))) : LcW (Itl K a) ts js g tc te σ H Q := by
  refine ⟨fun i ys H => i ≤ xs.length ∧ Pv i ys H, xs.length, ⟨Nat.zero_le _, h0⟩, ?_⟩
  rintro i ys H ⟨hi, p⟩
  obtain ⟨q, hz⟩ := hl i ys H hi p
  by_cases hlt : i < xs.length
  · refine .inr ⟨hlt, ⟨xs, xs[i], q, by simp [hlt]⟩, hz, fun x H' y => ?_⟩
    obtain ⟨e, y⟩ := y
    subst e
    exact hs i x ys _ (y xs q) p
  · have e : i = xs.length := by omega
    subst e
    exact .inl ⟨⟨xs, q, Nat.le_refl _⟩, hd ys H p⟩
theorem lc_range {lo : Int} {n : Nat} (Pv : Nat → List V → Hp → Prop) (h0 : Pv 0 [] H) (hl : ∀ i ys H, i ≤ n → Pv i ys H → ys.length < sizeLine)
    (hs : ∀ i ys H, i < n → Pv i ys H → g (.int (lo + i)) (lcS ts js σ) H fun σ2 H2 => SubS (lcS ts js σ) σ2 ∧ tc σ2 H2 fun b H3 => if b = true then te σ2 H3 fun y H4 => i + 1 ≤ n ∧ Pv (i + 1) (ys ++ [y]) H4 else i + 1 ≤ n ∧ Pv (i + 1) ys H3)
    (hd : ∀ ys H, Pv n ys H → ∀ p, H p = none → Q (.ref p) (upd H p (.lst ys))) : LcW (Itr lo n) ts js g tc te σ H Q := by
  refine ⟨fun i ys H => i ≤ n ∧ Pv i ys H, n, ⟨Nat.zero_le _, h0⟩, ?_⟩
  rintro i ys H ⟨hi, p⟩
  have hz := hl i ys H hi p
  by_cases hlt : i < n
  · refine .inr ⟨hlt, hlt, hz, fun x H' y => ?_⟩
    obtain ⟨e, y⟩ := y
    subst e y
    exact hs i ys _ hlt p
  · have e : i = n := by omega
    subst e
    exact .inl ⟨Nat.le_refl _, hd ys H p⟩
end
end L2

namespace L2
open PySem PySem.Spec PyProof.Rows
theorem vals_bls {d : Bool} : ∀ {bs : List Bool} {us : List Value} {i : Nat} {v : Value}, Vals (bs.map V.bl) us → us[i]? = some v → v = .bool (bs.getD i d)
  | [], _, i, v, r, e => by cases r; simp at e
  | b :: bs, _, 0, v, r, e => by
    cases r with
    | cons h t => cases h; simpa using e.symm
  | b :: bs, _, i + 1, v, r, e => by
    cases r with
    | cons h t => simpa using vals_bls (bs := bs) t (by simpa using e)
section
variable {X : Cx}
theorem consume {d : Bool} {pins : List (Addr × Obj)} {σ : St} {H : Hp} {s : Shared} {p : Addr} {bs : List Bool} {E : Value → Shared → Prop} {Q : Value → Shared → Prop} {f : (Nat → Bool) → Nat → Bool} (hc : X.calm = true) (I : Inv X pins σ H s) (h : SqL X.K H p (bs.map V.bl))
    (q : ∀ s', Inv X pins σ H s' → Q (.bool (f (fun i => bs.getD i d) bs.length)) s') :
    wpAny (model X.prog X.w) X.A.in1 (pyIter (.ref p)) (fun it s₂ => ∃ I' fp wr n P St tr, it = .ref I' ∧ Walks X.prog X.w X.A.in1 I' fp wr n P St ∧ St 0 s₂.heap ∧ TruthOf X.prog X.w X.A.in1 P tr ∧
      ∀ h' tk, (∀ b o, b ∉ wr → s₂.heap.get? b = some o → h'.get? b = some o) → Q (.bool (f tr n)) { s₂ with heap := h', toks := tk }) E s := by
  obtain ⟨its, rv, pl, hz⟩ := I.list h
  obtain ⟨o, n, e, oc, od, odd⟩ := id pl
  have lt := Heap.lt_size e
  have hl := rv.length
  rw [List.length_map] at hl
  refine wpAny_pyIter_list pl.isList ?_
  refine ⟨s.heap.objs.size, _, _, its.toArray.size, _, _, fun i => bs.getD i d, rfl, Walks.list (by show X.A.handled = none; exact I.ok.hd hc) s.heap.objs.size p (Nat.ne_of_lt lt) its.toArray, ⟨⟨_, Heap.get?_push_size _ rfl, rfl, rfl⟩, pl.isList.push _⟩, fun i v s Q E hP hQ => ?_, fun h' tk kk => ?_⟩
  · have z := vals_bls (d := d) rv (show its[i]? = some v by simpa using hP)
    subst z
    exact wpAny_truthy_bool hQ
  · have fp := I.fpOk (H' := H) (b := s.heap.objs.size) (Nat.le_refl _) (I.hok.fresh (Nat.le_refl _))
    have I1 : Inv X pins σ H { s with heap := s.heap.push { cls := .type "list_iterator", data := .fields #[.ref p, rawInt 0] } } := I.kept (t' := s.toks) fun b o e => Heap.get?_push_of_some _ e
    obtain ⟨f0, f1, f2, f3, f4, f5⟩ := fp
    have e2 : its.toArray.size = bs.length := by simp [← hl]
    rw [e2]
    exact q _ (I1.turned (t' := tk) (fun b o hb e => kk b o (by simpa using hb) e) f0 f1 f3 f4 f5)
theorem call_all (hc : X.calm = true) : CallR X (.builtin "all") (fun xs H Q => ∃ (p : Addr) (bs : List Bool), xs = [.ref p] ∧ SqL X.K H p (bs.map V.bl) ∧ Q (.bl (bs.all id)) H) := by
  intro pins s σ H xs us Q I r h
  obtain ⟨p, bs, rfl, hp, q⟩ := h
  obtain ⟨u, rfl, ru⟩ := vals1 r
  cases ru
  exact call_all_walk (consume (d := true) (f := fun tr n => (List.range n).all tr) hc I hp fun s' I' => ⟨.bl (bs.all id), H, I', (by rw [← LSm.range_all bs]; rfl), q⟩)
end
end L2

/-! ### for a, b in zip(xs, ys) -/
namespace L2
open PySem PySem.Spec PyProof.Rows
section
variable {X : Cx} {pins : List (Addr × Obj)} {σ : St} {H : Hp} {s : Shared} {h' : Heap}
theorem Inv.turnedL {t' : Nat} {ch : List Addr} (I : Inv X pins σ H s) (k : ∀ b o, b ∉ ch → s.heap.get? b = some o → h'.get? b = some o) (hf : ∀ b ∈ ch, FpOk X pins H b) : Inv X pins σ H { s with heap := h', toks := t' } := by
  have nit : ∀ b u, H b = some u → b ∉ ch := fun b u e z => by rw [(hf b z).1] at e; cases e
  refine I.step (g' := s.gens) (d' := s.drawn) (ch := ch) (fun b hb => ⟨(hf b hb).2.2.2.1, (hf b hb).2.1, (hf b hb).2.2.2.2.1, (hf b hb).2.2.2.2.2⟩) (fun b o _ _ hc e _ => k b o hc e) (fun b o _ _ hc e _ => ⟨o.slots, k b o hc e⟩) (fun _ _ _ _ n => n)
    (fun b o hc e => ⟨o, k b o hc e⟩) (fun _ _ e => e) (fun _ _ _ e => e) (fun b ps e => ⟨#[], by rw [e]; simp⟩) (fun m hm => ?_) (fun b u e => ?_) I.bare
  · obtain ⟨o, es, ep, ho, r⟩ := hm
    exact ⟨o, es, ep, k _ o (fun z => (hf _ z).2.1 rfl) ho, r⟩
  · refine (I.hok b u e).stay (fun c v hc q => k c v ?_ q) (fun _ q => q) fun _ _ q => q
    rcases hc with z | z
    · rw [z]; exact nit b u e
    · exact nit c _ z
end
/-- two lists side by side -/
def Itz (K : PySem.W.Frag) (a b : Addr) : It :=
  ⟨fun i H => ∃ xs ys x y, SqL K H a xs ∧ SqL K H b ys ∧ xs[i]? = some x ∧ ys[i]? = some y,
   fun i H v H' => ∃ T x y, H T = none ∧ v = .ref T ∧ H' = upd H T (.tup [x, y]) ∧ (∀ xs, SqL K H a xs → xs[i]? = some x) ∧ ∀ ys, SqL K H b ys → ys[i]? = some y,
   fun i H => ∃ xs ys, SqL K H a xs ∧ SqL K H b ys ∧ (xs.length ≤ i ∨ ys.length ≤ i)⟩
section
variable {X : Cx}
def iZip (K : PySem.W.Frag) (ta : TA) : TI := fun σ H R => ta σ H fun vs H1 => ∃ a b, vs = [.ref a, .ref b] ∧ (∃ xs, SqL K H1 a xs) ∧ (∃ ys, SqL K H1 b ys) ∧ R (Itz K a b) H1
end
end L2

/-! ### set(xs) of ints and texts, len of it -/
namespace L2
open PySem PySem.Spec PyProof.Rows
def memK (acc : List Key) (k : Key) : Bool := acc.any fun x => decide (x = k)
theorem memK_iff {acc : List Key} {k : Key} : memK acc k = true ↔ k ∈ acc := by
  unfold memK
  rw [List.any_eq_true]
  exact ⟨fun ⟨x, h, e⟩ => of_decide_eq_true e ▸ h, fun h => ⟨k, h, decide_eq_true rfl⟩⟩
def addK (acc : List Key) (k : Key) : List Key := if memK acc k = true then acc else acc ++ [k]
/-- each once, in the order of their first coming -/
def dd (ks : List Key) : List Key := ks.foldl addK []
theorem addK_len {acc : List Key} {k : Key} : (addK acc k).length = if memK acc k = true then acc.length else acc.length + 1 := by
  unfold addK
  split
  · rfl
  · rw [List.length_append, List.length_singleton]
theorem fold_len : ∀ (ks acc : List Key), (ks.foldl addK acc).length ≤ acc.length + ks.length
  | [], acc => Nat.le_refl _
  | k :: ks, acc => by
    have h := fold_len ks (addK acc k)
    have h2 : (addK acc k).length ≤ acc.length + 1 := by rw [addK_len]; split <;> omega
    rw [List.foldl_cons, List.length_cons]
    omega
theorem dd_len (ks : List Key) : (dd ks).length ≤ ks.length := by have := fold_len ks []; simpa [dd] using this
theorem dd_take {ks : List Key} {i : Nat} {k : Key} (h : ks[i]? = some k) : dd (ks.take (i + 1)) = addK (dd (ks.take i)) k := by
  unfold dd
  rw [List.take_add_one, h, List.foldl_append]
  rfl
/-- a set of ints and texts -/
abbrev SetO (P : Program) (w : World) (a : Addr) (S : List Key) : HO := .ext fun h => h.SetOf (mixKind P w) a (memK S) S.length
section
variable {P : Program} {w : World} {A : Around} {E : Value → Shared → Prop} {s : Shared} {R : Result → Shared → Prop}
end
/-- an empty set's object -/
abbrev fr (led : Bool) : Obj := { cls := .type "set", dict := none, data := .set #[] 0 (.fresh 0 0 led) }
section
variable {P : Program} {w : World} {A : Around} {E : Value → Shared → Prop} {s : Shared}
/-- a call of a built-in type: its object made, then its first call -/
theorem made_by {T nw ini : String} {args : List Value} {Q Q1 : Value → Shared → Prop} (ft : TypeCalled T nw ini) (c : checkTypeCall T ⟨args, []⟩ = pure ())
    (new : codeAny (model P w) A.in1 (.call (.builtin nw) ⟨.type T :: args, []⟩) (wants Q1 E) s)
    (fst : ∀ ob s1, Q1 ob s1 → s1.TypeIs ob T ∧ codeAny (model P w) A.in1 (.call (.builtin ini) ⟨ob :: args, []⟩) (wants (fun r s2 => r = .none ∧ Q ob s2) E) s1) :
    wpAny (model P w) A (call (.type T) args) Q E s := by
  obtain ⟨k0, ks0, m0⟩ := ft.mro
  have m1 := ft.made
  have m2 := ft.sub
  have m3 := ft.notType
  have m4 := ft.canCreate
  have m5 := ft.init.lookup
  apply wpAny_call
  apply codeAny_of_tree
  show wpAny _ _ (pure _) _ _ _
  apply wpAny_pure
  have q0 : "type.__call__".startsWith "lifetime." = false := by decide +kernel
  refine ⟨Code.quiet_builtin _ q0, ?_⟩
  apply codeAny_builtin PySem.F.entry_type_call
  rw [Around.under_plain (by rfl) (by rfl)]
  wp_walk
  apply codeAny_mono new
  rintro (x | x) s1 g
  · exact g
  rcases x with v | v | v | v
  all_goals first | exact g.elim | skip
  obtain ⟨ty, go⟩ := fst _ _ g
  have b := ft.init.bind v
  wp_walk
  apply codeAny_mono go
  rintro (x | x) s2 g2
  · exact g2
  rcases x with u | u | u | u
  all_goals first | exact g2.elim | skip
  obtain ⟨rfl, g3⟩ := g2
  wp_walk
  exact g3
end
end L2

namespace L2
open PySem PySem.Spec PyProof.Rows
theorem vals_keys {P : Program} {w : World} : ∀ {ks : List Key} {us : List Value} {i : Nat} {v : Value}, Vals (ks.map kV) us → us[i]? = some v → ∃ k, ks[i]? = some k ∧ (mixKind P w).is k v = true ∧ v.scannable = true
  | [], _, i, v, r, e => by cases r; simp at e
  | k :: ks, _, 0, v, r, e => by
    cases r with
    | cons h t =>
      refine ⟨k, rfl, ?_⟩
      have e' : v = _ := (Option.some.inj e).symm
      subst e'
      cases k with
      | inl n => obtain ⟨t, rfl⟩ := h; exact ⟨mixKind_int P w n t, rfl⟩
      | inr x => obtain ⟨t, rfl⟩ := h; exact ⟨mixKind_str P w x t, rfl⟩
  | k :: ks, _, i + 1, v, r, e => by
    cases r with
    | cons h t => simpa using vals_keys (ks := ks) t (by simpa using e)
section
variable {X : Cx}
end
end L2

/-! ### texts -/
namespace L2
open PySem PySem.Spec PyProof.Rows
/-- the codes of a text -/
abbrev cds (x : Str) : List Nat := x.cps.toList
abbrev tx (l : List Nat) : Str := ⟨l.toArray⟩
theorem tx_cds (x : Str) : tx (cds x) = x := by cases x; rfl
theorem cds_len (x : Str) : (cds x).length = x.length := by show x.cps.toList.length = x.cps.size; simp
theorem cds_app (x y : Str) : cds (x ++ y) = cds x ++ cds y := by
  show (x.cps ++ y.cps).toList = _
  simp
theorem str_ext {x y : Str} (h : cds x = cds y) : x = y := by rw [← tx_cds x, ← tx_cds y, h]
section
variable {X : Cx}
def rSlS : V → Option Int → Option Int → Hp → VK → Prop := fun x lo hi H Q => ∃ z, x = .str z ∧ z.length ≤ sizeLine ∧ Q (.str (Txt.slice z lo hi)) H
/-- z.join(xs) of a list of texts -/
def rJoin (K : PySem.W.Frag) : V → List V → Hp → VK → Prop := fun x vs H Q => ∃ z l ss, x = .str z ∧ vs = [.ref l] ∧ SqL K H l (ss.map V.str) ∧ (ss.map (·.length)).sum + ss.length * z.length ≤ 16777216 ∧ Q (.str (Txt.join z ss)) H
end
end L2

/-! ### words; data of tuples; several objects at once -/
namespace L2
open PySem PySem.Spec PyProof.Rows
/-- a to z -/
def isL (c : Nat) : Bool := decide (97 ≤ c) && decide (c ≤ 122)
def isW (x : Str) : Bool := decide (1 ≤ x.length) && decide (x.length ≤ 12) && (cds x).all isL
def letters : Str := "abcdefghijklmnopqrstuvwxyz"
theorem inV_str {x : Str} {ws : List Str} : inV (.str x) (ws.map V.str) = decide (x ∈ ws) := by
  rw [Bool.eq_iff_iff, decide_eq_true_iff]
  unfold inV
  rw [List.any_map, List.any_eq_true]
  have e : ∀ w : Str, eqV (.str w) (.str x) = true ↔ w = x := fun w => by simp [eqV]
  constructor
  · rintro ⟨w, hw, h⟩
    rw [← (e w).mp h]; exact hw
  · intro h
    exact ⟨x, h, (e x).mpr rfl⟩
/-- the tuples stay -/
def SameT (H H' : Hp) : Prop := ∀ a xs, H a = some (.tup xs) → H' a = some (.tup xs)
theorem SameT.refl (H : Hp) : SameT H H := fun _ _ h => h
theorem Same.t {H H' : Hp} (s : Same H H') : SameT H H' := fun a xs h => s a _ h
theorem SameT.new {H H' : Hp} {p : Addr} (s : SameT H H') (h : H' p = none) (o : HO) : SameT H (upd H' p o) := fun a xs q => by rw [upd_ne (ne_of_none (s a xs q) h)]; exact s a xs q
theorem SameT.lst {H H' : Hp} {p : Addr} {ys : List V} (s : SameT H H') (h : H' p = some (.lst ys)) (o : HO) : SameT H (upd H' p o) := fun a xs q => by
  rw [upd_ne (ne_of (s a xs q) h (by intro z; cases z))]; exact s a xs q
mutual
/-- a value that is tuples of plain ones: it never changes -/
inductive TV (K : PySem.W.Frag) (H : Hp) : V → PyData → Prop
  | non : TV K H .non .none
  | bl (b : Bool) : TV K H (.bl b) (.bool b)
  | int (i : Int) : TV K H (.int i) (.int i)
  | str (x : Str) : TV K H (.str x) (.str x)
  | tup {a : Addr} {xs : List V} {ds : List PyData} : H a = some (.tup xs) → TVs K H xs ds → TV K H (.ref a) (.tuple ds)
inductive TVs (K : PySem.W.Frag) (H : Hp) : List V → List PyData → Prop
  | nil : TVs K H [] []
  | cons {x : V} {xs : List V} {d : PyData} {ds : List PyData} : TV K H x d → TVs K H xs ds → TVs K H (x :: xs) (d :: ds)
end
section
variable {K : PySem.W.Frag} {H H' : Hp}
mutual
theorem TV.mono (s : SameT H H') : ∀ {x : V} {d : PyData}, TV K H x d → TV K H' x d
  | _, _, .non => .non
  | _, _, .bl b => .bl b
  | _, _, .int i => .int i
  | _, _, .str x => .str x
  | _, _, .tup h hs => .tup (s _ _ h) (TVs.mono s hs)
theorem TVs.mono (s : SameT H H') : ∀ {xs : List V} {ds : List PyData}, TVs K H xs ds → TVs K H' xs ds
  | _, _, .nil => .nil
  | _, _, .cons h hs => .cons (TV.mono s h) (TVs.mono s hs)
end
mutual
theorem TV.dv : ∀ {x : V} {d : PyData}, TV K H x d → DV K H x d
  | _, _, .non => .non
  | _, _, .bl b => .bl b
  | _, _, .int i => .int i
  | _, _, .str x => .str x
  | _, _, .tup h hs => .tup (SqT.of h) (TVs.dv hs)
theorem TVs.dv : ∀ {xs : List V} {ds : List PyData}, TVs K H xs ds → DVs K H xs ds
  | _, _, .nil => .nil
  | _, _, .cons h hs => .cons (TV.dv h) (TVs.dv hs)
end
theorem TVs.length : ∀ {xs : List V} {ds : List PyData}, TVs K H xs ds → xs.length = ds.length
  | _, _, .nil => rfl
  | _, _, .cons _ hs => by simp [TVs.length hs]
theorem TVs.append : ∀ {xs ys : List V} {ds es : List PyData}, TVs K H xs ds → TVs K H ys es → TVs K H (xs ++ ys) (ds ++ es)
  | _, _, _, _, .nil, s => s
  | _, _, _, _, .cons h hs, s => .cons h (TVs.append hs s)
theorem TVs.get : ∀ {xs : List V} {ds : List PyData} {i : Nat} {x : V}, TVs K H xs ds → xs[i]? = some x → ∃ d, ds[i]? = some d ∧ TV K H x d
  | _, _, _, _, .nil, e => by simp at e
  | _, _, 0, _, .cons h _, e => by
    obtain rfl := Option.some.inj e
    exact ⟨_, rfl, h⟩
  | _, _, i + 1, _, .cons _ hs, e => by simpa using TVs.get (i := i) hs (by simpa using e)
theorem TV.pair {x : V} {a b : PyData} (h : TV K H x (.tuple [a, b])) : ∃ p u v, x = .ref p ∧ H p = some (.tup [u, v]) ∧ TV K H u a ∧ TV K H v b := by
  cases h with
  | tup e hs =>
    cases hs with
    | cons h1 hs =>
      cases hs with
      | cons h2 hs =>
        cases hs
        exact ⟨_, _, _, rfl, e, h1, h2⟩
theorem TV.strs {x : V} {s : Str} (h : TV K H x (.str s)) : x = .str s := by cases h; rfl
theorem TV.ints {x : V} {s : Int} (h : TV K H x (.int s)) : x = .int s := by cases h; rfl
theorem TVs.strs (ws : List Str) : TVs K H (ws.map V.str) (ws.map PyData.str) := by
  induction ws with
  | nil => exact .nil
  | cons w ws ih => exact .cons (.str w) ih
end
/-- these objects stand at these places, no two at one -/
structure Hs (H : Hp) (L : List (Addr × HO)) : Prop where
  nd : (L.map (·.1)).Nodup
  at' : ∀ p ∈ L, H p.1 = some p.2
namespace Hs
variable {H H' : Hp} {L : List (Addr × HO)} {a p : Addr} {o o' : HO}
end Hs
end L2

/-! ### shapes; equal data -/
namespace L2
open PySem PySem.Spec PyProof.Rows
/-- plain data, at most n deep -/
structure Shp (n : Nat) (d : PyData) : Prop where
  lay : d.canLay0 = true
  dep : d.depth ≤ n
theorem Shp.mono {m n : Nat} {d : PyData} (h : Shp m d) (hn : m ≤ n) : Shp n d := ⟨h.lay, Nat.le_trans h.dep hn⟩
theorem lay_all {ds : List PyData} (h : ∀ d ∈ ds, d.canLay0 = true) : PyData.canLayAll0 ds = true := by
  induction ds with
  | nil => simp [PyData.canLayAll0]
  | cons d ds ih =>
    simp only [PyData.canLayAll0, Bool.and_eq_true]
    exact ⟨h d List.mem_cons_self, ih fun x hx => h x (List.mem_cons_of_mem _ hx)⟩
theorem dep_all {n : Nat} {ds : List PyData} (h : ∀ d ∈ ds, d.depth ≤ n) : PyData.depthAll ds ≤ n := by
  induction ds with
  | nil => simp [PyData.depthAll]
  | cons d ds ih =>
    simp only [PyData.depthAll]
    exact Nat.max_le.mpr ⟨h d List.mem_cons_self, ih fun x hx => h x (List.mem_cons_of_mem _ hx)⟩
theorem Shp.lst {n : Nat} {ds : List PyData} (h : ∀ d ∈ ds, Shp n d) : Shp (n + 1) (.list ds) :=
  ⟨by simp only [PyData.canLay0]; exact lay_all fun d hd => (h d hd).lay, by simp only [PyData.depth]; exact Nat.succ_le_succ (dep_all fun d hd => (h d hd).dep)⟩
theorem Shp.str (n : Nat) {x : Str} (h : ∀ c ∈ cds x, c < 128) : Shp n (.str x) := by
  refine ⟨?_, by simp [PyData.depth]⟩
  simp only [PyData.canLay0]
  unfold PyData.strOk
  rw [← Array.all_toList, List.all_eq_true]
  intro c hc
  have := h c hc
  exact decide_eq_true (by omega)
theorem Shp.shaped {d : PyData} (h : Shp 64 d) : SeqAt.shaped d = true := by
  unfold SeqAt.shaped
  rw [Bool.and_eq_true, decide_eq_true_iff]
  exact ⟨h.lay, h.dep⟩
section
variable {K : PySem.W.Frag} {H : Hp} {x y : V} {d : PyData} {Q : VK}
theorem ned (hx : DV K H x d) (hy : DV K H y d) (s : Shp 64 d) (q : Q (.bl false) H) : rNeD K x y H Q := ⟨d, d, hx, hy, s.shaped, s.shaped, by rw [SeqAt.eqv_refl d s.lay]; exact q⟩
end
end L2
namespace L2
theorem Same.at' {H H' : Hp} {a : PySem.Addr} {o : HO} (s : Same H H') (h : H a = some o) : H' a = some o := s a o h
end L2
namespace L2
theorem upd_none {H : Hp} {a p : PySem.Addr} {o : HO} (h : upd H a o p = none) : p ≠ a ∧ H p = none := by
  unfold upd at h
  by_cases e : p = a
  · rw [if_pos e] at h; cases h
  · rw [if_neg e] at h; exact ⟨e, h⟩
end L2
namespace L2
theorem atI_mapD {α : Type} {f : α → V} {ws : List α} {d : Int} (dflt : α) (h0 : 0 ≤ d) (h : d < (ws.length : Int)) : atI (ws.map f) d = some (f (ws.getD d.toNat dflt)) := by
  have hk : d.toNat < ws.length := by omega
  have ek : d = ((d.toNat : Nat) : Int) := by omega
  have q : atI (ws.map f) ((d.toNat : Nat) : Int) = some (f ws[d.toNat]) := atI_nat (by rw [List.getElem?_map, List.getElem?_eq_getElem hk]; rfl)
  rw [← ek] at q
  rw [q, List.getD_eq_getElem?_getD, List.getElem?_eq_getElem hk]
  rfl
theorem getD_mem {α : Type} {ws : List α} {n : Nat} (dflt : α) (h : n < ws.length) : ws.getD n dflt ∈ ws := by
  rw [List.getD_eq_getElem?_getD, List.getElem?_eq_getElem h]
  exact List.getElem_mem h
end L2
namespace L2
end L2
namespace L2
open PySem
theorem SqF.nw {K : PySem.W.Frag} {H : Hp} {a p : Addr} {xs : List V} {u : HO} (hp : H p = none) (h : SqF K H a xs) : SqF K (L2.upd H p u) a xs := h.new hp
namespace Hs
variable {H H' : Hp} {L L' : List (Addr × HO)} {a p : Addr} {o o' : HO}
end Hs
end L2
namespace L2
theorem upd_at {H : Hp} {a b : PySem.Addr} {o u : HO} (n : b ≠ a) (h : H b = some o) : upd H a u b = some o := by rw [upd_ne n]; exact h
end L2

/-! ### sum, sorted, reversed -/
namespace L2
open PySem PySem.Spec PyProof.Rows
theorem vals_int_at : ∀ {ns : List Int} {us : List Value} {i : Nat} {v : Value}, Vals (ns.map V.int) us → us[i]? = some v → ∃ t, v = .int (ns.getD i 0) t
  | [], _, i, v, r, e => by cases r; simp at e
  | n :: ns, _, 0, v, r, e => by
    cases r with
    | cons h t =>
      obtain ⟨t, rfl⟩ := h
      exact ⟨t, (Option.some.inj e).symm⟩
  | n :: ns, _, i + 1, v, r, e => by
    cases r with
    | cons h t => simpa using vals_int_at (ns := ns) (i := i) t (by simpa using e)
theorem strs_of : ∀ {ws : List Str} {us : List Value}, Vals (ws.map V.str) us → StrsAre us ws
  | [], _, r => by cases r; exact .nil
  | w :: ws, _, r => by
    cases r with
    | cons h t =>
      obtain ⟨t', rfl⟩ := h
      exact .cons w t' (strs_of t)
theorem of_strs : ∀ {ws : List Str} {us : List Value}, StrsAre us ws → Vals (ws.map V.str) us
  | _, _, .nil => .nil
  | _, _, .cons w t r => .cons ⟨t, rfl⟩ (of_strs r)
section
variable {X : Cx}
theorem call_sum (hc : X.calm = true) : CallR X (.builtin "sum") (fun xs H Q => ∃ (p : Addr) (ns : List Int), xs = [.ref p] ∧ SqL X.K H p (ns.map V.int) ∧ Q (.int ns.sum) H) := by
  intro pins s σ H xs us Q I r h
  obtain ⟨p, ns, rfl, hp, q⟩ := h
  obtain ⟨u, rfl, ru⟩ := vals1 r
  cases ru
  obtain ⟨its, rv, pl, hz⟩ := I.list hp
  have hl := rv.length
  rw [List.length_map] at hl
  obtain ⟨o, n, e, _⟩ := id pl
  have lt := Heap.lt_size e
  refine call_sum_walkG (wpAny_pyIter_list pl.isList ?_)
  refine ⟨s.heap.objs.size, _, _, _, _, _, fun i => ns.getD i 0, rfl, Walks.list (A := X.A.in1) (by show X.A.handled = none; exact I.ok.hd hc) _ p (Nat.ne_of_lt lt) its.toArray, ⟨⟨_, Heap.get?_push_size _ rfl, rfl, rfl⟩, pl.isList.push _⟩, fun b hb => ?_, fun i v hP => vals_int_at rv (by simpa using hP), fun h' tk t' kk => ?_⟩
  · show b < (s.heap.push _).objs.size
    rw [Heap.size_push]
    rcases hb with _ | ⟨_, _ | ⟨_, hb⟩⟩
    · exact Nat.lt_succ_self _
    · exact Nat.lt_succ_of_lt lt
    · cases hb
  · obtain ⟨f0, f1, f2, f3, f4, f5⟩ := I.fpOk (H' := H) (b := s.heap.objs.size) (Nat.le_refl _) (I.hok.fresh (Nat.le_refl _))
    have I1 := I.kept (t' := s.toks) (h' := s.heap.push { cls := .type "list_iterator", data := .fields #[.ref p, rawInt 0] }) fun b o e => Heap.get?_push_of_some _ e
    refine ⟨.int ns.sum, H, I1.turned (t' := tk) (fun b o hb e => kk b o (by simpa using hb) e) f0 f1 f3 f4 f5, ⟨t', ?_⟩, q⟩
    have e2 : its.toArray.size = ns.length := by simp [← hl]
    rw [e2, preSum_getD, List.take_length]
theorem call_sortedS : CallR X (.builtin "sorted") (fun xs H Q => ∃ (p : Addr) (ws : List Str), xs = [.ref p] ∧ SqL X.K H p (ws.map V.str) ∧ ws.length < 64 ∧ ∀ (q : Addr) (ws' : List Str), H q = none → ws'.Perm ws → sortedS ws' = true → Q (.ref q) (upd H q (.lst (ws'.map V.str)))) := by
  intro pins s σ H xs us Q I r h
  obtain ⟨p, ws, rfl, hp, h64, q⟩ := h
  obtain ⟨u, rfl, ru⟩ := vals1 r
  cases ru
  obtain ⟨its, rv, pl, hz⟩ := I.list hp
  have hl := rv.length
  rw [List.length_map] at hl hz
  refine sorted_strs pl.isList (strs_of rv) (by omega) fun out ws' a1 a2 a3 => ?_
  obtain ⟨n, en⟩ := sortedAll_at s.heap its out
  have hq : H (s.heap.objs.size + 1) = none := I.hok.fresh (Nat.le_succ _)
  refine ⟨.ref (s.heap.objs.size + 1), _, I.laid (t' := s.toks) (o := .lst (ws'.map V.str)) (fun b o e => sortedAll_old e) (Nat.le_succ _) ⟨?_, out.toList, n, of_strs a1, ?_⟩, rfl, q _ ws' hq a2 a3⟩
  · rw [List.length_map, a2.length_eq]
    omega
  · simpa using en
end
end L2
/-! ### for x in reversed(xs) -/
namespace L2
open PySem PySem.Spec PyProof.Rows
/-- a list of n items from behind -/
def Itv (K : PySem.W.Frag) (a : Addr) (n : Nat) : It :=
  ⟨fun i H => ∃ xs, SqL K H a xs ∧ xs.length = n ∧ i < n, fun i H v H' => H' = H ∧ ∀ xs, SqL K H a xs → xs[n - 1 - i]? = some v, fun i _ => i = n⟩
section
variable {X : Cx} {tg : Expr}
def iRev (K : PySem.W.Frag) (ta : TA) : TI := fun σ H R => ta σ H fun vs H1 => ∃ a xs, vs = [.ref a] ∧ SqL K H1 a xs ∧ R (Itv K a xs.length) H1
end
end L2
/-! ### max(xs, default=d) of whole numbers -/
namespace L2
open PySem PySem.Spec PyProof.Rows
/-- the greatest of these and m -/
def mxF (m : Int) (ns : List Int) : Int := ns.foldl (fun a b => if a < b then b else a) m
/-- the greatest one, or d -/
def mxD (d : Int) : List Int → Int
  | [] => d
  | n :: ns => mxF n ns
/-- what the loop keeps -/
def kept : List Value → Array Value
  | [] => #[]
  | v :: _ => #[v, v]
section
variable {P : Program} {w : World} {A : Around} {s : Shared} {R : Result → Shared → Prop}
/-- one step of a built-in's own loop -/
theorem code_by {id : String} {B : Builtin} {args : Args} (e : entryFor table id = some B) (p : plainId id = true) (h : wpAny (model P w) A.in1 (B args)
    (fun fin s' => match fin with | .done f => R (.ok f) s' | .again c' => c'.quiet = true ∧ codeAny (model P w) A c' R s') (fun e s' => R (.error e) s') s) : codeAny (model P w) A (.builtin id args) R s :=
  codeAny_builtin e (by rw [Around.under_plainId p]; exact h)
theorem max_fill {It S l : Addr} {us : Array Value} {d : Value} {kw : List (Str × Value)} (hh : A.handled = none) (n1 : l ≠ It) (n2 : S ≠ It) (n3 : S ≠ l) :
    ∀ (rs : List Int) (i : Nat) (s : Shared) (b : Option (Int × Tok)) (c : Nat), (∀ (j : Nat) n, rs[j]? = some n → ∃ t, us[i + j]? = some (.int n t)) → i + rs.length = us.size → s.heap.IsListIter It l i → s.heap.IsList l us →
      s.heap.get? S = some { cls := .type "list", dict := none, data := .seq (kept (b.toList.map fun x => .int x.1 x.2)) c, slots := #[] } → (b = none → rs = [] → ∃ k tl, kw = (k, d) :: tl) →
      (∀ (v : Value) (h' : Heap) (tk : Nat), (match b, rs with | none, [] => v = d | none, n :: ns => ∃ t, v = .int (mxF n ns) t | some m, ns => ∃ t, v = .int (mxF m.1 ns) t) →
        (∀ a o, a ≠ It → a ≠ S → s.heap.get? a = some o → h'.get? a = some o) → R (.ok (.ret v)) { s with heap := h', toks := tk }) →
      codeAny (model P w) A (.builtin "max.loop" ⟨[.ref It, .none, .ref S], kw⟩) R s := by
  intro rs
  have nm : (toString "max" ++ toString ".loop" : String) = "max.loop" := by decide
  induction rs with
  | nil =>
    intro i s b c hv hn hi hl hS hk fin
    refine code_by PySem.F.entry_max_loop PySem.F.plain_max_loop (wpAny_bind (m := seqItems? (.ref S)) (wpAny_seqItems hS rfl ?_))
    refine wpAny_bind (m := tryCatch (pyNext (.ref It)) _) (wpAny_tryCatch (wpAny_pyNext_list_end (by simpa using hh) hi hl (by simp; simp at hn; omega) fun h' eb => ?_))
    have hS' := eb S _ n2 hS
    cases b with
    | none =>
      obtain ⟨k, tl, rfl⟩ := hk rfl rfl
      refine wpAny_bind (m := rule _) (wpAny_rule (wpAny_pure ?_))
      exact fin d h' s.toks rfl fun a o x y e => eb a o x e
    | some m =>
      refine wpAny_bind (m := updateSeq S fun _ => #[]) (wpAny_updateSeq hS' rfl ?_ (show 2 ≤ sizeLine from sz))
      refine wpAny_bind (m := letGo _ _) (wpAny_letGo (wpAny_pure ?_))
      exact fin _ _ s.toks ⟨m.2, rfl⟩ fun a o x y e => (Heap.get?_update_other _ _ (Ne.symm y)).trans (eb a o x e)
  | cons n ns ih =>
    intro i s b c hv hn hi hl hS hk fin
    obtain ⟨t, ht⟩ := hv 0 n rfl
    refine code_by PySem.F.entry_max_loop PySem.F.plain_max_loop (wpAny_bind (m := seqItems? (.ref S)) (wpAny_seqItems hS rfl ?_))
    refine wpAny_bind (m := tryCatch (pyNext (.ref It)) _) (wpAny_tryCatch (wpAny_pyNext_list_item hi hl ht fun h' hi' sb => ?_))
    have hS' := (sb.2 S n2).trans hS
    have hl' := hl.at fun o e => (sb.2 l n1).trans e
    have hv' : ∀ (j : Nat) m, ns[j]? = some m → ∃ t, us[i + 1 + j]? = some (.int m t) := fun j m e => by
      obtain ⟨t, z⟩ := hv (j + 1) m (by simpa using e)
      exact ⟨t, by rw [← z]; congr 1; omega⟩
    have hn' : i + 1 + ns.length = us.size := by simp at hn; omega
    cases b with
    | none =>
      refine wpAny_bind (m := updateSeq S fun _ => #[.int n t, .int n t]) (wpAny_updateSeq hS' rfl ?_ (show 0 ≤ sizeLine from sz))
      rw [nm]
      refine wpAny_pure ⟨plainId_quiet PySem.F.plain_max_loop _, ih (i + 1) _ (some (n, t)) _ hv' hn' ?_ ?_ (Heap.get?_update_self _ hS' rfl) (fun z => nomatch z) fun v h2 tk q k => ?_⟩
      · exact hi'.at fun o e => (Heap.get?_update_other _ _ n2).trans e
      · exact hl'.at fun o e => (Heap.get?_update_other _ _ n3).trans e
      · exact fin v h2 tk q fun a o x y e => k a o x y ((Heap.get?_update_other _ _ (Ne.symm y)).trans ((sb.2 a x).trans e))
    | some m =>
      refine wpAny_bind (m := tryCatch (holding [.int n t, .int n t] _) _) (wpAny_tryCatch (wpAny_holding (wpAny_bind (m := richCompare .Gt (.int n t) (.int m.1 m.2)) (PySem.P.gt_int ?_))))
      refine wpAny_bind (m := holding [.bool (decide (m.1 < n))] (truthy (.bool (decide (m.1 < n))))) (wpAny_holding (wpAny_truthy_bool ?_))
      refine wpAny_bind (m := letGo _ _) (wpAny_letGo (wpAny_pure ?_))
      by_cases lt : m.1 < n
      · rw [if_pos (decide_eq_true lt)]
        refine wpAny_bind (m := updateSeq S fun _ => #[.int n t, .int n t]) (wpAny_updateSeq hS' rfl ?_ (show 2 ≤ sizeLine from sz))
        refine wpAny_bind (m := letGo _ _) (wpAny_letGo ?_)
        rw [nm]
        refine wpAny_pure ⟨plainId_quiet PySem.F.plain_max_loop _, ih (i + 1) _ (some (n, t)) _ hv' hn' ?_ ?_ (Heap.get?_update_self _ hS' rfl) (fun z => nomatch z) fun v h2 tk q k => ?_⟩
        · exact hi'.at fun o e => (Heap.get?_update_other _ _ n2).trans e
        · exact hl'.at fun o e => (Heap.get?_update_other _ _ n3).trans e
        · refine fin v h2 tk ?_ fun a o x y e => k a o x y ((Heap.get?_update_other _ _ (Ne.symm y)).trans ((sb.2 a x).trans e))
          show ∃ t, v = Value.int (mxF (if m.1 < n then n else m.1) ns) t
          rw [if_pos lt]
          exact q
      · rw [if_neg (by simpa using lt)]
        refine wpAny_bind (m := letGo _ _) (wpAny_letGo ?_)
        rw [nm]
        refine wpAny_pure ⟨plainId_quiet PySem.F.plain_max_loop _, ih (i + 1) _ (some m) _ hv' hn' hi' hl' hS' (fun z => nomatch z) fun v h2 tk q k => ?_⟩
        refine fin v h2 tk ?_ fun a o x y e => k a o x y ((sb.2 a x).trans e)
        show ∃ t, v = Value.int (mxF (if m.1 < n then n else m.1) ns) t
        rw [if_neg lt]
        exact q
end
theorem args_max_dflt (a v : Value) : argsOk "max" ⟨[a], [(Str.ofString "default", v)]⟩ := by
  unfold argsOk
  kernel_rfl
section
variable {X : Cx} {k : Str}
/-- a call of a value that is known, with values and one by name -/
def CallKw (X : Cx) (f : Value) (k : Str) (r : List V → V → Hp → VK → Prop) : Prop :=
  ∀ (pins : List (Addr × Obj)) (s : Shared) (σ : St) (H : Hp) (xs : List V) (us : List Value) (x : V) (u : Value) (Q : VK), Inv X pins σ H s → Vals xs us → RelV x u → r xs x H Q →
    wpAny (model X.prog X.w) X.A (call f us [(k, u)]) (EP X pins σ Q) X.xe s
def tCK (r : List V → V → Hp → VK → Prop) (t : TA) (tk : TE) : TE := fun σ H Q => t σ H fun vs H1 => tk σ H1 fun v H2 => r vs v H2 Q
/-- f(e, .., k=c), c a value that is no place -/
theorem pe_callKw {id : String} {r : List V → V → Hp → VK → Prop} {x : Str} {e ek : Expr} {es : List Expr} {p pos kp : Pos} {t : TA} {tk : TE} (hc : CallKw X (.builtin id) k r) (hg : Gl X x) (hm : X.mg x = none) (hv : bootBuiltins x = some (.builtin id)) (ha : PA X (e :: es) t) (hk : PE X ek tk)
    (hn : x ≠ "__name__" := by decide) (hdb : (x == ("__debug__" : Str)) = false := by decide) (he : backTo pos (starEach (e :: es) X.env) = (false, eval e X.env) :: backTo pos (starEach es X.env) := by rfl) (hpl : (backTo pos (starEach (e :: es) X.env)).any (·.1) = false := by rfl) :
    PE X (.Call (.Name x p) (e :: es) [⟨some k, ek, kp⟩] pos) (tCK r t tk) := by
  intro pins s σ H Q I h
  refine wpAny_Call_Name_kw (ld_blt I hg hm hv ?_ hn hdb)
  refine PyProof.Rows.callWith_kw ?_ he hpl
  refine thn (ha pos pins s σ H _ I h) fun us s1 ⟨vs, H1, I1, r1, q1⟩ => ?_
  refine PyProof.Rows.kws_cons (thn (hk pins s1 σ H1 _ I1 q1) fun u s2 ⟨v, H2, I2, r2, q2⟩ => PyProof.Rows.kws_nil ?_)
  exact hc pins s2 σ H2 vs us v u Q I2 r1 r2 q2
/-- the list is walked from its start -/
theorem max_run {pins : List (Addr × Obj)} {s : Shared} {σ : St} {H : Hp} {Q : VK} {p : Addr} {ns : List Int} {d : Int} {t : Tok} {kw : List (Str × Value)} (hc : X.calm = true) (I : Inv X pins σ H s) (hp : SqL X.K H p (ns.map V.int)) (q : Q (.int (mxD d ns)) H)
    (hk : ns = [] → ∃ k tl, kw = (k, .int d t) :: tl) :
    wpAny (model X.prog X.w) X.A.in1 (do let it ← pyIter (.ref p); again (.builtin "max.loop" ⟨[it, .none, ← newList []], kw⟩))
      (fun fin s' => match fin with
        | .done f => (match (Except.ok f : Result) with | .ok (.ret v) => EP X pins σ Q v s' | .ok _ => False | .error e => X.xe e s')
        | .again c' => c'.quiet = true ∧ codeAny (model X.prog X.w) X.A c' (fun r s' => match r with | .ok (.ret v) => EP X pins σ Q v s' | .ok _ => False | .error e => X.xe e s') s') X.xe s := by
  obtain ⟨its, rv, pl, hz⟩ := I.list hp
  have hl := rv.length
  rw [List.length_map] at hl
  obtain ⟨o, n, e, _⟩ := id pl
  have lt := Heap.lt_size e
  refine wpAny_bind (wpAny_pyIter_list pl.isList (wpAny_bind (wpAny_newList ?_ (Nat.zero_le _))))
  have z : (s.heap.push { cls := .type "list_iterator", data := .fields #[.ref p, .int 0 0] }).objs.size = s.heap.objs.size + 1 := Heap.size_push ..
  refine wpAny_pure ⟨plainId_quiet PySem.F.plain_max_loop _, max_fill (l := p) (us := its.toArray) (d := .int d t) (I.ok.hd hc) (Nat.ne_of_lt lt) ?_ ?_ ns 0 _ none 0 (fun j m e => ?_) ?_ ?_ ((pl.isList.push _).push _) (Heap.get?_push_size _ rfl) (fun _ => hk) fun v h' tk qv k => ?_⟩
  · show (_ : Nat) ≠ _
    rw [z]
    omega
  · show (_ : Nat) ≠ _
    rw [z]
    exact fun y => absurd lt (by rw [← y]; exact Nat.not_lt.mpr (Nat.le_succ _))
  · obtain ⟨v, ev, rv'⟩ := rv.get (by rw [List.getElem?_map, e]; rfl)
    obtain ⟨t, rfl⟩ := rv'
    exact ⟨t, by simpa using ev⟩
  · simp [hl]
  · exact Heap.IsListIter.at ⟨_, Heap.get?_push_size _ rfl, rfl, rfl⟩ fun o e => Heap.get?_push_of_some _ e
  · refine ⟨.int (mxD d ns), H, I.kept (t' := tk) fun b o e => k b o (Nat.ne_of_lt (Heap.lt_size e)) ?_ (Heap.get?_push_of_some _ (Heap.get?_push_of_some _ e)), ?_, q⟩
    · show (_ : Nat) ≠ _
      rw [z]
      exact Nat.ne_of_lt (Nat.lt_succ_of_lt (Heap.lt_size e))
    · cases ns with
      | nil => exact ⟨t, qv⟩
      | cons n ns => exact qv
theorem call_max_dflt (hc : X.calm = true) : CallKw X (.builtin "max") "default" (fun xs d H Q => ∃ (p : Addr) (ns : List Int) (i : Int), xs = [.ref p] ∧ d = .int i ∧ SqL X.K H p (ns.map V.int) ∧ Q (.int (mxD i ns)) H) := by
  intro pins s σ H xs us x u Q I r ru h
  obtain ⟨p, ns, i, rfl, rfl, hp, q⟩ := h
  obtain ⟨t, rfl⟩ := ru
  obtain ⟨u, rfl, ru⟩ := vals1 r
  cases ru
  refine kmk_tree PySem.F.kind_max PySem.F.plain_max PySem.F.entry_max (args_max_dflt _ _) ?_
  refine wpAny_bind (m := Builtin.Builtins.bindParams "max" ["key", "default"] 0 ⟨[], [(Str.ofString "default", .int i t)]⟩) (wpAny_of_eq (a := [none, some (.int i t)]) rfl ?_)
  have nm : (toString "max" ++ toString ".loop" : String) = "max.loop" := by decide
  refine wpAny_bind (m := pure (Value.ref p)) (wpAny_pure ?_)
  rw [nm]
  exact max_run hc I hp q fun _ => ⟨_, _, rfl⟩
end
end L2

/-! ### x in xs, by their data -/
namespace L2
open PySem PySem.Spec PyProof.Rows
section
variable {X : Cx}
def rInD (K : PySem.W.Frag) : R2 := fun x y H Q => ∃ dx ds, DV K H x dx ∧ DV K H y (.list ds) ∧ Shp 63 dx ∧ Shp 63 (.list ds) ∧ Q (.bl (ds.any fun z => PyData.eqv z dx)) H
end
end L2

/-! ### f-strings: the text itself is left open -/
namespace L2
open PySem PySem.Spec PyProof.Rows
/-- parts of a text, n signs or fewer ahead of them -/
abbrev TF := Nat → St → Hp → VK → Prop
/-- signs that can be written -/
def okS (x : Str) : Prop := ∀ c ∈ x.cps.toList, c < 16 ^ 8
section
variable {X : Cx}
def PF (X : Cx) (es : List Expr) (t : TF) : Prop :=
  ∀ (n : Nat) (out : Str) (pins : List (Addr × Obj)) (s : Shared) (σ : St) (H : Hp) (Q : VK), out.length ≤ n → Inv X pins σ H s → t n σ H Q → wpAny (model X.prog X.w) X.A (joinParts out (evalEach es X.env)) (EP X pins σ Q) X.xe s
def fNil : TF := fun n _ H Q => n ≤ sizeLine ∧ ∀ y : Str, Q (.str y) H
def fLit (k : Nat) (t : TF) : TF := fun n σ H Q => n + k ≤ sizeLine ∧ t (n + k) σ H Q
def fRep (te : TE) (t : TF) : TF := fun n σ H Q => te σ H fun v H1 => ∃ x, v = .str x ∧ okS x ∧ x.length ≤ 1000 ∧ n + 10002 ≤ sizeLine ∧ t (n + 10002) σ H1 Q
def fInt (te : TE) (t : TF) : TF := fun n σ H Q => te σ H fun v H1 => ∃ i, v = .int i ∧ 0 ≤ i ∧ i < 1000 ∧ n + 3 ≤ sizeLine ∧ t (n + 3) σ H1 Q
theorem pfs_nil : PF X [] fNil := fun n out pins s σ H Q hn I h => joinParts_nil ⟨.str out, H, I.tok _, ⟨_, rfl⟩, h.2 out⟩ (Nat.le_trans hn h.1)
theorem len_app (x y : Str) : (x ++ y).length = x.length + y.length := strLen_append x y
theorem pfs_lit {c : Str} {q : Nat} {p : Pos} {es : List Expr} {t : TF} {k : Nat} (hk : c.length ≤ k) (h : PF X es t) : PF X (.Constant (.str c) q p :: es) (fLit k t) := by
  intro n out pins s σ H Q hn I z
  refine joinParts_cons (thn (pe_str pins s σ H (fun v H1 => v = .str c ∧ H1 = H) I ⟨rfl, rfl⟩) ?_)
  rintro u s1 ⟨v, H1, I1, r, rfl, rfl⟩
  obtain ⟨t', rfl⟩ := r
  have e := len_app out c
  exact ⟨by have := z.1; omega, h (n + k) _ pins s1 σ H1 Q (by omega) I1 z.2⟩
theorem pfs_r {e : Expr} {p : Pos} {es : List Expr} {te : TE} {t : TF} (he : PE X e te) (h : PF X es t) : PF X (.FormattedValue e 114 none p :: es) (fRep te t) := by
  intro n out pins s σ H Q hn I z
  refine joinParts_cons (wpAny_FormattedValue_repr (thn (he pins s σ H _ I z) ?_))
  rintro u s1 ⟨v, H1, I1, r, x, rfl, ok, lx, zn, zt⟩
  obtain ⟨t', rfl⟩ := r
  have l2 := StrLaws.reprText_len x ok
  have big : (reprText x).length ≤ sizeLine := Nat.le_trans l2 (by unfold sizeLine; omega)
  refine pyReprObj_str (formatField_str (fun t2 tk => ?_) big) big
  have e := len_app out (reprText x)
  exact ⟨by omega, h (n + 10002) _ pins _ σ H1 Q (by omega) (I1.tok _) zt⟩
theorem pe_fstr {a b : Expr} {es : List Expr} {p : Pos} {t : TF} (h : PF X (a :: b :: es) t) : PE X (.JoinedStr (a :: b :: es) p) (t 0) := by
  intro pins s σ H Q I z
  exact JoinedStr_many (h 0 Str.empty pins s σ H Q (Nat.le_refl _) I z)
end
end L2
namespace L2
theorem szB {n : Nat} (h : n ≤ 1000000) : n ≤ PySem.sizeLine := Nat.le_trans h (by decide)
end L2
namespace L2
open PySem
/-- a written constant is no starred one -/
theorem se_c {c : Const} {j : Nat} {p : Pos} {es : List Expr} {env : Env} : starEach (.Constant c j p :: es) env = (false, eval (.Constant c j p) env) :: starEach es env := rfl
end L2

/-! ### an object made under try; whole numbers in f-strings -/
namespace L2
open PySem PySem.Spec PyProof.Rows
section
variable {X : Cx} {k : Nat} {f C : Addr} {fd : FuncData} {ps : List Str} {sp : Sp} {dvs : List V} {ds : List Value} {x : Str} {p pos : Pos} {e : Expr} {es : List Expr} {t : TA}
end
end L2

/-! ### a method called under try -/
namespace L2
open PySem PySem.Spec PyProof.Rows
section
variable {X : Cx} {k : Nat} {f C : Addr} {fd : FuncData} {ps : List Str} {sp : Sp} {dvs : List V} {ds : List Value} {m : Str} {pos apos : Pos} {e o : Expr} {es : List Expr} {ta : TE} {t : TA}
end
end L2

/-! ### a pair of texts in an f-string -/
namespace L2
open PySem PySem.Spec PyProof.Rows
section
variable {X : Cx}
def fPair (te : TE) (t : TF) : TF := fun n σ H Q => te σ H fun v H1 => ∃ (a : Addr) (x y : Str), v = .ref a ∧ H1 a = some (.tup [.str x, .str y]) ∧ okS x ∧ okS y ∧ x.length ≤ 1000 ∧ y.length ≤ 1000 ∧ n + 20008 ≤ sizeLine ∧ t (n + 20008) σ H1 Q
end
end L2

/-! ### for i, x in enumerate(xs) -/
namespace L2
open PySem PySem.Spec PyProof.Rows
/-- a list with its numbers -/
def Ite (K : PySem.W.Frag) (a : Addr) : It :=
  ⟨fun i H => ∃ xs x, SqL K H a xs ∧ xs[i]? = some x,
   fun i H v H' => ∃ T x, H T = none ∧ v = .ref T ∧ H' = upd H T (.tup [.int (i : Int), x]) ∧ ∀ xs, SqL K H a xs → xs[i]? = some x,
   fun i H => ∃ xs, SqL K H a xs ∧ xs.length ≤ i⟩
theorem turn_enum {P : Program} {w : World} {K : PySem.W.Frag} {elts : List Expr} {kk : Nat} {pos : Pos} {z it l : Addr} (ne : z ≠ it) :
    Turn P w K (.Tuple elts kk pos) (Ite K l) [z, it] z (fun i h => (∃ old, IsEnum h z it ((i : Nat) : Int) old) ∧ h.IsListIter it l i) where
  mem := List.mem_cons_self
  obj := fun i h st b hb => by
    obtain ⟨⟨old, he⟩, ⟨o1, e1, c1, d1⟩⟩ := st
    rcases List.mem_cons.mp hb with rfl | hb
    · exact ⟨_, he, fun v q => by cases q⟩
    · obtain rfl := List.mem_singleton.mp hb
      exact ⟨_, e1, fun v q => by rw [d1] at q; cases q⟩
  keep := fun i h h' st k => by
    obtain ⟨⟨old, he⟩, h1⟩ := st
    exact ⟨⟨old, k z List.mem_cons_self _ he⟩, h1.at fun o x => k it (List.mem_cons_of_mem _ List.mem_cons_self) o x⟩
  item := by
    intro X hP hw hK hc i pins s σ H E I hf st hg
    subst hP hw hK
    obtain ⟨xs, x, q1, hx⟩ := hg
    obtain ⟨its1, rv1, pl1, z1⟩ := I.list q1
    obtain ⟨u1, hu1, ru1⟩ := rv1.get hx
    obtain ⟨⟨old, he⟩, h1⟩ := st
    refine wpAny_pyNext_enum_item he h1 pl1.isList (x := u1) (by simpa using hu1) ne fun h' a1 a2 a3 a4 a5 => ?_
    refine ⟨_, rfl, wpAny_letOwnedTupleGo_enum a1 fun h2' he' hs' => ?_⟩
    have I1 : Inv X pins σ H { s with heap := h', toks := s.toks + 1 } := I.turnedL (t' := s.toks + 1) (ch := [z, it]) (fun c o hc e => a5 c o (fun q => hc (by simp [q])) (fun q => hc (by simp [q])) e) hf
    have hT0 := I.hok.fresh (Nat.le_refl s.heap.objs.size)
    have fT : FpOk X pins H s.heap.objs.size := I.fpOk (Nat.le_refl _) hT0
    have I2 : Inv X pins σ (upd H s.heap.objs.size (.tup [.int (i : Int), x])) { s with heap := h', toks := s.toks + 1 } := I1.track fT I.sz ⟨(show 2 ≤ sizeLine from sz), [.int i s.toks, u1], .cons ⟨_, rfl⟩ (.cons ru1 .nil), ⟨_, a3, rfl, _, rfl⟩⟩
    obtain ⟨f0, f1, f2, f3, f4, f5⟩ := hf z List.mem_cons_self
    have ne' : ∀ c ∈ [z, it], c ≠ s.heap.objs.size := fun c hc q => by
      have q' : ∃ o, s.heap.get? c = some o := by
        obtain ⟨o1, e1, _⟩ := h1
        rcases List.mem_cons.mp hc with rfl | hc
        · exact ⟨_, he⟩
        · obtain rfl := List.mem_singleton.mp hc
          exact ⟨_, e1⟩
      obtain ⟨o, e⟩ := q'
      exact absurd (Heap.lt_size e) (by rw [q]; exact Nat.lt_irrefl _)
    refine ⟨.ref s.heap.objs.size, _, I2.turned (t' := s.toks + 1) (fun c o hc e => (hs'.2 c hc).trans e) (by rw [upd_ne (ne' z List.mem_cons_self)]; exact f0) f1 f3 f4 f5, rfl, ⟨_, x, hT0, rfl, rfl, fun zs hz => by rw [I.list_inj hz q1]; exact hx⟩, ?_, fun c hc => by rw [upd_ne (ne' c hc)]; exact (hf c hc).1⟩
    have ei : (((i + 1 : Nat)) : Int) = (i : Int) + 1 := by omega
    rw [ei]
    exact ⟨⟨_, he'⟩, a2.extBut hs'.extBut (Ne.symm ne)⟩
  done := by
    intro X hP hw hK hc i pins s σ H E I hf st hg
    subst hP hw hK
    obtain ⟨xs, q1, hend⟩ := hg
    obtain ⟨its1, rv1, pl1, z1⟩ := I.list q1
    obtain ⟨⟨old, he⟩, h1⟩ := st
    have e1 := rv1.length
    obtain ⟨f0, f1, f2, f3, f4, f5⟩ := hf it (List.mem_cons_of_mem _ List.mem_cons_self)
    exact wpAny_pyNext_enum_end (I.ok.hd hc) he h1 pl1.isList (by simp; omega) fun h' eb => ⟨rfl, I.turned (t' := s.toks) (fun b o hb e => eb b o hb e) f0 f1 f3 f4 f5⟩
  self := fun A i s Q E st h => let ⟨⟨_, he⟩, _⟩ := st; wpAny_pyIter_enum he h
section
variable {X : Cx}
def iEnum (K : PySem.W.Frag) (ta : TA) : TI := fun σ H R => ta σ H fun vs H1 => ∃ a, vs = [.ref a] ∧ (∃ xs, SqL K H1 a xs) ∧ R (Ite K a) H1
theorem pi_enum {elts : List Expr} {kk : Nat} {tpos : Pos} {a : Expr} {ta : TA} {p pos : Pos} (hg : Gl X "enumerate") (hm : X.mg "enumerate" = none) (ha : PA X [a] ta) (hs : starEach [a] X.env = [(false, eval a X.env)] := by rfl) :
    PI X (.Tuple elts kk tpos) (.Call (.Name "enumerate" p) [a] [] pos) (iEnum X.K ta) := by
  intro pins s σ H R I h
  refine Call_ (ld_blt I hg hm (by decide +kernel : bootBuiltins "enumerate" = some (.type "enumerate")) (PyProof.Rows.callWith_type1 (thn (ha pos pins s σ H _ I h) fun us s1 ⟨vs, H1, I1, r1, q1⟩ => ?_) hs rfl))
  obtain ⟨l, e, ⟨xs, hq⟩, q⟩ := q1
  subst e
  obtain ⟨u, rfl, ru⟩ := vals1 r1
  cases ru
  obtain ⟨its, rv, pl, hz⟩ := I1.list hq
  refine call_enumerate_list pl.isList fun h' a1 a2 a3 a4 => ?_
  refine wpAny_pyIter_enum a1 ?_
  refine ⟨s1.heap.objs.size + 1, _, _, _, H1, rfl, I1.kept (t' := s1.toks) a4, turn_enum (z := s1.heap.objs.size + 1) (it := s1.heap.objs.size) (l := l) (by show @Ne Nat _ _; omega), ⟨⟨_, a1⟩, a2⟩, fun b hb => ?_, q⟩
  have hb' : s1.heap.objs.size ≤ b := by
    show @LE.le Nat _ _ _
    rcases List.mem_cons.mp hb with rfl | hb
    · omega
    · obtain rfl := List.mem_singleton.mp hb
      exact Nat.le_refl _
  exact I1.fpOk hb' (I1.hok.fresh hb')
theorem for_enum {K : PySem.W.Frag} {a : Addr} {xs : List V} {g : TG} {tb : TS} {D : Ends} {σ : St} {H : Hp} (Pv : Nat → St → Hp → Prop) (h0 : Pv 0 σ H) (hl : ∀ i σ H, i ≤ xs.length → Pv i σ H → SqL K H a xs)
    (hs : ∀ i x σ H T, xs[i]? = some x → Pv i σ H → H T = none → g (.ref T) σ (upd H T (.tup [.int (i : Int), x])) fun σ2 H2 => tb { D with nx := Pv (i + 1), ct := Pv (i + 1), bk := D.nx } σ2 H2) (hd : ∀ σ H, Pv xs.length σ H → D.nx σ H) :
    ∃ W : Nat → Nat → St → Hp → Prop, (∃ m, W 0 m σ H) ∧ ∀ i m σ H, W i m σ H →
      ((Ite K a).stop i H ∧ D.nx σ H) ∨ ((Ite K a).go i H ∧ ∃ N : St → Hp → Prop, (∀ σ' H', N σ' H' → ∃ m', m' < m ∧ W (i + 1) m' σ' H') ∧ ∀ x H', (Ite K a).yld i H x H' → g x σ H' fun σ2 H2 => tb { D with nx := N, ct := N, bk := D.nx } σ2 H2) := by
  refine ⟨fun i m σ H => m + i = xs.length ∧ Pv i σ H, ⟨xs.length, rfl, h0⟩, ?_⟩
  rintro i m σ H ⟨hm, p⟩
  have q1 := hl i σ H (by omega) p
  cases m with
  | zero => exact .inl ⟨⟨xs, q1, by omega⟩, hd σ H ((show i = xs.length by omega) ▸ p)⟩
  | succ m =>
    have h1 : i < xs.length := by omega
    refine .inr ⟨⟨xs, xs[i], q1, List.getElem?_eq_getElem h1⟩, Pv (i + 1), fun σ' H' p' => ⟨m, Nat.lt_succ_self _, by omega, p'⟩, fun x H' y => ?_⟩
    obtain ⟨T, x1, hT, rfl, rfl, k1⟩ := y
    exact hs i x1 σ H T (k1 xs q1) p hT
end
end L2
/-! ### for i in reversed(range(n)) -/
namespace PySem
section
variable {prog : Program} {w : World} {A : Around} {E : Value → Shared → Prop} {s : Shared}
def downObj (n : Int) : Obj := { cls := .type "range_iterator", data := .fields #[rawInt (n - 1), rawInt n, rawInt (-1)] }
end
end PySem
namespace L2
open PySem PySem.Spec PyProof.Rows
def Itd (n : Nat) : It := ⟨fun i _ => i < n, fun i H v H' => H' = H ∧ v = .int ((n : Int) - 1 - (i : Int)), fun i _ => n ≤ i⟩
section
variable {X : Cx} {tg : Expr}
def iDown (ta : TA) : TI := fun σ H R => ta σ H fun vs H1 => ∃ n : Nat, vs = [.int (n : Int)] ∧ n < 1000000 ∧ R (Itd n) H1
end
end L2
/-! ### min(xs) of whole numbers -/
namespace L2
open PySem PySem.Spec PyProof.Rows
/-- the least of these and m -/
def mnF (m : Int) (ns : List Int) : Int := ns.foldl (fun a b => if b < a then b else a) m
/-- the least one, or d -/
def mnD (d : Int) : List Int → Int
  | [] => d
  | n :: ns => mnF n ns
section
variable {P : Program} {w : World} {A : Around} {s : Shared} {R : Result → Shared → Prop}
end
section
variable {X : Cx} {k : Str}
end
end L2

namespace L2
open PySem PySem.Spec PyProof.Rows

/-! ### lists of pairs as tables -/
section
variable {κ : Type} [DecidableEq κ]
def valV (kvs : List (κ × V)) (k : κ) : Option V := (kvs.find? fun kv => decide (kv.1 = k)).map (·.2)
/-- in its place, or at the end -/
def putK (kvs : List (κ × V)) (k : κ) (v : V) : List (κ × V) :=
  if (kvs.any fun kv => decide (kv.1 = k)) = true then kvs.map (fun kv => if kv.1 = k then (kv.1, v) else kv) else kvs ++ [(k, v)]
def dropK (kvs : List (κ × V)) (k : κ) : List (κ × V) := kvs.filter fun kv => decide (kv.1 ≠ k)

theorem valV_pos {p : κ × V} {r : List (κ × V)} {k : κ} (e : p.1 = k) : valV (p :: r) k = some p.2 := by simp [valV, List.find?_cons, e]
theorem valV_neg {p : κ × V} {r : List (κ × V)} {k : κ} (e : ¬ p.1 = k) : valV (p :: r) k = valV r k := by simp [valV, List.find?_cons, e]
theorem valV_any (k : κ) : ∀ kvs : List (κ × V), (kvs.any fun kv => decide (kv.1 = k)) = (valV kvs k).isSome
  | [] => rfl
  | p :: r => by
    rw [List.any_cons]
    by_cases e : p.1 = k
    · simp only [valV_pos e, decide_eq_true e, Bool.true_or, Option.isSome_some]
    · rw [valV_neg e, decide_eq_false e, Bool.false_or]; exact valV_any k r
theorem length_putK (kvs : List (κ × V)) (k : κ) (v : V) : (putK kvs k v).length ≤ kvs.length + 1 := by
  unfold putK
  split
  · rw [List.length_map]; omega
  · rw [List.length_append, List.length_cons, List.length_nil]; omega
theorem putK_new {kvs : List (κ × V)} {k : κ} (v : V) (h : valV kvs k = none) : putK kvs k v = kvs ++ [(k, v)] := by
  unfold putK
  rw [valV_any, h]
  exact if_neg (by decide)

theorem RelO.isSome_eq {o : Option V} {u : Option Value} (r : RelO o u) : o.isSome = u.isSome := by
  cases o with
  | none => cases u with
    | none => rfl
    | some _ => exact (show False from r).elim
  | some _ => cases u with
    | none => exact (show False from r).elim
    | some _ => rfl
/-- raw tables of the same keys -/
theorem KV.val {kvs : List (κ × V)} {vs : List (κ × Value)} (r : KV kvs vs) (k : κ) : RelO (valV kvs k) (valueAt vs k) := by
  unfold KV at r
  induction r with
  | nil => exact True.intro
  | @cons p q ps qs h t ih =>
    obtain ⟨h1, h2⟩ := h
    by_cases e : p.1 = k
    · have e' : q.1 = k := h1.symm.trans e
      have b : valueAt (q :: qs) k = some q.2 := by simp [valueAt, List.find?_cons, e']
      rw [valV_pos e, b]; exact h2
    · have e' : ¬ q.1 = k := fun z => e (h1.trans z)
      have b : valueAt (q :: qs) k = valueAt qs k := by simp [valueAt, List.find?_cons, e']
      rw [valV_neg e, b]; exact ih
theorem KV.any {kvs : List (κ × V)} {vs : List (κ × Value)} (r : KV kvs vs) (k : κ) : (kvs.any fun kv => decide (kv.1 = k)) = vs.any fun kv => decide (kv.1 = k) := by
  unfold KV at r
  induction r with
  | nil => rfl
  | cons h t ih => rw [List.any_cons, List.any_cons, ih, h.1]
theorem KV.repl {kvs : List (κ × V)} {vs : List (κ × Value)} (r : KV kvs vs) (k : κ) {y : V} {u : Value} (ry : RelV y u) :
    KV (kvs.map fun kv => if kv.1 = k then (kv.1, y) else kv) (vs.map fun kv => if kv.1 = k then (kv.1, u) else kv) := by
  unfold KV at r ⊢
  induction r with
  | nil => exact .nil
  | @cons p q ps qs h t ih =>
    rw [List.map_cons, List.map_cons]
    refine .cons ?_ ih
    obtain ⟨h1, h2⟩ := h
    by_cases e : p.1 = k
    · rw [if_pos e, if_pos (h1.symm.trans e)]; exact ⟨h1, ry⟩
    · rw [if_neg e, if_neg (fun z => e (h1.trans z))]; exact ⟨h1, h2⟩
theorem KV.put {kvs : List (κ × V)} {vs : List (κ × Value)} (r : KV kvs vs) (k : κ) {y : V} {u : Value} (ry : RelV y u) : KV (putK kvs k y) (stored vs k u) := by
  unfold putK stored
  rw [r.any k]
  by_cases e : (vs.any fun kv => decide (kv.1 = k)) = true
  · rw [if_pos e, if_pos e]; exact r.repl k ry
  · rw [if_neg e, if_neg e]; exact Paired.snoc r ⟨rfl, ry⟩
theorem KV.length {kvs : List (κ × V)} {vs : List (κ × Value)} (r : KV kvs vs) : kvs.length = vs.length := Paired.length r
end


/-! ### a tracked dict, its keys ints and texts or tuples of these -/
theorem kV_is {P : Program} {w : World} {k : Key} {u : Value} (r : RelV (kV k) u) : (mixKind P w).is k u = true := by
  cases k with
  | inl i => obtain ⟨t, e⟩ := (show ∃ t, u = Value.int i t from r); subst e; exact mixKind_int P w i t
  | inr x => obtain ⟨t, e⟩ := (show ∃ t, u = Value.str x t from r); subst e; exact mixKind_str P w x t
theorem items_are {P : Program} {w : World} : ∀ {ks : List Key} {us : List Value}, Vals (ks.map kV) us → ItemsAre (mixKind P w) ks us
  | [], _, r => by rw [List.map_nil] at r; cases r; exact .nil
  | k :: ks, _, r => by
    rw [List.map_cons] at r
    cases r with
    | cons h t => exact .cons (kV_is h) (items_are t)

/-- raw entries of a dict with tuple keys -/
abbrev KT (H : Hp) : List (List Key × V) → List (List Key × Addr × Value) → Prop := Paired fun p q => p.1 = q.1 ∧ H q.2.1 = some (.tup (p.1.map kV)) ∧ RelV p.2 q.2.2
theorem KT.val {H : Hp} {kvs : List (List Key × V)} {xs : List (List Key × Addr × Value)} (r : KT H kvs xs) (k : List Key) : RelO (valV kvs k) ((atKey xs k).map (·.2)) := by
  induction r with
  | nil => exact True.intro
  | @cons p q ps qs h t ih =>
    obtain ⟨h1, _, h2⟩ := h
    by_cases e : p.1 = k
    · have e' : q.1 = k := h1.symm.trans e
      have b : atKey (q :: qs) k = some q.2 := by simp [atKey, List.find?_cons, e']
      rw [valV_pos e, b]; exact h2
    · have e' : ¬ q.1 = k := fun z => e (h1.trans z)
      have b : atKey (q :: qs) k = atKey qs k := by simp [atKey, List.find?_cons, e']
      rw [valV_neg e, b]; exact ih
theorem KT.repl {H : Hp} {kvs : List (List Key × V)} {xs : List (List Key × Addr × Value)} (r : KT H kvs xs) (k : List Key) {y : V} {u : Value} (ry : RelV y u) :
    KT H (kvs.map fun kv => if kv.1 = k then (kv.1, y) else kv) (xs.map (putAt k u)) := by
  induction r with
  | nil => exact .nil
  | @cons p q ps qs h t ih =>
    rw [List.map_cons, List.map_cons]
    refine .cons ?_ ih
    obtain ⟨h1, h2, h3⟩ := h
    unfold putAt
    by_cases e : p.1 = k
    · rw [if_pos e, if_pos (h1.symm.trans e)]; exact ⟨h1, h2, ry⟩
    · rw [if_neg e, if_neg (fun z => e (h1.trans z))]; exact ⟨h1, h2, h3⟩
theorem KT.put {H : Hp} {kvs : List (List Key × V)} {xs : List (List Key × Addr × Value)} (r : KT H kvs xs) (k : List Key) {b : Addr} {y : V} {u : Value} (hb : H b = some (.tup (k.map kV))) (ry : RelV y u) :
    KT H (putK kvs k y) (storedH xs k b u) := by
  have e : (kvs.any fun kv => decide (kv.1 = k)) = (atKey xs k).isSome := by
    rw [valV_any, (r.val k).isSome_eq, Option.isSome_map]
  unfold putK storedH
  rw [e]
  by_cases q : (atKey xs k).isSome = true
  · rw [if_pos q, if_pos q]; exact r.repl k ry
  · rw [if_neg q, if_neg q]; exact Paired.snoc r ⟨rfl, hb, ry⟩
theorem KT.keeps {H H' : Hp} {kvs : List (List Key × V)} {xs : List (List Key × Addr × Value)} (r : KT H kvs xs) (ht : ∀ b ys, H b = some (.tup ys) → H' b = some (.tup ys)) : KT H' kvs xs :=
  Paired.mapP r fun _ _ z => ⟨z.1, ht _ _ z.2.1, z.2.2⟩

section
variable {P : Program} {w : World} {H : Hp} {h : Heap} {a : Addr}
theorem rd_of {u : HO} (ok : HOk P w H h) (e : Rd H a u) : ObjOk P w H h a u := e.ok ok
theorem dk_rd {kvs : List (Key × V)} (ok : HOk P w H h) (e : Rd H a (.dK kvs)) : kvs.length ≤ sizeLine ∧ (a == sysModules) = false ∧ ∃ vs, KV kvs vs ∧ h.DictOf (mixKind P w) a vs :=
  show ObjOk P w H h a (.dK kvs) from rd_of ok e
theorem dk_of {kvs : List (Key × V)} (ok : HOk P w H h) (e : H a = some (.dK kvs)) : kvs.length ≤ sizeLine ∧ (a == sysModules) = false ∧ ∃ vs, KV kvs vs ∧ h.DictOf (mixKind P w) a vs := dk_rd ok (.inl e)
/-- a tracked tuple of ints and texts is a key -/
theorem key_of {ks : List Key} (ok : HOk P w H h) (e : H a = some (.tup (ks.map kV))) : (tupleKind (mixKind P w)).is h ks a := by
  obtain ⟨_, its, r, o, h1, h2, n, h3⟩ := (show ObjOk P w H h a (.tup (ks.map kV)) from ok a _ e)
  exact ⟨o, its.toArray, n, h1, h2, h3, by simpa using items_are r⟩
theorem dt_rd {kvs : List (List Key × V)} (ok : HOk P w H h) (e : Rd H a (.dT kvs)) : kvs.length ≤ sizeLine ∧ (a == sysModules) = false ∧
    ∃ xs, KT H kvs xs ∧ h.DictOfH (tupleKind (mixKind P w)) a xs := by
  obtain ⟨z, y, xs, r, o, es, ep, h1, h2, h3, h4, h5⟩ := (show ObjOk P w H h a (.dT kvs) from rd_of ok e)
  refine ⟨z, y, xs, r, o, es, ep, h1, h2, h3, h4, fun x hx => ?_, h5⟩
  have all : ∀ {l : List (List Key × V)} {m : List (List Key × Addr × Value)}, KT H l m → ∀ x ∈ m, (tupleKind (mixKind P w)).is h x.1 x.2.1 := by
    intro l m q
    induction q with
    | nil => intro x hx; exact nomatch hx
    | @cons p q ps qs hq t ih =>
      intro x hx
      rcases List.mem_cons.mp hx with e | hx
      · subst e
        exact key_of ok (by rw [← hq.1]; exact hq.2.1)
      · exact ih x hx
  exact all r x hx
theorem dt_of {kvs : List (List Key × V)} (ok : HOk P w H h) (e : H a = some (.dT kvs)) : kvs.length ≤ sizeLine ∧ (a == sysModules) = false ∧
    ∃ xs, KT H kvs xs ∧ h.DictOfH (tupleKind (mixKind P w)) a xs := dt_rd ok (.inl e)
end

/-- what the dict at a holds at the key y -/
def DGet (H : Hp) (a : Addr) (y : V) (r : Option V) : Prop :=
  (∃ kvs k, Rd H a (.dK kvs) ∧ y = kV k ∧ r = valV kvs k) ∨ ∃ kvs k b, Rd H a (.dT kvs) ∧ y = .ref b ∧ H b = some (.tup (k.map kV)) ∧ r = valV kvs k
/-- the heap behind a[y] = v -/
def DPut (H : Hp) (a : Addr) (y v : V) (H' : Hp) : Prop :=
  (∃ kvs k, H a = some (.dK kvs) ∧ y = kV k ∧ kvs.length < sizeLine ∧ H' = upd H a (.dK (putK kvs k v))) ∨
  ∃ kvs k b, H a = some (.dT kvs) ∧ y = .ref b ∧ H b = some (.tup (k.map kV)) ∧ kvs.length < sizeLine ∧ H' = upd H a (.dT (putK kvs k v))
theorem DGet.k {H : Hp} {a : Addr} {kvs : List (Key × V)} {k : Key} (e : H a = some (.dK kvs)) : DGet H a (kV k) (valV kvs k) := .inl ⟨kvs, k, .inl e, rfl, rfl⟩
theorem DPut.k {H : Hp} {a : Addr} {kvs : List (Key × V)} {k : Key} {v : V} (e : H a = some (.dK kvs)) (hl : kvs.length < sizeLine) : DPut H a (kV k) v (upd H a (.dK (putK kvs k v))) := .inl ⟨kvs, k, e, rfl, hl, rfl⟩
section
variable {X : Cx} {pins : List (Addr × Obj)} {σ : St} {H : Hp} {s : Shared} {a : Addr} {y v : V} {u r : Value} {o : Option V} {A : Around} {E : Value → Shared → Prop}

theorem Inv.big (I : Inv X pins σ H s) : sysModules < s.heap.objs.size := by
  have h : mainGlobals < s.heap.objs.size := (I.mod.glob.keeps I.bk).lt
  exact Nat.lt_trans (by decide) h

/-- y in d -/
theorem d_in {Q : Value → Shared → Prop} (hu : A.units + 1 < cLine) (I : Inv X pins σ H s) (g : DGet H a y o) (ry : RelV y u) (h : ∀ s', Inv X pins σ H s' → Q (.bool o.isSome) s') :
    wpAny (model X.prog X.w) A (compareOp .In u (.ref a)) Q E s := by
  rcases g with ⟨kvs, k, e, ey, l⟩ | ⟨kvs, k, b, e, ey, eb, l⟩
  · subst ey
    obtain ⟨z, hd, vs, rel, dd⟩ := dk_rd I.hok e
    refine wpAny_in_of (kV_is ry) hd dd.mapOf ?_
    rw [← (rel.val k).isSome_eq, ← l]
    exact h _ (I.tok _)
  · subst ey
    cases (show u = Value.ref b from ry)
    obtain ⟨z, hd, xs, rel, dd⟩ := dt_rd I.hok e
    refine wpAny_in_heap (tupleKind_room_in1 hu) (key_of I.hok eb) hd dd ?_
    have q := (rel.val k).isSome_eq
    rw [Option.isSome_map] at q
    rw [← q, ← l]
    exact h _ (I.tok _)
/-- a dict's object is replaced -/
theorem d_write {h' : Heap} {t' : Nat} {ob : HO} (I : Inv X pins σ H s) (mu : Mut (H a)) (hs : Heap.SameBut a s.heap h') (he : ∃ q, h'.get? a = some q) (new : ObjOk X.prog X.w (upd H a ob) h' a ob) :
    Inv X pins σ (upd H a ob) { s with heap := h', toks := t' } :=
  I.write (x := a) (e := a) mu (.inl rfl) (fun b q hb z => (hs.2 b hb).trans z) he new
theorem dk_new {P : Program} {w : World} {H' : Hp} {h' : Heap} {kvs : List (Key × V)} {vs : List (Key × Value)} (z : kvs.length ≤ sizeLine) (hd : (a == sysModules) = false) (rel : KV kvs vs) (dd : h'.DictOf (mixKind P w) a vs) :
    ObjOk P w H' h' a (.dK kvs) := ⟨z, hd, vs, rel, dd⟩
/-- d[y] = v -/
theorem d_setItem {H' : Hp} {Q : Unit → Shared → Prop} (hu : A.units + 1 < cLine) (I : Inv X pins σ H s) (g : DPut H a y v H') (ry : RelV y u) (rv : RelV v r) (h : ∀ s', Inv X pins σ H' s' → Q () s') :
    wpAny (model X.prog X.w) A (setItem (.ref a) u r) Q E s := by
  rcases g with ⟨kvs, k, e, ey, l, eH⟩ | ⟨kvs, k, b, e, ey, eb, l, eH⟩
  · subst ey eH
    obtain ⟨z, hd, vs, rel, dd⟩ := dk_of I.hok e
    have hz : vs.length ≤ sizeLine := by rw [← rel.length]; exact z
    have hl : (putK kvs k v).length ≤ sizeLine := by have := length_putK kvs k v; omega
    refine wpAny_setItem_pairs (hsz := hz) (kV_is ry) dd fun h' dd' hs => h _ ?_
    have he : ∃ q, h'.get? a = some q := let ⟨q, _, _, hq, _⟩ := dd'; ⟨q, hq⟩
    exact d_write I (by rw [e]; exact True.intro) hs he (dk_new hl hd (rel.put k rv) dd')
  · subst ey eH
    cases (show u = Value.ref b from ry)
    obtain ⟨z, hd, xs, rel, dd⟩ := dt_of I.hok e
    have hz : xs.length ≤ sizeLine := by rw [← Paired.length rel]; exact z
    have hl : (putK kvs k v).length ≤ sizeLine := by have := length_putK kvs k v; omega
    refine wpAny_setItem_heap (hsz := hz) (tupleKind_room_in1 hu) (key_of I.hok eb) dd fun h' dd' hs => h _ ?_
    obtain ⟨q, es, ep, hq, h2, h3, h4, _, h5⟩ := dd'
    refine d_write I (by rw [e]; exact True.intro) hs ⟨q, hq⟩ ⟨hl, hd, _, (rel.put k eb rv).keeps fun c ys ec => ?_, q, es, ep, hq, h2, h3, h4, h5⟩
    rw [upd_ne (ne_of ec e (fun z => nomatch z))]
    exact ec
end

section
variable {X : Cx} {pins : List (Addr × Obj)} {σ : St} {H : Hp} {s : Shared} {a : Addr} {kvs : List (Key × V)} {k : Key} {u : Value} {A : Around} {E : Value → Shared → Prop}
end


/-! ### readings and rules -/
/-- the element of a subscription, not a slice -/
def NoSl (i : Expr) : Prop := ∀ ov iv, subscripted i false ov iv = operate [ov, iv] (getItem ov iv)
/-- d[y] -/
def tDGet (td ty : TE) : TE := fun σ H Q => td σ H fun x H1 => ty σ H1 fun y H2 => ∃ a v, x = .ref a ∧ DGet H2 a y (some v) ∧ Q v H2
/-- y in d, y not in d -/
def tDIn (ty td : TE) : TE := fun σ H Q => ty σ H fun y H1 => td σ H1 fun x H2 => ∃ a o, x = .ref a ∧ DGet H2 a y o ∧ Q (.bl o.isSome) H2
def tDNotIn (ty td : TE) : TE := fun σ H Q => ty σ H fun y H1 => td σ H1 fun x H2 => ∃ a o, x = .ref a ∧ DGet H2 a y o ∧ Q (.bl (!o.isSome)) H2
/-- d[y] = v -/
def sDPut (td ty tv : TE) : TS := fun D σ H => tv σ H fun v H1 => td σ H1 fun x H2 => ty σ H2 fun y H3 => ∃ a H4, x = .ref a ∧ DPut H3 a y v H4 ∧ D.nx σ H4
/-- d[y] op= v -/
def sDAug (td ty tv : TE) (rd : V → V → Hp → VK → Prop) : TS := fun D σ H => td σ H fun x H1 => ty σ H1 fun y H2 => ∃ a v, x = .ref a ∧ DGet H2 a y (some v) ∧
  tv σ H2 fun y2 H3 => rd v y2 H3 fun z H4 => ∃ H5, DPut H4 a y z H5 ∧ D.nx σ H5
/-- del d[y] -/
def sDDel (td ty : TE) : TS := fun D σ H => td σ H fun x H1 => ty σ H1 fun y H2 => ∃ a kvs k, x = .ref a ∧ H2 a = some (.dK kvs) ∧ y = kV k ∧ (valV kvs k).isSome = true ∧ D.nx σ (upd H2 a (.dK (dropK kvs k)))

section
variable {X : Cx} {o i e value : Expr} {pos pos' tpos : Pos} {td ty tv : TE}
theorem ps_dput (hu : X.A.units + 1 < cLine) (ho : PE X o td) (hi : PE X i ty) (hv : PE X value tv) (hs : swapsWith value (some (.Subscript o i pos')) pos.line X.env = pure false) :
    PS X (.Assign [.Subscript o i pos'] value pos) (sDPut td ty tv) := by
  intro pins s σ H D I h
  refine wpAny_Assign_Subscript (thn (hv pins s σ H _ I h) fun r s1 ⟨v, H1, I1, rv, q1⟩ => thn (ho pins s1 σ H1 _ I1 q1) fun u s2 ⟨x, H2, I2, rx, q2⟩ => thn (hi pins s2 σ H2 _ I2 q2) fun iv s3 ⟨y, H3, I3, ry, a, H4, ex, g, q3⟩ => ?_) hs
  subst ex
  obtain rfl : u = Value.ref a := rx
  exact d_setItem hu I3 g ry rv fun s4 I4 => ⟨σ, H4, I4, q3⟩
end


/-! ### displays -/
theorem dk_empty {P : Program} {w : World} {H : Hp} (h : Heap) (hb : sysModules < h.objs.size) : ObjOk P w H (h.push { cls := .type "dict", data := .dict #[] }) h.objs.size (.dK []) :=
  ⟨Nat.zero_le _, beq_eq_false_iff_ne.mpr (Ne.symm (Nat.ne_of_lt hb)), [], .nil, Heap.DictOf.new h⟩
/-- {}, to be a dict of the kind that is wanted -/
def tDNewK : TE := fun _ H Q => ∀ p, H p = none → Q (.ref p) (upd H p (.dK []))
def tDNewT : TE := fun _ H Q => ∀ p, H p = none → Q (.ref p) (upd H p (.dT []))
section
variable {X : Cx} {pos : Pos}
theorem pe_dnewK : PE X (.Dict [] [] pos) tDNewK := fun pins s σ H Q I h =>
  wpAny_Dict_empty ⟨.ref s.heap.objs.size, _, I.laid (a := s.heap.objs.size) (o := .dK []) (t' := s.toks) (fun _ _ q => Heap.get?_push_of_some _ q) (Nat.le_refl _) (dk_empty s.heap I.big), rfl, h _ (I.hok.fresh (Nat.le_refl _))⟩
end

/-- the pairs of a display, from the left -/
def tPairs : List (TE × TE) → St → Hp → (List (V × V) → Hp → Prop) → Prop
  | [], _, H, Q => Q [] H
  | (tk, tv) :: r, σ, H, Q => tk σ H fun x H1 => tv σ H1 fun y H2 => tPairs r σ H2 fun ps H3 => Q ((x, y) :: ps) H3
abbrev VV : List (V × V) → List (Value × Value) → Prop := Paired fun p q => RelV p.1 q.1 ∧ RelV p.2 q.2
def PPs (X : Cx) (pos : Pos) (keys : List (Option Expr)) (values : List Expr) (trs : List (TE × TE)) : Prop :=
  ∀ (pins : List (Addr × Obj)) (s : Shared) (σ : St) (H : Hp) (Q : List (V × V) → Hp → Prop), Inv X pins σ H s → tPairs trs σ H Q →
    wpAny (model X.prog X.w) X.A (evalPairs (pairTrees keys values X.env pos)) (fun vs s' => ∃ ps H', Inv X pins σ H' s' ∧ VV ps vs ∧ Q ps H') X.xe s
def mergeK (kvs more : List (Key × V)) : List (Key × V) := more.foldl (fun acc kv => putK acc kv.1 kv.2) kvs
/-- {k: v, ..} with keys ints and texts; the new dict stands empty while the pairs are made -/
def tDisp (trs : List (TE × TE)) : TE := fun σ H Q => ∀ p, H p = none → tPairs trs σ (upd H p (.dK [])) fun ps H2 => H2 p = some (.dK []) ∧ ∃ kvs : List (Key × V), ps = kvs.map (fun kv => (kV kv.1, kv.2)) ∧ kvs.length ≤ 15 ∧ Q (.ref p) (upd H2 p (.dK (mergeK [] kvs)))
/-! ### methods -/
/-- a method call o.m(e) of a built-in, with one argument: what must be seen of the text -/
structure M1 (X : Cx) (o : Expr) (m : Str) (apos : Pos) (e : Expr) (cpos : Pos) : Prop where
  base : attributeBase o m X.env (eval o X.env) = eval o X.env
  few : ((backTo cpos (starEach [e] X.env)).all (fun x => !x.1) && (backToKw cpos (keywordEach [] X.env)).all (fun x => x.1.isSome)
    && decide (([e] : List Expr).length + ([] : List Keyword).length + (if ([] : List Keyword).isEmpty then 0 else 1) < 30)) = true
  line : (apos.endLine == cpos.line) = true
  trees : backTo cpos (starEach [e] X.env) = [(false, eval e X.env)]
structure M2 (X : Cx) (o : Expr) (m : Str) (apos : Pos) (e f : Expr) (cpos : Pos) : Prop where
  base : attributeBase o m X.env (eval o X.env) = eval o X.env
  few : ((backTo cpos (starEach [e, f] X.env)).all (fun x => !x.1) && (backToKw cpos (keywordEach [] X.env)).all (fun x => x.1.isSome)
    && decide (([e, f] : List Expr).length + ([] : List Keyword).length + (if ([] : List Keyword).isEmpty then 0 else 1) < 30)) = true
  line : (apos.endLine == cpos.line) = true
  trees : backTo cpos (starEach [e, f] X.env) = [(false, eval e X.env), (false, eval f X.env)]

/-- a is a dict, whatever its keys -/
def IsD (H : Hp) (a : Addr) : Prop := (∃ kvs, Rd H a (.dK kvs)) ∨ ∃ kvs, Rd H a (.dT kvs)
section
variable {X : Cx} {pins : List (Addr × Obj)} {σ : St} {H : Hp} {s : Shared} {a : Addr} {y d : V} {u r : Value} {o : Option V} {A : Around} {E : Value → Shared → Prop}
end

def tDGet1 (td ty : TE) : TE := fun σ H Q => td σ H fun x H1 => ∃ a, x = .ref a ∧ IsD H1 a ∧ ty σ H1 fun y H2 => ∃ o, DGet H2 a y o ∧ Q (o.getD .non) H2
def tDGet2 (td ty tx : TE) : TE := fun σ H Q => td σ H fun x H1 => ∃ a, x = .ref a ∧ IsD H1 a ∧ ty σ H1 fun y H2 => tx σ H2 fun z H3 => ∃ o, DGet H3 a y o ∧ Q (o.getD z) H3
/-- d.pop(k): there; d.pop(k, x): there or not -/
def tDPop1 (td ty : TE) : TE := fun σ H Q => td σ H fun x H1 => ∃ a, x = .ref a ∧ IsD H1 a ∧ ty σ H1 fun y H2 => ∃ kvs k v, H2 a = some (.dK kvs) ∧ y = kV k ∧ valV kvs k = some v ∧ Q v (upd H2 a (.dK (dropK kvs k)))
def tDPop2 (td ty tx : TE) : TE := fun σ H Q => td σ H fun x H1 => ∃ a, x = .ref a ∧ IsD H1 a ∧ ty σ H1 fun y H2 => tx σ H2 fun z H3 => ∃ kvs k, H3 a = some (.dK kvs) ∧ y = kV k ∧
  (∀ v, valV kvs k = some v → Q v (upd H3 a (.dK (dropK kvs k)))) ∧ (valV kvs k = none → Q z H3)
section
variable {X : Cx} {o e f : Expr} {apos cpos : Pos} {td ty tx : TE}
end

/-! ### dict(d): a copy -/
section
variable {X : Cx} {pins : List (Addr × Obj)} {σ : St} {H : Hp} {s : Shared} {a : Addr} {kvs : List (Key × V)} {A : Around} {E : Value → Shared → Prop}
end


section
variable {X : Cx} {pins : List (Addr × Obj)} {σ : St} {H : Hp} {s : Shared} {a : Addr} {y : V} {u : Value} {A : Around} {E : Value → Shared → Prop}
end
end L2
namespace L2
open PySem PySem.Spec PyProof.Rows
/-! ### a dict's pairs: keys that differ -/
section
variable {κ : Type} [DecidableEq κ]
end
end L2
/-! ### dicts that are walked, and sorted -/
namespace L2
open PySem PySem.Spec PyProof.Rows
theorem key_rel {k : Key} {u : Value} (h : keyIs k u = true) : RelV (kV k) u := by
  rcases keyIs_shape h with ⟨i, t, rfl, rfl⟩ | ⟨x, t, rfl, rfl⟩
  · exact ⟨t, rfl⟩
  · exact ⟨t, rfl⟩
/-- a dict while it is walked: its record stays -/
abbrev FzD (P : Program) (w : World) (a : Addr) (kvs : List (Key × V)) (ep : Nat) : HO := .ext fun h => ∃ vs, KV kvs vs ∧ h.DictAt (mixKind P w) a vs ep ∧ (a == sysModules) = false
theorem Inv.freeze {X : Cx} {pins : List (Addr × Obj)} {σ : St} {H : Hp} {s : Shared} {a : Addr} {kvs : List (Key × V)} (I : Inv X pins σ H s) (e : H a = some (.dK kvs)) :
    ∃ ep vs, KV kvs vs ∧ s.heap.DictAt (mixKind X.prog X.w) a vs ep ∧ (a == sysModules) = false ∧ Inv X pins σ (upd H a (FzD X.prog X.w a kvs ep)) s := by
  obtain ⟨z, hd, vs, rel, dd⟩ := dk_of I.hok e
  obtain ⟨ep, da⟩ := dd.dictAt
  obtain ⟨o, es, ho, r⟩ := id da
  refine ⟨ep, vs, rel, da, hd, ?_⟩
  exact d_write (t' := s.toks) I (by rw [e]; exact True.intro) ⟨rfl, fun _ _ => rfl⟩ ⟨o, ho⟩ ⟨⟨vs, rel, da, hd⟩, ⟨o, ho⟩, fun h1 h2 ⟨us, r1, d1, l1⟩ k => ⟨us, r1, d1.at' k, l1⟩⟩
def Ikx (P : Program) (w : World) (a : Addr) (kvs : List (Key × V)) (ep : Nat) : It :=
  ⟨fun i H => H a = some (FzD P w a kvs ep) ∧ i < kvs.length, fun i H v H' => H' = H ∧ ∃ k, (kvs.map (·.1))[i]? = some k ∧ v = kV k, fun i H => H a = some (FzD P w a kvs ep) ∧ kvs.length ≤ i⟩
section
variable {X : Cx} {tg : Expr}
def iDk (P : Program) (w : World) (tl : TE) : TI := fun σ H R => tl σ H fun x H1 => ∃ a kvs, x = .ref a ∧ H1 a = some (.dK kvs) ∧ ∀ ep, R (Ikx P w a kvs ep) (upd H1 a (FzD P w a kvs ep))
/-- d[y] of a dict that is walked -/
def tDGetF (P : Program) (w : World) (td ty : TE) : TE := fun σ H Q => td σ H fun x H1 => ty σ H1 fun y H2 => ∃ a kvs ep k v, x = .ref a ∧ y = kV k ∧ H2 a = some (FzD P w a kvs ep) ∧ valV kvs k = some v ∧ Q v H2
end
end L2

/-! ### a text's beginning, and where a text is found in it -/
namespace L2
open PySem PySem.Spec PyProof.Rows
section
variable {X : Cx}
def rStarts : V → List V → Hp → VK → Prop := fun x vs H Q => ∃ a b, x = .str a ∧ vs = [.str b] ∧ Q (.bl (Txt.startswith a b)) H
theorem mt_startswith : MtR X "str.startswith" rStarts := by
  intro pins s σ H x vs v us Q I rx rv h
  obtain ⟨a, b, rfl, rfl, q⟩ := h
  obtain ⟨t, rfl⟩ := rx
  obtain ⟨u, rfl, ru⟩ := vals1 rv
  obtain ⟨t', rfl⟩ := ru
  exact SC.startswith ⟨.bl _, H, I, rfl, q⟩
def rFind : V → List V → Hp → VK → Prop := fun x vs H Q => ∃ a b, x = .str a ∧ vs = [.str b] ∧ Q (.int (Txt.find a b)) H
def rIntT : List V → Hp → VK → Prop := fun xs H Q => ∃ x n, xs = [.str x] ∧ PySem.intText? x = some n ∧ x.length ≤ 640 ∧ Q (.int n) H
end
theorem starts_iff (a b : Str) : Txt.startswith a b = true ↔ cds b <+: cds a := by
  unfold Txt.startswith
  rw [Bool.and_eq_true, decide_eq_true_eq, StrLaws.subAt_eq, List.drop_zero, beq_iff_eq, Nat.zero_add]
  show b.length ≤ a.length ∧ (cds a).take b.length = cds b ↔ _
  rw [← cds_len b, List.prefix_iff_eq_take]
  constructor
  · rintro ⟨_, h⟩
    exact h.symm
  · intro h
    refine ⟨?_, h.symm⟩
    have := congrArg List.length h
    rw [List.length_take, cds_len] at this
    rw [cds_len]
    rw [cds_len] at this
    omega
end L2
/-! ### a text parted -/
namespace L2
open PySem PySem.Spec PyProof.Rows
def part3 (x y : Str) : Str × Str × Str := match Builtin.Str.occurrences x y 0 x.length 1 with
  | i :: _ => (Builtin.Str.strSub x 0 i, y, Builtin.Str.strSub x (i + y.length) x.length)
  | [] => (x, Str.empty, Str.empty)
section
variable {X : Cx}
def rPart : V → List V → Hp → VK → Prop := fun v vs H Q => ∃ x y, v = .str x ∧ vs = [.str y] ∧ (y.length == 0) = false ∧ x.length ≤ sizeLine ∧ ∀ p, H p = none → Q (.ref p) (upd H p (.tup [.str (part3 x y).1, .str (part3 x y).2.1, .str (part3 x y).2.2]))
end
end L2
/-! ### what a list gone through from behind gives, all at once -/
namespace L2
open PySem PySem.Spec PyProof.Rows
end L2

/-! ### the texts of a list from behind, joined -/
namespace L2
open PySem PySem.Spec PyProof.Rows
section
variable {X : Cx}
def tJR (K : PySem.W.Frag) (to : TE) (ta : TA) : TE := fun σ H Q => to σ H fun x H1 => ∃ z, x = .str z ∧ ta σ H1 fun vs H2 => ∃ (l : Addr) (ws : List Str), vs = [.ref l] ∧ SqL K H2 l (ws.map V.str) ∧ (ws.map (·.length)).sum + ws.length * z.length ≤ 16777216 ∧ Q (.str (Txt.join z ws.reverse)) H2
end
end L2

/-! ### try: a statement of calls, except C as n: .. -/
namespace L2
open PySem PySem.Spec PyProof.Rows
/-- a statement that may raise, by what is wanted then -/
def PSx (X : Cx) (st : Stmt) (tx : St → Hp → VK → (Value → Hp → Prop) → Prop) : Prop :=
  ∀ (pins : List (Addr × Obj)) (s : Shared) (σ : St) (H : Hp) (Q : VK) (Ex : Value → Hp → Prop), Inv X pins σ H s → tx σ H Q Ex →
    wpAny (model X.prog X.w) X.A (exec st X.env) (fun fl s' => fl = .next ∧ ∃ v H1, Inv X pins σ H1 s' ∧ Q v H1) (fun ev s' => ∃ H1 s1, Inv X pins σ H1 s1 ∧ CXe X.prog X.w X.stack H1 s1 (fun cls _ H' => Ex cls H') ev s') s
end L2
/-! ### a list of written texts -/
namespace L2
open PySem PySem.Spec PyProof.Rows
/-- the texts of a list of constants -/
def strsOf : List Expr → Option (List Str)
  | [] => some []
  | .Constant (.str x) _ _ :: es => (strsOf es).map (x :: ·)
  | _ => none
def tStrs (ws : List Str) : TA := fun _ H Q => Q (ws.map V.str) H
end L2

/-! ### sorting asks what it will: the outcome is a permutation -/
namespace L2
open PySem PySem.Spec PyProof.Rows PySem.W
/-- what all ends of a tree of questions have; the questions are of places below n -/
def AllT {α : Type} (n : Nat) (R : α → Prop) : KasT α → Prop
  | .ret a => R a
  | .ask i j k => i < n ∧ j < n ∧ ∀ b, AllT n R (k b)
abbrev Pm (n : Nat) (p : Array Nat) : Prop := p.Perm (List.toArray (List.range n))
end L2
namespace L2
open PySem PySem.Spec PyProof.Rows PySem.W
section
variable {prog : Program} {w : World} {A : Around} {E : Value → Shared → Prop} {s : Shared}
/-- the heap while a list is sorted -/
def offH (h : Heap) (a : Addr) (vs : List Value) : Heap := ((h.update a (Obj.mapSeq fun _ => #[])).push (seqObj "tuple" vs.toArray 0)).push (seqObj "list" #[] 0)
/-- the heap when the sorting begins -/
def inH (h : Heap) (vs : List Value) : Heap := ((h.push (seqObj "list" #[] 0)).update h.objs.size (Obj.mapSeq (· ++ vs.toArray))).push (seqObj "list" vs.toArray 0)
/-- pairs of texts, as they lie -/
def Pairs (h : Heap) (vs : List Value) : Prop := ∀ v ∈ vs, ∃ a o n x y t u, v = .ref a ∧ h.get? a = some o ∧ o.cls = .type "tuple" ∧ o.data = .seq #[.str x t, .str y u] n
end
section
variable {X : Cx}
end
end L2

/-! ### the tables of sets that are only added to -/
namespace L2
open PySem
/-- a table without gaps that were once filled, its places rising -/
structure Lit (t : SetTable) : Prop where
  up : t.place.toList.Pairwise (· < ·)
  no : t.dummies = #[]
theorem rise_get {xs : Array Nat} (h : xs.toList.Pairwise (· < ·)) {i j : Nat} (ij : i < j) (hj : j < xs.size) (d : Nat) : xs.getD i d < xs.getD j d := by
  have hi : i < xs.size := Nat.lt_trans ij hj
  have e1 : xs.getD i d = xs[i] := by simp [Array.getD, hi]
  have e2 : xs.getD j d = xs[j] := by simp [Array.getD, hj]
  rw [e1, e2]
  have := List.pairwise_iff_getElem.mp h i j (by simpa using hi) (by simpa using hj) ij
  simpa using this
theorem below_go {xs : Array Nat} {j : Nat} (h : xs.toList.Pairwise (· < ·)) : ∀ (fuel lo hi : Nat), lo ≤ hi → hi ≤ xs.size → hi - lo ≤ fuel →
    (∀ i, i < lo → xs.getD i j < j) → (∀ i, hi ≤ i → i < xs.size → j ≤ xs.getD i j) →
    SetTable.below.go xs j fuel lo hi ≤ xs.size ∧ (∀ i, i < SetTable.below.go xs j fuel lo hi → xs.getD i j < j) ∧ (∀ i, SetTable.below.go xs j fuel lo hi ≤ i → i < xs.size → j ≤ xs.getD i j)
  | 0, lo, hi, l1, l2, l3, a, b => by
    have e : lo = hi := by omega
    subst e
    exact ⟨l2, a, b⟩
  | fuel + 1, lo, hi, l1, l2, l3, a, b => by
    unfold SetTable.below.go
    split
    · rename_i lt
      have m1 : lo ≤ (lo + hi) / 2 := by omega
      have m2 : (lo + hi) / 2 < hi := by omega
      dsimp only
      split
      · rename_i c
        refine below_go h fuel _ hi (by omega) l2 (by omega) (fun i hi' => ?_) b
        rcases Nat.lt_or_eq_of_le (Nat.le_of_lt_succ hi') with z | z
        · exact Nat.lt_trans (rise_get h z (by omega) j) c
        · rw [z]; exact c
      · rename_i c
        refine below_go h fuel lo _ m1 (by omega) (by omega) a (fun i hi' hs => ?_)
        rcases Nat.lt_or_eq_of_le hi' with z | z
        · exact Nat.le_trans (Nat.le_of_not_lt c) (Nat.le_of_lt (rise_get h z hs j))
        · rw [← z]; exact Nat.le_of_not_lt c
    · have e : lo = hi := by omega
      subst e
      exact ⟨l2, a, b⟩
theorem below_at {xs : Array Nat} (h : xs.toList.Pairwise (· < ·)) (j : Nat) : SetTable.below xs j ≤ xs.size ∧ (∀ i, i < SetTable.below xs j → xs.getD i j < j) ∧ (∀ i, SetTable.below xs j ≤ i → i < xs.size → j ≤ xs.getD i j) :=
  below_go h xs.size 0 xs.size (Nat.zero_le _) (Nat.le_refl _) (by omega) (fun i hi => absurd hi (Nat.not_lt_zero _)) (fun i h1 h2 => absurd h2 (Nat.not_lt.mpr h1))
theorem has_none (j : Nat) : SetTable.has #[] j = false := by
  unfold SetTable.has
  simp
/-- the first place not below the next one of a place is the one behind it -/
theorem below_next {xs : Array Nat} (h : xs.toList.Pairwise (· < ·)) {i : Nat} (hi : i < xs.size) : SetTable.below xs (xs.getD i 0 + 1) = i + 1 := by
  obtain ⟨a, b, c⟩ := below_at h (xs.getD i 0 + 1)
  have ge : ∀ k d, k < xs.size → xs.getD k d = xs.getD k 0 := fun k d hk => by simp [Array.getD, hk]
  rcases Nat.lt_trichotomy (SetTable.below xs (xs.getD i 0 + 1)) (i + 1) with z | z | z
  · have := c i (Nat.le_of_lt_succ z) hi
    rw [ge i (xs.getD i 0 + 1) hi] at this
    omega
  · exact z
  · have k : i + 1 < xs.size := Nat.lt_of_lt_of_le z a
    have b1 := b (i + 1) z
    rw [ge (i + 1) (xs.getD i 0 + 1) k] at b1
    have b2 := rise_get h (show i < i + 1 from Nat.lt_succ_self i) k 0
    omega
theorem below_zero {xs : Array Nat} (h : xs.toList.Pairwise (· < ·)) : SetTable.below xs 0 = 0 := by
  obtain ⟨a, b, c⟩ := below_at h 0
  rcases Nat.eq_zero_or_pos (SetTable.below xs 0) with z | z
  · exact z
  · exact absurd (b 0 z) (Nat.not_lt_zero _)
theorem take_lt {xs : Array Nat} {p j : Nat} (hp : p ≤ xs.size) (h : ∀ i, i < p → xs.getD i j < j) : ∀ x ∈ xs.toList.take p, x < j := by
  intro x hx
  obtain ⟨i, hi, rfl⟩ := List.mem_iff_getElem.mp hx
  have l1 : i < p := by rw [List.length_take] at hi; omega
  have l2 : i < xs.size := by omega
  have := h i l1
  simpa [Array.getD, l2] using this
theorem drop_ge {xs : Array Nat} {p j : Nat} (h : ∀ i, p ≤ i → i < xs.size → j ≤ xs.getD i j) : ∀ x ∈ xs.toList.drop p, j ≤ x := by
  intro x hx
  obtain ⟨i, hi, rfl⟩ := List.mem_iff_getElem.mp hx
  rw [List.length_drop, Array.length_toList] at hi
  have l2 : p + i < xs.size := by omega
  have := h (p + i) (Nat.le_add_right _ _) l2
  simpa [Array.getD, l2] using this
theorem insert_up {xs : Array Nat} {j : Nat} (h : xs.toList.Pairwise (· < ·)) (n : xs[SetTable.below xs j]? ≠ some j) : (SetTable.insertAt xs (SetTable.below xs j) j).toList.Pairwise (· < ·) := by
  obtain ⟨a, b, c⟩ := below_at h j
  generalize SetTable.below xs j = p at *
  rw [SetTable.toList_insertAt]
  have t1 := take_lt a b
  have t2 := drop_ge c
  have sp : xs.toList = xs.toList.take p ++ xs.toList.drop p := (List.take_append_drop p xs.toList).symm
  have h' := h
  rw [sp, List.pairwise_append] at h'
  obtain ⟨w1, w2, w3⟩ := h'
  have gt : ∀ x ∈ xs.toList.drop p, j < x := by
    intro x hx
    rcases Nat.lt_or_eq_of_le (t2 x hx) with z | z
    · exact z
    · exfalso
      subst z
      obtain ⟨i, hi, e⟩ := List.mem_iff_getElem.mp hx
      cases i with
      | zero =>
        apply n
        rw [List.length_drop, Array.length_toList] at hi
        have : p < xs.size := by omega
        rw [Array.getElem?_eq_getElem this]
        simpa using e
      | succ i =>
        have l0 : 0 < (xs.toList.drop p).length := Nat.lt_of_le_of_lt (Nat.zero_le _) hi
        have lt := List.pairwise_iff_getElem.mp w2 0 (i + 1) l0 hi (Nat.succ_pos _)
        rw [e] at lt
        exact absurd (t2 _ (List.getElem_mem l0)) (Nat.not_le.mpr lt)
  rw [List.pairwise_append, List.pairwise_cons]
  refine ⟨w1, ⟨gt, w2⟩, fun x hx y hy => ?_⟩
  rcases List.mem_cons.mp hy with rfl | hy
  · exact t1 x hx
  · exact w3 x hx y hy
theorem Lit.slot {t : SetTable} (h : Lit t) (j : Nat) : t.slot j ≠ .dummy ∧ (t.slot j = .empty → t.place[SetTable.below t.place j]? ≠ some j) := by
  unfold SetTable.slot
  rw [h.no, has_none]
  dsimp only
  split
  · exact ⟨fun z => (by cases z), fun z => (by cases z)⟩
  · rename_i c
    refine ⟨fun z => ?_, fun _ e => c (by rw [e]; exact beq_self_eq_true _)⟩
    rw [if_neg Bool.false_ne_true] at z
    cases z
theorem Lit.probe {t : SetTable} (L : Lit t) (h : Int) : ∀ (fuel : Nat) (p : SetTable.Probe), p.dummy = none → ∀ m, SetTable.probe.go t (fun _ => h + 1) h fuel p = some m → ∃ j, m = .empty j none ∧ t.slot j = .empty
  | 0, p, _, m, e => by cases e
  | fuel + 1, p, d, m, e => by
    unfold SetTable.probe.go at e
    have adv : (t.advance p).dummy = none := by
      unfold SetTable.advance
      split
      · exact d
      · exact d
    split at e
    · rename_i z
      obtain rfl := Option.some.inj e
      exact ⟨p.j, by rw [d], z⟩
    · rename_i z
      exact absurd z (L.slot _).1
    · rename_i i z
      rw [if_neg (fun z => absurd (eq_of_beq z) (by omega))] at e
      exact Lit.probe L h fuel _ adv m e
theorem Lit.free {t : SetTable} (L : Lit t) {h : Int} {j : Nat} {b : Bool} (e : t.freeSlot h = some (j, b)) : t.place[SetTable.below t.place j]? ≠ some j := by
  unfold SetTable.freeSlot at e
  split at e
  · rename_i k d z
    obtain ⟨j', e1, e2⟩ := L.probe h _ _ rfl _ z
    cases e1
    cases e
    exact (L.slot _).2 e2
  · cases e
theorem standIn_lit (t : SetTable) (n : Nat) : Lit (t.standIn n) ∧ (t.standIn n).led = t.led :=
  ⟨⟨by show (Array.range n).toList.Pairwise (· < ·); rw [Array.toList_range]; exact List.pairwise_lt_range, rfl⟩, rfl⟩
theorem orStandIn_lit {t : SetTable} (L : Lit t) (n : Nat) : Lit (t.orStandIn n) ∧ (t.orStandIn n).led = t.led := by
  unfold SetTable.orStandIn
  split
  · exact ⟨L, rfl⟩
  · exact standIn_lit t n
theorem put_lit {t : SetTable} (L : Lit t) {j : Nat} (n : t.place[SetTable.below t.place j]? ≠ some j) : Lit (t.put j).1 ∧ (t.put j).1.led = t.led := by
  refine ⟨⟨insert_up L.up n, ?_⟩, rfl⟩
  show (if SetTable.has t.dummies j = true then _ else t.dummies) = _
  rw [L.no, has_none]
  rfl
theorem layNew_lit {t : SetTable} (L : Lit t) (es : Array (Int × Value)) (h : Int) (x : Value) : Lit (layNew t es h x).2.1 ∧ (layNew t es h x).2.1.led = t.led := by
  unfold layNew
  split
  · rename_i j b e
    obtain ⟨a, c⟩ := put_lit L (L.free e)
    obtain ⟨a2, c2⟩ := orStandIn_lit a (SetTable.insertAt es (t.put j).2 (h, x)).size
    exact ⟨a2, c2.trans c⟩
  · exact standIn_lit t _
theorem live_up (f : Nat → Option Nat) : ∀ l : List Nat, l.Pairwise (· < ·) → ((l.filterMap fun j => (f j).map fun k => (j, k)).map (·.1)).Pairwise (· < ·)
  | [], _ => List.Pairwise.nil
  | a :: l, h => by
    obtain ⟨h1, h2⟩ := List.pairwise_cons.mp h
    have ih := live_up f l h2
    rw [List.filterMap_cons]
    cases e : f a with
    | none => exact ih
    | some k =>
      show (List.map _ ((a, k) :: _)).Pairwise _
      rw [List.map_cons, List.pairwise_cons]
      refine ⟨fun b hb => ?_, ih⟩
      obtain ⟨q, hq, rfl⟩ := List.mem_map.mp hb
      obtain ⟨c, hc, e2⟩ := List.mem_filterMap.mp hq
      obtain ⟨k2, _, rfl⟩ := Option.map_eq_some_iff.mp e2
      exact h1 _ hc
theorem relayAll_lit (t : SetTable) (es : Array (Int × Value)) (n : Nat) : Lit (relayAll t es n).2.1 ∧ (relayAll t es n).2.1.led = t.led := by
  unfold relayAll
  split
  · rename_i t' order e
    dsimp only
    split
    · unfold SetTable.relaid SetTable.laid at e
      obtain ⟨owner, _, e⟩ := Option.bind_eq_some_iff.mp e
      cases e
      refine ⟨⟨?_, rfl⟩, rfl⟩
      exact live_up (fun j => owner.getD j none) _ List.pairwise_lt_range
    · exact standIn_lit t _
  · exact standIn_lit t _
theorem fresh_lit (f m : Nat) (led : Bool) : Lit (SetTable.fresh f m led) := ⟨List.Pairwise.nil, rfl⟩
theorem plain_lit {t : SetTable} (L : Lit t) (b : Bool) : Lit { t with plain := b } := ⟨L.up, L.no⟩
end L2


/-! ### sets that can be gone through -/
namespace L2
open PySem PySem.Spec PyProof.Rows
/-- the entries of a set and their keys -/
inductive EK (P : Program) (w : World) : List (Int × Value) → List Key → Prop
  | nil : EK P w [] []
  | cons {x : Value} {k : Key} {es : List (Int × Value)} {ks : List Key} : (mixKind P w).is k x = true → x.scannable = true → EK P w es ks → EK P w (((mixKind P w).hash k, x) :: es) (k :: ks)
section
variable {P : Program} {w : World}
theorem EK.length {es : List (Int × Value)} {ks : List Key} (h : EK P w es ks) : es.length = ks.length := by
  induction h with
  | nil => rfl
  | cons _ _ _ ih => rw [List.length_cons, List.length_cons, ih]
theorem EK.elems {es : List (Int × Value)} {ks : List Key} (h : EK P w es ks) : ElemsOf (mixKind P w) es := by
  induction h with
  | nil => exact fun e he => (by cases he)
  | cons h1 h2 _ ih =>
    intro e he
    rcases List.mem_cons.mp he with rfl | he
    · exact ⟨⟨_, h1, rfl⟩, h2⟩
    · exact ih e he
theorem EK.mem {es : List (Int × Value)} {ks : List Key} (h : EK P w es ks) (k : Key) : k ∈ ks ↔ ∃ e ∈ es, (mixKind P w).is k e.2 = true := by
  induction h with
  | nil => exact ⟨fun z => (by cases z), fun ⟨e, z, _⟩ => (by cases z)⟩
  | @cons x k' es ks h1 _ _ ih =>
    rw [List.mem_cons, ih]
    constructor
    · rintro (rfl | ⟨e, he, q⟩)
      · exact ⟨_, List.mem_cons_self, h1⟩
      · exact ⟨e, List.mem_cons_of_mem _ he, q⟩
    · rintro ⟨e, he, q⟩
      rcases List.mem_cons.mp he with rfl | he
      · exact .inl ((mixKind P w).inj x k k' q h1)
      · exact .inr ⟨e, he, q⟩
theorem EK.perm {es es' : List (Int × Value)} (p : es'.Perm es) : ∀ {ks : List Key}, EK P w es ks → ∃ ks', ks'.Perm ks ∧ EK P w es' ks' := by
  induction p with
  | nil => exact fun h => ⟨_, .refl _, h⟩
  | cons u _ ih =>
    intro ks h
    cases h with
    | cons h1 h2 h =>
      obtain ⟨ks', p', h'⟩ := ih h
      exact ⟨_ :: ks', p'.cons _, .cons h1 h2 h'⟩
  | swap u v l =>
    intro ks h
    cases h with
    | cons h1 h2 h =>
      cases h with
      | cons h3 h4 h => exact ⟨_, .swap _ _ _, .cons h3 h4 (.cons h1 h2 h)⟩
  | trans _ _ ih1 ih2 =>
    intro ks h
    obtain ⟨k1, p1, h1⟩ := ih2 h
    obtain ⟨k2, p2, h2⟩ := ih1 h1
    exact ⟨k2, p2.trans p1, h2⟩
theorem EK.snoc {es : List (Int × Value)} {ks : List Key} {x : Value} {k : Key} (h : EK P w es ks) (h1 : (mixKind P w).is k x = true) (h2 : x.scannable = true) : EK P w (es ++ [((mixKind P w).hash k, x)]) (ks ++ [k]) := by
  induction h with
  | nil => exact .cons h1 h2 .nil
  | cons a b _ ih => exact .cons a b ih
/-- the world's word on how sets are gone through -/
abbrev byT (w : World) : Bool := w.params.followText "set-order"
/-- a set that was only added to: what it holds, in some order -/
def SetX (P : Program) (w : World) (h : Heap) (a : Addr) (ds : List Key) : Prop :=
  ∃ o es ep t ks, h.get? a = some o ∧ o.ExactSet ∧ o.data = .set es ep t ∧ EK P w es.toList ks ∧ ks.Perm ds ∧ es.size < scanBound ∧ t.fits es.size = true ∧ Lit t ∧ t.led = !byT w
theorem SetX.moved {h h' : Heap} {a : Addr} {ds : List Key} (x : SetX P w h a ds) (k : ∀ o, h.get? a = some o → h'.get? a = some o) : SetX P w h' a ds := by
  obtain ⟨o, es, ep, t, ks, ho, rest⟩ := x
  exact ⟨o, es, ep, t, ks, k o ho, rest⟩
/-- a set whose places rise -/
def SetY (P : Program) (w : World) (h : Heap) (a : Addr) (ds : List Key) : Prop :=
  ∃ o es ep t ks, h.get? a = some o ∧ o.ExactSet ∧ o.data = .set es ep t ∧ EK P w es.toList ks ∧ ks.Perm ds ∧ es.size < scanBound ∧ t.fits es.size = true ∧ t.place.toList.Pairwise (· < ·) ∧ t.led = !byT w
theorem SetX.y {h : Heap} {a : Addr} {ds : List Key} (x : SetX P w h a ds) : SetY P w h a ds := by
  obtain ⟨o, es, ep, t, ks, h1, h2, h3, h4, h5, h6, h7, L, h8⟩ := x
  exact ⟨o, es, ep, t, ks, h1, h2, h3, h4, h5, h6, h7, L.up, h8⟩
theorem SetY.moved {h h' : Heap} {a : Addr} {ds : List Key} (x : SetY P w h a ds) (k : ∀ o, h.get? a = some o → h'.get? a = some o) : SetY P w h' a ds := by
  obtain ⟨o, es, ep, t, ks, ho, rest⟩ := x
  exact ⟨o, es, ep, t, ks, k o ho, rest⟩
variable {A : Around} {E : Value → Shared → Prop} {s : Shared}
theorem put_x {a : Addr} {o : Obj} {es es' : Array (Int × Value)} {ep : Nat} {t t' : SetTable} {Q : Unit → Shared → Prop} (ho : s.heap.get? a = some o) (hd : o.data = .set es ep t) (hb : es'.size < scanBound)
    (h : ∀ h', Heap.SameBut a s.heap h' → h'.get? a = some { o with data := .set es' (ep + 1) t' } → Q () { s with heap := h' }) : wpAny (model P w) A (storeSet a es' t') Q E s := by
  have e := putSet_of es' t' hd
  refine wpAny_storeSet_of ho hd (h _ (Heap.SameBut.update s.heap a _) ?_) (fits_of_scanBound hb)
  rw [Heap.get?_update_self (Obj.putSet es' t') ho (by rw [e]; rfl), e]
theorem add_x {a : Addr} {ds : List Key} {k : Key} {x : Value} {Q : Bool → Shared → Prop} (hk : (mixKind P w).is k x = true) (hx : x.scannable = true) (S : SetX P w s.heap a ds) (hr : ds.length + 1 < scanBound)
    (h : ∀ b h', Heap.SameBut a s.heap h' → SetX P w h' a (addK ds k) → Q b { s with heap := h' }) : wpAny (model P w) A (setAddHashed a x ((mixKind P w).hash k)) Q E s := by
  obtain ⟨o, es, ep, t, ks, ho, hex, hd, ek, pm, hb, hf, L, led⟩ := S
  have hel := ek.elems
  have sz : es.size = ds.length := by rw [← Array.length_toList, ek.length, pm.length_eq]
  have gw : ∀ (b : Bool) (s1 : Shared) (Q' : Unit → Shared → Prop), Q' () s1 →
      wpAny (model P w) A (match b with
        | true => rule "set.scan.the-table-gave-way"
        | false => pure ()) Q' E s1 := fun b s1 Q' q => by
    cases b
    · exact wpAny_pure q
    · exact wpAny_rule q
  unfold setAddHashed setAddHashedIn
  refine wpAny_holding (wpAny_bind (wpAny_setState_of ho hd hf ?_))
  dsimp only
  rw [byScan_of hx hb hel, if_pos rfl]
  unfold setAddByScan
  refine wpAny_bind (wpAny_bind (wpAny_rule (wpAny_bind (wpAny_setScan_of hk ho hd hf hel ?_))))
  cases hr2 : es.toList.findIdx? fun e => (mixKind P w).is k e.2 with
  | some j =>
    have km : k ∈ ds := by
      obtain ⟨hj, pj, _⟩ := List.findIdx?_eq_some_iff_getElem.mp hr2
      exact pm.mem_iff.mp ((ek.mem k).mpr ⟨_, List.getElem_mem hj, pj⟩)
    have ea : addK ds k = ds := by unfold addK; rw [if_pos (memK_iff.mpr km)]
    refine wpAny_pure (wpAny_pure ?_)
    exact h false s.heap (Heap.SameBut.refl a s.heap) (by rw [ea]; exact ⟨o, es, ep, t, ks, ho, hex, hd, ek, pm, hb, hf, L, led⟩)
  | none =>
    have km : k ∉ ds := fun z => by
      obtain ⟨e, he, q⟩ := (ek.mem k).mp (pm.mem_iff.mpr z)
      have := List.findIdx?_eq_none_iff.mp hr2 e he
      rw [q] at this
      cases this
    have ea : addK ds k = ds ++ [k] := by unfold addK; rw [if_neg (fun z => km (memK_iff.mp z))]
    obtain ⟨L1, led1⟩ := layNew_lit L es ((mixKind P w).hash k) x
    have p1 := layNew_perm t es ((mixKind P w).hash k) x
    have f1 := layNew_fits t es ((mixKind P w).hash k) x
    dsimp only
    generalize layNew t es ((mixKind P w).hash k) x = Z at L1 led1 p1 f1 ⊢
    obtain ⟨es1, t1, wd, gv⟩ := Z
    dsimp only at L1 led1 p1 f1 ⊢
    rw [Array.toList_push] at p1
    obtain ⟨ks1, q1, ek1⟩ := (ek.snoc hk hx).perm p1
    have c1 : ks1.Perm (addK ds k) := by rw [ea]; exact q1.trans (pm.append_right [k])
    have s1 : es1.size = ds.length + 1 := by rw [← Array.length_toList, ek1.length, c1.length_eq, ea, List.length_append]; rfl
    have b1 : es1.size < scanBound := by omega
    have led2 := led1.trans led
    refine wpAny_bind (gw gv _ _ ?_)
    have fin : ∀ t2 : SetTable, Lit t2 → t2.led = (!byT w) → t2.fits es1.size = true → wpAny (model P w) A (do
        storeSet a es1 t2
        if (!wd && t2.tooFull) = true then
          let (es3, t3, gave) := relayAll t2 es1 (SetTable.grown es1.size)
          (match gave with | true => rule "set.scan.the-table-gave-way" | false => pure () : Sem Unit)
          storeSet a es3 t3
        return some true) (fun r s' => wpAny (model P w) A (match r with | some added => pure added | none => setAddHashedIn a x ((mixKind P w).hash k) 99999) Q E s') E s := by
      intro t2 L2 led2 f2
      refine wpAny_bind (put_x ho hd b1 fun h1 sb1 e1 => ?_)
      split
      · obtain ⟨L3, led3⟩ := relayAll_lit t2 es1 (SetTable.grown es1.size)
        have p3 := relayAll_perm t2 es1 (SetTable.grown es1.size)
        have f3 := relayAll_fits t2 es1 (SetTable.grown es1.size)
        generalize relayAll t2 es1 (SetTable.grown es1.size) = Z at L3 led3 p3 f3 ⊢
        obtain ⟨es3, t3, g3⟩ := Z
        dsimp only at L3 led3 p3 f3 ⊢
        obtain ⟨ks3, q3, ek3⟩ := ek1.perm p3
        have b3 : es3.size < scanBound := by rw [← Array.length_toList, p3.length_eq, Array.length_toList]; exact b1
        refine wpAny_bind (gw g3 _ _ (wpAny_bind (put_x (s := { s with heap := h1 }) e1 rfl b3 fun h3 sb3 e3 => ?_)))
        exact wpAny_pure (wpAny_pure (h true h3 (sb1.trans sb3) ⟨_, es3, _, t3, ks3, e3, hex, rfl, ek3, q3.trans c1, b3, f3, L3, led3.trans led2⟩))
      · exact wpAny_pure (wpAny_pure (h true h1 sb1 ⟨_, es1, _, t2, ks1, e1, hex, rfl, ek1, c1, b1, f2, L2, led2⟩))
    split
    · rw [hashByValue_scannable 8 hx]
      refine wpAny_bind (wpAny_pure ?_)
      split
      · exact fin t1 L1 led2 f1
      · exact fin _ (plain_lit L1 false) led2 (SetTable.fits_plain_off f1)
    · refine wpAny_bind (wpAny_pure ?_)
      rw [if_pos rfl]
      exact fin t1 L1 led2 f1
end
end L2


/-! ### a set gone through: its iterator -/
namespace L2
open PySem PySem.Spec PyProof.Rows
theorem slot_si_next : Slot "set_iterator" "__next__" "set_iterator.__next__" := .of (owner := "set_iterator") (n := "__next__") (by rw [typeLookup_type, builtinLookup_eq_fast]; kernel_rfl) (by decide +kernel) (by decide +kernel) (by decide +kernel) (by first | exact .inl (by decide +kernel) | exact .inr (by decide +kernel)) (by rw [isSubtype_type]; kernel_rfl)
theorem slot_si_iter : Slot "set_iterator" "__iter__" "set_iterator.__iter__" := .of (owner := "set_iterator") (n := "__iter__") (by rw [typeLookup_type, builtinLookup_eq_fast]; kernel_rfl) (by decide +kernel) (by decide +kernel) (by decide +kernel) (by first | exact .inl (by decide +kernel) | exact .inr (by decide +kernel)) (by rw [isSubtype_type]; kernel_rfl)
theorem entry_si_next : entryFor table "set_iterator.__next__" = some Builtin.«set_iterator.__next__» := entryFor_of_tree (by kernel_rfl)
theorem entry_si_iter : entryFor table "set_iterator.__iter__" = some Builtin.«dict_keyiterator.__iter__» := entryFor_alias (id' := "dict_keyiterator.__iter__") (by kernel_rfl) rfl (by decide +kernel) (by kernel_rfl)
theorem owner_si : Manifest.owners.lookup (String.ofList ['r', 'o', 't', 'a', 'r', 'e', 't', 'i', '_', 't', 'e', 's'].reverse) = some Manifest.sig_set_iterator := by kernel_rfl
theorem args_si_next (a : Value) : argsOk "set_iterator.__next__" ⟨[a], []⟩ := by unfold argsOk; rw [signature?_of (id := "set_iterator.__next__") (n := ['_', '_', 't', 'x', 'e', 'n', '_', '_']) (o := ['r', 'o', 't', 'a', 'r', 'e', 't', 'i', '_', 't', 'e', 's']) (by kernel_rfl) owner_si]; kernel_rfl
theorem args_si_iter (a : Value) : argsOk "set_iterator.__iter__" ⟨[a], []⟩ := by unfold argsOk; rw [signature?_of (id := "set_iterator.__iter__") (n := ['_', '_', 'r', 'e', 't', 'i', '_', '_']) (o := ['r', 'o', 't', 'a', 'r', 'e', 't', 'i', '_', 't', 'e', 's']) (by kernel_rfl) owner_si]; kernel_rfl
theorem entry_set_it : entryFor table "set.__iter__" = some Builtin.«frozenset.__iter__» := entryFor_alias (id' := "frozenset.__iter__") (by kernel_rfl) rfl (by decide +kernel) (by kernel_rfl)
/-- an iterator of a set -/
def SIt (h : Heap) (it S : Addr) (f : Value) (i n ep : Nat) : Prop := ∃ o, h.get? it = some o ∧ o.cls = .type "set_iterator" ∧ o.data = .fields #[f, .int i 0, .ref S, .int n 0, .int ep 0]
/-- a set as it lies -/
def SAt (h : Heap) (S : Addr) (es : Array (Int × Value)) (ep : Nat) (t : SetTable) : Prop := ∃ o, h.get? S = some o ∧ o.ExactSet ∧ o.data = .set es ep t ∧ t.fits es.size = true
theorem SIt.at {h h' : Heap} {it S : Addr} {f : Value} {i n ep : Nat} (x : SIt h it S f i n ep) (k : ∀ o, h.get? it = some o → h'.get? it = some o) : SIt h' it S f i n ep := let ⟨o, e, r⟩ := x; ⟨o, k o e, r⟩
theorem SAt.at {h h' : Heap} {S : Addr} {es : Array (Int × Value)} {ep : Nat} {t : SetTable} (x : SAt h S es ep t) (k : ∀ o, h.get? S = some o → h'.get? S = some o) : SAt h' S es ep t := let ⟨o, e, r⟩ := x; ⟨o, k o e, r⟩
theorem SIt.ty {s : Shared} {it S : Addr} {f : Value} {i n ep : Nat} (x : SIt s.heap it S f i n ep) : s.TypeIs (.ref it) "set_iterator" := let ⟨o, e, c, _⟩ := x; ⟨o, e, c⟩
section
variable {P : Program} {w : World} {A : Around} {E : Value → Shared → Prop} {s : Shared}
theorem si_self {it S : Addr} {f : Value} {i n ep : Nat} {Q : Value → Shared → Prop} (x : SIt s.heap it S f i n ep) (h : Q (.ref it) s) : wpAny (model P w) A (pyIter (.ref it)) Q E s := by
  refine wpAny_pyIter_slot x.ty slot_si_iter (wpAny_call_entry slot_si_iter x.ty entry_si_iter ?_ (args_si_iter _))
  show wpAny _ _ (ret (.ref it)) _ _ s
  exact wpAny_pure ⟨_, rfl, "set_iterator", _, x.ty, slot_si_next.lookup, h⟩
/-- an iterator with one field set -/
theorem SIt.set {h : Heap} {it : Addr} {o : Obj} {vs : Array Value} {j : Nat} {v : Value} (ho : h.get? it = some o) (hc : o.cls = .type "set_iterator") (hd : o.data = .fields vs) :
    ∃ o', (h.update it (Obj.mapFields (·.setIfInBounds j v))).get? it = some o' ∧ o'.cls = .type "set_iterator" ∧ o'.data = .fields (vs.setIfInBounds j v) :=
  ⟨_, Heap.get?_update_self _ ho (Obj.isFreed_of_fields (Obj.data_mapFields hd _)), (Obj.cls_mapFields ..).trans hc, Obj.data_mapFields hd _⟩
theorem si_slot {it S : Addr} {a b i n ep : Nat} {es : Array (Int × Value)} {t : SetTable} {v : Value} {Q : Option Value → Shared → Prop} (x : SIt s.heap it S (.int a 0) i n ep) (y : SAt s.heap S es ep t) (hn : es.size = n)
    (st : ∀ (A : Around) (E : Value → Shared → Prop) (Q : Option (Value × Nat) → Shared → Prop), Q (some (v, b)) s → wpAny (model P w) A (setNext S a i ep) Q E s)
    (h : ∀ h', Heap.SameBut it s.heap h' → SIt h' it S (.int b 0) (i + 1) n ep → Q (some v) { s with heap := h' }) : wpAny (model P w) A (pyNext (.ref it)) Q E s := by
  obtain ⟨o, ho, hc, hd⟩ := id x
  obtain ⟨oS, hoS, _, hdS, hfS⟩ := id y
  unfold pyNext
  refine wpAny_bind (wpAny_attempt (wpAny_callSpecial?_slot (name := Str.ofString "__next__") x.ty slot_si_next (wpAny_call_entry slot_si_next x.ty entry_si_next ?_ (args_si_next _))))
  unfold Builtin.«set_iterator.__next__»
  refine wpAny_bind (m := slotArgs "__next__" 0 _) (wpAny_pure (wpAny_bind (wpAny_fieldsOf ho hd ?_)))
  dsimp only
  refine wpAny_bind (wpAny_setEntries_of hoS hdS hfS ?_)
  rw [if_neg (by rw [hn]; simp)]
  dsimp only [Int.toNat_natCast]
  refine wpAny_bind (st _ _ _ ?_)
  dsimp only
  obtain ⟨o1, e1, c1, d1⟩ := SIt.set (j := 0) (v := rawInt b) ho hc hd
  refine wpAny_bind (wpAny_setField ho hd (by simp) (wpAny_bind (wpAny_setField e1 d1 (by simp) ?_)))
  obtain ⟨o2, e2, c2, d2⟩ := SIt.set (j := 1) (v := rawInt ((i : Int) + 1)) e1 c1 d1
  exact wpAny_pure ⟨_, rfl, wpAny_pure (h _ ((Heap.SameBut.update ..).trans (Heap.SameBut.update ..)) ⟨o2, e2, c2, by rw [d2]; simp [rawInt]⟩)⟩
theorem si_end {it S : Addr} {a i n ep : Nat} {es : Array (Int × Value)} {t : SetTable} {Q : Option Value → Shared → Prop} (hh : A.handled = none) (x : SIt s.heap it S (.int a 0) i n ep) (y : SAt s.heap S es ep t) (hn : es.size = n)
    (st : ∀ (A : Around) (E : Value → Shared → Prop) (Q : Option (Value × Nat) → Shared → Prop), Q none s → wpAny (model P w) A (setNext S a i ep) Q E s)
    (h : ∀ h', Heap.ExtBut it s.heap h' → Q none { s with heap := h' }) : wpAny (model P w) A (pyNext (.ref it)) Q E s := by
  obtain ⟨o, ho, hc, hd⟩ := id x
  obtain ⟨oS, hoS, _, hdS, hfS⟩ := id y
  unfold pyNext
  refine wpAny_bind (wpAny_attempt (wpAny_callSpecial?_slot (name := Str.ofString "__next__") x.ty slot_si_next (wpAny_call_entry slot_si_next x.ty entry_si_next ?_ (args_si_next _))))
  unfold Builtin.«set_iterator.__next__»
  refine wpAny_bind (m := slotArgs "__next__" 0 _) (wpAny_pure (wpAny_bind (wpAny_fieldsOf ho hd ?_)))
  dsimp only
  refine wpAny_bind (wpAny_setEntries_of hoS hdS hfS ?_)
  rw [if_neg (by rw [hn]; simp)]
  dsimp only [Int.toNat_natCast]
  refine wpAny_bind (st _ _ _ ?_)
  dsimp only
  refine wpAny_bind (wpAny_setField ho hd (by simp) ?_)
  refine wpAny_bind ?_
  simp only [newExc, newTuple]
  refine wpAny_bind (wpAny_newObj_type ?_ (by size_fits))
  refine wpAny_bind (m := firstArgMember _ _) (wpAny_of_eq (a := Value.none) (by first | rfl | (simp only [firstArgMember]; rfl)) (wpAny_newObj_type ?_ (by size_fits)))
  simp only [raiseNew]
  refine wpAny_bind (wpAny_handled ?_)
  rw [show A.in1.handled = none from hh]
  refine wpAny_bind (m := pure _) (wpAny_pure (wpAny_throw ?_))
  refine wpAny_bind (m := isInstance _ _) (wpAny_isInstance (T := "StopIteration") (b := true) ⟨_, Heap.get?_push_size _ rfl, rfl⟩ isSubtype_stop ?_)
  exact wpAny_pure (h _ (((Heap.SameBut.update ..).extBut.push _).push _))
/-- a tuple of places -/
def PAt (h : Heap) (tp : Addr) (ps : List Nat) : Prop := ∃ o k, h.get? tp = some o ∧ o.data = .seq (ps.map fun (i : Nat) => rawInt i).toArray k
theorem PAt.at {h h' : Heap} {tp : Addr} {ps : List Nat} (x : PAt h tp ps) (k : ∀ o, h.get? tp = some o → h'.get? tp = some o) : PAt h' tp ps := let ⟨o, n, e, r⟩ := x; ⟨o, n, k o e, r⟩
theorem si_drawn {it S tp : Addr} {i n ep p : Nat} {ps : List Nat} {es : Array (Int × Value)} {t : SetTable} {e : Int × Value} {Q : Option Value → Shared → Prop} (x : SIt s.heap it S (.ref tp) i n ep) (y : SAt s.heap S es ep t) (z : PAt s.heap tp ps) (hn : es.size = n)
    (hp : ps[i]? = some p) (he : es[p]? = some e)
    (h : ∀ h', Heap.SameBut it s.heap h' → SIt h' it S (.ref tp) (i + 1) n ep → Q (some e.2) { s with heap := h' }) : wpAny (model P w) A (pyNext (.ref it)) Q E s := by
  obtain ⟨o, ho, hc, hd⟩ := id x
  obtain ⟨oS, hoS, _, hdS, hfS⟩ := id y
  obtain ⟨oT, kT, hoT, hdT⟩ := z
  unfold pyNext
  refine wpAny_bind (wpAny_attempt (wpAny_callSpecial?_slot (name := Str.ofString "__next__") x.ty slot_si_next (wpAny_call_entry slot_si_next x.ty entry_si_next ?_ (args_si_next _))))
  unfold Builtin.«set_iterator.__next__»
  refine wpAny_bind (m := slotArgs "__next__" 0 _) (wpAny_pure (wpAny_bind (wpAny_fieldsOf ho hd ?_)))
  dsimp only
  refine wpAny_bind (wpAny_setEntries_of hoS hdS hfS ?_)
  rw [if_neg (by rw [hn]; simp)]
  dsimp only [Int.toNat_natCast]
  refine wpAny_bind (wpAny_seqItems hoT hdT ?_)
  have e0 : ((ps.map fun (i : Nat) => rawInt i).toArray)[i]? = some (rawInt p) := by simp [hp]
  dsimp only
  rw [e0]
  dsimp only [rawInt]
  have nd : ∀ (A : Around) (E : Value → Shared → Prop) (Q : Value → Shared → Prop), Q e.2 s → wpAny (model P w) A (setNextDrawn S p ep) Q E s := fun A E Q q => by
    unfold setNextDrawn
    refine wpAny_bind (wpAny_setState_of hoS hdS hfS ?_)
    dsimp only
    rw [if_neg (by simp), he]
    exact wpAny_pure q
  refine wpAny_bind (nd _ _ _ (wpAny_bind (wpAny_setField ho hd (by simp) ?_)))
  obtain ⟨o2, e2, c2, d2⟩ := SIt.set (j := 1) (v := rawInt ((i : Int) + 1)) ho hc hd
  exact wpAny_pure ⟨_, rfl, wpAny_pure (h _ (Heap.SameBut.update ..) ⟨o2, e2, c2, by rw [d2]; simp [rawInt]⟩)⟩
theorem si_drawn_end {it S tp : Addr} {i n ep : Nat} {ps : List Nat} {es : Array (Int × Value)} {t : SetTable} {Q : Option Value → Shared → Prop} (hh : A.handled = none) (x : SIt s.heap it S (.ref tp) i n ep) (y : SAt s.heap S es ep t) (z : PAt s.heap tp ps) (hn : es.size = n)
    (hp : ps.length ≤ i) (h : ∀ h', Heap.ExtBut it s.heap h' → Q none { s with heap := h' }) : wpAny (model P w) A (pyNext (.ref it)) Q E s := by
  obtain ⟨o, ho, hc, hd⟩ := id x
  obtain ⟨oS, hoS, _, hdS, hfS⟩ := id y
  obtain ⟨oT, kT, hoT, hdT⟩ := z
  unfold pyNext
  refine wpAny_bind (wpAny_attempt (wpAny_callSpecial?_slot (name := Str.ofString "__next__") x.ty slot_si_next (wpAny_call_entry slot_si_next x.ty entry_si_next ?_ (args_si_next _))))
  unfold Builtin.«set_iterator.__next__»
  refine wpAny_bind (m := slotArgs "__next__" 0 _) (wpAny_pure (wpAny_bind (wpAny_fieldsOf ho hd ?_)))
  dsimp only
  refine wpAny_bind (wpAny_setEntries_of hoS hdS hfS ?_)
  rw [if_neg (by rw [hn]; simp)]
  dsimp only [Int.toNat_natCast]
  refine wpAny_bind (wpAny_seqItems hoT hdT ?_)
  have e0 : ((ps.map fun (i : Nat) => rawInt i).toArray)[i]? = none := by simp [hp]
  dsimp only
  rw [e0]
  dsimp only
  obtain ⟨o2, e2, c2, d2⟩ := SIt.set (j := 0) (v := rawInt 0) ho hc hd
  refine wpAny_bind (wpAny_setField ho hd (by simp) (wpAny_bind (wpAny_setField e2 d2 (by simp) ?_)))
  refine wpAny_bind ?_
  simp only [newExc, newTuple]
  refine wpAny_bind (wpAny_newObj_type ?_ (by size_fits))
  refine wpAny_bind (m := firstArgMember _ _) (wpAny_of_eq (a := Value.none) (by first | rfl | (simp only [firstArgMember]; rfl)) (wpAny_newObj_type ?_ (by size_fits)))
  simp only [raiseNew]
  refine wpAny_bind (wpAny_handled ?_)
  rw [show A.in1.handled = none from hh]
  refine wpAny_bind (m := pure _) (wpAny_pure (wpAny_throw ?_))
  refine wpAny_bind (m := isInstance _ _) (wpAny_isInstance (T := "StopIteration") (b := true) ⟨_, Heap.get?_push_size _ rfl, rfl⟩ isSubtype_stop ?_)
  exact wpAny_pure (h _ ((((Heap.SameBut.update ..).trans (Heap.SameBut.update ..)).extBut.push _).push _))
end
end L2


/-! ### a set gone through: in which order -/
namespace L2
open PySem PySem.Spec PyProof.Rows
theorem take_out {α : Type} : ∀ {l : List α} {i : Nat} (h : i < l.length), (l[i] :: l.eraseIdx i).Perm l
  | _ :: _, 0, _ => .refl _
  | x :: l, i + 1, h => (List.Perm.swap x (l[i]'(Nat.lt_of_succ_lt_succ h)) (l.eraseIdx i)).trans ((take_out (Nat.lt_of_succ_lt_succ h)).cons x)
theorem pick_go {α : Type} (next : Nat → Nat) : ∀ (fuel k : Nat) (left : List α) (out : Array α), left.length = fuel → (pickOrder.go next fuel k left out).toList.Perm (out.toList ++ left)
  | 0, _, left, out, hl => by
    obtain rfl := List.length_eq_zero_iff.mp hl
    rw [List.append_nil]
    exact .refl _
  | fuel + 1, k, left, out, hl => by
    have lt : next k % left.length < left.length := Nat.mod_lt _ (by omega)
    unfold pickOrder.go
    rw [List.getElem?_eq_getElem lt]
    dsimp only
    have ih := pick_go next fuel (k + 1) (left.eraseIdx (next k % left.length)) (out.push left[next k % left.length]) (by rw [List.length_eraseIdx_of_lt lt, hl]; rfl)
    refine ih.trans ?_
    rw [Array.toList_push, List.append_assoc]
    exact List.Perm.append_left _ (take_out lt)
theorem pick_perm {α : Type} (next : Nat → Nat) (xs : Array α) : (pickOrder next xs).toList.Perm xs.toList := by
  have := pick_go next xs.size 0 xs.toList #[] (by simp)
  simpa [pickOrder] using this
section
variable {P : Program} {w : World} {A : Around} {E : Value → Shared → Prop} {s : Shared}
theorem ite_no {α : Type} {c : Prop} [Decidable c] {m1 m2 : Sem α} {Q : α → Shared → Prop} (h : ¬ c) (q : wpAny (model P w) A m2 Q E s) : wpAny (model P w) A (if c then m1 else m2) Q E s := by
  rw [if_neg h]
  exact q
theorem choose_any {n : Nat} {src : Source} {Q : Nat → Shared → Prop} (hn : n ≠ 0) (h : ∀ i d, i < n → Q i { s with drawn := d }) : wpAny (model P w) A (choose src n) Q E s := fun _ _ _ => ⟨hn, h _ _ (Nat.mod_lt _ (Nat.pos_of_ne_zero hn))⟩
theorem draw_perm {α : Type} : ∀ (n : Nat) (xs : List α) (s : Shared) (Q : List α → Shared → Prop), xs.length = n → (∀ ys d, ys.Perm xs → Q ys { s with drawn := d }) → wpAny (model P w) A (drawOrder n xs) Q E s
  | 0, xs, s, Q, hl, h => by
    obtain rfl := List.length_eq_zero_iff.mp hl
    exact wpAny_pure (h [] s.drawn (.refl _))
  | n + 1, [], s, Q, hl, h => by cases hl
  | n + 1, x :: xs, s, Q, hl, h => by
    unfold drawOrder
    refine wpAny_bind (choose_any (by simp) fun i d lt => ?_)
    rw [List.getElem?_eq_getElem lt]
    dsimp only
    refine wpAny_bind (draw_perm n _ _ _ (by rw [List.length_eraseIdx_of_lt lt, hl]; rfl) fun ys d' p => ?_)
    exact wpAny_pure (h _ d' ((p.cons _).trans (take_out lt)))
theorem by_text {Q : Bool → Shared → Prop} (h : Q (byT w) s) : wpAny (model P w) A setsByText Q E s := by
  unfold setsByText
  exact wpAny_bind (wpAny_askSetting (wpAny_pure h))
theorem next_text {S : Addr} {es : Array (Int × Value)} {ep i a : Nat} {t : SetTable} {Q : Option (Value × Nat) → Shared → Prop} (ht : byT w = true) (y : SAt s.heap S es ep t)
    (q : Q ((pickOrder (w.params.setOrder S ep) es)[i]?.map fun e => (e.2, a)) s) : wpAny (model P w) A (setNext S a i ep) Q E s := by
  obtain ⟨o, ho, _, hd, hf⟩ := y
  unfold setNext
  refine wpAny_bind (wpAny_setState_of ho hd hf (wpAny_bind (by_text ?_)))
  rw [ht]
  dsimp only
  rw [if_pos rfl, if_neg (by simp)]
  refine wpAny_bind ?_
  unfold setWalk
  refine wpAny_bind (wpAny_setState_of ho hd hf (wpAny_bind (by_text ?_)))
  rw [ht, if_pos rfl]
  exact wpAny_bind (wpAny_askSetting (wpAny_pure (wpAny_pure q)))
theorem next_place {S : Addr} {es : Array (Int × Value)} {ep i a : Nat} {t : SetTable} {Q : Option (Value × Nat) → Shared → Prop} (ht : byT w = false) (y : SAt s.heap S es ep t) (np : (!t.plain && decide (es.size > 1)) = false) (led : t.led = true)
    (q : Q (match es[SetTable.below t.place a]?, t.place[SetTable.below t.place a]? with | some (_, x), some j => some (x, j + 1) | _, _ => none) s) : wpAny (model P w) A (setNext S a i ep) Q E s := by
  obtain ⟨o, ho, _, hd, hf⟩ := y
  unfold setNext
  refine wpAny_bind (wpAny_setState_of ho hd hf (wpAny_bind (by_text ?_)))
  rw [ht]
  dsimp only
  rw [if_neg (by simp)]
  refine ite_no (fun z => absurd (show (!t.plain && decide (es.size > 1)) = true from z) (by rw [np]; simp)) ?_
  exact wpAny_bind (ite_no (fun z => absurd (show (!t.led && !es.isEmpty) = true from z) (by rw [led]; simp)) (wpAny_pure (wpAny_pure q)))
theorem walk_slots {it S : Addr} {n ep : Nat} {es : Array (Int × Value)} {t : SetTable} {sl : Nat → Nat} {order : List Value} (hn : es.size = n) (ne : S ≠ it) (hh : A.handled = none) (ol : order.length = n)
    (st : ∀ i v, order[i]? = some v → ∀ (s : Shared) (A : Around) (E : Value → Shared → Prop) (Q : Option (Value × Nat) → Shared → Prop), SAt s.heap S es ep t → Q (some (v, sl (i + 1))) s → wpAny (model P w) A (setNext S (sl i) i ep) Q E s)
    (en : ∀ (s : Shared) (A : Around) (E : Value → Shared → Prop) (Q : Option (Value × Nat) → Shared → Prop), SAt s.heap S es ep t → Q none s → wpAny (model P w) A (setNext S (sl n) n ep) Q E s) :
    WalksS P w A it [it, S] [it] (fun a b => b = a) n (fun i v => order[i]? = some v) (fun i s => SIt s.heap it S (.int (sl i) 0) i n ep ∧ SAt s.heap S es ep t) where
  sub := fun b hb => by rw [List.mem_singleton.mp hb]; exact List.mem_cons_self
  grefl := fun _ => rfl
  gtrans := fun _ _ _ x y => y.trans x
  frame := fun i s h' tk x _ k => ⟨x.1.at fun o e => k it List.mem_cons_self o e, x.2.at fun o e => k S (List.mem_cons_of_mem _ (List.mem_singleton.mpr rfl)) o e⟩
  item := fun i s Q E hi x q => by
    have e := List.getElem?_eq_getElem (l := order) (i := i) (by omega)
    refine si_slot x.1 x.2 hn (fun A E Q q => st i _ e s A E Q x.2 q) fun h' sb x' => ?_
    exact q _ _ e ⟨x', x.2.at fun o e => (sb.2 S ne).trans e⟩ ⟨fun b o nb e => (sb.2 b fun z => nb (List.mem_singleton.mpr z)).trans e, rfl, rfl, rfl, Nat.le_refl _⟩
  done := fun s Q E x q => si_end hh x.1 x.2 hn (fun A E Q q => en s A E Q x.2 q) fun h' xb => q _ ⟨fun b o nb e => xb b o (fun z => nb (List.mem_singleton.mpr z)) e, rfl, rfl, rfl, Nat.le_refl _⟩
  self := fun i s Q E x q => si_self x.1 q
theorem walk_drawn {it S tp : Addr} {n ep : Nat} {es : Array (Int × Value)} {t : SetTable} {ps : List Nat} {order : List Value} (hn : es.size = n) (ne : S ≠ it) (nt : tp ≠ it) (hh : A.handled = none) (pl : ps.length = n)
    (st : ∀ i, i < n → ∃ p e, ps[i]? = some p ∧ es[p]? = some e ∧ order[i]? = some e.2) :
    WalksS P w A it [it, S, tp] [it] (fun a b => b = a) n (fun i v => order[i]? = some v) (fun i s => SIt s.heap it S (.ref tp) i n ep ∧ SAt s.heap S es ep t ∧ PAt s.heap tp ps) where
  sub := fun b hb => by rw [List.mem_singleton.mp hb]; exact List.mem_cons_self
  grefl := fun _ => rfl
  gtrans := fun _ _ _ x y => y.trans x
  frame := fun i s h' tk x _ k => ⟨x.1.at fun o e => k it List.mem_cons_self o e, x.2.1.at fun o e => k S (List.mem_cons_of_mem _ List.mem_cons_self) o e, x.2.2.at fun o e => k tp (List.mem_cons_of_mem _ (List.mem_cons_of_mem _ List.mem_cons_self)) o e⟩
  item := fun i s Q E hi x q => by
    obtain ⟨p, e, e1, e2, e3⟩ := st i hi
    refine si_drawn x.1 x.2.1 x.2.2 hn e1 e2 fun h' sb x' => ?_
    exact q _ _ e3 ⟨x', x.2.1.at fun o e => (sb.2 S ne).trans e, x.2.2.at fun o e => (sb.2 tp nt).trans e⟩ ⟨fun b o nb e => (sb.2 b fun z => nb (List.mem_singleton.mpr z)).trans e, rfl, rfl, rfl, Nat.le_refl _⟩
  done := fun s Q E x q => si_drawn_end hh x.1 x.2.1 x.2.2 hn (by omega) fun h' xb => q _ ⟨fun b o nb e => xb b o (fun z => nb (List.mem_singleton.mpr z)) e, rfl, rfl, rfl, Nat.le_refl _⟩
  self := fun i s Q E x q => si_self x.1 q
/-- a walk through a set: what it gives, in some order -/
def WalkX (P : Program) (w : World) (s : Shared) (S it : Addr) (ds : List Key) (s' : Shared) : Prop :=
  ∃ (fp : List Addr) (St : Nat → Shared → Prop) (es : List (Int × Value)) (ks : List Key), EK P w es ks ∧ ks.Perm ds ∧ (∀ b ∈ fp, b = S ∨ s.heap.objs.size ≤ b) ∧ s.heap.objs.size ≤ it ∧ St 0 s' ∧
    (∀ A : Around, A.handled = none → WalksS P w A it fp [it] (fun a b => b = a) ds.length (fun i v => (es.map (·.2))[i]? = some v) St) ∧
    (∀ b o, s.heap.get? b = some o → s'.heap.get? b = some o) ∧ s'.gens = s.gens ∧ s'.os = s.os ∧ s'.toks = s.toks
theorem up_len {t : SetTable} {n : Nat} (h : t.fits n = true) : t.place.size = n := by
  unfold SetTable.fits at h
  rw [Bool.and_eq_true, beq_iff_eq] at h
  exact h.1
theorem iter_x {S : Addr} {ds : List Key} {Q : Value → Shared → Prop} (X : SetY P w s.heap S ds) (h : ∀ it s', WalkX P w s S it ds s' → Q (.ref it) s') : wpAny (model P w) A (pyIter (.ref S)) Q E s := by
  obtain ⟨o, es, ep, t, ks, ho, hex, hd, ek, pm, hb, hf, L, led⟩ := X
  have hn : es.size = ds.length := by rw [← Array.length_toList, ek.length, pm.length_eq]
  have hT : s.TypeIs (.ref S) "set" := ⟨o, ho, hex.1⟩
  have y : SAt s.heap S es ep t := ⟨o, ho, hex, hd, hf⟩
  have lt := Heap.lt_size ho
  refine wpAny_pyIter_slot hT F.slot_set_iter (wpAny_call_entry F.slot_set_iter hT entry_set_it ?_ (F.args_set_iter_1 _))
  unfold Builtin.«frozenset.__iter__» Builtin.Frozenset.slot0 Builtin.Frozenset.sizeOf
  refine wpAny_bind (m := _) (wpAny_bind (m := slotArgs "__iter__" 0 _) (wpAny_pure (wpAny_pure ?_)))
  refine wpAny_bind (wpAny_bind (wpAny_setEntries_of ho hd hf (wpAny_pure ?_)))
  have dr : ∀ (A : Around) (E : Value → Shared → Prop) (Q : Bool → Shared → Prop), Q (!byT w && (!t.plain && decide (es.size > 1))) s → wpAny (model P w) A (setDrawn S) Q E s := fun A E Q q => by
    unfold setDrawn
    exact wpAny_bind (wpAny_setState_of ho hd hf (wpAny_bind (by_text (wpAny_pure q))))
  refine wpAny_bind (dr _ _ _ ?_)
  have slots : ∀ (sl : Nat → Nat) (es' : List (Int × Value)) (ks' : List Key), EK P w es' ks' → ks'.Perm ds → sl 0 = 0 →
      (∀ i v, (es'.map (·.2))[i]? = some v → ∀ (s : Shared) (A : Around) (E : Value → Shared → Prop) (Q : Option (Value × Nat) → Shared → Prop), SAt s.heap S es ep t → Q (some (v, sl (i + 1))) s → wpAny (model P w) A (setNext S (sl i) i ep) Q E s) →
      (∀ (s : Shared) (A : Around) (E : Value → Shared → Prop) (Q : Option (Value × Nat) → Shared → Prop), SAt s.heap S es ep t → Q none s → wpAny (model P w) A (setNext S (sl ds.length) ds.length ep) Q E s) →
      Q (.ref s.heap.objs.size) { s with heap := s.heap.push { cls := .type "set_iterator", data := .fields #[rawInt 0, rawInt 0, .ref S, rawInt es.size, rawInt ep] } } := by
    intro sl es' ks' ek' pm' s0 st en
    have hl : (es'.map (·.2)).length = ds.length := by rw [List.length_map, ek'.length, pm'.length_eq]
    refine h _ _ ⟨_, _, es', ks', ek', pm', ?_, Nat.le_refl _, ⟨⟨_, Heap.get?_push_size _ rfl, rfl, ?_⟩, y.at fun o e => Heap.get?_push_of_some _ e⟩, fun A hh => walk_slots hn (Nat.ne_of_lt lt) hh hl st en, fun b o e => Heap.get?_push_of_some _ e, rfl, rfl, rfl⟩
    · intro b hb
      rcases List.mem_cons.mp hb with rfl | hb
      · exact .inr (Nat.le_refl _)
      · exact .inl (List.mem_singleton.mp hb)
    · rw [s0, hn]
      rfl
  cases bt : byT w with
  | true =>
    rw [Bool.not_true, Bool.false_and, if_neg Bool.false_ne_true]
    refine wpAny_bind (m := pure _) (wpAny_pure ?_)
    refine wpAny_bind (wpAny_setEpoch_of ho hd hf ?_)
    refine wpAny_bind (m := newFields _ _) ?_
    unfold newFields
    refine wpAny_newObj_type (wpAny_pure ⟨_, rfl, "set_iterator", _, ⟨_, Heap.get?_push_size _ rfl, rfl⟩, slot_si_next.lookup, ?_⟩)
    have pp := pick_perm (w.params.setOrder S ep) es
    obtain ⟨ks', p', ek'⟩ := ek.perm pp
    have pl : (pickOrder (w.params.setOrder S ep) es).size = ds.length := by rw [← Array.length_toList, pp.length_eq, Array.length_toList, hn]
    refine slots (fun _ => 0) _ ks' ek' (p'.trans pm) rfl (fun i v e s A E Q y q => next_text bt y ?_) (fun s A E Q y q => next_text bt y ?_)
    · rw [List.getElem?_map] at e
      obtain ⟨x, ex, rfl⟩ := Option.map_eq_some_iff.mp e
      rw [← Array.getElem?_toList, ex]
      exact q
    · rw [Array.getElem?_eq_none (by omega)]
      exact q
  | false =>
    rw [Bool.not_false, Bool.true_and]
    have ld : t.led = true := by rw [led, bt]; rfl
    cases np : (!t.plain && decide (es.size > 1)) with
    | false =>
      rw [if_neg Bool.false_ne_true]
      refine wpAny_bind (m := pure _) (wpAny_pure ?_)
      refine wpAny_bind (wpAny_setEpoch_of ho hd hf ?_)
      refine wpAny_bind (m := newFields _ _) ?_
      unfold newFields
      refine wpAny_newObj_type (wpAny_pure ⟨_, rfl, "set_iterator", _, ⟨_, Heap.get?_push_size _ rfl, rfl⟩, slot_si_next.lookup, ?_⟩)
      have pz := up_len hf
      have bl : ∀ i, i ≤ es.size → SetTable.below t.place (match i with | 0 => 0 | j + 1 => t.place.getD j 0 + 1) = i := fun i hi => by
        cases i with
        | zero => exact below_zero L
        | succ j => exact below_next L (by omega)
      refine slots (fun i => match i with | 0 => 0 | j + 1 => t.place.getD j 0 + 1) es.toList ks ek pm rfl (fun i v e s A E Q y q => next_place bt y np ld ?_) (fun s A E Q y q => next_place bt y np ld ?_)
      · rw [List.getElem?_map] at e
        obtain ⟨⟨hx, x⟩, ex, rfl⟩ := Option.map_eq_some_iff.mp e
        rw [Array.getElem?_toList] at ex
        have li : i < es.size := (Array.getElem?_eq_some_iff.mp ex).1
        have lp : i < t.place.size := by omega
        rw [bl i (Nat.le_of_lt li), ex, Array.getElem?_eq_getElem lp]
        dsimp only
        have eg : t.place.getD i 0 = t.place[i] := by simp [Array.getD, lp]
        rw [← eg]
        exact q
      · rw [bl ds.length (by omega), Array.getElem?_eq_none (by omega)]
        exact q
    | true =>
      rw [if_pos rfl]
      refine wpAny_bind (draw_perm es.size (List.range es.size) _ _ List.length_range fun ps d p => ?_)
      have pl : ps.length = ds.length := by rw [p.length_eq, List.length_range, hn]
      refine wpAny_bind (wpAny_newTuple ?_ (by rw [List.length_map, pl]; exact fits_of_scanBound (by omega)))
      have ho1 := Heap.get?_push_of_some { cls := .type "tuple", data := .seq (ps.map fun (i : Nat) => rawInt i).toArray } ho
      refine wpAny_bind (wpAny_setEpoch_of ho1 hd hf ?_)
      refine wpAny_bind (m := newFields _ _) ?_
      unfold newFields
      refine wpAny_newObj_type (wpAny_pure ⟨_, rfl, "set_iterator", _, ⟨_, Heap.get?_push_size _ rfl, rfl⟩, slot_si_next.lookup, ?_⟩)
      have pe : (ps.filterMap fun i => es[i]?).Perm es.toList := by
        have := p.filterMap fun i => es[i]?
        rwa [filterMap_getElem?_range] at this
      obtain ⟨ks', p', ek'⟩ := ek.perm pe
      have at1 : ∀ (q : List Nat) (i : Nat), (∀ x ∈ q, x < es.size) → i < q.length → ∃ x e, q[i]? = some x ∧ es[x]? = some e ∧ ((q.filterMap fun i => es[i]?).map (·.2))[i]? = some e.2 := by
        intro q
        induction q with
        | nil => exact fun i _ hi => absurd hi (Nat.not_lt_zero _)
        | cons x q ih =>
          intro i hq hi
          have ex := Array.getElem?_eq_getElem (hq x List.mem_cons_self)
          rw [List.filterMap_cons_some ex]
          cases i with
          | zero => exact ⟨x, _, rfl, ex, rfl⟩
          | succ i => exact ih i (fun y hy => hq y (List.mem_cons_of_mem _ hy)) (Nat.lt_of_succ_lt_succ hi)
      have lq : ∀ x ∈ ps, x < es.size := fun x hx => List.mem_range.mp (p.mem_iff.mp hx)
      refine h _ _ ⟨_, _, _, ks', ek', p'.trans pm, ?_, ?_, ⟨⟨_, Heap.get?_push_size _ rfl, rfl, ?_⟩, y.at fun o e => Heap.get?_push_of_some _ (Heap.get?_push_of_some _ e), ⟨_, _, Heap.get?_push_of_some _ (Heap.get?_push_size _ rfl), rfl⟩⟩, fun A hh => walk_drawn hn ?_ ?_ hh pl fun i hi => at1 ps i lq (by omega), fun b o e => Heap.get?_push_of_some _ (Heap.get?_push_of_some _ e), rfl, rfl, rfl⟩
      · intro b hb
        rcases List.mem_cons.mp hb with rfl | hb
        · exact .inr (by rw [Heap.size_push]; exact Nat.le_succ _)
        · rcases List.mem_cons.mp hb with rfl | hb
          · exact .inl rfl
          · rw [List.mem_singleton.mp hb]
            exact .inr (Nat.le_refl _)
      · rw [Heap.size_push]
        exact Nat.le_succ _
      · rw [Heap.size_push]
        exact Nat.ne_of_lt (Nat.lt_succ_of_lt lt)
      · rw [Heap.size_push]
        exact Nat.ne_of_lt (Nat.lt_succ_self _)
      · rw [hn]
        rfl
end
end L2


/-! ### sets made, filled, collected -/
namespace L2
open PySem PySem.Spec PyProof.Rows
section
variable {P : Program} {w : World} {A : Around} {E : Value → Shared → Prop} {s : Shared} {R : Result → Shared → Prop}
theorem fill_x {It S : Addr} {fp wr : List Addr} {ks : List Key} {Pv : Nat → Value → Prop} {St : Nat → Shared → Prop} (W : WalksS P w A.in1 It fp wr (fun a b => b = a) ks.length Pv St) (hS : S ∉ fp)
    (hv : ∀ i v, Pv i v → ∃ k, ks[i]? = some k ∧ (mixKind P w).is k v = true ∧ v.scannable = true) (hb : ks.length + 1 < scanBound) :
    ∀ (m i : Nat) (s : Shared), ks.length - i = m → i ≤ ks.length → St i s → SetX P w s.heap S (dd (ks.take i)) →
      (∀ s', Moved (S :: wr) (fun a b => b = a) s s' → SetX P w s'.heap S (dd ks) → R (.ok (.ret .none)) s') →
      codeAny (model P w) A (.builtin "set.update.loop" ⟨[.ref S, .ref It], []⟩) R s := by
  have sw : S ∉ wr := fun q => hS (W.sub _ q)
  have wider : ∀ b ∈ wr, b ∈ S :: wr := fun b q => List.mem_cons_of_mem _ q
  intro m
  induction m with
  | zero =>
    intro i s hm hi st X fin
    obtain rfl : i = ks.length := by omega
    refine codeAny_builtin PyProof.Rows.F.entry_set_update_loop ?_
    rw [Around.under_plainId PyProof.Rows.F.plain_set_update_loop _]
    refine wpAny_bind (m := pyNext (.ref It)) (W.done s _ _ st fun s' mv => ?_)
    rw [List.take_length] at X
    exact wpAny_pure (fin s' (mv.mono wider) (X.moved fun o e => mv.heap S o sw e))
  | succ m ih =>
    intro i s hm hi st X fin
    have lt : i < ks.length := by omega
    refine codeAny_builtin PyProof.Rows.F.entry_set_update_loop ?_
    rw [Around.under_plainId PyProof.Rows.F.plain_set_update_loop _]
    refine wpAny_bind (m := pyNext (.ref It)) (W.item i s _ _ lt st fun v s' hP st' mv => ?_)
    obtain ⟨k, hk, his, hsc⟩ := hv i v hP
    have X' := X.moved (fun o e => mv.heap S o sw e)
    refine wpAny_bind (m := holding [v] (setAdd S v)) (wpAny_holding ?_)
    unfold setAdd
    refine wpAny_holding (wpAny_bind ((mixKind P w).pyHash (k := k) his ?_))
    have room : (dd (ks.take i)).length + 1 < scanBound := by
      have h1 := dd_len (ks.take i)
      rw [List.length_take] at h1
      omega
    refine add_x (s := { s' with toks := s'.toks + 1 }) his hsc X' room fun _ h' sb X2 => ?_
    rw [← dd_take hk] at X2
    refine wpAny_pure ⟨plainId_quiet PyProof.Rows.F.plain_set_update_loop _, ih (i + 1) _ (by omega) lt (W.frame _ s' _ _ st' (Nat.le_succ _) fun b q o e => ?_) X2 fun s2 mv2 fin2 => ?_⟩
    · exact (sb.2 b fun (z : b = S) => hS (z ▸ q)).trans e
    · refine fin s2 (Moved.trans W.gtrans ((mv.mono wider).then_heap (Nat.le_succ _) fun b o q e => ?_) mv2) fin2
      exact (sb.2 b fun (z : b = S) => q (by rw [z]; exact List.mem_cons_self)).trans e
theorem fill_list {id : String} {S l : Addr} {its : Array Value} {ks : List Key} {Q : Unit → Shared → Prop} (hh : A.handled = none) (hS : s.heap.get? S = some (fr (!byT w))) (hl : s.heap.IsList l its) (hn : its.size = ks.length)
    (hv : ∀ (i : Nat) v, its[i]? = some v → ∃ k, ks[i]? = some k ∧ (mixKind P w).is k v = true ∧ v.scannable = true) (hb : ks.length + 1 < scanBound)
    (h : ∀ (h' : Heap) (tk : Nat), SetX P w h' S (dd ks) → (∀ b o, b ≠ S → s.heap.get? b = some o → h'.get? b = some o) → Q () { s with heap := h', toks := tk }) :
    wpAny (model P w) A (Builtin.Frozenset.updateFrom id S (.ref l)) Q E s := by
  obtain ⟨⟨_, od, _, osl⟩, ol, rfl, nl, rfl⟩ := hl
  have l1 : s.heap.IsList l its := ⟨_, ol, rfl, nl, rfl⟩
  have n1 := PySem.F.sub_list_set
  have n2 := PySem.F.sub_list_frozenset
  have n3 : (Value.type "list" == Value.type "dict") = false := rfl
  unfold Builtin.Frozenset.updateFrom
  generalize e : pyIter = I
  wp_walk
  subst e
  have lt := Heap.lt_size ol
  refine wpAny_pyIter_list l1 (wpAny_bind (wpAny_runValue ?_))
  have it := (Walks.list (prog := P) (w := w) (A := A.in1) hh s.heap.objs.size l (Nat.ne_of_lt lt) its).toS
  rw [hn] at it
  have sS : S < s.heap.objs.size := Heap.lt_size hS
  have sl : S ≠ l := fun z => by
    subst z
    have z2 : some (Value.type "set") = some (Value.type "list") := congrArg (Option.map Obj.cls) (hS.symm.trans ol)
    exact absurd z2 (by decide)
  refine fill_x it (fun q => ?_) hv hb _ 0 _ rfl (Nat.zero_le _) ⟨⟨_, Heap.get?_push_size _ rfl, rfl, rfl⟩, l1.push _⟩ ?_ ?_
  · rcases q with _ | ⟨_, _ | ⟨_, q⟩⟩
    · exact Nat.lt_irrefl _ sS
    · exact sl rfl
    · cases q
  · exact ⟨_, #[], 0, _, [], Heap.get?_push_of_some _ hS, ⟨rfl, rfl, rfl⟩, rfl, .nil, .refl _, by decide, by rfl, fresh_lit 0 0 _, rfl⟩
  · rintro ⟨h', g', d', tk', os'⟩ ⟨mv1, mv2, mv3, mv4⟩ fin
    dsimp only at mv1 mv2 mv3 mv4 fin
    subst mv2 mv3 mv4
    refine wpAny_pure (h _ _ fin fun b o nb e => mv1 b o (fun q => ?_) (Heap.get?_push_of_some _ e))
    have lb := Heap.lt_size e
    rcases q with _ | ⟨_, _ | ⟨_, q⟩⟩
    · exact nb rfl
    · exact Nat.lt_irrefl _ lb
    · cases q
/-- the first half of a call of set: an empty one, led as the world says -/
theorem new_x (a : Value) {Q : Value → Shared → Prop} (h : Q (.ref s.heap.objs.size) { s with heap := s.heap.push (fr (!byT w)) }) : codeAny (model P w) A (.call (.builtin "set.__new__") ⟨[.type "set", a], []⟩) (wants Q E) s := by
  refine codeAny_of_tree ?_
  show wpAny _ A.in1 (checkBuiltinCall "set.__new__" _ >>= fun _ => again (.builtin "set.__new__" ⟨[.type "set", a], []⟩)) _ _ s
  refine wpAny_bind (wpAny_of_eq (PySem.F.newCall_set_1 a) (wpAny_pure ⟨plainId_quiet PySem.F.plain_set_new _, codeAny_builtin PySem.F.entry_set_new ?_⟩))
  rw [Around.under_plainId PySem.F.plain_set_new _]
  unfold Builtin.«set.__new__» Builtin.Frozenset.newClass
  have hsub := sub_set_self
  obtain ⟨hp, g, d, tk, os⟩ := s
  dsimp only at h ⊢
  wp_walk
  refine wpAny_askSetting (wpAny_pure ?_)
  dsimp only
  unfold newObj
  exact wpAny_bind (wpAny_alloc (wpAny_pure (wpAny_pure h)))
theorem made_x {l : Addr} {its : Array Value} {ks : List Key} {Q : Value → Shared → Prop} (hh : A.handled = none) (hl : s.heap.IsList l its) (hn : its.size = ks.length)
    (hv : ∀ (i : Nat) v, its[i]? = some v → ∃ k, ks[i]? = some k ∧ (mixKind P w).is k v = true ∧ v.scannable = true) (hb : ks.length + 1 < scanBound)
    (h : ∀ (h' : Heap) (tk : Nat), SetX P w h' s.heap.objs.size (dd ks) → (∀ b o, s.heap.get? b = some o → h'.get? b = some o) → Q (.ref s.heap.objs.size) { s with heap := h', toks := tk }) :
    wpAny (model P w) A (call (.type "set") [.ref l]) Q E s := by
  refine made_by PySem.F.called_set (PySem.F.typeCall_set_1 _) (new_x _ (Q := fun v s1 => v = .ref s.heap.objs.size ∧ s1 = { s with heap := s.heap.push (fr (!byT w)) }) ⟨rfl, rfl⟩) ?_
  rintro _ _ ⟨rfl, rfl⟩
  have at0 : (s.heap.push (fr (!byT w))).get? s.heap.objs.size = some (fr (!byT w)) := Heap.get?_push_size _ rfl
  have ty : Shared.TypeIs { s with heap := s.heap.push (fr (!byT w)) } (.ref s.heap.objs.size) "set" := ⟨_, at0, rfl⟩
  refine ⟨ty, codeAny_call_builtin PySem.F.called_set.init.plain PySem.F.entry_set_init (check_set_init_1 ty ?_)⟩
  unfold Builtin.«set.__init__» noKeywords
  generalize e : @Builtin.Frozenset.updateFrom = U
  wp_walk
  subst e
  refine fill_list (by simp [hh]) at0 (hl.push _) hn hv hb fun h' tk fin kp' => ?_
  exact wpAny_pure ⟨rfl, h h' tk fin fun b o e => kp' b o (Nat.ne_of_lt (Heap.lt_size e)) (Heap.get?_push_of_some _ e)⟩
theorem hint_set {r : Addr} {Q : Bool → Shared → Prop} (hT : s.TypeIs (.ref r) "set") (h : Q false s) : wpAny (model P w) A (Builtin.List.listLengthHint (.ref r)) Q E s := by
  unfold Builtin.List.listLengthHint
  refine wpAny_bind (wpAny_specialOf hT PySem.F.slot_set_len.lookup ?_)
  have sp : splitId "set.__len__" = some ("set", "__len__") := by decide +kernel
  simp only [sp]
  refine wpAny_bind (wpAny_isInstance (T := "set") (b := true) hT (by rw [isSubtype_type]; kernel_rfl) ?_)
  rw [if_neg (by decide)]
  first
  | rw [if_pos (by decide +kernel)]
  | rw [if_pos (by rfl)]
  refine wpAny_bind (wpAny_typeOf hT ?_)
  exact wpAny_pure h
theorem ite_ok {α : Type} {c : Prop} [Decidable c] {m1 m2 : Sem α} {Q : α → Shared → Prop} (h : c) (q : wpAny (model P w) A m1 Q E s) : wpAny (model P w) A (if c then m1 else m2) Q E s := by
  rw [if_pos h]
  exact q
theorem collect_x {S : Addr} {ds : List Key} {Q : List Value → Shared → Prop} (hh : A.handled = none) (X : SetY P w s.heap S ds) (hn : ds.length ≤ sizeLine)
    (h : ∀ (s' : Shared) (es : List (Int × Value)) (ks : List Key), EK P w es ks → ks.Perm ds → (∀ b o, s.heap.get? b = some o → s'.heap.get? b = some o) → s.heap.objs.size < s'.heap.objs.size → s'.gens = s.gens → s'.os = s.os → Q (es.map (·.2)) s') : wpAny (model P w) A (collect (.ref S)) Q E s := by
  have tS : s.TypeIs (.ref S) "set" := by
    obtain ⟨o, _, _, _, _, ho, hex, _⟩ := X
    exact ⟨o, ho, hex.1⟩
  have lS : S < s.heap.objs.size := by
    obtain ⟨o, _, _, _, _, ho, _⟩ := X
    exact Heap.lt_size ho
  have at0 : (s.heap.push { cls := .type "list", data := .seq #[] }).get? s.heap.objs.size = some { cls := .type "list", data := .seq #[] } := Heap.get?_push_size _ rfl
  have X1 : SetY P w (s.heap.push { cls := .type "list", data := .seq #[] }) S ds := X.moved fun o e => Heap.get?_push_of_some _ e
  have t1 : Shared.TypeIs { s with heap := s.heap.push { cls := .type "list", data := .seq #[] } } (.ref S) "set" := by
    obtain ⟨o, _, _, _, _, ho, hex, _⟩ := X1
    exact ⟨o, ho, hex.1⟩
  unfold collect
  refine wpAny_bind (wpAny_runValue (code_by entry_proto_collect' PySem.F.plain_proto_collect (wpAny_bind (m := newList []) (wpAny_newList (wpAny_pure ⟨plainId_quiet PySem.F.plain_list_iadd _, code_by entry_list_iadd' PySem.F.plain_list_iadd ?_⟩) (Nat.zero_le _)))))
  show wpAny _ _ (Builtin.List.listExtendWith (.ref s.heap.objs.size) (.ref S) (.ref s.heap.objs.size)) _ _ _
  unfold Builtin.List.listExtendWith
  have ns : Builtin.List.listSameRef (.ref s.heap.objs.size) (.ref S) = false := by simp [Builtin.List.listSameRef, Nat.ne_of_gt lS]
  refine wpAny_bind (wpAny_typeOf t1 ?_)
  rw [ns]
  refine wpAny_bind (iter_x (s := { s with heap := s.heap.push { cls := .type "list", data := .seq #[] } }) X1 fun it s1 ⟨fp, St, es, ks, ek, pm, hfp, hit, st, W, kp1, g1, o1, k1⟩ => ?_)
  have t2 : s1.TypeIs (.ref S) "set" := by
    obtain ⟨o, _, _, _, _, ho, hex, _⟩ := X1
    exact ⟨o, kp1 _ _ ho, hex.1⟩
  refine wpAny_bind (wpAny_holding (hint_set t2 ?_))
  have L1 := kp1 _ _ at0
  have nf : s.heap.objs.size ∉ fp := fun q => by
    rcases hfp _ q with e | e
    · rw [e] at lS
      exact Nat.lt_irrefl _ lS
    · rw [Heap.size_push] at e
      exact Nat.not_succ_le_self _ e
  have ni : s.heap.objs.size < it := by
    rw [Heap.size_push] at hit
    exact hit
  refine ite_ok (by decide +kernel) (wpAny_bind (wpAny_rule (wpAny_bind ?_)))
  show wpAny _ _ (updateSeq s.heap.objs.size (·.push .none) >>= fun _ => updateSeq s.heap.objs.size (·.pop)) _ _ _
  refine wpAny_bind (wpAny_updateSeq L1 rfl ?_)
  have L2 := Heap.get?_update_self (Obj.mapSeq (·.push Value.none)) L1 rfl
  refine wpAny_updateSeq (hz := by seq_fits) L2 rfl ?_
  have L3 := Heap.get?_update_self (Obj.mapSeq (·.pop)) L2 rfl
  have W1 := W A.in1 (by simpa using hh)
  have keep : ∀ b o, b ≠ s.heap.objs.size → s1.heap.get? b = some o → ((s1.heap.update s.heap.objs.size (Obj.mapSeq (·.push Value.none))).update s.heap.objs.size (Obj.mapSeq (·.pop))).get? b = some o := fun b o nb e => (Heap.get?_update_other _ _ (Ne.symm nb)).trans ((Heap.get?_update_other _ _ (Ne.symm nb)).trans e)
  refine wpAny_pure ⟨plainId_quiet PySem.F.plain_extend_loop _, codeAny_extend_loopS W1 hn _ nf _ ds.length 0 _ _ _ rfl (Nat.zero_le _) (W1.frame 0 s1 _ s1.toks st (Nat.le_refl _) fun b hb o e => keep b o (fun z => nf (z ▸ hb)) e) L3 (ItemsOf.nil _) fun s' acc c mv hS' hacc => ?_⟩
  have ea : acc.toList = es.map (·.2) := by
    apply List.ext_getElem?
    intro j
    have ls : (es.map (·.2)).length = ds.length := by rw [List.length_map, ek.length, pm.length_eq]
    by_cases lj : j < acc.size
    · have e := Array.getElem?_eq_getElem lj
      rw [Array.getElem?_toList, e, hacc.2 j _ e]
    · rw [List.getElem?_eq_none (by rw [Array.length_toList]; omega), List.getElem?_eq_none (by rw [ls, ← hacc.1]; omega)]
  refine wpAny_bind (wpAny_load hS' (wpAny_pure ?_))
  rw [ea]
  refine h s' es ks ek pm (fun b o e => ?_) (Heap.lt_size hS') (mv.gens.trans g1) (mv.os.trans o1)
  have lb := Heap.lt_size e
  refine mv.heap b o (fun q => ?_) (keep b o (Nat.ne_of_lt lb) (kp1 _ _ (Heap.get?_push_of_some _ e)))
  rcases List.mem_cons.mp q with z | z
  · exact Nat.ne_of_lt lb z
  · exact Nat.ne_of_lt (Nat.lt_trans lb ni) (List.mem_singleton.mp z)
end
end L2


/-! ### set(xs), len, sorted of it -/
namespace L2
open PySem PySem.Spec PyProof.Rows
/-- a set that can be gone through, in the heap -/
abbrev SetXO (P : Program) (w : World) (a : Addr) (ds : List Key) : HO := .ext fun h => SetY P w h a ds
/-- texts, each once, as they come -/
def ddS (ws : List Str) : List Str := ws.foldl (fun acc w => if w ∈ acc then acc else acc ++ [w]) []
def ddI (ns : List Int) : List Int := ns.foldl (fun acc w => if w ∈ acc then acc else acc ++ [w]) []
theorem dd_of {α : Type} [DecidableEq α] (f : α → Key) (inj : ∀ x y, f x = f y → x = y) : ∀ (ws acc : List α), (ws.map f).foldl addK (acc.map f) = (ws.foldl (fun acc w => if w ∈ acc then acc else acc ++ [w]) acc).map f
  | [], acc => rfl
  | x :: ws, acc => by
    rw [List.map_cons, List.foldl_cons, List.foldl_cons]
    have m : memK (acc.map f) (f x) = true ↔ x ∈ acc := by
      rw [memK_iff, List.mem_map]
      exact ⟨fun ⟨y, hy, e⟩ => inj _ _ e ▸ hy, fun h => ⟨x, h, rfl⟩⟩
    by_cases h : x ∈ acc
    · have e : addK (acc.map f) (f x) = acc.map f := by unfold addK; rw [if_pos (m.mpr h)]
      rw [e, if_pos h]
      exact dd_of f inj ws acc
    · have e : addK (acc.map f) (f x) = (acc ++ [x]).map f := by unfold addK; rw [if_neg (fun z => h (m.mp z)), List.map_append]; rfl
      rw [e, if_neg h]
      exact dd_of f inj ws _
theorem dd_strs (ws : List Str) : dd (ws.map Sum.inr) = (ddS ws).map Sum.inr := dd_of Sum.inr (fun _ _ e => Sum.inr.inj e) ws []
/-- what comes out of putting in one by one -/
theorem once_mem {α : Type} [DecidableEq α] {x : α} : ∀ (ws acc : List α), x ∈ ws.foldl (fun acc w => if w ∈ acc then acc else acc ++ [w]) acc ↔ x ∈ acc ∨ x ∈ ws
  | [], acc => by simp
  | y :: ws, acc => by
    rw [List.foldl_cons, once_mem ws, List.mem_cons]
    by_cases h : y ∈ acc
    · rw [if_pos h]
      exact ⟨fun z => z.elim .inl fun z => .inr (.inr z), fun z => z.elim .inl fun z => z.elim (fun e => .inl (e ▸ h)) .inr⟩
    · rw [if_neg h, List.mem_append, List.mem_singleton, or_assoc]
theorem once_nodup {α : Type} [DecidableEq α] : ∀ (ws acc : List α), acc.Nodup → (ws.foldl (fun acc w => if w ∈ acc then acc else acc ++ [w]) acc).Nodup
  | [], acc, h => h
  | y :: ws, acc, h => by
    rw [List.foldl_cons]
    refine once_nodup ws _ ?_
    split
    · exact h
    · rename_i n
      rw [List.nodup_append]
      exact ⟨h, List.nodup_cons.mpr ⟨List.not_mem_nil, List.nodup_nil⟩, fun a ha b hb e => n (by rw [List.mem_singleton.mp hb] at e; rw [← e]; exact ha)⟩
theorem once_same {α : Type} [DecidableEq α] : ∀ (ws acc : List α), (acc ++ ws).Nodup → ws.foldl (fun acc w => if w ∈ acc then acc else acc ++ [w]) acc = acc ++ ws
  | [], acc, _ => (List.append_nil _).symm
  | y :: ws, acc, h => by
    have n : y ∉ acc := fun z => (List.nodup_append.mp h).2.2 y z y List.mem_cons_self rfl
    rw [List.foldl_cons, if_neg n, once_same ws _ (by rw [List.append_assoc]; exact h), List.append_assoc]
    rfl
theorem once_len {α : Type} [DecidableEq α] : ∀ (ws acc : List α), (ws.foldl (fun acc w => if w ∈ acc then acc else acc ++ [w]) acc).length ≤ acc.length + ws.length
  | [], acc => Nat.le_refl _
  | y :: ws, acc => by
    rw [List.foldl_cons, List.length_cons]
    have h := once_len ws (if y ∈ acc then acc else acc ++ [y])
    have h2 : (if y ∈ acc then acc else acc ++ [y]).length ≤ acc.length + 1 := by
      split
      · exact Nat.le_succ _
      · rw [List.length_append]; exact Nat.le_refl _
    omega
theorem ddS_mem {x : Str} {ws : List Str} : x ∈ ddS ws ↔ x ∈ ws := (once_mem ws []).trans ⟨fun z => z.elim (fun z => (by cases z)) id, .inr⟩
theorem ddS_nodup (ws : List Str) : (ddS ws).Nodup := once_nodup ws [] List.nodup_nil
theorem ddS_same {ws : List Str} (h : ws.Nodup) : ddS ws = ws := once_same ws [] h
theorem ddS_len (ws : List Str) : (ddS ws).length ≤ ws.length := by have := once_len ws []; rwa [List.length_nil, Nat.zero_add] at this
def getS : Key → Option Str
  | .inr x => some x
  | .inl _ => none
def getI : Key → Option Int
  | .inl x => some x
  | .inr _ => none
theorem perm_strs {ks : List Key} {ws : List Str} (p : ks.Perm (ws.map Sum.inr)) : ∃ vs : List Str, ks = vs.map Sum.inr ∧ vs.Perm ws := by
  have key : ∀ k ∈ ks, ∃ x, k = Sum.inr x := fun k hk => by
    obtain ⟨x, _, e⟩ := List.mem_map.mp (p.mem_iff.mp hk)
    exact ⟨x, e.symm⟩
  have e : ks = (ks.filterMap getS).map Sum.inr := by
    clear p
    induction ks with
    | nil => rfl
    | cons k ks ih =>
      obtain ⟨x, rfl⟩ := key k List.mem_cons_self
      rw [show List.filterMap getS (Sum.inr x :: ks) = x :: List.filterMap getS ks from rfl, List.map_cons, ← ih fun k hk => key k (List.mem_cons_of_mem _ hk)]
  refine ⟨_, e, ?_⟩
  have q := p.filterMap getS
  rw [List.filterMap_map] at q
  have e2 : ws.filterMap (getS ∘ Sum.inr) = ws := List.filterMap_some
  rwa [e2] at q
section
variable {P : Program} {w : World}
theorem EK.strs : ∀ {ws : List Str} {es : List (Int × Value)}, EK P w es (ws.map Sum.inr) → StrsAre (es.map (·.2)) ws
  | [], _, h => by cases h; exact .nil
  | x :: ws, _, h => by
    cases h with
    | cons h1 h2 h =>
      rcases keyIs_shape (show keyIs (Sum.inr x) _ = true from h1) with ⟨i, t, e, _⟩ | ⟨y, t, e, rfl⟩
      · cases e
      · cases e
        exact .cons x t (EK.strs h)
end
theorem Inv.other {X : Cx} {pins : List (Addr × Obj)} {σ : St} {H : Hp} {s : Shared} (I : Inv X pins σ H s) (d : Drawn) : Inv X pins σ H { s with drawn := d } := ⟨I.ok, I.os, I.bare, I.base, I.loc, I.cell, I.free, I.freeC, I.pin, I.hok, I.len⟩
section
variable {X : Cx}
theorem call_setX (hc : X.calm = true) : CallR X (.type "set") (fun xs H Q => ∃ (p : Addr) (ks : List Key), xs = [.ref p] ∧ SqL X.K H p (ks.map kV) ∧ ks.length ≤ 4000 ∧ ∀ q, H q = none → Q (.ref q) (upd H q (SetXO X.prog X.w q (dd ks)))) := by
  intro pins s σ H xs us Q I r h
  obtain ⟨p, ks, rfl, hp, hz, q⟩ := h
  obtain ⟨u, rfl, ru⟩ := vals1 r
  cases ru
  obtain ⟨its, rv, pl, _⟩ := I.list hp
  have hl := rv.length
  rw [List.length_map] at hl
  refine made_x (ks := ks) (I.ok.hd hc) pl.isList (by simp [← hl]) (fun i v e => vals_keys rv (by simpa using e)) (by unfold scanBound; omega) fun h' tk set kp => ?_
  refine ⟨.ref s.heap.objs.size, _, I.laid (t' := tk) (o := SetXO X.prog X.w s.heap.objs.size (dd ks)) kp (Nat.le_refl _) ?_, rfl, q _ (I.hok.fresh (Nat.le_refl _))⟩
  refine ⟨set.y, ?_, fun h1 h2 a b => SetY.moved a b⟩
  obtain ⟨o, _, _, _, _, e, _⟩ := set
  exact ⟨o, e⟩
theorem call_setS (hc : X.calm = true) : CallR X (.type "set") (fun xs H Q => ∃ (p : Addr) (ws : List Str), xs = [.ref p] ∧ SqL X.K H p (ws.map V.str) ∧ ws.length ≤ 4000 ∧ ∀ q, H q = none → Q (.ref q) (upd H q (SetXO X.prog X.w q ((ddS ws).map Sum.inr)))) := by
  intro pins s σ H xs us Q I r h
  obtain ⟨p, ws, rfl, hp, hz, q⟩ := h
  refine call_setX hc pins s σ H _ us Q I r ⟨p, ws.map Sum.inr, rfl, ?_, by rw [List.length_map]; exact hz, fun y hy => ?_⟩
  · rw [List.map_map]
    exact hp
  · rw [dd_strs]
    exact q y hy
theorem call_sortedSS (hc : X.calm = true) : CallR X (.builtin "sorted") (fun xs H Q => ∃ (p : Addr) (ws : List Str), xs = [.ref p] ∧ H p = some (SetXO X.prog X.w p (ws.map Sum.inr)) ∧ ws.length < 64 ∧ ∀ (q : Addr) (ws' : List Str), H q = none → ws'.Perm ws → sortedS ws' = true → Q (.ref q) (upd H q (.lst (ws'.map V.str)))) := by
  intro pins s σ H xs us Q I r h
  obtain ⟨p, ws, rfl, hp, h64, q⟩ := h
  obtain ⟨u, rfl, ru⟩ := vals1 r
  cases ru
  obtain ⟨sx, _⟩ := I.hok p _ hp
  refine Calls.call_function_entry kind_sorted plain_sorted entry_sorted (args_sorted1 _) ?_
  unfold Builtin.«sorted»
  refine wpAny_bind (m := checkCount _ _ _ _) (wpAny_pure (wpAny_bind (collect_x (A := X.A.in1) (I.ok.hd hc) sx (by rw [List.length_map]; exact szB (by omega)) fun s' es ks ek pm kp' hz hg ho => ?_)))
  obtain ⟨vs, rfl, pv⟩ := perm_strs pm
  have hS := ek.strs
  have la : (es.map (·.2)).length = vs.length := by rw [List.length_map, ek.length, List.length_map]
  have lv := pv.length_eq
  obtain ⟨h', g', d', tk, os'⟩ := s'
  dsimp only at kp' hz hg ho
  subst hg ho
  have I2 := I.other d'
  refine wpAny_bind (wpAny_newList ?_ (by rw [la]; exact szB (by omega)))
  have hL : (h'.push (seqObj "list" (es.map (·.2)).toArray 0)).get? h'.objs.size = some (seqObj "list" (es.map (·.2)).toArray 0) := Heap.get?_push_size _ rfl
  have hz := Nat.le_of_lt hz
  refine wpAny_bind (wpAny_holding (wpAny_call_entry slot_list_sort ⟨_, hL, rfl⟩ entry_list_sort (list_sort_treeK strKind_oneLt hL hS.keysOf (fun a b rest e => keyKind_strs (by rw [← e]; exact hS)) (by omega) fun st' a1 a2 => ⟨_, rfl, ?_⟩) (args_list_sort _)))
  obtain ⟨ws', b1, b2, b3⟩ := sorted_out_str hS a1 a2
  obtain ⟨n, en⟩ := sortedHeap_at (out := (arrOf st').map (·.2)) hL
  refine wpAny_pure ⟨_, rfl, .ref h'.objs.size, _, I2.laid (t' := tk) (o := .lst (ws'.map V.str)) (fun b o e => ?_) hz ⟨?_, _, n, of_strs b1, ?_⟩, rfl, q _ ws' (I.hok.fresh hz) (b2.trans pv) b3⟩
  · have lt := Heap.lt_size (kp' b o e)
    rw [sortedHeap_old (Nat.ne_of_lt lt) (by rw [Heap.size_push]; exact Nat.lt_succ_of_lt lt)]
    exact Heap.get?_push_of_some _ (kp' b o e)
  · rw [List.length_map, b2.length_eq, lv]
    exact szB (by omega)
  · rw [Array.toArray_toList]
    exact en
end
end L2

/-! ### sorted(set(..)) of keys of one kind -/
namespace L2
open PySem PySem.Spec PyProof.Rows
/-- texts alone, or whole numbers alone -/
def Kin (ds : List Key) : Prop := (∃ ws : List Str, ds = ws.map Sum.inr) ∨ (∃ ns : List Int, ds = ns.map Sum.inl)
def SrtK (fs : List Key) : Prop := (∃ ws : List Str, fs = ws.map Sum.inr ∧ sortedS ws = true) ∨ (∃ ns : List Int, fs = ns.map Sum.inl ∧ ns.Pairwise (· ≤ ·))
end L2

/-! ### classes that inherit; str(x) -/
namespace L2
open PySem PySem.Spec PyProof.Rows
section
variable {X : Cx}
/-- isinstance(x, C), C an own class -/
theorem call_isiO : CallR X (.builtin "isinstance") (fun xs H Q => ∃ x c t b, xs = [x, .ref c] ∧ TyOf X.K H x t ∧ PySem.W.kitOne X.K t (.ref c) = some b ∧ Q (.bl b) H) := by
  intro pins s σ H xs us Q I r h
  obtain ⟨x, c, t, b, rfl, ty, e, q⟩ := h
  obtain ⟨u, w', rfl, r1, r2⟩ := vals2 r
  cases r2
  exact isinst_ok I r1 ty e fun tk => ⟨.bl b, H, I.tok tk, rfl, q⟩
/-- a function read from its class -/
structure ClsC (K : PySem.W.Frag) (C : Addr) (m : Str) (f : Addr) : Prop where
  sg : PySem.W.specialIn K (.ref C) "__getattribute__" = some (some (.builtin "type.__getattribute__"))
  rd : PySem.W.readsIn K C (.type "type") = true
  fc : PySem.W.findCls K (.ref C) (.type "type") m = some (.val (.ref f))
  kp : PySem.W.keepIn K (.ref f) = true
variable {CX : CXT} {k k1 k2 : Nat} {f f1 f2 C C1 C2 : Addr} {fd fd1 fd2 : FuncData} {ps ps1 ps2 : List Str} {sp sp1 sp2 : Sp} {E : XK} {m : Str} {pos apos : Pos} {e o : Expr} {es : List Expr} {ta : TE} {t : TA}
/-- C.m(self, ..) -/
def tClsM (C : Addr) (sp : Sp) (E : XK) (ta : TE) (t : TA) : TE := fun σ H Q => ta σ H fun x H1 => x = .ref C ∧ t σ H1 fun vs H2 => sp vs H2 Q E
theorem pe_clsc {pl : Sem Bool} (he : PE X o ta) (c : ClsC X.K C m f) (F : FnOk X.prog X.w X.K X.mg X.base CX k f fd ps sp) (hr : Room k X.A) (hb : Binds X.K fd ps []) (hx : Passes CX X E) (ha : PA X (e :: es) t)
    (hst : starEach (e :: es) X.env = (false, eval e X.env) :: starEach es X.env := by rfl) (hpl : (backTo pos (starEach es X.env)).any (·.1) = false := by rfl)
    (ht : eval (.Call (.Attribute o m apos) (e :: es) [] pos) X.env = (do
      let ov ← eval o X.env
      standAt apos.atName
      let (f, first) ← holding [ov] (getMethod ov m pl)
      callWith pos f first (backTo pos (starEach (e :: es) X.env)) (backToKw pos (keywordEach [] X.env))) := by rfl) :
    PE X (.Call (.Attribute o m apos) (e :: es) [] pos) (tClsM C sp E ta t) := by
  intro pins s σ H Q I h
  refine PySem.W.methodCall_KW (pl := pl) (thn (he pins s σ H _ I h) fun u s1 ⟨x, H1, I1, rx, ex, q⟩ => ?_) ht
  subst ex
  obtain rfl : u = Value.ref C := rx
  refine PySem.W.method_cls I1.kIn c.sg (PySem.W.cls_value I1.kIn c.rd c.fc rfl ?_)
  refine PySem.W.callWith_K (first := []) (h₀ := X.base) I.ok.mod.kin c.kp (thn (ha pos pins _ σ H1 _ (I1.tok _) q) fun us s2 ⟨vs, H2, I3, r, q2⟩ => ⟨I3.kIn, ?_⟩) hst hpl
  exact run_fn (us := us) (vs := vs) (dvs := []) (ds := []) F hr hb .nil hx I3 r (by rw [List.append_nil]; exact q2)
/-- o.m(..), o of the one or of the other class -/
def tMeth2 (C1 C2 : Addr) (m : Str) (sp1 sp2 : Sp) (E : XK) (ta : TE) (t : TA) : TE := fun σ H Q => ta σ H fun x H1 =>
  (∃ a dx fs, x = .ref a ∧ H1 a = some (.ins C1 dx fs) ∧ fs.lookup m = none ∧ t σ H1 fun vs H2 => sp1 (x :: vs) H2 Q E) ∨ (∃ a dx fs, x = .ref a ∧ H1 a = some (.ins C2 dx fs) ∧ fs.lookup m = none ∧ t σ H1 fun vs H2 => sp2 (x :: vs) H2 Q E)
theorem pe_meth2 {pl : Sem Bool} (he : PE X o ta) (c1 : Cls X.K C1) (m1 : Meth X.K C1 m f1) (F1 : FnOk X.prog X.w X.K X.mg X.base CX k1 f1 fd1 ps1 sp1) (hr1 : Room k1 X.A) (b1 : Binds X.K fd1 ps1 [])
    (c2 : Cls X.K C2) (m2 : Meth X.K C2 m f2) (F2 : FnOk X.prog X.w X.K X.mg X.base CX k2 f2 fd2 ps2 sp2) (hr2 : Room k2 X.A) (b2 : Binds X.K fd2 ps2 []) (hx : Passes CX X E) (ha : PA X (e :: es) t)
    (hst : starEach (e :: es) X.env = (false, eval e X.env) :: starEach es X.env := by rfl) (hpl : (backTo pos (starEach es X.env)).any (·.1) = false := by rfl)
    (ht : eval (.Call (.Attribute o m apos) (e :: es) [] pos) X.env = (do
      let ov ← eval o X.env
      standAt apos.atName
      let (f, first) ← holding [ov] (getMethod ov m pl)
      callWith pos f first (backTo pos (starEach (e :: es) X.env)) (backToKw pos (keywordEach [] X.env))) := by rfl) :
    PE X (.Call (.Attribute o m apos) (e :: es) [] pos) (tMeth2 C1 C2 m sp1 sp2 E ta t) := by
  intro pins s σ H Q I h
  refine PySem.W.methodCall_KW (pl := pl) (thn (he pins s σ H _ I h) fun u s1 ⟨x, H1, I1, rx, hq⟩ => ?_) ht
  rcases hq with ⟨a, dx, fs, ex, ea, l, q⟩ | ⟨a, dx, fs, ex, ea, l, q⟩ <;> subst ex <;> obtain rfl : u = Value.ref a := rx
  · refine getmeth_ok I1 ea c1 m1 l ?_
    refine PySem.W.callWith_K (first := [.ref a]) (h₀ := X.base) I.ok.mod.kin m1.kp (thn (ha pos pins s1 σ H1 _ I1 q) fun us s2 ⟨vs, H2, I2, r, q2⟩ => ⟨I2.kIn, ?_⟩) hst hpl
    exact run_fn (us := .ref a :: us) (vs := .ref a :: vs) (dvs := []) (ds := []) F1 hr1 b1 .nil hx I2 (.cons rfl r) (by rw [List.append_nil]; exact q2)
  · refine getmeth_ok I1 ea c2 m2 l ?_
    refine PySem.W.callWith_K (first := [.ref a]) (h₀ := X.base) I.ok.mod.kin m2.kp (thn (ha pos pins s1 σ H1 _ I1 q) fun us s2 ⟨vs, H2, I2, r, q2⟩ => ⟨I2.kIn, ?_⟩) hst hpl
    exact run_fn (us := .ref a :: us) (vs := .ref a :: vs) (dvs := []) (ds := []) F2 hr2 b2 .nil hx I2 (.cons rfl r) (by rw [List.append_nil]; exact q2)
theorem pe_meth20 {pl : Sem Bool} (he : PE X o ta) (c1 : Cls X.K C1) (m1 : Meth X.K C1 m f1) (F1 : FnOk X.prog X.w X.K X.mg X.base CX k1 f1 fd1 ps1 sp1) (hr1 : Room k1 X.A) (b1 : Binds X.K fd1 ps1 [])
    (c2 : Cls X.K C2) (m2 : Meth X.K C2 m f2) (F2 : FnOk X.prog X.w X.K X.mg X.base CX k2 f2 fd2 ps2 sp2) (hr2 : Room k2 X.A) (b2 : Binds X.K fd2 ps2 []) (hx : Passes CX X E)
    (ht : eval (.Call (.Attribute o m apos) [] [] pos) X.env = (do
      let ov ← eval o X.env
      standAt apos.atName
      let (f, first) ← holding [ov] (getMethod ov m pl)
      callWith pos f first (backTo pos (starEach [] X.env)) (backToKw pos (keywordEach [] X.env))) := by rfl) :
    PE X (.Call (.Attribute o m apos) [] [] pos) (tMeth2 C1 C2 m sp1 sp2 E ta tNil) := by
  intro pins s σ H Q I h
  refine PySem.W.methodCall_KW (pl := pl) (thn (he pins s σ H _ I h) fun u s1 ⟨x, H1, I1, rx, hq⟩ => ?_) ht
  rcases hq with ⟨a, dx, fs, ex, ea, l, q⟩ | ⟨a, dx, fs, ex, ea, l, q⟩ <;> subst ex <;> obtain rfl : u = Value.ref a := rx
  · refine getmeth_ok I1 ea c1 m1 l ?_
    exact PySem.W.callWith_K0 (first := [.ref a]) I1.kIn m1.kp (run_fn (us := [.ref a]) (vs := [.ref a]) (dvs := []) (ds := []) F1 hr1 b1 .nil hx I1 (.cons rfl .nil) q)
  · refine getmeth_ok I1 ea c2 m2 l ?_
    exact PySem.W.callWith_K0 (first := [.ref a]) I1.kIn m2.kp (run_fn (us := [.ref a]) (vs := [.ref a]) (dvs := []) (ds := []) F2 hr2 b2 .nil hx I1 (.cons rfl .nil) q)
end
end L2
/-! ### f-strings, to the letter -/
namespace L2
open PySem PySem.Spec PyProof.Rows
abbrev TFx := Str → St → Hp → VK → Prop
section
variable {X : Cx}
/-- the parts of an f-string behind what is joined so far -/
def PFx (X : Cx) (es : List Expr) (t : TFx) : Prop :=
  ∀ (out : Str) (pins : List (Addr × Obj)) (s : Shared) (σ : St) (H : Hp) (Q : VK), Inv X pins σ H s → t out σ H Q → wpAny (model X.prog X.w) X.A (joinParts out (evalEach es X.env)) (EP X pins σ Q) X.xe s
def xNil : TFx := fun out _ H Q => out.length ≤ sizeLine ∧ Q (.str out) H
def xLit (c : Str) (t : TFx) : TFx := fun out σ H Q => (out ++ c).length ≤ sizeLine ∧ t (out ++ c) σ H Q
def xStr (te : TE) (t : TFx) : TFx := fun out σ H Q => te σ H fun v H1 => ∃ x, v = .str x ∧ x.length ≤ sizeLine ∧ (out ++ x).length ≤ sizeLine ∧ t (out ++ x) σ H1 Q
end
end L2
namespace L2
open PySem
end L2

/-! ### sorting by a strict order: the outcome rises -/
namespace L2
open PySem PySem.Spec PyProof.Rows PySem.W
def ev {α : Type} (lt : Nat → Nat → Bool) : KasT α → α
  | .ret a => a
  | .ask i j k => ev lt (k (lt i j))
/-- a strict order of the numbers below n -/
structure Sto (n : Nat) (lt : Nat → Nat → Bool) : Prop where
  tr : ∀ i j k, lt i j = true → lt j k = true → lt i k = true
  irr : ∀ i, lt i i = false
  tot : ∀ i j, i < n → j < n → i ≠ j → lt i j = true ∨ lt j i = true
section
variable {n : Nat} {lt : Nat → Nat → Bool}
/-- the first k rise -/
def Up (lt : Nat → Nat → Bool) (p : Array Nat) (k : Nat) : Prop := ∀ i j, i < j → j < k → lt (p.getD i 0) (p.getD j 0) = true
def Dn (lt : Nat → Nat → Bool) (p : Array Nat) (k : Nat) : Prop := ∀ i j, i < j → j < k → lt (p.getD j 0) (p.getD i 0) = true
end
end L2

/-! ### sorted of pairs of texts whose firsts differ -/
namespace L2
open PySem PySem.Spec PyProof.Rows PySem.W
section
variable {prog : Program} {w : World} {A : Around} {E : Value → Shared → Prop} {s : Shared}
/-- an order of places, and the list so ordered -/
def OutBy (lt : Nat → Nat → Bool) (vs : List Value) (out : Array Value) (p : Array Nat) : Prop := Pm vs.length p ∧ Up lt p vs.length ∧ out.toList = p.toList.map fun i => vs.getD i Value.none
/-- the order of texts by their numbers -/
def ltBy (ws : List Str) (i j : Nat) : Bool := decide ((ws.getD i Str.empty).cps.toList < (ws.getD j Str.empty).cps.toList)
/-- the pairs as they lie, with their firsts -/
def PairsW (h : Heap) (vs : List Value) (ws : List Str) : Prop := vs.length = ws.length ∧ ∀ (i : Nat) (v : Value), vs[i]? = some v → ∃ a o n x y t u, ws[i]? = some x ∧ v = .ref a ∧ h.get? a = some o ∧ o.cls = .type "tuple" ∧ o.data = .seq #[.str x t, .str y u] n
end
section
variable {X : Cx}
end
end L2

/-! ### for k, v in d.items(), for v in d.values() -/
namespace L2
open PySem PySem.Spec PyProof.Rows
theorem KV.at {kvs : List (Key × V)} {vs : List (Key × Value)} (h : KV kvs vs) {i : Nat} {k : Key} {u : Value} (e : vs[i]? = some (k, u)) : ∃ x, kvs[i]? = some (k, x) ∧ RelV x u := by
  induction h generalizing i with
  | nil => cases i <;> cases e
  | @cons p q _ _ a _ ih =>
    cases i with
    | zero =>
      obtain rfl : q = (k, u) := Option.some.inj e
      refine ⟨p.2, ?_, a.2⟩
      show some p = some (k, p.2)
      rw [← show p.1 = k from a.1]
    | succ i => exact ih e
/-- a dict's pairs, one by one -/
def Iti (P : Program) (w : World) (a : Addr) (kvs : List (Key × V)) (ep : Nat) : It :=
  ⟨fun i H => H a = some (FzD P w a kvs ep) ∧ i < kvs.length, fun i H v H' => ∃ T k x, H T = none ∧ v = .ref T ∧ kvs[i]? = some (k, x) ∧ H' = upd H T (.tup [kV k, x]), fun i H => H a = some (FzD P w a kvs ep) ∧ kvs.length ≤ i⟩
theorem entry_ii : entryFor table "dict_itemiterator.__iter__" = some Builtin.«dict_keyiterator.__iter__» := entryFor_alias (id' := "dict_keyiterator.__iter__") (by kernel_rfl) rfl (by decide +kernel) (by kernel_rfl)
theorem turn_items {P : Program} {w : World} {K : PySem.W.Frag} {elts : List Expr} {kk : Nat} {pos : Pos} (a it : Addr) (kvs : List (Key × V)) (ep : Nat) :
    Turn P w K (.Tuple elts kk pos) (Iti P w a kvs ep) [it] it (fun i h => ∃ ok ov, IsItemIter h it a i kvs.length ep ok ov) where
  mem := List.mem_singleton.mpr rfl
  obj := fun i h st b hb => by
    obtain rfl := List.mem_singleton.mp hb
    obtain ⟨ok, ov, e⟩ := st
    exact ⟨_, e, fun v z => by cases z⟩
  keep := fun i h h' st k => by
    obtain ⟨ok, ov, e⟩ := st
    exact ⟨ok, ov, k it (List.mem_singleton.mpr rfl) _ e⟩
  item := by
    intro X hP hw hK hc i pins s σ H E I hf st hg
    subst hP hw hK
    obtain ⟨e, hi⟩ := hg
    obtain ⟨⟨vs, rel, da, lo⟩, _, _⟩ := I.hok a _ e
    have hl := KV.length rel
    obtain ⟨ok, ov, st⟩ := st
    rw [hl] at st
    obtain ⟨⟨k, u⟩, hx⟩ : ∃ p, vs[i]? = some p := ⟨_, List.getElem?_eq_getElem (by omega)⟩
    obtain ⟨x, hkx, rx⟩ := KV.at rel hx
    obtain ⟨f0, f1, f2, f3, f4, f5⟩ := hf it (List.mem_singleton.mpr rfl)
    refine wpAny_pyNext_items_item st da hx fun key h' hkey a1 a2 a3 a4 => ?_
    refine ⟨_, rfl, wpAny_letOwnedTupleGo_items (s := { s with heap := h' }) a1 fun h2 st' sb => ?_⟩
    have I1 : Inv X pins σ H { s with heap := h' } := I.turned (t' := s.toks) (fun b o hb e => a4 b o hb e) f0 f1 f3 f4 f5
    have hT0 := I.hok.fresh (Nat.le_refl s.heap.objs.size)
    have fT : FpOk X pins H s.heap.objs.size := I.fpOk (Nat.le_refl _) hT0
    have I2 : Inv X pins σ (upd H s.heap.objs.size (.tup [kV k, x])) { s with heap := h' } := I1.track fT I.sz ⟨(show 2 ≤ sizeLine from sz), [key, u], .cons (key_rel hkey) (.cons rx .nil), ⟨_, a2, rfl, _, rfl⟩⟩
    have ne' : it ≠ s.heap.objs.size := fun q => absurd (Heap.lt_size st) (by rw [q]; exact Nat.lt_irrefl _)
    refine ⟨.ref s.heap.objs.size, _, I2.turned (t' := s.toks) (fun c o hc e => (sb.2 c hc).trans e) (by rw [upd_ne ne']; exact f0) f1 f3 f4 f5, rfl, ⟨_, k, x, hT0, rfl, hkx, rfl⟩, ⟨_, _, by rw [hl]; exact st'⟩, fun c hc => ?_⟩
    obtain rfl := List.mem_singleton.mp hc
    rw [upd_ne ne']
    exact f0
  done := by
    intro X hP hw hK hc i pins s σ H E I hf st hg
    subst hP hw hK
    obtain ⟨e, hi⟩ := hg
    obtain ⟨⟨vs, rel, da, lo⟩, _, _⟩ := I.hok a _ e
    have hl := KV.length rel
    obtain ⟨ok, ov, st⟩ := st
    rw [hl] at st
    obtain ⟨f0, f1, f2, f3, f4, f5⟩ := hf it (List.mem_singleton.mpr rfl)
    exact wpAny_pyNext_items_end (I.ok.hd hc) st da (List.getElem?_eq_none (by omega)) fun h' eb => ⟨rfl, I.turned (t' := s.toks) (fun b o hb e => eb b o hb e) f0 f1 f3 f4 f5⟩
  self := fun A i s Q E st h => by
    obtain ⟨ok, ov, e⟩ := st
    have ty : s.TypeIs (.ref it) "dict_itemiterator" := ⟨_, e, rfl⟩
    refine wpAny_pyIter_slot ty PySem.F.slot_dict_itemiterator_iter (wpAny_call_entry PySem.F.slot_dict_itemiterator_iter ty entry_ii ?_ (PySem.F.args_dict_itemiterator_iter_1 _))
    show wpAny _ _ (ret (.ref it)) _ _ s
    exact wpAny_pure ⟨_, rfl, "dict_itemiterator", _, ty, PySem.F.slot_dict_itemiterator_next.lookup, h⟩
/-- a dict's values, one by one -/
def Itw (P : Program) (w : World) (a : Addr) (kvs : List (Key × V)) (ep : Nat) : It :=
  ⟨fun i H => H a = some (FzD P w a kvs ep) ∧ i < kvs.length, fun i H v H' => H' = H ∧ ∃ k, kvs[i]? = some (k, v), fun i H => H a = some (FzD P w a kvs ep) ∧ kvs.length ≤ i⟩
section
variable {X : Cx}
/-- a dict, walked before or not -/
def iDict (P : Program) (w : World) (J : Addr → List (Key × V) → Nat → It) (tl : TE) : TI := fun σ H R => tl σ H fun x H1 => ∃ a kvs, x = .ref a ∧ ((H1 a = some (.dK kvs) ∧ ∀ ep, R (J a kvs ep) (upd H1 a (FzD P w a kvs ep))) ∨ ∃ ep, H1 a = some (FzD P w a kvs ep) ∧ R (J a kvs ep) H1)
theorem pi_items {elts : List Expr} {kk : Nat} {tpos : Pos} {l : Expr} {tl : TE} {apos pos : Pos} (hl : PE X l tl) (hb : attributeBase l "items" X.env (eval l X.env) = eval l X.env) (hn : (apos.endLine == pos.line) = true) :
    PI X (.Tuple elts kk tpos) (.Call (.Attribute l "items" apos) [] [] pos) (iDict X.prog X.w (Iti X.prog X.w) tl) := by
  intro pins s σ H R I h
  refine wpAny_Call_method (T := "dict") (id := "dict.items") hb rfl hn PySem.F.plainAttrs_dict PySem.F.slot_dict_items PySem.F.type_dict_items (thn (hl pins s σ H _ I h) fun v s1 ⟨x, H1, I1, r1, q1⟩ => ?_)
  obtain ⟨a, kvs, e, q⟩ := q1
  subst e
  cases r1
  have fin : ∀ (ep : Nat) (H2 : Hp), Inv X pins σ H2 s1 → H2 a = some (FzD X.prog X.w a kvs ep) → R (Iti X.prog X.w a kvs ep) H2 →
      s1.TypeIs (.ref a) "dict" ∧ (∀ b, Value.ref a = .ref b → ∃ ob, s1.heap.get? b = some ob ∧ ob.dict = none) ∧ wpAny (model X.prog X.w) X.A (callWith pos (.builtin "dict.items") [.ref a] [] []) (fun v s2 => wpAny (model X.prog X.w) X.A (pyIter v) (PIE X pins σ (.Tuple elts kk tpos) R) X.xe s2) X.xe s1 := by
    intro ep H2 I2 hq r
    obtain ⟨⟨vs, rel, da, lo⟩, _, _⟩ := I2.hok a _ hq
    refine ⟨da.dictOf.typeIs, da.dictOf.mapOf.noDict, ?_⟩
    refine method_meetsIn PySem.F.slot_dict_items PySem.F.entry_dict_items rfl (PySem.evalArgs_none ⟨rfl, da.dictOf.typeIs, PySem.F.args_dict_items_1 _, _, meets_dict_items (mixKind X.prog X.w) a lo, ⟨vs, da.dictOf⟩, ?_⟩)
    refine wpAny_pyIter_items (knd := mixKind X.prog X.w) ⟨_, Heap.get?_push_size _ rfl, rfl, rfl⟩ (da.push _) ?_
    have k2 : ∀ b o, s1.heap.get? b = some o → ((s1.heap.push { cls := .type "dict_items", data := .fields #[.ref a] }).push { cls := .type "dict_itemiterator", data := .fields #[.none, .bool false, .ref a, .int 0 0, .int vs.length 0, .int ep 0, .none, .none] }).get? b = some o := fun b o e => Heap.get?_push_of_some _ (Heap.get?_push_of_some _ e)
    refine ⟨_, _, _, _, H2, rfl, I2.kept (t' := s1.toks) k2, turn_items a _ kvs ep, ⟨.none, .none, ?_⟩, fun b hb => ?_, r⟩
    · rw [KV.length rel]
      exact Heap.get?_push_size _ rfl
    · obtain rfl := List.mem_singleton.mp hb
      have le : s1.heap.objs.size ≤ (s1.heap.push { cls := .type "dict_items", data := .fields #[.ref a] }).objs.size := by rw [Heap.size_push]; exact Nat.le_succ _
      exact I2.fpOk le (I2.hok.fresh le)
  rcases q with ⟨hq, q⟩ | ⟨ep, hq, q⟩
  · obtain ⟨ep, vs, rel, da, lo, I2⟩ := I1.freeze hq
    exact fin ep _ I2 upd_same (q ep)
  · exact fin ep H1 I1 hq q
/-- a comprehension over the pairs -/
theorem lc_items {P : Program} {w : World} {a : Addr} {kvs : List (Key × V)} {ep : Nat} {ts : List Str} {js : List Nat} {g : TG} {tc : TT} {te : TE} {σ : St} {H : Hp} {Q : VK} (Pv : Nat → List V → Hp → Prop) (h0 : Pv 0 [] H) (hl : ∀ i ys H, i ≤ kvs.length → Pv i ys H → H a = some (FzD P w a kvs ep) ∧ ys.length < sizeLine)
    (hs : ∀ i k x T ys H, kvs[i]? = some (k, x) → Pv i ys H → H T = none → g (.ref T) (lcS ts js σ) (upd H T (.tup [kV k, x])) fun σ2 H2 => SubS (lcS ts js σ) σ2 ∧ tc σ2 H2 fun b H3 => if b = true then te σ2 H3 fun y H4 => i + 1 ≤ kvs.length ∧ Pv (i + 1) (ys ++ [y]) H4 else i + 1 ≤ kvs.length ∧ Pv (i + 1) ys H3)
    (hd : ∀ ys H, Pv kvs.length ys H → ∀ p, H p = none → Q (.ref p) (upd H p (.lst ys))) : LcW (Iti P w a kvs ep) ts js g tc te σ H Q := by
  refine ⟨fun i ys H => i ≤ kvs.length ∧ Pv i ys H, kvs.length, ⟨Nat.zero_le _, h0⟩, fun i ys H ⟨hi, p⟩ => ?_⟩
  obtain ⟨hf, hz⟩ := hl i ys H hi p
  by_cases e : i = kvs.length
  · rw [e] at p ⊢
    exact .inl ⟨⟨hf, Nat.le_refl _⟩, hd ys H p⟩
  · have hlt : i < kvs.length := Nat.lt_of_le_of_ne hi e
    refine .inr ⟨hlt, ⟨hf, hlt⟩, hz, fun x H' y => ?_⟩
    obtain ⟨T, k, x1, hT, rfl, hk, rfl⟩ := y
    exact hs i k x1 T ys H hk p hT
end
end L2

namespace Lw
open PySem L2
def top (i : Nat) : Stmt := PySem.Challenge.pw_prunepath_k42_answers_of_pruned_trees.main.body.getD i (.Pass ⟨0, 0, 0, 0⟩)
abbrev s_is_whole : Stmt := top 7
abbrev s_greatest_divisor : Stmt := top 9
abbrev s_ratio : Stmt := top 10
abbrev s_check_measure : Stmt := top 13
abbrev s_commonest : Stmt := top 14
abbrev s_all_rows : Stmt := top 15
abbrev s_misses : Stmt := top 16
abbrev s_shares : Stmt := top 17
abbrev s_mess : Stmt := top 18
abbrev s_says : Stmt := top 20
abbrev s_Node___init__ : Stmt := inClass (top 22) 0
abbrev s_Leaf_below : Stmt := inClass (top 23) 0
abbrev s_Leaf_leaves : Stmt := inClass (top 23) 1
abbrev s_Leaf_deep : Stmt := inClass (top 23) 2
abbrev s_Leaf_place_of : Stmt := inClass (top 23) 3
abbrev s_Fork_below : Stmt := inClass (top 24) 1
abbrev s_Fork_leaves : Stmt := inClass (top 24) 2
abbrev s_Fork_deep : Stmt := inClass (top 24) 3
abbrev s_Fork_place_of : Stmt := inClass (top 24) 4
abbrev s_Fork___init__ : Stmt := inClass (top 24) 0
abbrev s_Node_at : Stmt := inClass (top 22) 1
abbrev s_costed : Stmt := top 26
abbrev s_trees_by_place : Stmt := top 27
abbrev s_places_of : Stmt := top 28
abbrev s_ends : Stmt := top 29
abbrev s_beginnings : Stmt := top 31
abbrev s_is_pruning : Stmt := top 32
abbrev s_check_pruning : Stmt := top 33
abbrev s_answer_pruned : Stmt := top 35
abbrev s_answer : Stmt := top 36
abbrev s_law_cell : Stmt := top 38
abbrev s_law_next : Stmt := top 39
abbrev s_law_words : Stmt := top 40
abbrev s_law_counted : Stmt := top 41
abbrev s_law_question : Stmt := top 42
abbrev s_law_pile : Stmt := top 43
abbrev s_law_node : Stmt := top 44
abbrev s_law_drawn : Stmt := top 45
abbrev s_law_yes : Stmt := top 46
abbrev s_law_due : Stmt := top 47
abbrev s_law_refused : Stmt := top 48
abbrev s_law_by_base : Stmt := top 49
abbrev s_law_wrong : Stmt := top 50
abbrev s_law : Stmt := top 51
set_option genInjectivity false in
set_option genSizeOf false in
structure Tx (K : PySem.W.Frag) (mg : Str → Option Value) where
  c_PruneError : Addr
  m_PruneError : mg "PruneError" = some (.ref c_PruneError)
  c_NoRatio : Addr
  m_NoRatio : mg "NoRatio" = some (.ref c_NoRatio)
  x_NoRatio : Exc K mg "NoRatio" c_NoRatio
  i_NoRatio : ExcI K c_NoRatio
  c_NoMeasure : Addr
  m_NoMeasure : mg "NoMeasure" = some (.ref c_NoMeasure)
  x_NoMeasure : Exc K mg "NoMeasure" c_NoMeasure
  i_NoMeasure : ExcI K c_NoMeasure
  c_NoPlace : Addr
  m_NoPlace : mg "NoPlace" = some (.ref c_NoPlace)
  c_NoPruning : Addr
  m_NoPruning : mg "NoPruning" = some (.ref c_NoPruning)
  x_NoPruning : Exc K mg "NoPruning" c_NoPruning
  i_NoPruning : ExcI K c_NoPruning
  c_Node : Addr
  m_Node : mg "Node" = some (.ref c_Node)
  C_Node : Cls K c_Node
  c_Leaf : Addr
  m_Leaf : mg "Leaf" = some (.ref c_Leaf)
  C_Leaf : Cls K c_Leaf
  c_Fork : Addr
  m_Fork : mg "Fork" = some (.ref c_Fork)
  C_Fork : Cls K c_Fork
  f_is_whole : Addr
  d_is_whole : FuncData
  F_is_whole : Fun K "is_whole" "is_whole" s_is_whole f_is_whole d_is_whole
  b_is_whole : Binds K d_is_whole ["value"] []
  m_is_whole : mg "is_whole" = some (.ref f_is_whole)
  f_greatest_divisor : Addr
  d_greatest_divisor : FuncData
  F_greatest_divisor : Fun K "greatest_divisor" "greatest_divisor" s_greatest_divisor f_greatest_divisor d_greatest_divisor
  b_greatest_divisor : Binds K d_greatest_divisor ["one", "other"] []
  m_greatest_divisor : mg "greatest_divisor" = some (.ref f_greatest_divisor)
  f_ratio : Addr
  d_ratio : FuncData
  F_ratio : Fun K "ratio" "ratio" s_ratio f_ratio d_ratio
  b_ratio : Binds K d_ratio ["top", "bottom"] []
  m_ratio : mg "ratio" = some (.ref f_ratio)
  f_check_measure : Addr
  d_check_measure : FuncData
  F_check_measure : Fun K "check_measure" "check_measure" s_check_measure f_check_measure d_check_measure
  b_check_measure : Binds K d_check_measure ["measure"] []
  m_check_measure : mg "check_measure" = some (.ref f_check_measure)
  f_commonest : Addr
  d_commonest : FuncData
  F_commonest : Fun K "commonest" "commonest" s_commonest f_commonest d_commonest
  b_commonest : Binds K d_commonest ["counted"] []
  m_commonest : mg "commonest" = some (.ref f_commonest)
  f_all_rows : Addr
  d_all_rows : FuncData
  F_all_rows : Fun K "all_rows" "all_rows" s_all_rows f_all_rows d_all_rows
  b_all_rows : Binds K d_all_rows ["counted"] []
  m_all_rows : mg "all_rows" = some (.ref f_all_rows)
  f_misses : Addr
  d_misses : FuncData
  F_misses : Fun K "misses" "misses" s_misses f_misses d_misses
  b_misses : Binds K d_misses ["counted"] []
  m_misses : mg "misses" = some (.ref f_misses)
  f_shares : Addr
  d_shares : FuncData
  F_shares : Fun K "shares" "shares" s_shares f_shares d_shares
  b_shares : Binds K d_shares ["counted"] []
  m_shares : mg "shares" = some (.ref f_shares)
  f_mess : Addr
  d_mess : FuncData
  F_mess : Fun K "mess" "mess" s_mess f_mess d_mess
  b_mess : Binds K d_mess ["counted", "measure"] []
  m_mess : mg "mess" = some (.ref f_mess)
  f_says : Addr
  d_says : FuncData
  F_says : Fun K "says" "says" s_says f_says d_says
  b_says : Binds K d_says ["question", "values"] []
  m_says : mg "says" = some (.ref f_says)
  f_Node___init__ : Addr
  d_Node___init__ : FuncData
  F_Node___init__ : Fun K "__init__" "Node.__init__" s_Node___init__ f_Node___init__ d_Node___init__
  b_Node___init__ : Binds K d_Node___init__ ["self", "counted"] []
  M_Node : Mk K c_Node f_Node___init__
  f_Leaf_below : Addr
  d_Leaf_below : FuncData
  F_Leaf_below : Fun K "below" "Leaf.below" s_Leaf_below f_Leaf_below d_Leaf_below
  b_Leaf_below : Binds K d_Leaf_below ["self", "sign"] []
  M_Leaf_below : Meth K c_Leaf "below" f_Leaf_below
  f_Leaf_leaves : Addr
  d_Leaf_leaves : FuncData
  F_Leaf_leaves : Fun K "leaves" "Leaf.leaves" s_Leaf_leaves f_Leaf_leaves d_Leaf_leaves
  b_Leaf_leaves : Binds K d_Leaf_leaves ["self"] []
  M_Leaf_leaves : Meth K c_Leaf "leaves" f_Leaf_leaves
  f_Leaf_deep : Addr
  d_Leaf_deep : FuncData
  F_Leaf_deep : Fun K "deep" "Leaf.deep" s_Leaf_deep f_Leaf_deep d_Leaf_deep
  b_Leaf_deep : Binds K d_Leaf_deep ["self"] []
  M_Leaf_deep : Meth K c_Leaf "deep" f_Leaf_deep
  f_Leaf_place_of : Addr
  d_Leaf_place_of : FuncData
  F_Leaf_place_of : Fun K "place_of" "Leaf.place_of" s_Leaf_place_of f_Leaf_place_of d_Leaf_place_of
  b_Leaf_place_of : Binds K d_Leaf_place_of ["self", "values"] []
  M_Leaf_place_of : Meth K c_Leaf "place_of" f_Leaf_place_of
  f_Fork_below : Addr
  d_Fork_below : FuncData
  F_Fork_below : Fun K "below" "Fork.below" s_Fork_below f_Fork_below d_Fork_below
  b_Fork_below : Binds K d_Fork_below ["self", "sign"] []
  M_Fork_below : Meth K c_Fork "below" f_Fork_below
  f_Fork_leaves : Addr
  d_Fork_leaves : FuncData
  F_Fork_leaves : Fun K "leaves" "Fork.leaves" s_Fork_leaves f_Fork_leaves d_Fork_leaves
  b_Fork_leaves : Binds K d_Fork_leaves ["self"] []
  M_Fork_leaves : Meth K c_Fork "leaves" f_Fork_leaves
  f_Fork_deep : Addr
  d_Fork_deep : FuncData
  F_Fork_deep : Fun K "deep" "Fork.deep" s_Fork_deep f_Fork_deep d_Fork_deep
  b_Fork_deep : Binds K d_Fork_deep ["self"] []
  M_Fork_deep : Meth K c_Fork "deep" f_Fork_deep
  f_Fork_place_of : Addr
  d_Fork_place_of : FuncData
  F_Fork_place_of : Fun K "place_of" "Fork.place_of" s_Fork_place_of f_Fork_place_of d_Fork_place_of
  b_Fork_place_of : Binds K d_Fork_place_of ["self", "values"] []
  M_Fork_place_of : Meth K c_Fork "place_of" f_Fork_place_of
  f_Fork___init__ : Addr
  d_Fork___init__ : FuncData
  F_Fork___init__ : Fun K "__init__" "Fork.__init__" s_Fork___init__ f_Fork___init__ d_Fork___init__
  b_Fork___init__ : Binds K d_Fork___init__ ["self", "counted", "question", "yes", "no"] []
  M_Fork : Mk K c_Fork f_Fork___init__
  f_Node_at : Addr
  d_Node_at : FuncData
  F_Node_at : Fun K "at" "Node.at" s_Node_at f_Node_at d_Node_at
  b_Node_at : Binds K d_Node_at ["self", "place"] []
  M_Node_at : Meth K c_Node "at" f_Node_at
  f_costed : Addr
  d_costed : FuncData
  F_costed : Fun K "costed" "costed" s_costed f_costed d_costed
  b_costed : Binds K d_costed ["node", "measure"] []
  m_costed : mg "costed" = some (.ref f_costed)
  f_trees_by_place : Addr
  d_trees_by_place : FuncData
  F_trees_by_place : Fun K "trees_by_place" "trees_by_place" s_trees_by_place f_trees_by_place d_trees_by_place
  b_trees_by_place : Binds K d_trees_by_place ["tree"] []
  m_trees_by_place : mg "trees_by_place" = some (.ref f_trees_by_place)
  f_places_of : Addr
  d_places_of : FuncData
  F_places_of : Fun K "places_of" "places_of" s_places_of f_places_of d_places_of
  b_places_of : Binds K d_places_of ["tree", "sort"] []
  m_places_of : mg "places_of" = some (.ref f_places_of)
  f_ends : Addr
  d_ends : FuncData
  F_ends : Fun K "ends" "ends" s_ends f_ends d_ends
  b_ends : Binds K d_ends ["tree"] []
  m_ends : mg "ends" = some (.ref f_ends)
  f_beginnings : Addr
  d_beginnings : FuncData
  F_beginnings : Fun K "beginnings" "beginnings" s_beginnings f_beginnings d_beginnings
  b_beginnings : Binds K d_beginnings ["place", "places"] []
  m_beginnings : mg "beginnings" = some (.ref f_beginnings)
  f_is_pruning : Addr
  d_is_pruning : FuncData
  F_is_pruning : Fun K "is_pruning" "is_pruning" s_is_pruning f_is_pruning d_is_pruning
  b_is_pruning : Binds K d_is_pruning ["tree", "places"] []
  m_is_pruning : mg "is_pruning" = some (.ref f_is_pruning)
  f_check_pruning : Addr
  d_check_pruning : FuncData
  F_check_pruning : Fun K "check_pruning" "check_pruning" s_check_pruning f_check_pruning d_check_pruning
  b_check_pruning : Binds K d_check_pruning ["tree", "places"] []
  m_check_pruning : mg "check_pruning" = some (.ref f_check_pruning)
  f_answer_pruned : Addr
  d_answer_pruned : FuncData
  F_answer_pruned : Fun K "answer_pruned" "answer_pruned" s_answer_pruned f_answer_pruned d_answer_pruned
  b_answer_pruned : Binds K d_answer_pruned ["node", "places", "values"] []
  m_answer_pruned : mg "answer_pruned" = some (.ref f_answer_pruned)
  f_answer : Addr
  d_answer : FuncData
  F_answer : Fun K "answer" "answer" s_answer f_answer d_answer
  b_answer : Binds K d_answer ["node", "places", "values"] []
  m_answer : mg "answer" = some (.ref f_answer)
  f_law_cell : Addr
  d_law_cell : FuncData
  F_law_cell : Fun K "_law_cell" "_law_cell" s_law_cell f_law_cell d_law_cell
  b_law_cell : Binds K d_law_cell ["_law_script", "_law_k"] []
  m_law_cell : mg "_law_cell" = some (.ref f_law_cell)
  f_law_next : Addr
  d_law_next : FuncData
  F_law_next : Fun K "_law_next" "_law_next" s_law_next f_law_next d_law_next
  b_law_next : Binds K d_law_next ["_law_cell_here", "_law_k"] []
  m_law_next : mg "_law_next" = some (.ref f_law_next)
  f_law_words : Addr
  d_law_words : FuncData
  F_law_words : Fun K "_law_words" "_law_words" s_law_words f_law_words d_law_words
  b_law_words : Binds K d_law_words ["_law_cell_here"] []
  m_law_words : mg "_law_words" = some (.ref f_law_words)
  f_law_counted : Addr
  d_law_counted : FuncData
  F_law_counted : Fun K "_law_counted" "_law_counted" s_law_counted f_law_counted d_law_counted
  b_law_counted : Binds K d_law_counted ["_law_cell_here", "_law_words_here"] []
  m_law_counted : mg "_law_counted" = some (.ref f_law_counted)
  f_law_question : Addr
  d_law_question : FuncData
  F_law_question : Fun K "_law_question" "_law_question" s_law_question f_law_question d_law_question
  b_law_question : Binds K d_law_question ["_law_cell_here", "_law_words_here", "_law_scale"] []
  m_law_question : mg "_law_question" = some (.ref f_law_question)
  f_law_pile : Addr
  d_law_pile : FuncData
  F_law_pile : Fun K "_law_pile" "_law_pile" s_law_pile f_law_pile d_law_pile
  b_law_pile : Binds K d_law_pile ["_law_cells", "_law_words_here", "_law_scale"] []
  m_law_pile : mg "_law_pile" = some (.ref f_law_pile)
  f_law_node : Addr
  d_law_node : FuncData
  F_law_node : Fun K "_law_node" "_law_node" s_law_node f_law_node d_law_node
  b_law_node : Binds K d_law_node ["_law_tree"] []
  m_law_node : mg "_law_node" = some (.ref f_law_node)
  f_law_drawn : Addr
  d_law_drawn : FuncData
  F_law_drawn : Fun K "_law_drawn" "_law_drawn" s_law_drawn f_law_drawn d_law_drawn
  b_law_drawn : Binds K d_law_drawn ["_law_tree", "_law_place", "_law_cell_here"] []
  m_law_drawn : mg "_law_drawn" = some (.ref f_law_drawn)
  f_law_yes : Addr
  d_law_yes : FuncData
  F_law_yes : Fun K "_law_yes" "_law_yes" s_law_yes f_law_yes d_law_yes
  b_law_yes : Binds K d_law_yes ["_law_question_here", "_law_values"] []
  m_law_yes : mg "_law_yes" = some (.ref f_law_yes)
  f_law_due : Addr
  d_law_due : FuncData
  F_law_due : Fun K "_law_due" "_law_due" s_law_due f_law_due d_law_due
  b_law_due : Binds K d_law_due ["_law_tree", "_law_places", "_law_values"] []
  m_law_due : mg "_law_due" = some (.ref f_law_due)
  f_law_refused : Addr
  d_law_refused : FuncData
  F_law_refused : Fun K "_law_refused" "_law_refused" s_law_refused f_law_refused d_law_refused
  b_law_refused : Binds K d_law_refused ["_law_node_here", "_law_places", "_law_values"] []
  m_law_refused : mg "_law_refused" = some (.ref f_law_refused)
  f_law_by_base : Addr
  d_law_by_base : FuncData
  F_law_by_base : Fun K "_law_by_base" "_law_by_base" s_law_by_base f_law_by_base d_law_by_base
  b_law_by_base : Binds K d_law_by_base ["_law_node_here", "_law_places", "_law_values"] []
  m_law_by_base : mg "_law_by_base" = some (.ref f_law_by_base)
  f_law_wrong : Addr
  d_law_wrong : FuncData
  F_law_wrong : Fun K "_law_wrong" "_law_wrong" s_law_wrong f_law_wrong d_law_wrong
  b_law_wrong : Binds K d_law_wrong ["_law_places", "_law_cell_here"] []
  m_law_wrong : mg "_law_wrong" = some (.ref f_law_wrong)
  f_law : Addr
  d_law : FuncData
  F_law : Fun K "law" "law" s_law f_law d_law
  b_law : Binds K d_law ["_law_script"] []
  m_law : mg "law" = some (.ref f_law)
  M_Leaf : Mk K c_Leaf f_Node___init__
  M_Leaf_at : Meth K c_Leaf "at" f_Node_at
  M_Fork_at : Meth K c_Fork "at" f_Node_at
  cc_Node___init__ : ClsC K c_Node "__init__" f_Node___init__
  c_MEASURES : Addr
  m_MEASURES : mg "MEASURES" = some (.ref c_MEASURES)
  q_MEASURES : ∀ H, SqT K H c_MEASURES [.str "misses", .str "shares"]
  z_ValueError : mg "ValueError" = none
  z_abs : mg "abs" = none
  z_all : mg "all" = none
  z_bool : mg "bool" = none
  z_enumerate : mg "enumerate" = none
  z_int : mg "int" = none
  z_isinstance : mg "isinstance" = none
  z_len : mg "len" = none
  z_list : mg "list" = none
  z_max : mg "max" = none
  z_range : mg "range" = none
  z_set : mg "set" = none
  z_sorted : mg "sorted" = none
  z_str : mg "str" = none
  z_sum : mg "sum" = none
  t1 : PySem.W.exmOne K (.ref c_NoPruning) (.ref c_PruneError) = some true
  t3 : PySem.W.kitOne K (.ref c_NoPruning) (.type "ValueError") = some true
  t4 : PySem.W.exmOne K (.ref c_NoPruning) (.ref c_NoPruning) = some true
  nLc : PySem.W.findIn K (.ref c_Leaf) "counted" = some none
  nFcd : PySem.W.findIn K (.ref c_Fork) "counted" = some none
  nFqn : PySem.W.findIn K (.ref c_Fork) "question" = some none
  nFys : PySem.W.findIn K (.ref c_Fork) "yes" = some none
  nFno : PySem.W.findIn K (.ref c_Fork) "no" = some none
  nFlt : PySem.W.findIn K (.ref c_Fork) "leaf_count" = some none
  nFdh : PySem.W.findIn K (.ref c_Fork) "depth" = some none
  clL : PySem.W.findIn K (.ref c_Leaf) "__class__" = some (some (.builtin "object.__class__"))
  clF : PySem.W.findIn K (.ref c_Fork) "__class__" = some (some (.builtin "object.__class__"))
  ogt : PySem.W.specialIn K (.builtin "object.__class__") "__get__" = some (some (.builtin "getset_descriptor.__get__"))
  otk : PySem.W.takesIn K (.builtin "object.__class__") = some true
  omL : PySem.W.mroIn K c_Leaf (.type "object") = some true
  omF : PySem.W.mroIn K c_Fork (.type "object") = some true
  kLF : PySem.W.kitOne K (.ref c_Leaf) (.ref c_Fork) = some false
  kFF : PySem.W.kitOne K (.ref c_Fork) (.ref c_Fork) = some true
theorem sc_is_whole : FnScope ["value"] ["value"] (defScope s_is_whole) := ⟨rfl, rfl, rfl, by decide +kernel, rfl, by decide +kernel, by decide +kernel⟩
theorem sc_greatest_divisor : FnScope ["one", "other", "larger", "smaller", "rest"] ["one", "other"] (defScope s_greatest_divisor) := ⟨rfl, rfl, rfl, by decide +kernel, rfl, by decide +kernel, by decide +kernel⟩
theorem sc_ratio : FnScope ["top", "bottom", "divisor"] ["top", "bottom"] (defScope s_ratio) := ⟨rfl, rfl, rfl, by decide +kernel, rfl, by decide +kernel, by decide +kernel⟩
theorem sc_check_measure : FnScope ["measure"] ["measure"] (defScope s_check_measure) := ⟨rfl, rfl, rfl, by decide +kernel, rfl, by decide +kernel, by decide +kernel⟩
theorem sc_commonest : FnScope ["counted", "found", "greatest", "answer", "many"] ["counted"] (defScope s_commonest) := ⟨rfl, rfl, rfl, by decide +kernel, rfl, by decide +kernel, by decide +kernel⟩
theorem sc_all_rows : FnScope ["counted"] ["counted"] (defScope s_all_rows) := ⟨rfl, rfl, rfl, by decide +kernel, rfl, by decide +kernel, by decide +kernel⟩
theorem sc_misses : FnScope ["counted"] ["counted"] (defScope s_misses) := ⟨rfl, rfl, rfl, by decide +kernel, rfl, by decide +kernel, by decide +kernel⟩
theorem sc_shares : FnScope ["counted", "rows", "squares"] ["counted"] (defScope s_shares) := ⟨rfl, rfl, rfl, by decide +kernel, rfl, by decide +kernel, by decide +kernel⟩
theorem sc_mess : FnScope ["counted", "measure"] ["counted", "measure"] (defScope s_mess) := ⟨rfl, rfl, rfl, by decide +kernel, rfl, by decide +kernel, by decide +kernel⟩
theorem sc_says : FnScope ["question", "values", "value"] ["question", "values"] (defScope s_says) := ⟨rfl, rfl, rfl, by decide +kernel, rfl, by decide +kernel, by decide +kernel⟩
theorem sc_Node___init__ : FnScope ["self", "counted"] ["self", "counted"] (defScope s_Node___init__) := ⟨rfl, rfl, rfl, by decide +kernel, rfl, by decide +kernel, by decide +kernel⟩
theorem sc_Leaf_below : FnScope ["self", "sign"] ["self", "sign"] (defScope s_Leaf_below) := ⟨rfl, rfl, rfl, by decide +kernel, rfl, by decide +kernel, by decide +kernel⟩
theorem sc_Leaf_leaves : FnScope ["self"] ["self"] (defScope s_Leaf_leaves) := ⟨rfl, rfl, rfl, by decide +kernel, rfl, by decide +kernel, by decide +kernel⟩
theorem sc_Leaf_deep : FnScope ["self"] ["self"] (defScope s_Leaf_deep) := ⟨rfl, rfl, rfl, by decide +kernel, rfl, by decide +kernel, by decide +kernel⟩
theorem sc_Leaf_place_of : FnScope ["self", "values"] ["self", "values"] (defScope s_Leaf_place_of) := ⟨rfl, rfl, rfl, by decide +kernel, rfl, by decide +kernel, by decide +kernel⟩
theorem sc_Fork_below : FnScope ["self", "sign"] ["self", "sign"] (defScope s_Fork_below) := ⟨rfl, rfl, rfl, by decide +kernel, rfl, by decide +kernel, by decide +kernel⟩
theorem sc_Fork_leaves : FnScope ["self"] ["self"] (defScope s_Fork_leaves) := ⟨rfl, rfl, rfl, by decide +kernel, rfl, by decide +kernel, by decide +kernel⟩
theorem sc_Fork_deep : FnScope ["self"] ["self"] (defScope s_Fork_deep) := ⟨rfl, rfl, rfl, by decide +kernel, rfl, by decide +kernel, by decide +kernel⟩
theorem sc_Fork_place_of : FnScope ["self", "values"] ["self", "values"] (defScope s_Fork_place_of) := ⟨rfl, rfl, rfl, by decide +kernel, rfl, by decide +kernel, by decide +kernel⟩
theorem sc_Fork___init__ : FnScope ["self", "counted", "question", "yes", "no"] ["self", "counted", "question", "yes", "no"] (defScope s_Fork___init__) := ⟨rfl, rfl, rfl, by decide +kernel, rfl, by decide +kernel, by decide +kernel⟩
theorem sc_Node_at : FnScope ["self", "place", "node", "sign"] ["self", "place"] (defScope s_Node_at) := ⟨rfl, rfl, rfl, by decide +kernel, rfl, by decide +kernel, by decide +kernel⟩
theorem sc_costed : FnScope ["node", "measure", "own"] ["node", "measure"] (defScope s_costed) := ⟨rfl, rfl, rfl, by decide +kernel, rfl, by decide +kernel, by decide +kernel⟩
theorem sc_trees_by_place : FnScope ["tree", "found", "waiting", "step", "place", "part"] ["tree"] (defScope s_trees_by_place) := ⟨rfl, rfl, rfl, by decide +kernel, rfl, by decide +kernel, by decide +kernel⟩
theorem sc_places_of : FnScope ["tree", "sort"] ["tree", "sort"] (defScope s_places_of) := ⟨rfl, rfl, rfl, by decide +kernel, rfl, by decide +kernel, by decide +kernel⟩
theorem sc_ends : FnScope ["tree"] ["tree"] (defScope s_ends) := ⟨rfl, rfl, rfl, by decide +kernel, rfl, by decide +kernel, by decide +kernel⟩
theorem sc_beginnings : FnScope ["place", "places"] ["place", "places"] (defScope s_beginnings) := ⟨rfl, rfl, rfl, by decide +kernel, rfl, by decide +kernel, by decide +kernel⟩
theorem sc_is_pruning : FnScope ["tree", "places", "known"] ["tree", "places"] (defScope s_is_pruning) := ⟨rfl, rfl, rfl, by decide +kernel, rfl, by decide +kernel, by decide +kernel⟩
theorem sc_check_pruning : FnScope ["tree", "places"] ["tree", "places"] (defScope s_check_pruning) := ⟨rfl, rfl, rfl, by decide +kernel, rfl, by decide +kernel, by decide +kernel⟩
theorem sc_answer_pruned : FnScope ["node", "places", "values", "place"] ["node", "places", "values"] (defScope s_answer_pruned) := ⟨rfl, rfl, rfl, by decide +kernel, rfl, by decide +kernel, by decide +kernel⟩
theorem sc_answer : FnScope ["node", "places", "values"] ["node", "places", "values"] (defScope s_answer) := ⟨rfl, rfl, rfl, by decide +kernel, rfl, by decide +kernel, by decide +kernel⟩
theorem sc_law_cell : FnScope ["_law_script", "_law_k"] ["_law_script", "_law_k"] (defScope s_law_cell) := ⟨rfl, rfl, rfl, by decide +kernel, rfl, by decide +kernel, by decide +kernel⟩
theorem sc_law_next : FnScope ["_law_cell_here", "_law_k"] ["_law_cell_here", "_law_k"] (defScope s_law_next) := ⟨rfl, rfl, rfl, by decide +kernel, rfl, by decide +kernel, by decide +kernel⟩
theorem sc_law_words : FnScope ["_law_cell_here", "_law_letters", "_law_word", "_law_k"] ["_law_cell_here"] (defScope s_law_words) := ⟨rfl, rfl, rfl, by decide +kernel, rfl, by decide +kernel, by decide +kernel⟩
theorem sc_law_counted : FnScope ["_law_cell_here", "_law_words_here", "_law_made", "_law_k", "_law_word"] ["_law_cell_here", "_law_words_here"] (defScope s_law_counted) := ⟨rfl, rfl, rfl, by decide +kernel, rfl, by decide +kernel, by decide +kernel⟩
theorem sc_law_question : FnScope ["_law_cell_here", "_law_words_here", "_law_scale"] ["_law_cell_here", "_law_words_here", "_law_scale"] (defScope s_law_question) := ⟨rfl, rfl, rfl, by decide +kernel, rfl, by decide +kernel, by decide +kernel⟩
theorem sc_law_pile : FnScope ["_law_cells", "_law_words_here", "_law_scale", "_law_pile_here", "_law_cell_here", "_law_told"] ["_law_cells", "_law_words_here", "_law_scale"] (defScope s_law_pile) := ⟨rfl, rfl, rfl, by decide +kernel, rfl, by decide +kernel, by decide +kernel⟩
theorem sc_law_node : FnScope ["_law_tree"] ["_law_tree"] (defScope s_law_node) := ⟨rfl, rfl, rfl, by decide +kernel, rfl, by decide +kernel, by decide +kernel⟩
theorem sc_law_drawn : FnScope ["_law_tree", "_law_place", "_law_cell_here", "_law_far"] ["_law_tree", "_law_place", "_law_cell_here"] (defScope s_law_drawn) := ⟨rfl, rfl, rfl, by decide +kernel, rfl, by decide +kernel, by decide +kernel⟩
theorem sc_law_yes : FnScope ["_law_question_here", "_law_values"] ["_law_question_here", "_law_values"] (defScope s_law_yes) := ⟨rfl, rfl, rfl, by decide +kernel, rfl, by decide +kernel, by decide +kernel⟩
theorem sc_law_due : FnScope ["_law_tree", "_law_places", "_law_values", "_law_place", "_law_found", "_law_many", "_law_word", "_law_told"] ["_law_tree", "_law_places", "_law_values"] (defScope s_law_due) := ⟨rfl, rfl, rfl, by decide +kernel, rfl, by decide +kernel, by decide +kernel⟩
theorem sc_law_refused : FnScope ["_law_node_here", "_law_places", "_law_values"] ["_law_node_here", "_law_places", "_law_values"] (defScope s_law_refused) := ⟨rfl, rfl, rfl, by decide +kernel, rfl, by decide +kernel, by decide +kernel⟩
theorem sc_law_by_base : FnScope ["_law_node_here", "_law_places", "_law_values", "e"] ["_law_node_here", "_law_places", "_law_values"] (defScope s_law_by_base) := ⟨rfl, rfl, rfl, by decide +kernel, rfl, by decide +kernel, by decide +kernel⟩
theorem sc_law_wrong : FnScope ["_law_places", "_law_cell_here", "_law_at", "_law_some"] ["_law_places", "_law_cell_here"] (defScope s_law_wrong) := ⟨rfl, rfl, rfl, by decide +kernel, rfl, by decide +kernel, by decide +kernel⟩
theorem sc_law : FnScope ["_law_script", "_law_words_here", "_law_scale", "_law_tree", "_law_node_here", "_law_places", "_law_k", "_law_cell_here", "_law_values", "_law_handed", "_law_found", "_law_due_here", "_law_some"] ["_law_script"] (defScope s_law) := ⟨rfl, rfl, rfl, by decide +kernel, rfl, by decide +kernel, by decide +kernel⟩

/-- a ratio's two numbers are not too long -/
structure Rz (n : Nat) (q : Rat) : Prop where
  zn : Bz n q.num
  zd : Bz n (q.den : Int)
/-- the tuple of a ratio -/
abbrev rt (q : Rat) : HO := .tup [.int q.num, .int (q.den : Int)]
/-- a new ratio -/
def Nw (H : Hp) (Q : VK) (q : Rat) : Prop := ∀ p, H p = none → Q (.ref p) (upd H p (rt q))
theorem cN (i : Int) {j : Int} (h0 : 0 < j) (h1 : j < 340282366920938463463374607431768211456) : CDivB i j := ⟨h0, (Bz.w (by omega) h1).log2⟩
theorem Nw.pos {H : Hp} {Q : VK} {t b : Int} (hb : 0 < b) (q : Nw H Q (Rat.divInt t b)) : ∀ p, H p = none → Q (.ref p) (upd H p (.tup [.int (t.fdiv (M.G t b)), .int (b.fdiv (M.G t b))])) := by
  have h := Int.le_of_lt (M.G_pos t b)
  rw [Int.fdiv_eq_ediv_of_nonneg t h, Int.fdiv_eq_ediv_of_nonneg b h, M.num_low hb, M.den_low hb]
  exact q
theorem Nw.neg {H : Hp} {Q : VK} {t b : Int} (hb : b < 0) (q : Nw H Q (Rat.divInt t b)) : ∀ p, H p = none → Q (.ref p) (upd H p (.tup [.int (t.fdiv (-M.G t b)), .int (b.fdiv (-M.G t b))])) := by
  rw [M.num_neg hb, M.den_neg hb]
  exact q
theorem cM {t b : Int} (hb : b ≠ 0) (bz : Bz 8000 b) (i : Int) : CDivM i (M.G t b) := ⟨by have := M.G_pos t b; omega, (bz.le (M.G_le hb)).log2⟩
theorem cM' {t b : Int} (hb : b ≠ 0) (bz : Bz 8000 b) (i : Int) : CDivM i (-M.G t b) := ⟨by have := M.G_pos t b; omega, (bz.le (by rw [Int.natAbs_neg]; exact M.G_le hb)).log2⟩
def sp_is_whole : Sp := fun vs H Q _ => ∃ i : Int, vs = [.int i] ∧ Q (.bl true) H
def sp_greatest_divisor : Sp := fun vs H Q _ => ∃ a b : Int, vs = [.int a, .int b] ∧ b ≠ 0 ∧ Q (.int (M.G a b)) H
def sp_ratio (C : Addr) : Sp := fun vs H Q E => ∃ t b : Int, vs = [.int t, .int b] ∧ Bz 8000 b ∧ ((b = 0 ∧ E (.ref C) none H) ∨ (b ≠ 0 ∧ Nw H Q (Rat.divInt t b)))
/-! words, columns, rows -/
def fsT (l1 l2 : Addr) : List (Str × V) := [("kept_columns", .ref l1), ("kept_rows", .ref l2)]
/-- ints, truths, texts, None -/
def kd : V → Bool
  | .int _ | .bl _ | .str _ | .non => true
  | _ => false
def whV : V → Bool
  | .int _ => true
  | _ => false
def isWV : V → Bool
  | .str x => isW x
  | _ => false
def lenV : V → Prop
  | .str x => x.length ≤ 1000
  | _ => True
def fitsV (v : V) (s : Str) : Bool := if s = "number" then whV v else isWV v
def colD (c : Str × Str) : PyData := .tuple [.str c.1, .str c.2]
structure GoodC (cs : List (Str × Str)) : Prop where
  lo : 1 ≤ cs.length
  hi : cs.length ≤ 6
  nm : ∀ c ∈ cs, isW c.1 = true
  so : ∀ c ∈ cs, c.2 = "number" ∨ c.2 = "word"
  nd : (cs.map (·.1)).Nodup
def sp_is_whole_ : Sp := fun vs H Q _ => ∃ v, vs = [v] ∧ kd v = true ∧ Q (.bl (whV v)) H
def sp_is_word : Sp := fun vs H Q _ => ∃ v, vs = [v] ∧ kd v = true ∧ lenV v ∧ ∀ H', Same H H' → Q (.bl (isWV v)) H'
def sp_check_columns0 (K : PySem.W.Frag) : Sp := fun vs H Q _ => ∃ (a : Addr) (xs : List V) (cs : List (Str × Str)), vs = [.ref a] ∧ H a = some (.lst xs) ∧ TVs K H xs (cs.map colD) ∧ GoodC cs ∧ ∀ H', Same H H' → Q .non H'
def sp_fits : Sp := fun vs H Q _ => ∃ (v : V) (s : Str), vs = [v, .str s] ∧ kd v = true ∧ lenV v ∧ ∀ H', Same H H' → Q (.bl (fitsV v s)) H'
def sp_check_row0 (K : PySem.W.Frag) : Sp := fun vs H Q _ => ∃ (a b : Addr) (xs ys : List V) (cs : List (Str × Str)) (w : Str), vs = [.ref a, .ref b, .str w] ∧ H a = some (.lst xs) ∧ TVs K H xs (cs.map colD) ∧ H b = some (.lst ys) ∧ ys.length = cs.length ∧ cs.length ≤ 6 ∧ (∀ v ∈ ys, kd v = true ∧ lenV v) ∧
  (∀ (i : Nat) v c, ys[i]? = some v → cs[i]? = some c → fitsV v c.2 = true) ∧ isW w = true ∧ ∀ H', Same H H' → Q .non H'
def kD : Key → PyData
  | .inl i => .int i
  | .inr x => .str x
def rowD (r : List Key × Str) : PyData := .tuple [.tuple (r.1.map kD), .str r.2]
def okK : Key → Prop
  | .inl _ => True
  | .inr x => isW x = true
structure RowOk (r : List Key × Str) : Prop where
  ks : ∀ k ∈ r.1, okK k
  an : isW r.2 = true
def sp_init (C : Addr) (K : PySem.W.Frag) : Sp := fun vs H Q _ => ∃ (x dx a : Addr) (xs : List V) (cs : List (Str × Str)), vs = [.ref x, .ref a] ∧ H x = some (.ins C dx []) ∧ H a = some (.lst xs) ∧ TVs K H xs (cs.map colD) ∧ GoodC cs ∧
  ∀ H' l1 l2, H l1 = none → H l2 = none → l1 ≠ l2 → SameB x H H' → H' x = some (.ins C dx (fsT l1 l2)) → H' l1 = some (.lst xs) → H' l2 = some (.lst []) → Q .non H'
def sp_columns (C : Addr) : Sp := fun vs H Q _ => ∃ (x dx l1 l2 : Addr) (xs : List V), vs = [.ref x] ∧ H x = some (.ins C dx (fsT l1 l2)) ∧ H l1 = some (.lst xs) ∧ ∀ p, H p = none → Q (.ref p) (upd H p (.lst xs))
def sp_rows (C : Addr) : Sp := fun vs H Q _ => ∃ (x dx l1 l2 : Addr) (xs : List V), vs = [.ref x] ∧ H x = some (.ins C dx (fsT l1 l2)) ∧ H l2 = some (.lst xs) ∧ ∀ p, H p = none → Q (.ref p) (upd H p (.lst xs))
structure Fit (ks : List Key) (cs : List (Str × Str)) : Prop where
  len : ks.length = cs.length
  ok : ∀ k ∈ ks, okK k
  fit : ∀ (i : Nat) k c, ks[i]? = some k → cs[i]? = some c → fitsV (kV k) c.2 = true
def sp_put (C : Addr) (K : PySem.W.Frag) : Sp := fun vs H Q _ => ∃ (x dx l1 l2 b : Addr) (w : Str) (cxs rws : List V) (cs : List (Str × Str)) (ks : List Key), vs = [.ref x, .ref b, .str w] ∧ H x = some (.ins C dx (fsT l1 l2)) ∧ H l1 = some (.lst cxs) ∧ TVs K H cxs (cs.map colD) ∧ cs.length ≤ 6 ∧
  H l2 = some (.lst rws) ∧ rws.length ≤ 100 ∧ H b = some (.lst (ks.map kV)) ∧ Fit ks cs ∧ isW w = true ∧ ∀ H' q, SameB l2 H H' → H' l2 = some (.lst (rws ++ [.ref q])) → TV K H' (.ref q) (rowD (ks, w)) → Q (.int (rws.length + 1)) H'
/-! the law's own -/
def sp_law_cell (K : PySem.W.Frag) : Sp := fun vs H Q _ => ∃ (a : Addr) (ns : List Int) (k : Int), vs = [.ref a, .int k] ∧ SqL K H a (ns.map V.int) ∧ 0 ≤ k ∧ ∀ v : Int, Q (.int v) H
abbrev Bg (n : Int) : Prop := 0 ≤ n ∧ n < 2147483647
def sp_law_draw : Sp := fun vs H Q _ => ∃ (b : Addr) (n m : Int), vs = [.ref b, .int m] ∧ H b = some (.lst [.int n]) ∧ Bg n ∧ 0 < m ∧ ∀ n' d : Int, Bg n' → 0 ≤ d ∧ d < m → Q (.int d) (upd H b (.lst [.int n']))
structure Wds (ws : List Str) : Prop where
  nd : ws.Nodup
  ok : ∀ w ∈ ws, isW w = true
def sp_law_words : Sp := fun vs H Q _ => ∃ c m : Int, vs = [.int c, .int m] ∧ 1 ≤ m ∧ m ≤ 20 ∧ ∀ (ws : List Str) H' p, (ws.length : Int) = m → Wds ws → Same H H' → H p = none → H' p = some (.lst (ws.map V.str)) → Q (.ref p) H'
def sp_law_pool : Sp := fun vs H Q _ => ∃ c : Int, vs = [.int c] ∧ ∀ (ns : List Int) p, ns.length = 7 → H p = none → Q (.ref p) (upd H p (.lst (ns.map V.int)))
def sp_law_columns (K : PySem.W.Frag) : Sp := fun vs H Q _ => ∃ (b sa : Addr) (n m : Int) (ws : List Str), vs = [.ref b, .ref sa, .int m] ∧ H b = some (.lst [.int n]) ∧ Bg n ∧ H sa = some (.lst (ws.map V.str)) ∧ b ≠ sa ∧ Wds ws ∧ 1 ≤ m ∧ m ≤ 6 ∧ m ≤ (ws.length : Int) ∧
  ∀ H' n' p xs cs, Bg n' → SameB b H H' → H' b = some (.lst [.int n']) → H p = none → H' p = some (.lst xs) → TVs K H' xs (cs.map colD) → GoodC cs → Q (.ref p) H'
def sp_law_values (K : PySem.W.Frag) : Sp := fun vs H Q _ => ∃ (b ca pa sa : Addr) (n : Int) (xs : List V) (cs : List (Str × Str)) (ns : List Int) (ws : List Str), vs = [.ref b, .ref ca, .ref pa, .ref sa] ∧ H b = some (.lst [.int n]) ∧ Bg n ∧ H ca = some (.lst xs) ∧ TVs K H xs (cs.map colD) ∧ GoodC cs ∧
  H pa = some (.lst (ns.map V.int)) ∧ ns.length = 7 ∧ H sa = some (.lst (ws.map V.str)) ∧ Wds ws ∧ 4 ≤ ws.length ∧ b ≠ ca ∧ b ≠ pa ∧ b ≠ sa ∧ ∀ H' n' p ks, Bg n' → SameB b H H' → H' b = some (.lst [.int n']) → H p = none → H' p = some (.tup (ks.map kV)) → Fit ks cs → Q (.ref p) H'
def sp_law_whole : Sp := fun vs H Q _ => ∃ i : Int, vs = [.int i] ∧ Q (.bl true) H
def sp_law_told (C : Addr) (K : PySem.W.Frag) : Sp := fun vs H Q _ => ∃ (x dx l1 l2 k : Addr) (xs ys : List V) (rs : List (List Key × Str)), vs = [.ref x, .ref k] ∧ H x = some (.ins C dx (fsT l1 l2)) ∧ H l2 = some (.lst xs) ∧ H k = some (.lst ys) ∧ TVs K H xs (rs.map rowD) ∧ TVs K H ys (rs.map rowD) ∧ rs.length ≤ 100 ∧
  (∀ r ∈ rs, RowOk r) ∧ ∀ H', Same H H' → Q (.bl true) H'
def sp_law (K : PySem.W.Frag) : Sp := fun vs H Q _ => ∃ (a : Addr) (ns : List Int), vs = [.ref a] ∧ SqF K H a (ns.map V.int) ∧ ns.length ≤ 63 ∧ ∀ H', Q (.bl true) H'
def srt (d : Int) : Str := if d < 2 then "number" else "word"
theorem let_at {d : Int} (h0 : 0 ≤ d) (h : d < 26) : atI ("abcdefghijklmnopqrstuvwxyz" : Str).cps.toList d = some (97 + d.toNat) := by
  have hk : ∀ k : Nat, k < 26 → (letters.cps.toList)[k]? = some (97 + k) := by decide +kernel
  have ek : d = ((d.toNat : Nat) : Int) := by omega
  have q : atI letters.cps.toList ((d.toNat : Nat) : Int) = some (97 + d.toNat) := atI_nat (hk _ (by omega))
  rw [← ek] at q
  exact q
theorem let_size : ("abcdefghijklmnopqrstuvwxyz" : Str).cps.size = 26 := by
  show letters.cps.size = 26
  decide +kernel
theorem let_len : ("abcdefghijklmnopqrstuvwxyz" : Str).length = 26 := let_size
/-- the word with another letter at sp -/
def nmj (w : Str) (sp j : Nat) : Str := tx ((cds w).take sp ++ [97 + j] ++ (cds w).drop (sp + 1))
/-- its beginnings -/
def pre (w : Str) (j : Nat) : Str := tx ((cds w).take (j + 1))
theorem grow_w {w : Str} {c : Nat} (h : ∀ x ∈ cds w, 97 ≤ x ∧ x ≤ 122) (hc : 97 ≤ c ∧ c ≤ 122) : ∀ x ∈ cds (w ++ ⟨#[c]⟩), 97 ≤ x ∧ x ≤ 122 := fun x hx => by
  rw [cds_app] at hx
  rcases List.mem_append.mp hx with hx | hx
  · exact h x hx
  · rw [List.mem_singleton.mp hx]; exact hc
theorem isW_of {w : Str} (h : ∀ x ∈ cds w, 97 ≤ x ∧ x ≤ 122) (h1 : 1 ≤ w.length) (h2 : w.length ≤ 12) : isW w = true := by
  unfold isW
  rw [decide_eq_true h1, decide_eq_true h2]
  simp only [Bool.true_and, List.all_eq_true]
  intro c hc
  have := h c hc
  unfold isL
  rw [decide_eq_true this.1, decide_eq_true this.2]
  rfl
theorem len1 (c : Nat) : (⟨#[c]⟩ : Str).length = 1 := rfl
theorem lenA (x y : Str) : (x ++ y).length = x.length + y.length := by rw [← cds_len, ← cds_len, ← cds_len, cds_app, List.length_append]
theorem cut_strs {ws : List Str} {m : Int} (h : 0 ≤ m) : cutV (ws.map V.str) none (some m) = (ws.take m.toNat).map V.str := by
  have e : m = ((m.toNat : Nat) : Int) := by omega
  rw [e, cut_take, List.map_take]
  rfl
/-! counts -/
def cD (c : Str × Int) : PyData := .tuple [.str c.1, .int c.2]
/-- counts that are handed in -/
structure Cts (cs : List (Str × Int)) : Prop where
  len : cs.length ≤ 60
  wd : ∀ c ∈ cs, isW c.1 = true
  one : ∀ c ∈ cs, 1 ≤ c.2
/-- one step of looking for the commonest -/
def cmS (z : V × Int) (c : Str × Int) : V × Int := if z.2 < c.2 then (.str c.1, c.2) else z
theorem cmS_t {z : V × Int} {c : Str × Int} (h : z.2 < c.2) : cmS z c = (.str c.1, c.2) := if_pos h
theorem cmS_f {z : V × Int} {c : Str × Int} (h : ¬ z.2 < c.2) : cmS z c = z := if_neg h
def cmn (cs : List (Str × Int)) : V × Int := cs.foldl cmS (.non, 0)
/-- the same from behind -/
def rvc : List (Str × Int) → V × Int
  | [] => (.non, 0)
  | c :: cs => if (rvc cs).2 ≤ c.2 then (.str c.1, c.2) else rvc cs
abbrev sumC (cs : List (Str × Int)) : Int := (cs.map (·.2)).sum
theorem sumC_cons (c : Str × Int) (cs : List (Str × Int)) : sumC (c :: cs) = sumC cs + c.2 := by
  show ((c :: cs).map (·.2)).sum = _
  rw [List.map_cons, List.sum_cons, Int.add_comm]
def Cn (K : PySem.W.Frag) (H : Hp) (a : Addr) (cs : List (Str × Int)) : Prop := ∃ xs, H a = some (.lst xs) ∧ TVs K H xs (cs.map cD)
theorem Cn.same {K : PySem.W.Frag} {H H' : Hp} {a : Addr} {cs : List (Str × Int)} (h : Cn K H a cs) (s : Same H H') : Cn K H' a cs := let ⟨xs, h1, h2⟩ := h; ⟨xs, s _ _ h1, h2.mono s.t⟩
def sp_commonest (K : PySem.W.Frag) : Sp := fun vs H Q _ => ∃ (a : Addr) (cs : List (Str × Int)), vs = [.ref a] ∧ Cn K H a cs ∧ Q (cmn cs).1 H
def sp_all_rows (K : PySem.W.Frag) : Sp := fun vs H Q _ => ∃ (a : Addr) (cs : List (Str × Int)), vs = [.ref a] ∧ Cn K H a cs ∧ cs.length ≤ 60 ∧ ∀ H', Same H H' → Q (.int (sumC cs)) H'
def sp_misses (K : PySem.W.Frag) : Sp := fun vs H Q _ => ∃ (a : Addr) (cs : List (Str × Int)), vs = [.ref a] ∧ Cn K H a cs ∧ cs.length ≤ 60 ∧ ∀ H', Same H H' → Q (.int (sumC cs - mxD 0 (cs.map (·.2)))) H'
/-! mess -/
/-- counts whose numbers are not too long -/
structure Ctz (cs : List (Str × Int)) : Prop extends Cts cs where
  up : ∀ c ∈ cs, c.2 < 1000000000000000000000000000000000000
theorem sum_bd : ∀ {cs : List (Str × Int)}, (∀ c ∈ cs, 1 ≤ c.2) → (∀ c ∈ cs, c.2 < 1000000000000000000000000000000000000) → (cs.length : Int) ≤ sumC cs ∧ sumC cs ≤ 1000000000000000000000000000000000000 * (cs.length : Int)
  | [], _, _ => ⟨by decide, by decide⟩
  | c :: cs, h1, h2 => by
    have a := h1 c List.mem_cons_self
    have b := h2 c List.mem_cons_self
    have z := sum_bd (cs := cs) (fun x hx => h1 x (List.mem_cons_of_mem _ hx)) (fun x hx => h2 x (List.mem_cons_of_mem _ hx))
    rw [sumC_cons, List.length_cons]
    omega
theorem Ctz.sum {cs : List (Str × Int)} (h : Ctz cs) : (cs.length : Int) ≤ sumC cs ∧ sumC cs ≤ 60000000000000000000000000000000000000 := by
  have z := sum_bd h.one h.up
  have := h.len
  omega
abbrev sqC (cs : List (Str × Int)) : Int := (cs.map fun c => c.2 * c.2).sum
/-- the mess by a measure -/
def messR (cs : List (Str × Int)) (m : Str) : Rat := if m = "misses" then Rat.divInt (sumC cs - mxD 0 (cs.map (·.2))) 1 else if sumC cs = 0 then Rat.divInt 0 1 else Rat.divInt (sumC cs * sumC cs - sqC cs) (sumC cs)
def isM (m : Str) : Prop := m = "misses" ∨ m = "shares"
theorem isM_in (m : Str) (h : isM m) : inV (.str m) [.str "misses", .str "shares"] = true := by
  rcases h with rfl | rfl <;> decide +kernel
theorem isM_out (m : Str) (h : ¬ isM m) : inV (.str m) [.str "misses", .str "shares"] = false := by
  have e : inV (.str m) ((["misses", "shares"] : List Str).map V.str) = decide (m ∈ (["misses", "shares"] : List Str)) := inV_str
  show inV (.str m) ((["misses", "shares"] : List Str).map V.str) = false
  rw [e]
  refine decide_eq_false fun z => h ?_
  rcases List.mem_cons.mp z with z | z
  · exact .inl z
  · exact .inr (List.mem_singleton.mp z)
/-- a text that a refusal shows -/
structure Sh (m : Str) : Prop where
  ok : okS m
  len : m.length ≤ 1000
def sp_check_measure (C : Addr) : Sp := fun vs H Q E => ∃ m : Str, vs = [.str m] ∧ Sh m ∧ ((isM m ∧ Q .non H) ∨ (¬ isM m ∧ E (.ref C) none H))
/-- a new ratio, with other new objects -/
def Nw2 (H : Hp) (Q : VK) (q : Rat) : Prop := ∀ p H', H p = none → Same H H' → H' p = some (rt q) → Q (.ref p) H'
def sp_shares (K : PySem.W.Frag) : Sp := fun vs H Q _ => ∃ (a : Addr) (cs : List (Str × Int)), vs = [.ref a] ∧ Cn K H a cs ∧ Ctz cs ∧ Nw2 H Q (messR cs "shares")
def sp_mess (K : PySem.W.Frag) (C : Addr) : Sp := fun vs H Q E => ∃ (a : Addr) (cs : List (Str × Int)) (m : Str), vs = [.ref a, .str m] ∧ Cn K H a cs ∧ Ctz cs ∧ Sh m ∧ ((isM m ∧ Nw2 H Q (messR cs m)) ∨ (¬ isM m ∧ E (.ref C) none H))
theorem Nw2.of {H H' : Hp} {Q : VK} {q : Rat} (h : Nw2 H Q q) (s : Same H H') : Nw2 H' Q q := fun p H2 hp s2 e => h p H2 (by
  cases z : H p with
  | none => rfl
  | some o => rw [s _ _ z] at hp; cases hp) (s.trans s2) e
theorem Nw2.nw {H : Hp} {Q : VK} {q : Rat} (h : Nw2 H Q q) : Nw H Q q := fun p hp => h p _ hp (same_new hp _) upd_same
/-! groups of rows, questions -/
/-- a question: its word, its column, its cut -/
structure Qs where
  kd : Str
  at' : Nat
  c : Key
def qV (q : Qs) : List V := [.str q.kd, .int q.at', kV q.c]
/-- it may be asked of these values -/
def Ask (q : Qs) (ks : List Key) : Prop := (q.kd = "most" ∧ (∃ v n, ks[q.at']? = some (.inl v) ∧ q.c = .inl n)) ∨ (q.kd = "is" ∧ ∃ v w, ks[q.at']? = some (.inr v) ∧ q.c = .inr w)
def say (q : Qs) (ks : List Key) : Bool := match ks[q.at']?, q.c with
  | some (.inl v), .inl n => decide (v ≤ n)
  | some (.inr v), .inr w => decide (v = w)
  | _, _ => false
abbrev Row := List Key × Str
structure Grp (cs : List (Str × Str)) (rs : List Row) : Prop where
  len : rs.length ≤ 60
  ok : ∀ r ∈ rs, RowOk r
  fit : ∀ r ∈ rs, Fit r.1 cs
/-- a list of rows in the heap -/
def Gl' (K : PySem.W.Frag) (H : Hp) (a : Addr) (rs : List Row) : Prop := ∃ xs, H a = some (.lst xs) ∧ TVs K H xs (rs.map rowD)
/-- a question for these columns -/
def QOk (cs : List (Str × Str)) (q : Qs) : Prop := ∃ c, cs[q.at']? = some c ∧ ((q.kd = "most" ∧ c.2 = "number" ∧ ∃ n, q.c = .inl n) ∨ (q.kd = "is" ∧ c.2 = "word" ∧ ∃ w, q.c = .inr w ∧ isW w = true))
def sp_says : Sp := fun vs H Q _ => ∃ (qa va : Addr) (q : Qs) (ks : List Key), vs = [.ref qa, .ref va] ∧ H qa = some (.tup (qV q)) ∧ H va = some (.tup (ks.map kV)) ∧ Ask q ks ∧ Q (.bl (say q ks)) H
/-- two new lists in a new tuple -/
def Parts (K : PySem.W.Frag) (H H' : Hp) (p : Addr) (ys ns : List Row) : Prop := ∃ ly ln, H p = none ∧ H ly = none ∧ H ln = none ∧ ly ≠ ln ∧ Same H H' ∧ H' p = some (.tup [.ref ly, .ref ln]) ∧ Gl' K H' ly ys ∧ Gl' K H' ln ns
def sp_parted (K : PySem.W.Frag) : Sp := fun vs H Q _ => ∃ (qa a : Addr) (q : Qs) (rs : List Row), vs = [.ref qa, .ref a] ∧ H qa = some (.tup (qV q)) ∧ Gl' K H a rs ∧ rs.length ≤ 60 ∧ (∀ r ∈ rs, Ask q r.1) ∧ ∀ H' p, Parts K H H' p (rs.filter fun r => say q r.1) (rs.filter fun r => !say q r.1) → Q (.ref p) H'
theorem str_eqV (v w : Str) : decide (V.str v = V.str w) = decide (v = w) := decide_eq_decide.mpr ⟨fun z => by injection z, fun z => by rw [z]⟩
/-! texts of numbers -/
def tS (n : Int) : Str := PySem.Str.ofString (toString n)
structure Tn (n : Nat) (x : Str) : Prop where
  l : x.length ≤ n
  a : ∀ c ∈ cds x, c < 128
abbrev T1 (x : Str) : Prop := Tn 400 x
/-! the first / -/
def hasS (x : Str) : Bool := !(Builtin.Str.occurrences x "/" 0 x.length 1).isEmpty
def p1 (x : Str) : Str := (part3 x "/").1
def p2 (x : Str) : Str := (part3 x "/").2.2
/-! whole numbers written -/
def isF (c : Nat) : Bool := decide (48 ≤ c) && decide (c ≤ 57)
def figs : Str := "0123456789"
def bare (x : Str) : Str := if Txt.startswith x "-" = true then tx ((cds x).drop 1) else x
def okW (x : Str) : Bool := (decide (1 ≤ (bare x).length) && decide ((bare x).length ≤ 30)) && ((cds (bare x)).all isF && (!(Txt.startswith (bare x) "0") || decide (x = "0")))
def iv (x : Str) : Int := (PySem.intText? x).getD 0
/-! str of numbers -/
def Sm (n : Int) : Prop := -10000000000000000000000000000000000 < n ∧ n < 10000000000000000000000000000000000
def odds : List Str := ["", "-", "/", "0/1", "0/5", "-0", "00", "1/1", "2/4", "-2/4", "-1/2", "1/-2", "3/02", "1/2/3", " 1", "1 ", "--1", "1e3", "0x1", "1,5"]
def yn (c : Int) : Str := if c = 0 then "y" else "n"
def sp_law_next : Sp := fun vs H Q _ => ∃ c k : Int, vs = [.int c, .int k] ∧ 0 ≤ k ∧ k ≤ 3 ∧ ∀ v : Int, 0 ≤ v → v < 2147483647 → Q (.int v) H
theorem mulN (c : Int) {k : Int} (h : 0 ≤ k) (h2 : k ≤ 3) : IntMulOk c (48271 + 21350 * k) := by
  obtain rfl | rfl | rfl | rfl : k = 0 ∨ k = 1 ∨ k = 2 ∨ k = 3 := by omega
  all_goals exact IntMulOk.of_right (by decide +kernel)
inductive NT where
  | lf (cs : List (Str × Int))
  | fk (cs : List (Str × Int)) (q : Qs) (y n : NT)
def NT.lv : NT → Nat
  | .lf _ => 1
  | .fk _ _ y n => y.lv + n.lv
def NT.dp : NT → Nat
  | .lf _ => 0
  | .fk _ _ y n => 1 + max y.dp n.dp
def NT.sz : NT → Nat
  | .lf _ => 1
  | .fk _ _ y n => 1 + y.sz + n.sz
theorem NT.dp_sz : ∀ t : NT, t.dp < t.sz
  | .lf _ => by show 0 < 1; decide
  | .fk _ _ y n => by
    have := y.dp_sz
    have := n.dp_sz
    show 1 + max y.dp n.dp < 1 + y.sz + n.sz
    omega
/-- the law's own trees: tuples -/
inductive TD (K : PySem.W.Frag) (H : Hp) : V → NT → Prop
  | lf {p l : Addr} {cs : List (Str × Int)} : H p = some (.tup [.ref l, .non]) → Cn K H l cs → TD K H (.ref p) (.lf cs)
  | fk {p l qa : Addr} {cs : List (Str × Int)} {q : Qs} {v1 v2 : V} {y n : NT} : H p = some (.tup [.ref l, .ref qa, v1, v2]) → Cn K H l cs → H qa = some (.tup (qV q)) → TD K H v1 y → TD K H v2 n → TD K H (.ref p) (.fk cs q y n)
theorem TD.same {K : PySem.W.Frag} {H H' : Hp} {v : V} {t : NT} (h : TD K H v t) (s : Same H H') : TD K H' v t := by
  induction h with
  | lf h1 h2 => exact .lf (s _ _ h1) (h2.same s)
  | fk h1 h2 h3 _ _ i1 i2 => exact .fk (s _ _ h1) (h2.same s) (s _ _ h3) i1 i2
/-- the fields of a fork -/
def ffs (l qa : Addr) (v1 v2 : V) (a b : Int) : List (Str × V) := [("counted", .ref l), ("question", .ref qa), ("yes", v1), ("no", v2), ("leaf_count", .int a), ("depth", .int b)]
/-- the program's trees: objects of the one or the other class -/
inductive ND (CL CF : Addr) (K : PySem.W.Frag) (H : Hp) : V → NT → Prop
  | lf {x dx l : Addr} {cs : List (Str × Int)} : H x = some (.ins CL dx [("counted", .ref l)]) → Cn K H l cs → ND CL CF K H (.ref x) (.lf cs)
  | fk {x dx l qa : Addr} {cs : List (Str × Int)} {q : Qs} {v1 v2 : V} {y n : NT} : H x = some (.ins CF dx (ffs l qa v1 v2 ((y.lv + n.lv : Nat) : Int) ((1 + max y.dp n.dp : Nat) : Int))) → Cn K H l cs → H qa = some (.tup (qV q)) → ND CL CF K H v1 y → ND CL CF K H v2 n → ND CL CF K H (.ref x) (.fk cs q y n)
theorem ND.same {CL CF : Addr} {K : PySem.W.Frag} {H H' : Hp} {v : V} {t : NT} (h : ND CL CF K H v t) (s : Same H H') : ND CL CF K H' v t := by
  induction h with
  | lf h1 h2 => exact .lf (s _ _ h1) (h2.same s)
  | fk h1 h2 h3 _ _ i1 i2 => exact .fk (s _ _ h1) (h2.same s) (s _ _ h3) i1 i2
theorem _root_.L2.SameB.ti {b C dx : Addr} {H H' : Hp} {fs : List (Str × V)} (s : SameB b H H') (h : H b = some (.ins C dx fs)) : SameT H H' := fun a xs q => s a _ (ne_of q h (by intro z; cases z)) q
theorem Cn.sbx {K : PySem.W.Frag} {H H' : Hp} {x a C dx : Addr} {fs : List (Str × V)} {cs : List (Str × Int)} (h : Cn K H a cs) (s : SameB x H H') (hx : H x = some (.ins C dx fs)) : Cn K H' a cs := by
  obtain ⟨xs, h1, h2⟩ := h
  exact ⟨xs, s _ _ (ne_of h1 hx (by intro z; cases z)) h1, h2.mono (s.ti hx)⟩
theorem ND.sbx {CL CF : Addr} {K : PySem.W.Frag} {H H' : Hp} {x dx : Addr} {fs : List (Str × V)} {v : V} {t : NT} (h : ND CL CF K H v t) (s : SameB x H H') (hx : H x = some (.ins CF dx fs)) (ne : CL ≠ CF) (lt : fs.length < 6) : ND CL CF K H' v t := by
  induction h with
  | lf h1 h2 =>
    refine .lf (s _ _ (ne_of h1 hx ?_) h1) (h2.sbx s hx)
    intro z
    injection z with z _ _
    exact ne z
  | fk h1 h2 h3 _ _ i1 i2 =>
    refine .fk (s _ _ (ne_of h1 hx ?_) h1) (h2.sbx s hx) (s _ _ (ne_of h3 hx (by intro z; cases z)) h3) i1 i2
    intro z
    injection z with _ _ z
    rw [← z] at lt
    exact absurd lt (by show ¬ 6 < 6; decide)
def sp_init_node (CL CF : Addr) : Sp := fun vs H Q _ => ∃ (x a C dx : Addr) (xs : List V), vs = [.ref x, .ref a] ∧ H x = some (.ins C dx []) ∧ (C = CL ∨ C = CF) ∧ H a = some (.lst xs) ∧ ∀ l, H l = none → Q .non (upd (upd H l (.lst xs)) x (.ins C dx [("counted", .ref l)]))
def sp_lleaves (CL : Addr) (n : Int) : Sp := fun vs H Q _ => ∃ (x dx : Addr) (fs : List (Str × V)), vs = [.ref x] ∧ H x = some (.ins CL dx fs) ∧ Q (.int n) H
def sp_ffield (CF : Addr) (f : Str) : Sp := fun vs H Q _ => ∃ (x dx : Addr) (fs : List (Str × V)) (v : V), vs = [.ref x] ∧ H x = some (.ins CF dx fs) ∧ fs.lookup f = some v ∧ Q v H
def sp_init_fork (CL CF : Addr) (K : PySem.W.Frag) : Sp := fun vs H Q _ => ∃ (x a qa dx : Addr) (v1 v2 : V) (cs : List (Str × Int)) (q : Qs) (y n : NT), vs = [.ref x, .ref a, .ref qa, v1, v2] ∧ H x = some (.ins CF dx []) ∧ Cn K H a cs ∧ H qa = some (.tup (qV q)) ∧ ND CL CF K H v1 y ∧ ND CL CF K H v2 n ∧
  ∀ H', SameB x H H' → ND CL CF K H' (.ref x) (.fk cs q y n) → Q .non H'
theorem lne {K : PySem.W.Frag} {CL CF : Addr} (h1 : PySem.W.kitOne K (.ref CL) (.ref CF) = some false) (h2 : PySem.W.kitOne K (.ref CF) (.ref CF) = some true) : CL ≠ CF := fun z => by
  rw [z, h2] at h1
  cases h1
section
variable {CL CF : Addr} {K : PySem.W.Frag} {H : Hp} {v : V} {t : NT} {Q : VK} {E : XK} {σ : St}
theorem nd_leaves (h : ND CL CF K H v t) (q : Q (.int (t.lv : Nat)) H) : (∃ a dx fs, v = .ref a ∧ H a = some (.ins CL dx fs) ∧ fs.lookup ("leaves" : Str) = none ∧ tNil σ H fun vs H2 => sp_lleaves CL 1 (v :: vs) H2 Q E) ∨ (∃ a dx fs, v = .ref a ∧ H a = some (.ins CF dx fs) ∧ fs.lookup ("leaves" : Str) = none ∧ tNil σ H fun vs H2 => sp_ffield CF "leaf_count" (v :: vs) H2 Q E) := by
  cases h with
  | lf h1 h2 => exact .inl ⟨_, _, _, rfl, h1, rfl, _, _, _, rfl, h1, q⟩
  | fk h1 h2 h3 h4 h5 => exact .inr ⟨_, _, _, rfl, h1, rfl, _, _, _, _, rfl, h1, rfl, q⟩
theorem nd_deep (h : ND CL CF K H v t) (q : Q (.int (t.dp : Nat)) H) : (∃ a dx fs, v = .ref a ∧ H a = some (.ins CL dx fs) ∧ fs.lookup ("deep" : Str) = none ∧ tNil σ H fun vs H2 => sp_lleaves CL 0 (v :: vs) H2 Q E) ∨ (∃ a dx fs, v = .ref a ∧ H a = some (.ins CF dx fs) ∧ fs.lookup ("deep" : Str) = none ∧ tNil σ H fun vs H2 => sp_ffield CF "depth" (v :: vs) H2 Q E) := by
  cases h with
  | lf h1 h2 => exact .inl ⟨_, _, _, rfl, h1, rfl, _, _, _, rfl, h1, q⟩
  | fk h1 h2 h3 h4 h5 => exact .inr ⟨_, _, _, rfl, h1, rfl, _, _, _, _, rfl, h1, rfl, q⟩
end
/-- good counts, good questions -/
def Wc (c : Str × Int) : Prop := isW c.1 = true ∧ 1 ≤ c.2 ∧ c.2 ≤ 9
def Q2 (q : Qs) : Prop := (q.kd = "most" ∧ q.at' = 0 ∧ ∃ n, q.c = .inl n) ∨ (q.kd = "is" ∧ q.at' = 1 ∧ ∃ w, q.c = .inr w ∧ isW w = true)
inductive Wg : NT → Prop
  | lf {cs : List (Str × Int)} : (∀ c ∈ cs, Wc c) → cs.length ≤ 60 → Wg (.lf cs)
  | fk {cs : List (Str × Int)} {q : Qs} {y n : NT} : (∀ c ∈ cs, Wc c) → cs.length ≤ 60 → Q2 q → Wg y → Wg n → Wg (.fk cs q y n)
/-- the heap without the pile's own list -/
def del (H : Hp) (z : Addr) : Hp := fun a => if a = z then none else H a
theorem del_at {H : Hp} {z a : Addr} {o : HO} (h : H a = some o) (n : a ≠ z) : del H z a = some o := by unfold del; rw [if_neg n]; exact h
theorem del_same (H : Hp) (z : Addr) : Same (del H z) H := fun a o h => by
  unfold del at h
  split at h
  · cases h
  · exact h
theorem del_ne {H : Hp} {z a : Addr} {o : HO} (h : del H z a = some o) : a ≠ z := fun e => by
  unfold del at h
  rw [if_pos e] at h
  cases h
theorem del_mono {H H' : Hp} (z : Addr) (s : Same H H') : Same (del H z) (del H' z) := fun a o h => del_at (s _ _ (del_same H z a o h)) (del_ne h)
theorem del_upd {H H' : Hp} {z : Addr} (o : HO) (s : Same (del H z) (del H' z)) : Same (del H z) (del (upd H' z o) z) := fun a u h => by
  have n := del_ne h
  refine del_at ?_ n
  rw [upd_ne n]
  exact del_same H' z _ _ (s a u h)
theorem del_t {H : Hp} {z : Addr} {xs : List V} (h : H z = some (.lst xs)) : SameT H (del H z) := fun a ys e => del_at e (ne_of e h (by intro z; cases z))
theorem Cn.del {K : PySem.W.Frag} {H : Hp} {z a : Addr} {xs : List V} {cs : List (Str × Int)} (h : Cn K H a cs) (hz : H z = some (.lst xs)) (n : a ≠ z) : Cn K (del H z) a cs := by
  obtain ⟨ys, h1, h2⟩ := h
  exact ⟨ys, del_at h1 n, h2.mono (del_t hz)⟩
def sp_words4 : Sp := fun vs H Q _ => ∃ c : Int, vs = [.int c] ∧ 0 ≤ c ∧ c < 1000000000000000000000000000000 ∧ ∀ H' p (ws : List Str), Same H H' → H p = none → H' p = some (.lst (ws.map V.str)) → ws.length = 4 → (∀ w ∈ ws, isW w = true) → Q (.ref p) H'
def sp_counted4 (K : PySem.W.Frag) : Sp := fun vs H Q _ => ∃ (c : Int) (sa : Addr) (ws : List Str), vs = [.int c, .ref sa] ∧ H sa = some (.lst (ws.map V.str)) ∧ ws.length = 4 ∧ (∀ w ∈ ws, isW w = true) ∧ ∀ H' p cs, Same H H' → H p = none → Cn K H' p cs → (∀ c ∈ cs, Wc c) → cs.length ≤ 60 → Q (.ref p) H'
def sp_question4 : Sp := fun vs H Q _ => ∃ (c sc : Int) (sa : Addr) (ws : List Str), vs = [.int c, .ref sa, .int sc] ∧ (sc = 1 ∨ sc = 10000000000000000000000000) ∧ H sa = some (.lst (ws.map V.str)) ∧ ws.length = 4 ∧ (∀ w ∈ ws, isW w = true) ∧ ∀ H' p q, Same H H' → H' p = some (.tup (qV q)) → Q2 q → Q (.ref p) H'
def sp_pile (K : PySem.W.Frag) : Sp := fun vs H Q _ => ∃ (ce sa : Addr) (ns : List Int) (ws : List Str) (sc : Int), vs = [.ref ce, .ref sa, .int sc] ∧ H ce = some (.lst (ns.map V.int)) ∧ ns.length ≤ 16 ∧ (sc = 1 ∨ sc = 10000000000000000000000000) ∧ H sa = some (.lst (ws.map V.str)) ∧ ws.length = 4 ∧ (∀ w ∈ ws, isW w = true) ∧ ∀ H' v t, Same H H' → TD K H' v t → Wg t → t.sz ≤ 32 → Q v H'
/-- trees on a pile -/
inductive TDs (K : PySem.W.Frag) (H : Hp) : List V → List NT → Prop
  | nil : TDs K H [] []
  | cons {v : V} {t : NT} {vs : List V} {ts : List NT} : TD K H v t → TDs K H vs ts → TDs K H (v :: vs) (t :: ts)
section
variable {K : PySem.W.Frag} {H H' : Hp}
theorem TDs.same {vs : List V} {ts : List NT} (h : TDs K H vs ts) (s : Same H H') : TDs K H' vs ts := by
  induction h with
  | nil => exact .nil
  | cons h _ ih => exact .cons (h.same s) ih
theorem TDs.length {vs : List V} {ts : List NT} (h : TDs K H vs ts) : vs.length = ts.length := by
  induction h with
  | nil => rfl
  | cons h _ ih => rw [List.length_cons, List.length_cons, ih]
theorem TDs.snoc {vs : List V} {ts : List NT} {v : V} {t : NT} (h : TDs K H vs ts) (g : TD K H v t) : TDs K H (vs ++ [v]) (ts ++ [t]) := by
  induction h with
  | nil => exact .cons g .nil
  | cons h _ ih => exact .cons h ih
theorem TDs.last {vs : List V} {ts : List NT} (h : TDs K H vs ts) (l : 1 ≤ vs.length) : ∃ ys us v t, vs = ys ++ [v] ∧ ts = us ++ [t] ∧ TDs K H ys us ∧ TD K H v t := by
  induction h with
  | nil => exact absurd l (by decide)
  | @cons v t vs ts g _ ih =>
    by_cases z : 1 ≤ vs.length
    · obtain ⟨ys, us, w, r, rfl, rfl, a, b⟩ := ih z
      exact ⟨v :: ys, t :: us, w, r, rfl, rfl, .cons g a, b⟩
    · obtain rfl : vs = [] := List.length_eq_zero_iff.mp (by omega)
      rename_i hh
      cases hh
      exact ⟨[], [], v, t, rfl, rfl, .nil, g⟩
theorem TDs.two {vs : List V} {ts : List NT} (h : TDs K H vs ts) (l : 2 ≤ vs.length) : ∃ ys us v1 v2 t1 t2, vs = ys ++ [v1] ++ [v2] ∧ ts = us ++ [t1] ++ [t2] ∧ TDs K H ys us ∧ TD K H v1 t1 ∧ TD K H v2 t2 := by
  obtain ⟨y1, u1, v2, t2, rfl, rfl, a, b⟩ := h.last (by omega)
  obtain ⟨ys, us, v1, t1, rfl, rfl, c, d⟩ := a.last (by rw [List.length_append] at l; have : [v2].length = 1 := rfl; omega)
  exact ⟨ys, us, v1, v2, t1, t2, rfl, rfl, c, d, b⟩
end
theorem at_m2 (ys : List V) (v1 v2 : V) : atI (ys ++ [v1] ++ [v2]) (-2) = some v1 := by
  unfold atI ixN
  have l : (ys ++ [v1] ++ [v2]).length = ys.length + 2 := by simp
  rw [l, if_neg (by decide), if_pos (by omega)]
  show (ys ++ [v1] ++ [v2])[(((ys.length + 2 : Nat) : Int) + -2).toNat]? = some v1
  rw [show (((ys.length + 2 : Nat) : Int) + -2).toNat = ys.length by omega]
  simp
theorem cut_m2 (ys : List V) (v1 v2 : V) : cutV (ys ++ [v1] ++ [v2]) none (some (-2)) = ys := by
  unfold cutV
  have l : (ys ++ [v1] ++ [v2]).length = ys.length + 2 := by simp
  have e1 : HT.sIx (ys ++ [v1] ++ [v2]).length 0 none = 0 := by simp [HT.sIx]
  have e2 : HT.sIx (ys ++ [v1] ++ [v2]).length (ys ++ [v1] ++ [v2]).length (some (-2)) = ys.length := by
    rw [l]
    simp [HT.sIx]
    omega
  rw [e1, e2, List.drop_zero, Nat.sub_zero, List.append_assoc, List.take_left]
def szs (ts : List NT) : Nat := (ts.map NT.sz).sum
theorem szs_snoc (ts : List NT) (t : NT) : szs (ts ++ [t]) = szs ts + t.sz := by
  unfold szs
  rw [List.map_append, List.sum_append]
  simp
theorem NT.sz_pos (t : NT) : 1 ≤ t.sz := by have := t.dp_sz; omega
theorem szs_len : ∀ ts : List NT, ts.length ≤ szs ts
  | [] => Nat.le_refl _
  | t :: ts => by
    have := szs_len ts
    have := t.sz_pos
    show ts.length + 1 ≤ ((t :: ts).map NT.sz).sum
    rw [List.map_cons, List.sum_cons]
    show ts.length + 1 ≤ t.sz + szs ts
    omega
/-- the items of the list there -/
def lsX (H : Hp) (a : Addr) : List V := match H a with
  | some (.lst xs) => xs
  | _ => []
theorem lsX_at {H : Hp} {a : Addr} {xs : List V} (h : H a = some (.lst xs)) : lsX H a = xs := by unfold lsX; rw [h]
/-- a pile of trees -/
structure Pil (K : PySem.W.Frag) (H0 H : Hp) (z : Addr) (xs : List V) (ts : List NT) : Prop where
  s : Same H0 H
  f : H0 z = none
  h : H z = some (.lst xs)
  t : TDs K (del H z) xs ts
  w : ∀ t ∈ ts, Wg t
theorem Pil.len {K : PySem.W.Frag} {H0 H : Hp} {z : Addr} {xs : List V} {ts : List NT} (p : Pil K H0 H z xs ts) : xs.length = ts.length := p.t.length
/-- a tree put on it -/
theorem Pil.put {K : PySem.W.Frag} {H0 H H' : Hp} {z : Addr} {xs : List V} {ts : List NT} {v : V} {t : NT} (p : Pil K H0 H z xs ts) (s : Same H H') (tv : TD K (del H' z) v t) (w : Wg t) : Pil K H0 (upd H' z (.lst (xs ++ [v]))) z (xs ++ [v]) (ts ++ [t]) := by
  have e : Same (del H' z) (del (upd H' z (.lst (xs ++ [v]))) z) := del_upd _ (Same.refl _)
  refine ⟨(p.s.trans s).upd p.f _, p.f, upd_same, ((p.t.same (del_mono z s)).same e).snoc (tv.same e), fun x hx => ?_⟩
  rcases List.mem_append.mp hx with hx | hx
  · exact p.w x hx
  · rw [List.mem_singleton.mp hx]; exact w
/-- the two topmost joined, on a new list -/
theorem Pil.join {K : PySem.W.Frag} {H0 H H' : Hp} {z z2 : Addr} {xs ys : List V} {ts us : List NT} {v1 v2 v : V} {t1 t2 t : NT} (p : Pil K H0 H z xs ts) (ex : xs = ys ++ [v1] ++ [v2]) (et : ts = us ++ [t1] ++ [t2]) (tt : TDs K (del H z) ys us) (s : Same H H') (hz2 : H' z2 = none) (tv : TD K H' v t) (w : Wg t) : Pil K H0 (upd H' z2 (.lst (ys ++ [v]))) z2 (ys ++ [v]) (us ++ [t]) := by
  have s2 := same_new hz2 (H := H') (.lst (ys ++ [v]))
  have e : Same (del H z) (del (upd H' z2 (.lst (ys ++ [v]))) z2) := fun a o h => by
    have h1 := s _ _ (del_same H z a o h)
    exact del_at (s2 _ _ h1) (ne_of_none h1 hz2)
  have e2 : Same H' (del (upd H' z2 (.lst (ys ++ [v]))) z2) := fun a o h => del_at (s2 _ _ h) (ne_of_none h hz2)
  refine ⟨(p.s.trans s).trans s2, (p.s.trans s).free hz2, upd_same, (tt.same e).snoc (tv.same e2), fun x hx => ?_⟩
  rcases List.mem_append.mp hx with hx | hx
  · exact p.w x (by rw [et]; exact List.mem_append_left _ (List.mem_append_left _ hx))
  · rw [List.mem_singleton.mp hx]; exact w
theorem wf_nil2 {sc : Int} {k : Nat} {y n : NT} (hs : sc = 1 ∨ sc = 10000000000000000000000000) (hk : k ≤ 100) (wy : Wg y) (wn : Wg n) : Wg (.fk [] ⟨"most", 0, .inl ((k : Int) * sc)⟩ y n) := .fk (fun c hc => by cases hc) (Nat.zero_le _) (.inl ⟨rfl, rfl, _, rfl⟩) wy wn
def scA (d : Int) : Int := if d < 3 then 1 else 10000000000000000000000000
theorem scA_at {d : Int} (h0 : 0 ≤ d) (h : d < 4) : atI [V.int 1, V.int 1, V.int 1, V.int 10000000000000000000000000] d = some (.int (scA d)) := by
  have : d = 0 ∨ d = 1 ∨ d = 2 ∨ d = 3 := by omega
  rcases this with rfl | rfl | rfl | rfl <;> rfl
theorem scA_or (d : Int) : scA d = 1 ∨ scA d = 10000000000000000000000000 := by
  unfold scA
  split
  · exact .inl rfl
  · exact .inr rfl
structure Co (cs : List (Str × Str)) : Prop where
  nm : ∀ w ∈ cs.map (·.1), isW w = true
  so : ∀ c ∈ cs, c.2 = "number" ∨ c.2 = "word"
/-! where values fall -/
def sp_lbelow : Sp := fun vs H Q _ => ∃ (x : Addr) (w : Str), vs = [.ref x, .str w] ∧ Q .non H
def sp_fbelow (CL CF : Addr) (K : PySem.W.Frag) : Sp := fun vs H Q _ => ∃ (x : Addr) (w : Str) (dx l qa : Addr) (v1 v2 : V) (a b : Int), vs = [.ref x, .str w] ∧ H x = some (.ins CF dx (ffs l qa v1 v2 a b)) ∧ Q (if w = "y" then v1 else if w = "n" then v2 else .non) H
/-- the tree at a place -/
def NT.go : NT → List Nat → Option NT
  | t, [] => some t
  | .lf _, _ :: _ => none
  | .fk _ _ y n, c :: cs => if c = 121 then y.go cs else if c = 110 then n.go cs else none
def sp_at (CL CF : Addr) (K : PySem.W.Frag) : Sp := fun vs H Q _ => ∃ (v : V) (w : Str) (t u : NT), vs = [v, .str w] ∧ ND CL CF K H v t ∧ w.length ≤ 1000 ∧ t.go (cds w) = some u ∧ ∀ v', ND CL CF K H v' u → Q v' H
/-- where the values fall -/
def NT.fall (ks : List Key) : NT → Str
  | .lf _ => ""
  | .fk _ q y n => if say q ks = true then "y" ++ y.fall ks else "n" ++ n.fall ks
/-- every question may be asked of these values -/
inductive Asks (ks : List Key) : NT → Prop
  | lf {cs : List (Str × Int)} : Asks ks (.lf cs)
  | fk {cs : List (Str × Int)} {q : Qs} {y n : NT} : Ask q ks → Asks ks y → Asks ks n → Asks ks (.fk cs q y n)
theorem NT.fall_len (ks : List Key) : ∀ t : NT, (t.fall ks).length ≤ t.dp
  | .lf _ => Nat.le_refl _
  | .fk _ q y n => by
    have h1 := y.fall_len ks
    have h2 := n.fall_len ks
    show (if say q ks = true then "y" ++ y.fall ks else "n" ++ n.fall ks).length ≤ 1 + max y.dp n.dp
    have ly : ("y" : Str).length = 1 := by decide +kernel
    have ln : ("n" : Str).length = 1 := by decide +kernel
    split
    · rw [lenA, ly]; omega
    · rw [lenA, ln]; omega
def sp_lplace : Sp := fun vs H Q _ => ∃ (x va : Addr), vs = [.ref x, .ref va] ∧ Q (.str "") H
def sp_fplace (CL CF : Addr) (K : PySem.W.Frag) (d : Nat) : Sp := fun vs H Q _ => ∃ (x va dx l qa : Addr) (v1 v2 : V) (cs : List (Str × Int)) (q : Qs) (y n : NT) (ks : List Key), vs = [.ref x, .ref va] ∧ H x = some (.ins CF dx (ffs l qa v1 v2 ((y.lv + n.lv : Nat) : Int) ((1 + max y.dp n.dp : Nat) : Int))) ∧ H qa = some (.tup (qV q)) ∧ ND CL CF K H v1 y ∧ ND CL CF K H v2 n ∧ H va = some (.tup (ks.map kV)) ∧ Asks ks (.fk cs q y n) ∧ 1 + max y.dp n.dp ≤ d ∧ d ≤ 900 ∧ Q (.str ((NT.fk cs q y n).fall ks)) H
section
variable {CL CF : Addr} {K : PySem.W.Frag} {H : Hp} {v : V} {t : NT} {Q : VK} {E : XK} {σ : St} {ta : TA}
theorem nd_place {va : Addr} {ks : List Key} {d : Nat} (h : ND CL CF K H v t) (hv : H va = some (.tup (ks.map kV))) (ha : Asks ks t) (hd : t.dp ≤ d) (h9 : d ≤ 900) (ht : ∀ k : List V → Hp → Prop, k [.ref va] H → ta σ H k) (q : Q (.str (t.fall ks)) H) : (∃ a dx fs, v = .ref a ∧ H a = some (.ins CL dx fs) ∧ fs.lookup ("place_of" : Str) = none ∧ ta σ H fun vs H2 => sp_lplace (v :: vs) H2 Q E) ∨ (∃ a dx fs, v = .ref a ∧ H a = some (.ins CF dx fs) ∧ fs.lookup ("place_of" : Str) = none ∧ ta σ H fun vs H2 => sp_fplace CL CF K d (v :: vs) H2 Q E) := by
  cases h with
  | lf h1 h2 => exact .inl ⟨_, _, _, rfl, h1, rfl, ht _ ⟨_, _, rfl, q⟩⟩
  | fk h1 h2 h3 h4 h5 => exact .inr ⟨_, _, _, rfl, h1, rfl, ht _ ⟨_, _, _, _, _, _, _, _, _, _, _, ks, rfl, h1, h3, h4, h5, hv, ha, hd, h9, q⟩⟩
end
theorem one_y (c : Nat) : (⟨#[c]⟩ : Str) = "y" ↔ c = 121 := by
  constructor
  · intro h
    have := congrArg cds h
    have e : cds ("y" : Str) = [121] := by decide +kernel
    rw [e] at this
    injection this
  · rintro rfl
    exact str_ext (by decide +kernel)
theorem one_n (c : Nat) : (⟨#[c]⟩ : Str) = "n" ↔ c = 110 := by
  constructor
  · intro h
    have := congrArg cds h
    have e : cds ("n" : Str) = [110] := by decide +kernel
    rw [e] at this
    injection this
  · rintro rfl
    exact str_ext (by decide +kernel)
theorem ND.ref {CL CF : Addr} {K : PySem.W.Frag} {H : Hp} {v : V} {t : NT} (h : ND CL CF K H v t) : ∃ a, v = .ref a := by cases h <;> exact ⟨_, rfl⟩
section
variable {CL CF : Addr} {K : PySem.W.Frag} {H : Hp} {v : V} {t : NT} {Q : VK} {E : XK} {σ : St} {ta : TA}
theorem nd_below {c : Nat} {r : List Nat} {u : NT} (h : ND CL CF K H v t) (hg : t.go (c :: r) = some u) (ht : ∀ k : List V → Hp → Prop, k [.str ⟨#[c]⟩] H → ta σ H k) (q : ∀ v' t', ND CL CF K H v' t' → t'.go r = some u → Q v' H) : (∃ a dx fs, v = .ref a ∧ H a = some (.ins CL dx fs) ∧ fs.lookup ("below" : Str) = none ∧ ta σ H fun vs H2 => sp_lbelow (v :: vs) H2 Q E) ∨ (∃ a dx fs, v = .ref a ∧ H a = some (.ins CF dx fs) ∧ fs.lookup ("below" : Str) = none ∧ ta σ H fun vs H2 => sp_fbelow CL CF K (v :: vs) H2 Q E) := by
  cases h with
  | lf h1 h2 => cases hg
  | @fk x dx l qa cs qq v1 v2 y n h1 h2 h3 h4 h5 =>
    refine .inr ⟨_, _, _, rfl, h1, rfl, ht _ ⟨_, _, _, _, _, _, _, _, _, rfl, h1, ?_⟩⟩
    have hg : (if c = 121 then y.go r else if c = 110 then n.go r else none) = some u := hg
    by_cases e : c = 121
    · rw [if_pos e] at hg
      rw [if_pos ((one_y c).mpr e)]
      exact q _ _ h4 hg
    · rw [if_neg e] at hg
      rw [if_neg fun z => e ((one_y c).mp z)]
      by_cases e2 : c = 110
      · rw [if_pos e2] at hg
        rw [if_pos ((one_n c).mpr e2)]
        exact q _ _ h5 hg
      · rw [if_neg e2] at hg
        cases hg
end
/-- the law's own trees: tuples of four -/
inductive T4 (K : PySem.W.Frag) (H : Hp) : V → NT → Prop
  | lf {p l : Addr} {cs : List (Str × Int)} : H p = some (.tup [.ref l, .non, .non, .non]) → Cn K H l cs → T4 K H (.ref p) (.lf cs)
  | fk {p l qa : Addr} {cs : List (Str × Int)} {q : Qs} {v1 v2 : V} {y n : NT} : H p = some (.tup [.ref l, .ref qa, v1, v2]) → Cn K H l cs → H qa = some (.tup (qV q)) → T4 K H v1 y → T4 K H v2 n → T4 K H (.ref p) (.fk cs q y n)
/-- its questions may be asked of these columns -/
inductive Wq (cs : List (Str × Str)) : NT → Prop
  | lf {ds : List (Str × Int)} : (∀ c ∈ ds, isW c.1 = true) → ds.length ≤ 60 → Wq cs (.lf ds)
  | fk {ds : List (Str × Int)} {q : Qs} {y n : NT} : (∀ c ∈ ds, isW c.1 = true) → ds.length ≤ 60 → QOk cs q → Wq cs y → Wq cs n → Wq cs (.fk ds q y n)
structure S19 (K : PySem.W.Frag) (H : Hp) (b ca pa sa : Addr) (xs : List V) (cs : List (Str × Str)) (ns : List Int) (ws : List Str) : Prop where
  hc : H ca = some (.lst xs)
  tv : TVs K H xs (cs.map colD)
  gc : GoodC cs
  hp : H pa = some (.lst (ns.map V.int))
  l7 : ns.length = 7
  hs : H sa = some (.lst (ws.map V.str))
  wd : Wds ws
  w4 : 4 ≤ ws.length
  nc : b ≠ ca
  np : b ≠ pa
  ns' : b ≠ sa
/-- a tree of objects that needs none of the lists that were there -/
def dlH (H H' : Hp) : Hp := fun a => match H a with
  | some (.lst _) => none
  | _ => H' a
def NDn (CL CF : Addr) (K : PySem.W.Frag) (H H' : Hp) (u : V) (t : NT) : Prop := ND CL CF K (dlH H H') u t
def sp_init_fork2 (CL CF : Addr) (K : PySem.W.Frag) : Sp := fun vs H Q _ => ∃ (x a qa dx : Addr) (v1 v2 : V) (xs : List V) (y n : NT), vs = [.ref x, .ref a, .ref qa, v1, v2] ∧ H x = some (.ins CF dx []) ∧ H a = some (.lst xs) ∧ ND CL CF K H v1 y ∧ ND CL CF K H v2 n ∧
  ∀ H' l, SameB x H H' → H l = none → H' x = some (.ins CF dx (ffs l qa v1 v2 ((y.lv + n.lv : Nat) : Int) ((1 + max y.dp n.dp : Nat) : Int))) → H' l = some (.lst xs) → Q .non H'
def qD (q : Qs) : PyData := .tuple [.str q.kd, .int (q.at' : Nat), kD q.c]
/-- a tree as data -/
def tD : NT → PyData
  | .lf ds => .tuple [.list (ds.map cD), .none, .none, .none]
  | .fk ds q y n => .tuple [.list (ds.map cD), qD q, tD y, tD n]
def sp_fall (K : PySem.W.Frag) : Sp := fun vs H Q _ => ∃ (v : V) (va : Addr) (t : NT) (ks : List Key), vs = [v, .ref va] ∧ T4 K H v t ∧ H va = some (.tup (ks.map kV)) ∧ Asks ks t ∧ t.dp ≤ 20 ∧ Q (.str (t.fall ks)) H
def sp_right19 (CL CF : Addr) (K : PySem.W.Frag) : Sp := fun vs H Q _ => ∃ (u : V) (va : Addr) (t : NT) (ks : List Key) (w : Str), vs = [u, .str w, .ref va] ∧ w = t.fall ks ∧ ND CL CF K H u t ∧ H va = some (.tup (ks.map kV)) ∧ Asks ks t ∧ t.dp ≤ 20 ∧ ∀ H', Same H H' → Q (.bl true) H'
section
variable {CL CF : Addr} {K : PySem.W.Frag} {H : Hp} {v : V} {t : NT} {Q : VK} {E : XK} {σ : St} {ta : TA}
theorem nd_at {w : Str} {u : NT} (h : ND CL CF K H v t) (lw : w.length ≤ 1000) (hg : t.go (cds w) = some u) (ht : ∀ k : List V → Hp → Prop, k [.str w] H → ta σ H k) (q : ∀ v', ND CL CF K H v' u → Q v' H) : (∃ a dx fs, v = .ref a ∧ H a = some (.ins CL dx fs) ∧ fs.lookup ("at" : Str) = none ∧ ta σ H fun vs H2 => sp_at CL CF K (v :: vs) H2 Q E) ∨ (∃ a dx fs, v = .ref a ∧ H a = some (.ins CF dx fs) ∧ fs.lookup ("at" : Str) = none ∧ ta σ H fun vs H2 => sp_at CL CF K (v :: vs) H2 Q E) := by
  cases id h with
  | lf h1 h2 => exact .inl ⟨_, _, _, rfl, h1, rfl, ht _ ⟨_, _, _, _, rfl, h, lw, hg, q⟩⟩
  | fk h1 h2 h3 h4 h5 => exact .inr ⟨_, _, _, rfl, h1, rfl, ht _ ⟨_, _, _, _, rfl, h, lw, hg, q⟩⟩
end
/-- a tree's costs -/
inductive CQ where
  | en (q : Rat)
  | fk (q : Rat) (y n : CQ)
def CQ.dp : CQ → Nat
  | .en _ => 0
  | .fk _ y n => 1 + max y.dp n.dp
def rtD (q : Rat) : PyData := .tuple [.int q.num, .int (q.den : Int)]
def cqD : CQ → PyData
  | .en q => .tuple [.str "end", rtD q]
  | .fk q y n => .tuple [.str "fork", rtD q, cqD y, cqD n]
inductive CV (K : PySem.W.Frag) (H : Hp) : V → CQ → Prop
  | en {p r : Addr} {q : Rat} : H p = some (.tup [.str "end", .ref r]) → H r = some (rt q) → CV K H (.ref p) (.en q)
  | fk {p r : Addr} {q : Rat} {v1 v2 : V} {y n : CQ} : H p = some (.tup [.str "fork", .ref r, v1, v2]) → H r = some (rt q) → CV K H v1 y → CV K H v2 n → CV K H (.ref p) (.fk q y n)
theorem CV.mono {K : PySem.W.Frag} {H H' : Hp} {v : V} {c : CQ} (h : CV K H v c) (s : SameT H H') : CV K H' v c := by
  induction h with
  | en h1 h2 => exact .en (s _ _ h1) (s _ _ h2)
  | fk h1 h2 _ _ i1 i2 => exact .fk (s _ _ h1) (s _ _ h2) i1 i2
theorem CV.same {K : PySem.W.Frag} {H H' : Hp} {v : V} {c : CQ} (h : CV K H v c) (s : Same H H') : CV K H' v c := h.mono s.t
/-- the costs of a tree by a measure -/
def NT.co (m : Str) : NT → CQ
  | .lf cs => .en (messR cs m)
  | .fk cs _ y n => .fk (messR cs m) (y.co m) (n.co m)
def NT.ct : NT → List (Str × Int)
  | .lf cs => cs
  | .fk cs _ _ _ => cs
inductive Nz : NT → Prop
  | lf {cs : List (Str × Int)} : Ctz cs → Nz (.lf cs)
  | fk {cs : List (Str × Int)} {q : Qs} {y n : NT} : Ctz cs → Nz y → Nz n → Nz (.fk cs q y n)
theorem NT.dp_lv : ∀ t : NT, t.dp < t.lv
  | .lf _ => Nat.lt_succ_self 0
  | .fk _ _ y n => by
    have := y.dp_lv
    have := n.dp_lv
    show 1 + max y.dp n.dp < y.lv + n.lv
    omega
def sp_costed (CL CF : Addr) (K : PySem.W.Frag) (C : Addr) (d : Nat) : Sp := fun vs H Q E => ∃ (v : V) (m : Str) (t : NT), vs = [v, .str m] ∧ ND CL CF K H v t ∧ Nz t ∧ Sh m ∧ t.dp ≤ d ∧ ((isM m ∧ ∀ H' u, Same H H' → CV K H' u (t.co m) → Q u H') ∨ (¬ isM m ∧ E (.ref C) none H))
/-! trees -/
inductive Tr where
  | en (w : Int)
  | fk (w : Int) (y n : Tr)
def trD : Tr → PyData
  | .en w => .tuple [.str "end", .int w]
  | .fk w y n => .tuple [.str "fork", .int w, trD y, trD n]
def Tr.lv : Tr → Nat
  | .en _ => 1
  | .fk _ y n => y.lv + n.lv
def Tr.dp : Tr → Nat
  | .en _ => 0
  | .fk _ y n => max y.dp n.dp + 1
theorem Tr.lv_pos : ∀ t : Tr, 0 < t.lv
  | .en _ => Nat.one_pos
  | .fk _ y n => Nat.add_pos_left (lv_pos y) _
theorem Tr.dp_lt : ∀ t : Tr, t.dp < t.lv
  | .en _ => Nat.one_pos
  | .fk _ y n => by
    have h1 := dp_lt y
    have h2 := dp_lt n
    show max y.dp n.dp + 1 < y.lv + n.lv
    omega
abbrev Pi := Tr × Int
def piD (i : Pi) : PyData := .tuple [trD i.1, .int i.2, .int (i.1.lv : Int)]
theorem TV.quad {K : PySem.W.Frag} {H : Hp} {x : V} {a b c d : PyData} (h : TV K H x (.tuple [a, b, c, d])) : ∃ p u v w z, x = .ref p ∧ H p = some (.tup [u, v, w, z]) ∧ TV K H u a ∧ TV K H v b ∧ TV K H w c ∧ TV K H z d := by
  cases h with
  | tup e hs =>
    cases hs with
    | cons h1 hs =>
      cases hs with
      | cons h2 hs =>
        cases hs with
        | cons h3 hs =>
          cases hs with
          | cons h4 hs =>
            cases hs
            exact ⟨_, _, _, _, _, rfl, e, h1, h2, h3, h4⟩
theorem Same.over {H H' : Hp} {z : Addr} (s : Same H H') (hz : H z = none) (o : HO) : Same H (upd H' z o) := fun a u e => by
  rw [upd_ne (ne_of_none e hz)]
  exact s a u e
theorem TVs.snoc {K : PySem.W.Frag} {H : Hp} : ∀ {xs : List V} {ds : List PyData} {x : V} {d : PyData}, TVs K H xs ds → TV K H x d → TVs K H (xs ++ [x]) (ds ++ [d])
  | _, _, _, _, .nil, t => .cons t .nil
  | _, _, _, _, .cons h hs, t => .cons h (TVs.snoc hs t)
theorem Same.free {H H' : Hp} {p : Addr} (s : Same H H') (h : H' p = none) : H p = none := by
  cases e : H p with
  | none => rfl
  | some o => rw [s p o e] at h; cases h
def sp_pick : Sp := fun vs H Q _ => ∃ c k m : Int, vs = [.int c, .int k, .int m] ∧ 0 ≤ k ∧ k ≤ 60 ∧ 0 < m ∧ m ≤ 1000 ∧ ∀ v : Int, 0 ≤ v → v < m → Q (.int v) H
def sp_worth : Sp := fun vs H Q _ => ∃ c y : Int, vs = [.int c, .int y] ∧ ∀ v : Int, -1000000000000000000000000000000 < v → v < 1000000000000000000000000000000 → Q (.int v) H
def sp_joined (K : PySem.W.Frag) : Sp := fun vs H Q _ => ∃ (c y : Int) (v1 v2 : V) (i1 i2 : Pi), vs = [.int c, v1, v2, .int y] ∧ TV K H v1 (piD i1) ∧ TV K H v2 (piD i2) ∧ i1.1.lv + i2.1.lv ≤ 50 ∧
  ∀ H' v i, Same H H' → TV K H' v (piD i) → i.1.lv = i1.1.lv + i2.1.lv → Q v H'
def sp_tree (K : PySem.W.Frag) : Sp := fun vs H Q _ => ∃ (a : Addr) (ns : List Int) (y : Int), vs = [.ref a, .int y] ∧ H a = some (.lst (ns.map V.int)) ∧ 1 ≤ ns.length ∧ ns.length ≤ 21 ∧ ∀ H' v t, Same H H' → TV K H' v (trD t) → t.lv ≤ 21 → Q v H'
def sp_bag : Sp := fun vs H Q _ => ∃ c : Int, vs = [.int c] ∧ ∀ p b0 b1, H p = none → Bg b1 → Q (.ref p) (upd H p (.lst [.int b0, .int b1]))
/-- the places of a pruning at q, and of its forks -/
inductive PI : Tr → Str → List Str → List Str → Prop
  | stop (t : Tr) (q : Str) : PI t q [q] []
  | go {w : Int} {y n : Tr} {q : Str} {ps1 ps2 fs1 fs2 : List Str} : PI y (q ++ "y") ps1 fs1 → PI n (q ++ "n") ps2 fs2 → PI (.fk w y n) q (ps2 ++ ps1) (q :: (fs2 ++ fs1))
theorem PI.len {t : Tr} {q : Str} {ps fs : List Str} (h : PI t q ps fs) : ps.length ≤ t.lv ∧ fs.length + 1 = ps.length := by
  induction h with
  | stop t q => exact ⟨t.lv_pos, rfl⟩
  | @go w y n q ps1 ps2 fs1 fs2 _ _ h1 h2 =>
    rw [List.length_append, List.length_cons, List.length_append]
    show _ ≤ y.lv + n.lv ∧ _
    omega
def sp_pruned (K : PySem.W.Frag) (d : Nat) : Sp := fun vs H Q _ => ∃ (v : V) (q : Str) (b : Addr) (b0 b1 : Int) (t : Tr), vs = [v, .str q, .ref b] ∧ TV K H v (trD t) ∧ t.dp ≤ d ∧ t.lv ≤ 50 ∧ q.length + d ≤ 100 ∧ H b = some (.lst [.int b0, .int b1]) ∧ Bg b1 ∧
  ∀ H' p c0 c1 ps fs, SameB b H H' → H' b = some (.lst [.int c0, .int c1]) → Bg c1 → H p = none → H' p = some (.lst (ps.map V.str)) → PI t q ps fs → Q (.ref p) H'
/-! prunings cut -/
def bgs (x : Str) (ps : List Str) : List Str := ps.filter fun o => Txt.startswith x o
def kept (ps fs : List Str) : List Str := ps.filter fun x => decide ((bgs x fs).length = 0)
def tops (fs : List Str) : List Str := fs.filter fun x => decide ((bgs x fs).length = 1)
def stepS (x s o : Str) : Str := if Txt.startswith x o = true ∧ o.length < s.length then o else s
def shortest (x : Str) (fs : List Str) : Str := fs.foldl (stepS x) x
def stepM (fs : List Str) (m : List Str) (x : Str) : List Str := if shortest x fs ∈ m then m else m ++ [shortest x fs]
def made (ps fs : List Str) : List Str := ps.foldl (stepM fs) []
theorem mem_bgs {x o : Str} {ps : List Str} : o ∈ bgs x ps ↔ o ∈ ps ∧ cds o <+: cds x := by
  unfold bgs
  rw [List.mem_filter, starts_iff]
theorem pre_app (q s : Str) : cds q <+: cds (q ++ s) := by rw [cds_app]; exact List.prefix_append _ _
theorem yn_apart {q x : Str} (h1 : cds (q ++ "y") <+: cds x) (h2 : cds (q ++ "n") <+: cds x) : False := by
  obtain ⟨r1, e1⟩ := h1
  obtain ⟨r2, e2⟩ := h2
  rw [cds_app, List.append_assoc] at e1 e2
  have e := List.append_cancel_left (e1.trans e2.symm)
  have z1 : cds ("y" : Str) = [121] := by decide +kernel
  have z2 : cds ("n" : Str) = [110] := by decide +kernel
  rw [z1, z2] at e
  injection e with e _
  exact absurd e (by decide)
theorem longer {q x : Str} {s : Str} (hs : s.length = 1) (h : cds (q ++ s) <+: cds x) : ¬ cds x <+: cds q := by
  intro g
  have l1 := h.length_le
  have l2 := g.length_le
  rw [cds_len, cds_len, len_app] at l1
  rw [cds_len, cds_len] at l2
  omega
theorem PI.pre {t : Tr} {q : Str} {ps gs : List Str} (h : PI t q ps gs) : (∀ x ∈ ps, cds q <+: cds x) ∧ (∀ f ∈ gs, cds q <+: cds f) := by
  induction h with
  | stop t q => exact ⟨fun x hx => by rw [List.mem_singleton.mp hx]; exact List.prefix_refl _, fun f hf => by cases hf⟩
  | @go w y n q ps1 ps2 fs1 fs2 _ _ h1 h2 =>
    refine ⟨fun x hx => ?_, fun f hf => ?_⟩
    · rcases List.mem_append.mp hx with hx | hx
      · exact (pre_app q _).trans (h2.1 x hx)
      · exact (pre_app q _).trans (h1.1 x hx)
    · rcases List.mem_cons.mp hf with rfl | hf
      · exact List.prefix_refl _
      · rcases List.mem_append.mp hf with hf | hf
        · exact (pre_app q _).trans (h2.2 f hf)
        · exact (pre_app q _).trans (h1.2 f hf)
theorem ynl : ("y" : Str).length = 1 ∧ ("n" : Str).length = 1 := by decide +kernel
structure Facts (ps gs : List Str) : Prop where
  n1 : ps.Nodup
  n2 : gs.Nodup
  ap : ∀ x ∈ ps, ∀ f ∈ gs, ¬ cds x <+: cds f
  co : ∀ f ∈ gs, ∃ x ∈ ps, cds f <+: cds x
  ne : ps ≠ []
theorem rising_pw : ∀ (p : Str) (l : List Str), PyProof.Rows.risingS p l = true → ∀ x ∈ l, cds p ≤ cds x
  | p, [], _, x, hx => by cases hx
  | p, y :: r, h, x, hx => by
    have h : (!PySem.Spec.ltCps y.cps.toList p.cps.toList && PyProof.Rows.risingS y r) = true := h
    rw [Bool.and_eq_true, Bool.not_eq_true', PyProof.Rows.ltCps_eq, decide_eq_false_iff_not] at h
    have hpy : cds p ≤ cds y := h.1
    rcases List.mem_cons.mp hx with rfl | hx
    · exact hpy
    · exact List.le_trans hpy (rising_pw y r h.2 x hx)
theorem sorted_tail {a : Str} {l : List Str} (h : PyProof.Rows.sortedS (a :: l) = true) : PyProof.Rows.sortedS l = true := by
  cases l with
  | nil => rfl
  | cons b l =>
    have h : (!PySem.Spec.ltCps b.cps.toList a.cps.toList && PyProof.Rows.risingS b l) = true := h
    rw [Bool.and_eq_true] at h
    exact h.2
theorem sorted_one : ∀ {l1 l2 : List Str}, PyProof.Rows.sortedS l1 = true → PyProof.Rows.sortedS l2 = true → l1.Perm l2 → l1 = l2
  | [], l2, _, _, p => (List.nil_perm.mp p).symm
  | a :: l1, [], _, _, p => absurd p.symm (by intro z; have := z.length_eq; cases this)
  | a :: l1, b :: l2, h1, h2, p => by
    have ha : a ∈ b :: l2 := p.mem_iff.mp List.mem_cons_self
    have hb : b ∈ a :: l1 := p.mem_iff.mpr List.mem_cons_self
    have e : a = b := by
      rcases List.mem_cons.mp ha with e | ha
      · exact e
      · rcases List.mem_cons.mp hb with e | hb
        · exact e.symm
        · exact str_ext (List.le_antisymm (rising_pw a l1 h1 b hb) (rising_pw b l2 h2 a ha))
    subst e
    rw [sorted_one (sorted_tail h1) (sorted_tail h2) (List.Perm.cons_inv p)]
theorem filter_takeS {α : Type} {l : List α} {p : α → Bool} {i : Nat} {a : α} (h : l[i]? = some a) : (l.take (i + 1)).filter p = (l.take i).filter p ++ (if p a = true then [a] else []) := by
  rw [List.take_add_one, h, List.filter_append]
  congr 1
  simp [List.filter_cons]
theorem flat_str (ps : List Str) : (ps.map V.str).all flatV = true := by
  rw [List.all_map]
  exact List.all_eq_true.mpr fun _ _ => rfl
def Asc (x : Str) : Prop := ∀ c ∈ cds x, c < 128
theorem Asc.app {x y : Str} (h : Asc x) (g : Asc y) : Asc (x ++ y) := fun c hc => by
  rw [cds_app] at hc
  exact (List.mem_append.mp hc).elim (h c) (g c)
theorem dvS {K : PySem.W.Frag} {H : Hp} {p : Addr} {ps : List Str} (h : H p = some (.lst (ps.map V.str))) : DV K H (.ref p) (.list (ps.map PyData.str)) := .lst (SqL.of h) (TVs.strs ps).dv
theorem shS {n : Nat} {ps : List Str} (h : ∀ x ∈ ps, Asc x) : Shp (n + 1) (.list (ps.map PyData.str)) := .lst fun d hd => by
  obtain ⟨x, hx, rfl⟩ := List.mem_map.mp hd
  exact .str n (h x hx)
structure Okf (fs gs : List Str) : Prop where
  sb : ∀ f ∈ fs, f ∈ gs
  nd : fs.Nodup
  ln : fs.length ≤ gs.length
def sp_beginnings (K : PySem.W.Frag) : Sp := fun vs H Q _ => ∃ (x : Str) (a : Addr) (ps : List Str), vs = [.str x, .ref a] ∧ H a = some (.lst (ps.map V.str)) ∧ ps.length ≤ 100 ∧ ∀ p, H p = none → Q (.ref p) (upd H p (.lst ((bgs x ps).map V.str)))
def sp_cut (K : PySem.W.Frag) : Sp := fun vs H Q _ => ∃ (a b : Addr) (ps fs : List Str), vs = [.ref a, .ref b] ∧ H a = some (.lst (ps.map V.str)) ∧ H b = some (.lst (fs.map V.str)) ∧ ps.length + fs.length < 64 ∧
  ∀ H' p rs, Same H H' → H p = none → H' p = some (.lst (rs.map V.str)) → rs.Perm (kept ps fs ++ tops fs) → PyProof.Rows.sortedS rs = true → Q (.ref p) H'
def sp_due (K : PySem.W.Frag) : Sp := fun vs H Q _ => ∃ (a b : Addr) (ps fs : List Str), vs = [.ref a, .ref b] ∧ H a = some (.lst (ps.map V.str)) ∧ H b = some (.lst (fs.map V.str)) ∧ ps.length < 64 ∧ fs.length ≤ 100 ∧ (∀ x ∈ ps, x.length ≤ 100) ∧ (∀ x ∈ fs, x.length ≤ 100) ∧
  ∀ H' p rs, Same H H' → H p = none → H' p = some (.lst (rs.map V.str)) → rs.Perm (made ps fs) → PyProof.Rows.sortedS rs = true → Q (.ref p) H'
def lkD (u : Str × Int × Int) : PyData := .tuple [.str u.1, .int u.2.1, .int u.2.2]
def sp_links (K : PySem.W.Frag) (d : Nat) : Sp := fun vs H Q _ => ∃ (v : V) (a : Addr) (q : Str) (t : Tr) (ps qs fs : List Str), vs = [v, .ref a, .str q] ∧ TV K H v (trD t) ∧ t.dp ≤ d ∧ t.lv ≤ 50 ∧ q.length + d ≤ 100 ∧ H a = some (.lst (ps.map V.str)) ∧ ps.length ≤ 100 ∧ PI t q qs fs ∧ (∀ x, (x ∈ ps ∧ cds q <+: cds x) ↔ x ∈ qs) ∧
  ∀ H' p l xs (us : List (Str × Int × Int)) (s m : Int), Same H H' → H' p = some (.tup [.int s, .int m, .ref l]) → H' l = some (.lst xs) → TVs K H' xs (us.map lkD) → us.map (·.1) = fs → Q (.ref p) H'
/-! all places of a tree -/
def plc : Tr → Str → List (Str × Str)
  | .en _, q => [(q, "end")]
  | .fk _ y n, q => (q, ("fork" : Str)) :: (plc y (q ++ "y") ++ plc n (q ++ "n"))
theorem plc_len : ∀ (t : Tr) (q : Str), (plc t q).length + 1 = 2 * t.lv
  | .en _, _ => rfl
  | .fk _ y n, q => by
    have h1 := plc_len y (q ++ "y")
    have h2 := plc_len n (q ++ "n")
    show ((q, ("fork" : Str)) :: (plc y (q ++ "y") ++ plc n (q ++ "n"))).length + 1 = 2 * (y.lv + n.lv)
    rw [List.length_cons, List.length_append]
    omega
def plD (u : Str × Str) : PyData := .tuple [.str u.1, .str u.2]
def tdD (e : Str × Tr) : PyData := .tuple [.str e.1, trD e.2]
def plcs (ts : List (Str × Tr)) : List (Str × Str) := ts.flatMap fun e => plc e.2 e.1
theorem snocT {P : Str × Tr → Prop} {as : List (Str × Tr)} {e : Str × Tr} (h : ∀ x ∈ as, P x) (he : P e) : ∀ x ∈ as ++ [e], P x := fun x hx => by
  rcases List.mem_append.mp hx with z | z
  · exact h x z
  · rw [List.mem_singleton.mp z]; exact he
theorem pop1_at (ys : List V) (x : V) : (ys ++ [x])[(ys ++ [x]).length - 1]? = some x := by
  rw [List.length_append, List.getElem?_append_right (by simp)]
  simp
theorem pop1_rest (ys : List V) (x : V) : (ys ++ [x]).dropLast = ys := by simp
def sp_places (K : PySem.W.Frag) : Sp := fun vs H Q _ => ∃ (v : V) (t : Tr), vs = [v] ∧ TV K H v (trD t) ∧ t.lv ≤ 30 ∧ ∀ H' p xs (us : List (Str × Str)), Same H H' → H p = none → H' p = some (.lst xs) → TVs K H' xs (us.map plD) → us.Perm (plc t "") → Q (.ref p) H'
/-! handed trees, all their places -/
def rD (B w : Int) : PyData := .tuple [.int (Rat.divInt w B).num, .int ((Rat.divInt w B).den : Int)]
def htD (B : Int) : Tr → PyData
  | .en w => .tuple [.str "end", rD B w]
  | .fk w y n => .tuple [.str "fork", rD B w, htD B y, htD B n]
theorem TV.rD {K : PySem.W.Frag} {H : Hp} {x : V} {B w : Int} (h : TV K H x (rD B w)) : ∃ c, x = .ref c ∧ H c = some (rt (Rat.divInt w B)) := by
  obtain ⟨p, u, v, rfl, hp, t1, t2⟩ := TV.pair h
  obtain rfl := t1.ints
  obtain rfl := t2.ints
  exact ⟨p, rfl, hp⟩
theorem TV.rD' {K : PySem.W.Frag} {H : Hp} {c : Addr} {B w : Int} (h : H c = some (rt (Rat.divInt w B))) : TV K H (.ref c) (Lw.rD B w) := .tup h (.cons (.int _) (.cons (.int _) .nil))
theorem TV.hen {K : PySem.W.Frag} {H : Hp} {x : V} {B w : Int} (h : TV K H x (htD B (.en w))) : ∃ p c, x = .ref p ∧ H p = some (.tup [.str "end", .ref c]) ∧ H c = some (rt (Rat.divInt w B)) := by
  unfold htD at h
  obtain ⟨p, u, v, rfl, hp, t1, t2⟩ := TV.pair h
  obtain rfl := t1.strs
  obtain ⟨c, rfl, hc⟩ := TV.rD t2
  exact ⟨p, c, rfl, hp, hc⟩
theorem TV.hfk {K : PySem.W.Frag} {H : Hp} {x : V} {B w : Int} {y n : Tr} (h : TV K H x (htD B (.fk w y n))) : ∃ p c u v, x = .ref p ∧ H p = some (.tup [.str "fork", .ref c, u, v]) ∧ H c = some (rt (Rat.divInt w B)) ∧ TV K H u (htD B y) ∧ TV K H v (htD B n) := by
  unfold htD at h
  obtain ⟨p, a, b, u, v, rfl, hp, t1, t2, t3, t4⟩ := TV.quad h
  obtain rfl := t1.strs
  obtain ⟨c, rfl, hc⟩ := TV.rD t2
  exact ⟨p, c, u, v, rfl, hp, hc, t3, t4⟩
theorem TV.hen' {K : PySem.W.Frag} {H : Hp} {p c : Addr} {B w : Int} (h : H p = some (.tup [.str "end", .ref c])) (hc : H c = some (rt (Rat.divInt w B))) : TV K H (.ref p) (htD B (.en w)) := by
  unfold htD
  exact .tup h (.cons (.str _) (.cons (TV.rD' hc) .nil))
theorem TV.hfk' {K : PySem.W.Frag} {H : Hp} {p c : Addr} {u v : V} {B w : Int} {y n : Tr} (h : H p = some (.tup [.str "fork", .ref c, u, v])) (hc : H c = some (rt (Rat.divInt w B))) (h1 : TV K H u (htD B y)) (h2 : TV K H v (htD B n)) : TV K H (.ref p) (htD B (.fk w y n)) := by
  unfold htD
  exact .tup h (.cons (.str _) (.cons (TV.rD' hc) (.cons h1 (.cons h2 .nil))))
def knd : Tr → Str
  | .en _ => "end"
  | .fk _ _ _ => "fork"
def plt : Tr → Str → List (Str × Tr)
  | .en w, q => [(q, .en w)]
  | .fk w y n, q => (q, .fk w y n) :: (plt y (q ++ "y") ++ plt n (q ++ "n"))
theorem plt_plc : ∀ (t : Tr) (q : Str), plc t q = (plt t q).map fun e => (e.1, knd e.2)
  | .en _, _ => rfl
  | .fk w y n, q => by
    show (q, ("fork" : Str)) :: (plc y (q ++ "y") ++ plc n (q ++ "n")) = (q, ("fork" : Str)) :: ((plt y (q ++ "y") ++ plt n (q ++ "n")).map fun e => (e.1, knd e.2))
    rw [plt_plc y, plt_plc n, List.map_append]
theorem plt_pre : ∀ {t : Tr} {q : Str} {e : Str × Tr}, e ∈ plt t q → cds q <+: cds e.1
  | .en _, q, e, h => by rw [List.mem_singleton.mp h]; exact List.prefix_refl _
  | .fk w y n, q, e, h => by
    rcases List.mem_cons.mp h with rfl | h
    · exact List.prefix_refl _
    · rcases List.mem_append.mp h with h | h
      · exact (pre_app _ _).trans (plt_pre h)
      · exact (pre_app _ _).trans (plt_pre h)
theorem plt_nodup : ∀ (t : Tr) (q : Str), ((plt t q).map (·.1)).Nodup
  | .en _, _ => List.nodup_cons.mpr ⟨List.not_mem_nil, List.nodup_nil⟩
  | .fk w y n, q => by
    show (q :: ((plt y (q ++ "y") ++ plt n (q ++ "n")).map (·.1))).Nodup
    rw [List.map_append, List.nodup_cons, List.nodup_append]
    refine ⟨fun z => ?_, plt_nodup y _, plt_nodup n _, fun a ha b hb e => ?_⟩
    · rcases List.mem_append.mp z with z | z
      · obtain ⟨e, he, rfl⟩ := List.mem_map.mp z
        exact longer ynl.1 (plt_pre he) (List.prefix_refl _)
      · obtain ⟨e, he, rfl⟩ := List.mem_map.mp z
        exact longer ynl.2 (plt_pre he) (List.prefix_refl _)
    · obtain ⟨e1, h1, rfl⟩ := List.mem_map.mp ha
      obtain ⟨e2, h2, rfl⟩ := List.mem_map.mp hb
      exact yn_apart (plt_pre h1) (by rw [e]; exact plt_pre h2)
theorem plt_len (t : Tr) (q : Str) : (plt t q).length + 1 = 2 * t.lv := by have := plc_len t q; rw [plt_plc, List.length_map] at this; exact this
def thD (B : Int) (e : Str × Tr) : PyData := .tuple [.str e.1, htD B e.2]
def plts (ts : List (Str × Tr)) : List (Str × Tr) := ts.flatMap fun e => plt e.2 e.1
theorem plts_app (as bs : List (Str × Tr)) : plts (as ++ bs) = plts as ++ plts bs := List.flatMap_append
theorem plts_len : ∀ as : List (Str × Tr), as.length ≤ (plts as).length
  | [] => Nat.le_refl _
  | e :: as => by
    have h := plts_len as
    have h2 := plt_len e.2 e.1
    have h3 := e.2.lv_pos
    show as.length + 1 ≤ (plt e.2 e.1 ++ plts as).length
    rw [List.length_append]
    omega
theorem plt_step {us A B : List (Str × Tr)} (x : Str × Tr) : ((us ++ [x]) ++ (A ++ B)).Perm (us ++ (A ++ (x :: B))) := by
  rw [List.append_assoc]
  exact List.Perm.append_left us (List.perm_middle (l₁ := A) (a := x) (l₂ := B)).symm
/-- a dict of places and trees -/
inductive DT (K : PySem.W.Frag) (B : Int) (H : Hp) : List (Key × V) → List (Str × Tr) → Prop
  | nil : DT K B H [] []
  | cons {v : V} {e : Str × Tr} {kvs : List (Key × V)} {es : List (Str × Tr)} : TV K H v (htD B e.2) → DT K B H kvs es → DT K B H ((.inr e.1, v) :: kvs) (e :: es)
theorem DT.mono {K : PySem.W.Frag} {B : Int} {H H' : Hp} {kvs : List (Key × V)} {es : List (Str × Tr)} (h : DT K B H kvs es) (s : SameT H H') : DT K B H' kvs es := by
  induction h with
  | nil => exact .nil
  | cons t _ ih => exact .cons (t.mono s) ih
theorem DT.snoc {K : PySem.W.Frag} {B : Int} {H : Hp} {kvs : List (Key × V)} {es : List (Str × Tr)} {v : V} {e : Str × Tr} (h : DT K B H kvs es) (t : TV K H v (htD B e.2)) : DT K B H (kvs ++ [(.inr e.1, v)]) (es ++ [e]) := by
  induction h with
  | nil => exact .cons t .nil
  | cons a _ ih => exact .cons a ih
theorem DT.length {K : PySem.W.Frag} {B : Int} {H : Hp} {kvs : List (Key × V)} {es : List (Str × Tr)} (h : DT K B H kvs es) : kvs.length = es.length := by
  induction h with
  | nil => rfl
  | cons _ _ ih => rw [List.length_cons, List.length_cons, ih]
theorem DT.vno {K : PySem.W.Frag} {B : Int} {H : Hp} {kvs : List (Key × V)} {es : List (Str × Tr)} {x : Str} (h : DT K B H kvs es) (n : x ∉ es.map (·.1)) : valV kvs (.inr x) = none := by
  induction h with
  | nil => rfl
  | @cons v e kvs es _ _ ih =>
    rw [List.map_cons, List.mem_cons, not_or] at n
    rw [valV_neg (by intro z; injection z with z; exact n.1 z.symm)]
    exact ih n.2
theorem DT.vyes {K : PySem.W.Frag} {B : Int} {H : Hp} {kvs : List (Key × V)} {es : List (Str × Tr)} {x : Str} (h : DT K B H kvs es) (n : x ∈ es.map (·.1)) : ∃ v, valV kvs (.inr x) = some v := by
  induction h with
  | nil => cases n
  | @cons v e kvs es _ _ ih =>
    by_cases z : e.1 = x
    · exact ⟨v, valV_pos (by rw [z])⟩
    · rw [valV_neg (by intro y; injection y with y; exact z y)]
      rcases List.mem_cons.mp n with y | y
      · exact absurd y.symm z
      · exact ih y
theorem DT.get {K : PySem.W.Frag} {B : Int} {H : Hp} {kvs : List (Key × V)} {es : List (Str × Tr)} {i : Nat} {k : Key} {v : V} (h : DT K B H kvs es) (e : kvs[i]? = some (k, v)) : ∃ x, es[i]? = some x ∧ k = .inr x.1 ∧ TV K H v (htD B x.2) := by
  induction h generalizing i with
  | nil => cases i <;> cases e
  | @cons v' x kvs es t _ ih =>
    cases i with
    | zero =>
      have e := Option.some.inj e
      cases e
      exact ⟨x, rfl, rfl, t⟩
    | succ i => exact ih e
theorem TVs.lastH {K : PySem.W.Frag} {H : Hp} {B : Int} : ∀ {ys : List V} {ts : List (Str × Tr)}, TVs K H ys (ts.map (thD B)) → 0 < ys.length → ∃ zs y as e, ys = zs ++ [y] ∧ ts = as ++ [e] ∧ TVs K H zs (as.map (thD B)) ∧ TV K H y (thD B e)
  | _, [], h, l => by cases h; exact absurd l (Nat.lt_irrefl 0)
  | _, [e], h, l => by
    cases h with
    | cons h1 h => cases h; exact ⟨[], _, [], e, rfl, rfl, .nil, h1⟩
  | _, e :: e2 :: ts, h, l => by
    cases h with
    | cons h1 h =>
      obtain ⟨zs, y, as, e', rfl, e3, t, ty⟩ := TVs.lastH (ts := e2 :: ts) h (by rw [h.length]; exact Nat.succ_pos _)
      exact ⟨_ :: zs, y, e :: as, e', rfl, by rw [e3]; rfl, .cons h1 t, ty⟩
def sp_trees (K : PySem.W.Frag) : Sp := fun vs H Q _ => ∃ (v : V) (t : Tr) (B : Int), vs = [v] ∧ TV K H v (htD B t) ∧ t.lv ≤ 30 ∧ ∀ H' d kvs es, Same H H' → H d = none → H' d = some (.dK kvs) → DT K B H' kvs es → es.Perm (plt t "") → Q (.ref d) H'
def sp_places2 (K : PySem.W.Frag) : Sp := fun vs H Q _ => ∃ (v : V) (t : Tr), vs = [v] ∧ TV K H v (trD t) ∧ t.lv ≤ 30 ∧ ∀ H' p xs (us : List (Str × Str)), Same H H' → H p = none → H' p = some (.lst xs) → TVs K H' xs (us.map plD) → us.Perm (plc t "") → (us.map (·.1)).Pairwise (fun a b => cds a < cds b) → Q (.ref p) H'
theorem st_dk {H H' : Hp} {z : Addr} {kvs : List (Key × V)} (s : SameT H H') (hz : H' z = some (.dK kvs)) (o : HO) : SameT H (upd H' z o) := fun a xs e => by
  have e2 := s a xs e
  rw [upd_ne (ne_of e2 hz (by intro q; cases q))]
  exact e2
/-- x in d -/
theorem op_in_dk {X : Cx} (hu : X.A.units + 1 < PySem.cLine) : OpR X (PySem.compareOp .In) (fun x y H Q => ∃ a o, y = .ref a ∧ DGet H a x o ∧ Q (.bl o.isSome) H) := by
  intro pins s σ H x y v u Q I rx ry h
  obtain ⟨a, o, rfl, g, q⟩ := h
  cases (show u = PySem.Value.ref a from ry)
  exact d_in hu I g rx fun s' I' => ⟨.bl _, H, I', rfl, q⟩
/-! prunings, and whether a list is one -/
def plK (t : Tr) (so : Str) : List Str := ((plc t "").filter fun u => decide (u.2 = so)).map (·.1)
def sp_places_of (K : PySem.W.Frag) : Sp := fun vs H Q _ => ∃ (v : V) (t : Tr) (B : Int) (so : Str), vs = [v, .str so] ∧ TV K H v (htD B t) ∧ t.lv ≤ 30 ∧ ∀ H' p ws, Same H H' → H p = none → H' p = some (.lst (ws.map V.str)) → ws.Perm (plK t so) → PyProof.Rows.sortedS ws = true → Q (.ref p) H'
def sp_ends (K : PySem.W.Frag) : Sp := fun vs H Q _ => ∃ (v : V) (t : Tr) (B : Int), vs = [v] ∧ TV K H v (htD B t) ∧ t.lv ≤ 30 ∧ ∀ H' p ws, Same H H' → H p = none → H' p = some (.lst (ws.map V.str)) → ws.Perm (plK t "end") → PyProof.Rows.sortedS ws = true → Q (.ref p) H'
/-- it is a pruning -/
structure IsP (t : Tr) (ps : List Str) : Prop where
  kn : ∀ x ∈ ps, x ∈ (plc t "").map (·.1)
  up : ps.Pairwise (fun a b => cds a < cds b)
  one : ∀ e ∈ plK t "end", (bgs e ps).length = 1
noncomputable def isP (t : Tr) (ps : List Str) : Bool := by
  classical
  exact decide (IsP t ps)
theorem isP_yes {t : Tr} {ps : List Str} (h : IsP t ps) : isP t ps = true := by
  classical
  exact decide_eq_true h
theorem isP_of {t : Tr} {ps : List Str} (h : isP t ps = true) : IsP t ps := by
  classical
  exact of_decide_eq_true h
theorem isP_no {t : Tr} {ps : List Str} (h : ¬ IsP t ps) : isP t ps = false := by
  classical
  exact decide_eq_false h
theorem DT.has {K : PySem.W.Frag} {B : Int} {H : Hp} {kvs : List (Key × V)} {es : List (Str × Tr)} {t : Tr} (h : DT K B H kvs es) (pm : es.Perm (plt t "")) (x : Str) : (valV kvs (.inr x)).isSome = decide (x ∈ (plc t "").map (·.1)) := by
  have e : x ∈ es.map (·.1) ↔ x ∈ (plc t "").map (·.1) := by
    rw [(pm.map (·.1)).mem_iff, plt_plc, List.map_map]
    exact Iff.rfl
  by_cases c : x ∈ es.map (·.1)
  · obtain ⟨v, hv⟩ := h.vyes c
    rw [hv, decide_eq_true (e.mp c)]
    rfl
  · rw [h.vno c, decide_eq_false fun z => c (e.mpr z)]
    rfl
theorem sorted_pw : ∀ {l : List Str}, PyProof.Rows.sortedS l = true → l.Pairwise (fun a b => cds a ≤ cds b)
  | [], _ => .nil
  | a :: l, h => List.pairwise_cons.mpr ⟨rising_pw a l h, sorted_pw (sorted_tail h)⟩
theorem pw_rising : ∀ {a : Str} {l : List Str}, (a :: l).Pairwise (fun a b => cds a < cds b) → PyProof.Rows.risingS a l = true
  | _, [], _ => rfl
  | a, b :: l, h => by
    have h2 := List.pairwise_cons.mp h
    show (!PySem.Spec.ltCps b.cps.toList a.cps.toList && PyProof.Rows.risingS b l) = true
    rw [pw_rising h2.2, Bool.and_true, Bool.not_eq_true', PyProof.Rows.ltCps_eq, decide_eq_false_iff_not]
    exact List.lt_asymm (h2.1 b List.mem_cons_self)
theorem pw_sorted {l : List Str} (h : l.Pairwise (fun a b => cds a < cds b)) : PyProof.Rows.sortedS l = true := by
  cases l with
  | nil => rfl
  | cons a l => exact pw_rising h
theorem cds_ext {a b : Str} (h : cds a = cds b) : a = b := by
  cases a with | mk x => cases b with | mk y => exact congrArg _ (Array.ext' h)
theorem pw_nodup {l : List Str} (h : l.Pairwise (fun a b => cds a < cds b)) : l.Nodup := h.imp fun {a b} z e => by rw [e] at z; exact List.lt_irrefl _ z
theorem up_of {l : List Str} (h : l.Pairwise (fun a b => cds a ≤ cds b)) (n : l.Nodup) : l.Pairwise (fun a b => cds a < cds b) := (h.and n).imp fun {a b} z => by
  by_cases c : cds a < cds b
  · exact c
  · exact absurd (cds_ext (List.le_antisymm z.1 (List.not_lt.mp c))) z.2
theorem sset_iff {ps ws : List Str} (hp : ws.Perm (ddS ps)) (hs : PyProof.Rows.sortedS ws = true) : ps = ws ↔ ps.Pairwise (fun a b => cds a < cds b) := by
  constructor
  · intro e
    have n : ws.Nodup := hp.nodup_iff.mpr (ddS_nodup ps)
    rw [e]
    exact up_of (sorted_pw hs) n
  · intro h
    rw [ddS_same (pw_nodup h)] at hp
    exact sorted_one (pw_sorted h) hs hp.symm
theorem noMixS : ∀ a b : List Str, SeqAt.noMixAll (a.map PyData.str) (b.map PyData.str) = true
  | [], [] => by simp [SeqAt.noMixAll]
  | [], _ :: _ => by simp [SeqAt.noMixAll]
  | _ :: _, [] => by simp [SeqAt.noMixAll]
  | k :: ks, l :: ls => by
    rw [List.map_cons, List.map_cons, SeqAt.noMixAll, noMixS ks ls]
    simp [SeqAt.noMix]
theorem strD_inj : ∀ {a b : List Str}, a.map PyData.str = b.map PyData.str → a = b
  | [], [], _ => rfl
  | [], _ :: _, h => nomatch h
  | _ :: _, [], h => nomatch h
  | x :: a, y :: b, h => by
    rw [List.map_cons, List.map_cons] at h
    injection h with h1 h2
    injection h1 with h1
    rw [h1, strD_inj h2]
theorem strs_eqv (a b : List Str) : PyData.eqv (.list (a.map PyData.str)) (.list (b.map PyData.str)) = decide (a = b) := by
  have nm : SeqAt.noMix (.list (a.map PyData.str)) (.list (b.map PyData.str)) = true := by
    rw [SeqAt.noMix]
    exact noMixS a b
  rw [← SeqAt.same_eq_eqv _ _ nm, Bool.eq_iff_iff, PyProof.Rows.same_iff, decide_eq_true_iff]
  exact ⟨fun z => strD_inj (by injection z), fun z => by rw [z]⟩
def sp_isp (K : PySem.W.Frag) : Sp := fun vs H Q _ => ∃ (v : V) (t : Tr) (B : Int) (a : Addr) (ps : List Str), vs = [v, .ref a] ∧ TV K H v (htD B t) ∧ t.lv ≤ 30 ∧ H a = some (.lst (ps.map V.str)) ∧ ps.length < 64 ∧ (∀ x ∈ ps, Asc x) ∧ ∀ H', Same H H' → Q (.bl (isP t ps)) H'
def sp_is : Sp := fun vs H Q _ => ∃ x y : Bool, vs = [.bl x, .bl y] ∧ x = y ∧ Q (.bl true) H
def sp_due25 (K : PySem.W.Frag) : Sp := fun vs H Q _ => ∃ (a b : Addr) (t : Tr) (ps : List Str) (xs : List V) (us : List (Str × Str)), vs = [.ref a, .ref b] ∧ H a = some (.lst (ps.map V.str)) ∧ H b = some (.lst xs) ∧ TVs K H xs (us.map plD) ∧ us.Perm (plc t "") ∧ t.lv ≤ 30 ∧ ps.length < 64 ∧ (∀ x ∈ ps, x.length ≤ 100) ∧ ∀ H', Same H H' → Q (.bl (isP t ps)) H'
theorem plc_long : ∀ {t : Tr} {q : Str} {u : Str × Str}, u ∈ plc t q → u.1.length ≤ q.length + t.dp
  | .en _, q, u, h => by rw [List.mem_singleton.mp h]; exact Nat.le_add_right _ _
  | .fk w y n, q, u, h => by
    have h : u ∈ (q, ("fork" : Str)) :: (plc y (q ++ "y") ++ plc n (q ++ "n")) := h
    show u.1.length ≤ q.length + (max y.dp n.dp + 1)
    rcases List.mem_cons.mp h with rfl | h
    · exact Nat.le_add_right _ _
    · rcases List.mem_append.mp h with h | h
      · have := plc_long h
        rw [len_app, ynl.1] at this
        omega
      · have := plc_long h
        rw [len_app, ynl.2] at this
        omega
def sp_handed (K : PySem.W.Frag) (d : Nat) : Sp := fun vs H Q _ => ∃ (v : V) (t : Tr), vs = [v, .int 1] ∧ TV K H v (trD t) ∧ t.dp ≤ d ∧ t.lv ≤ 30 ∧ ∀ H' x, Same H H' → TV K H' x (htD 1 t) → Q x H'
theorem ascW (x : Str) (h : (cds x).all (fun c => decide (c < 128)) = true) : Asc x := fun c hc => of_decide_eq_true (List.all_eq_true.mp h c hc)
def sp_spoiled (K : PySem.W.Frag) : Sp := fun vs H Q _ => ∃ (a b : Addr) (c : Int) (ps : List Str) (xs : List V) (us : List (Str × Str)), vs = [.ref a, .ref b, .int c] ∧ H a = some (.lst (ps.map V.str)) ∧ 0 < ps.length ∧ ps.length ≤ 60 ∧ (∀ x ∈ ps, Asc x ∧ x.length ≤ 90) ∧ H b = some (.lst xs) ∧ TVs K H xs (us.map plD) ∧ 0 < us.length ∧ us.length ≤ 60 ∧ (∀ u ∈ us, Asc u.1 ∧ u.1.length ≤ 90) ∧
  ∀ (H' : Hp) (p : Addr) (rs : List Str), Same H H' → H' p = some (.lst (rs.map V.str)) → rs.length < 64 → (∀ x ∈ rs, Asc x ∧ x.length ≤ 100) → Q (.ref p) H'
/-! which lists are prunings -/
theorem plc_pre {t : Tr} {q : Str} {u : Str × Str} (h : u ∈ plc t q) : cds q <+: cds u.1 := by
  rw [plt_plc] at h
  obtain ⟨e, he, rfl⟩ := List.mem_map.mp h
  exact plt_pre he
theorem lt_pre : ∀ {l a b : List Nat}, a < b → l ++ a < l ++ b
  | [], _, _, h => h
  | c :: l, _, _, h => List.cons_lt_cons_iff.mpr (.inr ⟨rfl, lt_pre (l := l) h⟩)
theorem ny_lt {q x y : Str} (hx : cds (q ++ "n") <+: cds x) (hy : cds (q ++ "y") <+: cds y) : cds x < cds y := by
  obtain ⟨r1, e1⟩ := hx
  obtain ⟨r2, e2⟩ := hy
  rw [← e1, ← e2, cds_app, cds_app, List.append_assoc, List.append_assoc]
  refine lt_pre ?_
  have n1 : cds "n" = [110] := by decide +kernel
  have y1 : cds "y" = [121] := by decide +kernel
  rw [n1, y1]
  exact List.cons_lt_cons_iff.mpr (.inl (by decide))
theorem PI.kn {t : Tr} {q : Str} {ps gs : List Str} (h : PI t q ps gs) : ∀ x ∈ ps, x ∈ (plc t q).map (·.1) := by
  induction h with
  | stop t q =>
    intro x hx
    rw [List.mem_singleton.mp hx]
    cases t with
    | en w => exact List.mem_cons_self
    | fk w y n => exact List.mem_cons_self
  | @go w y n q ps1 ps2 fs1 fs2 _ _ h1 h2 =>
    intro x hx
    show x ∈ q :: ((plc y (q ++ "y") ++ plc n (q ++ "n")).map (·.1))
    rw [List.map_append]
    refine List.mem_cons_of_mem _ (List.mem_append.mpr ?_)
    rcases List.mem_append.mp hx with hx | hx
    · exact .inr (h2 x hx)
    · exact .inl (h1 x hx)
theorem PI.up {t : Tr} {q : Str} {ps gs : List Str} (h : PI t q ps gs) : ps.Pairwise (fun a b => cds a < cds b) := by
  induction h with
  | stop t q => exact List.pairwise_singleton _ _
  | @go w y n q ps1 ps2 fs1 fs2 p1 p2 h1 h2 => exact List.pairwise_append.mpr ⟨h2, h1, fun a ha b hb => ny_lt (p2.pre.1 a ha) (p1.pre.1 b hb)⟩
theorem bgs_none {e : Str} {ps : List Str} (h : ∀ x ∈ ps, ¬ cds x <+: cds e) : bgs e ps = [] := by
  rw [List.eq_nil_iff_forall_not_mem]
  intro x hx
  exact h x (mem_bgs.mp hx).1 (mem_bgs.mp hx).2
theorem bgs_app (e : Str) (a b : List Str) : bgs e (a ++ b) = bgs e a ++ bgs e b := List.filter_append _ _
theorem PI.one {t : Tr} {q : Str} {ps gs : List Str} (h : PI t q ps gs) : ∀ u ∈ plc t q, u.2 = Str.ofString "end" → (bgs u.1 ps).length = 1 := by
  induction h with
  | stop t q =>
    intro u hu _
    have : bgs u.1 [q] = [q] := List.filter_eq_self.mpr fun x hx => by
      rw [List.mem_singleton.mp hx]
      exact (starts_iff u.1 q).mpr (plc_pre hu)
    rw [this]
    rfl
  | @go w y n q ps1 ps2 fs1 fs2 p1 p2 h1 h2 =>
    intro u hu e
    have hu : u ∈ (q, Str.ofString "fork") :: (plc y (q ++ "y") ++ plc n (q ++ "n")) := hu
    rw [bgs_app, List.length_append]
    rcases List.mem_cons.mp hu with rfl | hu
    · exact absurd e (show ¬ Str.ofString "fork" = Str.ofString "end" by decide +kernel)
    · rcases List.mem_append.mp hu with hu | hu
      · rw [bgs_none (ps := ps2) fun x hx z => yn_apart (plc_pre hu) ((p2.pre.1 x hx).trans z), h1 u hu e]
        rfl
      · rw [bgs_none (ps := ps1) fun x hx z => yn_apart ((p1.pre.1 x hx).trans z) (plc_pre hu), h2 u hu e]
        rfl
theorem PI.isP {t : Tr} {ps gs : List Str} (h : PI t "" ps gs) : IsP t ps := ⟨h.kn, h.up, fun e he => by
  unfold plK at he
  obtain ⟨u, hu, rfl⟩ := List.mem_map.mp he
  have h2 := List.mem_filter.mp hu
  exact h.one u h2.1 (of_decide_eq_true h2.2)⟩
theorem full_pi : ∀ (t : Tr) (q : Str), ∃ ls gs, PI t q ls gs ∧ ls.Perm (((plc t q).filter fun u => decide (u.2 = Str.ofString "end")).map (·.1))
  | .en w, q => ⟨[q], [], .stop _ _, by
    rw [show (plc (.en w) q).filter (fun u => decide (u.2 = Str.ofString "end")) = [(q, Str.ofString "end")] from List.filter_cons_of_pos (show decide (Str.ofString "end" = Str.ofString "end") = true by decide +kernel)]
    exact List.Perm.refl _⟩
  | .fk w y n, q => by
    obtain ⟨l1, g1, p1, m1⟩ := full_pi y (q ++ "y")
    obtain ⟨l2, g2, p2, m2⟩ := full_pi n (q ++ "n")
    refine ⟨_, _, .go (w := w) p1 p2, ?_⟩
    have e : (plc (.fk w y n) q).filter (fun u => decide (u.2 = Str.ofString "end")) = (plc y (q ++ "y")).filter (fun u => decide (u.2 = Str.ofString "end")) ++ (plc n (q ++ "n")).filter (fun u => decide (u.2 = Str.ofString "end")) := by
      rw [← List.filter_append]
      exact List.filter_cons_of_neg (show ¬ decide (Str.ofString "fork" = Str.ofString "end") = true by decide +kernel)
    rw [e, List.map_append]
    exact List.perm_append_comm.trans (m1.append m2)
theorem nil_isP (t : Tr) : ¬ IsP t [] := fun z => by
  obtain ⟨ls, gs, pi, m⟩ := full_pi t ""
  have l := pi.len
  have : 0 < ls.length := by omega
  obtain ⟨x, hx⟩ := List.exists_mem_of_length_pos this
  have := z.one x (m.mem_iff.mp hx)
  cases this
theorem yn_asc : Asc ("y" : Str) ∧ Asc ("n" : Str) := ⟨ascW _ (by decide +kernel), ascW _ (by decide +kernel)⟩
theorem plc_asc : ∀ {t : Tr} {q : Str} {u : Str × Str}, Asc q → u ∈ plc t q → Asc u.1
  | .en _, q, u, a, h => by rw [List.mem_singleton.mp h]; exact a
  | .fk w y n, q, u, a, h => by
    have h : u ∈ (q, ("fork" : Str)) :: (plc y (q ++ "y") ++ plc n (q ++ "n")) := h
    rcases List.mem_cons.mp h with rfl | h
    · exact a
    · rcases List.mem_append.mp h with h | h
      · exact plc_asc (a.app yn_asc.1) h
      · exact plc_asc (a.app yn_asc.2) h
theorem cd_yn : cds ("y" : Str) = [121] ∧ cds ("n" : Str) = [110] := by decide +kernel
theorem plc_yn : ∀ {t : Tr} {q : Str} {u : Str × Str}, (∀ c ∈ cds q, c = 121 ∨ c = 110) → u ∈ plc t q → ∀ c ∈ cds u.1, c = 121 ∨ c = 110
  | .en _, q, u, a, h => by rw [List.mem_singleton.mp h]; exact a
  | .fk w y n, q, u, a, h => by
    have h : u ∈ (q, ("fork" : Str)) :: (plc y (q ++ "y") ++ plc n (q ++ "n")) := h
    have ap : ∀ (s : Str) (k : Nat), cds s = [k] → (k = 121 ∨ k = 110) → ∀ c ∈ cds (q ++ s), c = 121 ∨ c = 110 := fun s k e hk c hc => by
      rw [cds_app, e] at hc
      rcases List.mem_append.mp hc with z | z
      · exact a c z
      · rw [List.mem_singleton.mp z]; exact hk
    rcases List.mem_cons.mp h with rfl | h
    · exact a
    · rcases List.mem_append.mp h with h | h
      · exact plc_yn (ap "y" 121 cd_yn.1 (.inl rfl)) h
      · exact plc_yn (ap "n" 110 cd_yn.2 (.inr rfl)) h
theorem pl_yn {t : Tr} {x : Str} (h : x ∈ (plc t "").map (·.1)) : ∀ c ∈ cds x, c = 121 ∨ c = 110 := by
  obtain ⟨u, hu, rfl⟩ := List.mem_map.mp h
  exact plc_yn (fun c hc => by cases hc) hu
/-- a text that begins with a leaf is no fork inside -/
theorem tr_end : ∀ (t : Tr) (q : Str), ∃ u ∈ plc t q, u.2 = Str.ofString "end"
  | .en _, q => ⟨_, List.mem_singleton.mpr rfl, rfl⟩
  | .fk w y n, q => by
    obtain ⟨u, hu, e⟩ := tr_end y (q ++ "y")
    exact ⟨u, List.mem_cons_of_mem _ (List.mem_append_left _ hu), e⟩
theorem PI.end' {t : Tr} {q : Str} {ps gs : List Str} (h : PI t q ps gs) : ∀ x ∈ ps, ∃ u ∈ plc t q, u.2 = Str.ofString "end" ∧ cds x <+: cds u.1 := by
  induction h with
  | stop t q =>
    intro x hx
    rw [List.mem_singleton.mp hx]
    obtain ⟨u, hu, e⟩ := tr_end t q
    exact ⟨u, hu, e, plc_pre hu⟩
  | @go w y n q ps1 ps2 fs1 fs2 p1 p2 h1 h2 =>
    intro x hx
    rcases List.mem_append.mp hx with hx | hx
    · obtain ⟨u, hu, e⟩ := h2 x hx
      exact ⟨u, List.mem_cons_of_mem _ (List.mem_append_right _ hu), e⟩
    · obtain ⟨u, hu, e⟩ := h1 x hx
      exact ⟨u, List.mem_cons_of_mem _ (List.mem_append_left _ hu), e⟩
theorem worse1 {t : Tr} {ps : List Str} {l : Str} (hl : l ∈ ps) : isP t (ps ++ [l]) = false := isP_no fun z => by
  have := (List.pairwise_append.mp z.up).2.2 l hl l (List.mem_singleton.mpr rfl)
  exact List.lt_irrefl _ this
inductive LVs (H : Hp) : List V → List (List Str) → Prop
  | nil : LVs H [] []
  | cons {l : Addr} {ps : List Str} {xs : List V} {rs : List (List Str)} : H l = some (.lst (ps.map V.str)) → LVs H xs rs → LVs H (.ref l :: xs) (ps :: rs)
theorem LVs.same {H H' : Hp} {xs : List V} {rs : List (List Str)} (h : LVs H xs rs) (s : Same H H') : LVs H' xs rs := by
  induction h with
  | nil => exact .nil
  | cons h1 _ ih => exact .cons (s _ _ h1) ih
theorem LVs.len {H : Hp} {xs : List V} {rs : List (List Str)} (h : LVs H xs rs) : xs.length = rs.length := by
  induction h with
  | nil => rfl
  | cons _ _ ih => rw [List.length_cons, List.length_cons, ih]
theorem LVs.at {H : Hp} {xs : List V} {rs : List (List Str)} (h : LVs H xs rs) : ∀ {i : Nat} {x : V}, xs[i]? = some x → ∃ l ps, x = .ref l ∧ H l = some (.lst (ps.map V.str)) ∧ rs[i]? = some ps := by
  induction h with
  | nil => intro i x h; cases h
  | cons h1 _ ih =>
    intro i x h
    cases i with
    | zero => cases h; exact ⟨_, _, rfl, h1, rfl⟩
    | succ i => exact ih (i := i) h
theorem LVs.snoc {H : Hp} {xs : List V} {rs : List (List Str)} {l : Addr} {ps : List Str} (h : LVs H xs rs) (h1 : H l = some (.lst (ps.map V.str))) : LVs H (xs ++ [.ref l]) (rs ++ [ps]) := by
  induction h with
  | nil => exact .cons h1 .nil
  | cons a _ ih => exact .cons a ih
theorem shM {m : Str} (h : isM m) : Sh m := by
  rcases h with rfl | rfl
  · exact ⟨by intro c hc; revert c hc; decide +kernel, by decide +kernel⟩
  · exact ⟨by intro c hc; revert c hc; decide +kernel, by decide +kernel⟩
theorem cmn_or : ∀ (cs : List (Str × Int)) (z : V × Int), (cs.foldl cmS z).1 = z.1 ∨ ∃ c ∈ cs, (cs.foldl cmS z).1 = .str c.1
  | [], z => .inl rfl
  | c :: cs, z => by
    rw [List.foldl_cons]
    rcases cmn_or cs (cmS z c) with h | ⟨d, hd, h⟩
    · rw [h]
      unfold cmS
      split
      · exact .inr ⟨c, List.mem_cons_self, rfl⟩
      · exact .inl rfl
    · exact .inr ⟨d, List.mem_cons_of_mem _ hd, h⟩
def sp_node (CL CF : Addr) (K : PySem.W.Frag) (d : Nat) : Sp := fun vs H Q _ => ∃ (v : V) (t : NT), vs = [v] ∧ TD K H v t ∧ t.dp ≤ d ∧ ∀ H' u, Same H H' → ND CL CF K H' u t → Q u H'
/-! answers of pruned trees -/
/-- the tree of the costs by misses -/
def NT.tm : NT → Tr
  | .lf cs => .en (sumC cs - mxD 0 (cs.map (·.2)))
  | .fk cs _ y n => .fk (sumC cs - mxD 0 (cs.map (·.2))) y.tm n.tm
theorem NT.tm_lv : ∀ t : NT, t.tm.lv = t.lv
  | .lf _ => rfl
  | .fk _ _ y n => by show y.tm.lv + n.tm.lv = y.lv + n.lv; rw [y.tm_lv, n.tm_lv]
theorem NT.tm_dp : ∀ t : NT, t.tm.dp = t.dp
  | .lf _ => rfl
  | .fk _ _ y n => by show max y.tm.dp n.tm.dp + 1 = 1 + max y.dp n.dp; rw [y.tm_dp, n.tm_dp]; omega
theorem messM (cs : List (Str × Int)) : messR cs "misses" = Rat.divInt (sumC cs - mxD 0 (cs.map (·.2))) 1 := by
  unfold messR
  rw [if_pos rfl]
theorem CV.tm {K : PySem.W.Frag} {H : Hp} : ∀ {t : NT} {v : V}, CV K H v (t.co "misses") → TV K H v (htD 1 t.tm)
  | .lf cs, _, h => by
    cases h with
    | en h1 h2 =>
      rw [messM] at h2
      exact TV.hen' h1 h2
  | .fk cs q y n, _, h => by
    cases h with
    | fk h1 h2 h3 h4 =>
      rw [messM] at h2
      exact TV.hfk' h1 h2 (CV.tm h3) (CV.tm h4)
/-- where the values fall in a pruning -/
theorem pi_fall (ks : List Key) : ∀ {t : NT} {q : Str} {ps gs : List Str}, PI t.tm q ps gs → ∃ p r u, p ∈ ps ∧ p = q ++ r ∧ t.go (cds r) = some u ∧ cds r <+: cds (t.fall ks) ∧ bgs (q ++ t.fall ks) ps = [p]
  | t, q, ps, gs, h => by
    have stop : ps = [q] → ∃ p r u, p ∈ ps ∧ p = q ++ r ∧ t.go (cds r) = some u ∧ cds r <+: cds (t.fall ks) ∧ bgs (q ++ t.fall ks) ps = [p] := by
      rintro rfl
      refine ⟨q, "", t, List.mem_singleton.mpr rfl, str_ext (by rw [cds_app]; show cds q = cds q ++ []; rw [List.append_nil]), (by cases t <;> rfl), List.nil_prefix, ?_⟩
      exact List.filter_eq_self.mpr fun x hx => by
        rw [List.mem_singleton.mp hx]
        exact (starts_iff _ q).mpr (pre_app _ _)
    cases t with
    | lf cs =>
      cases h with
      | stop => exact stop rfl
    | fk cs qq y n =>
      cases h with
      | stop => exact stop rfl
      | @go w _ _ _ ps1 ps2 fs1 fs2 p1 p2 =>
        by_cases e : say qq ks = true
        · have ef : (NT.fk cs qq y n).fall ks = "y" ++ y.fall ks := if_pos e
          obtain ⟨p, r, u, hp, ep, hg, hpre, hb⟩ := pi_fall ks p1
          have ea : q ++ ("y" ++ y.fall ks) = (q ++ "y") ++ y.fall ks := str_ext (by simp only [cds_app, List.append_assoc])
          refine ⟨p, "y" ++ r, u, List.mem_append_right _ hp, by rw [ep]; exact str_ext (by simp only [cds_app, List.append_assoc]), ?_, ?_, ?_⟩
          · rw [cds_app, show cds ("y" : Str) = [121] by decide +kernel]
            exact hg
          · rw [ef, cds_app, cds_app]
            exact (List.prefix_append_right_inj _).mpr hpre
          · rw [ef, ea, bgs_app, hb, bgs_none (ps := ps2) fun x hx z => yn_apart (pre_app (q ++ "y") (y.fall ks)) ((p2.pre.1 x hx).trans z)]
            rfl
        · have ef : (NT.fk cs qq y n).fall ks = "n" ++ n.fall ks := if_neg e
          obtain ⟨p, r, u, hp, ep, hg, hpre, hb⟩ := pi_fall ks p2
          have ea : q ++ ("n" ++ n.fall ks) = (q ++ "n") ++ n.fall ks := str_ext (by simp only [cds_app, List.append_assoc])
          refine ⟨p, "n" ++ r, u, List.mem_append_left _ hp, by rw [ep]; exact str_ext (by simp only [cds_app, List.append_assoc]), ?_, ?_, ?_⟩
          · rw [cds_app, show cds ("n" : Str) = [110] by decide +kernel]
            exact hg
          · rw [ef, cds_app, cds_app]
            exact (List.prefix_append_right_inj _).mpr hpre
          · rw [ef, ea, bgs_app, hb, bgs_none (ps := ps1) fun x hx z => yn_apart ((p1.pre.1 x hx).trans z) (pre_app (q ++ "n") (n.fall ks))]
            rfl
theorem wc_ctz {cs : List (Str × Int)} (h : ∀ c ∈ cs, Wc c) (l : cs.length ≤ 60) : Ctz cs := ⟨⟨l, fun c hc => (h c hc).1, fun c hc => (h c hc).2.1⟩, fun c hc => by have := (h c hc).2.2; omega⟩
theorem Wg.nz {t : NT} (h : Wg t) : Nz t := by
  induction h with
  | lf h1 h2 => exact .lf (wc_ctz h1 h2)
  | fk h1 h2 _ _ _ i1 i2 => exact .fk (wc_ctz h1 h2) i1 i2
theorem Wg.asks {t : NT} (h : Wg t) (a : Int) (w : Str) : Asks [.inl a, .inr w] t := by
  induction h with
  | lf _ _ => exact .lf
  | @fk cs q y n _ _ h3 _ _ i1 i2 =>
    refine .fk ?_ i1 i2
    rcases h3 with ⟨h1, h2, m, hm⟩ | ⟨h1, h2, m, hm, _⟩
    · exact .inl ⟨h1, a, m, by rw [h2]; rfl, hm⟩
    · exact .inr ⟨h1, w, m, by rw [h2]; rfl, hm⟩
theorem NT.lv_sz : ∀ t : NT, 2 * t.lv = t.sz + 1
  | .lf _ => rfl
  | .fk _ _ y n => by have := y.lv_sz; have := n.lv_sz; show 2 * (y.lv + n.lv) = 1 + y.sz + n.sz + 1; omega
def sp_ansp (CL CF : Addr) (K : PySem.W.Frag) : Sp := fun vs H Q _ => ∃ (v : V) (a va : Addr) (t u : NT) (ps : List Str) (ks : List Key) (p : Str), vs = [v, .ref a, .ref va] ∧ ND CL CF K H v t ∧ H a = some (.lst (ps.map V.str)) ∧ ps.length ≤ 64 ∧ H va = some (.tup (ks.map kV)) ∧ Asks ks t ∧ t.dp ≤ 20 ∧ bgs (t.fall ks) ps = [p] ∧ t.go (cds p) = some u ∧ p.length ≤ 1000 ∧ ∀ H', Same H H' → Q (cmn u.ct).1 H'
def sp_answer (CL CF : Addr) (K : PySem.W.Frag) (CPr : Addr) : Sp := fun vs H Q E => ∃ (v : V) (a va : Addr) (t : NT) (ps : List Str) (ks : List Key), vs = [v, .ref a, .ref va] ∧ ND CL CF K H v t ∧ Nz t ∧ t.lv ≤ 20 ∧ H a = some (.lst (ps.map V.str)) ∧ ps.length < 64 ∧ (∀ x ∈ ps, Asc x) ∧ H va = some (.tup (ks.map kV)) ∧ Asks ks t ∧
  (((∃ gs, PI t.tm "" ps gs) ∧ ∀ H' p u, Same H H' → bgs (t.fall ks) ps = [p] → t.go (cds p) = some u → Q (cmn u.ct).1 H') ∨ (isP t.tm ps = false ∧ ∀ H', Same H H' → E (.ref CPr) none H'))
def sp_check_pr2 (CPr : Addr) (K : PySem.W.Frag) : Sp := fun vs H Q E => ∃ (v : V) (t : Tr) (B : Int) (a : Addr) (ps : List Str), vs = [v, .ref a] ∧ TV K H v (htD B t) ∧ t.lv ≤ 30 ∧ H a = some (.lst (ps.map V.str)) ∧ ps.length < 64 ∧ (∀ x ∈ ps, Asc x) ∧ ((isP t ps = true ∧ ∀ H', Same H H' → Q .non H') ∨ (isP t ps = false ∧ ∀ H', Same H H' → E (.ref CPr) none H'))
def sp_drawn42 (K : PySem.W.Frag) (d : Nat) : Sp := fun vs H Q _ => ∃ (v : V) (t : NT) (q : Str) (c : Int), vs = [v, .str q, .int c] ∧ TD K H v t ∧ t.dp ≤ d ∧ t.lv ≤ 50 ∧ q.length + d ≤ 100 ∧ ∀ H' p ps gs, Same H H' → H p = none → H' p = some (.lst (ps.map V.str)) → PI t.tm q ps gs → Q (.ref p) H'
def sp_due42 (K : PySem.W.Frag) : Sp := fun vs H Q _ => ∃ (v : V) (a va : Addr) (t : NT) (ps gs : List Str) (ks : List Key), vs = [v, .ref a, .ref va] ∧ TD K H v t ∧ H a = some (.lst (ps.map V.str)) ∧ ps.length ≤ 64 ∧ t.dp ≤ 20 ∧ H va = some (.tup (ks.map kV)) ∧ Asks ks t ∧ PI t.tm "" ps gs ∧ ∀ H' p u, Same H H' → bgs (t.fall ks) ps = [p] → t.go (cds p) = some u → Q (cmn u.ct).1 H'
def sp_ref42 (CL CF : Addr) (K : PySem.W.Frag) : Sp := fun vs H Q _ => ∃ (v : V) (a va : Addr) (t : NT) (ps : List Str) (ks : List Key), vs = [v, .ref a, .ref va] ∧ ND CL CF K H v t ∧ Nz t ∧ t.lv ≤ 20 ∧ H a = some (.lst (ps.map V.str)) ∧ ps.length < 64 ∧ (∀ x ∈ ps, Asc x) ∧ H va = some (.tup (ks.map kV)) ∧ Asks ks t ∧ isP t.tm ps = false ∧ ∀ H', Same H H' → Q (.bl true) H'
def Wr (t : Tr) (r : List Str) : Prop := r.length < 64 ∧ (∀ x ∈ r, Asc x) ∧ isP t r = false
def sp_wrong42 : Sp := fun vs H Q _ => ∃ (a : Addr) (c : Int) (t : Tr) (ps gs : List Str), vs = [.ref a, .int c] ∧ H a = some (.lst (ps.map V.str)) ∧ PI t "" ps gs ∧ t.lv ≤ 20 ∧ ∀ H' p xs rs, Same H H' → H p = none → H' p = some (.lst xs) → LVs H' xs rs → rs.length ≤ 7 → (∀ r ∈ rs, Wr t r) → Q (.ref p) H'
theorem worse_del {t : Tr} {ps gs a b : List Str} {x : Str} (h : PI t "" ps gs) (e : ps = a ++ x :: b) : isP t (a ++ b) = false := isP_no fun z => by
  subst e
  obtain ⟨u, hu, e, px⟩ := h.end' x (List.mem_append_right _ List.mem_cons_self)
  have o := h.one u hu e
  have z1 : (bgs u.1 (a ++ b)).length = 1 := z.one u.1 (List.mem_map.mpr ⟨u, List.mem_filter.mpr ⟨hu, decide_eq_true e⟩, rfl⟩)
  have eb : bgs u.1 (x :: b) = x :: bgs u.1 b := List.filter_cons_of_pos ((starts_iff u.1 x).mpr px)
  rw [bgs_app, eb, List.length_append, List.length_cons] at o
  rw [bgs_app, List.length_append] at z1
  omega
theorem worse_sign {t : Tr} {rs : List Str} {x : Str} {c : Nat} (hx : x ∈ rs) (hc : c ∈ cds x) (h1 : c ≠ 121) (h2 : c ≠ 110) : isP t rs = false := isP_no fun z => by
  rcases pl_yn (z.kn _ hx) c hc with e | e
  · exact h1 e
  · exact h2 e
theorem worse_long {t : Tr} {rs : List Str} {x : Str} (hx : x ∈ rs) (hl : t.dp < x.length) : isP t rs = false := isP_no fun z => by
  obtain ⟨u, hu, e⟩ := List.mem_map.mp (z.kn _ hx)
  have := plc_long hu
  rw [show ("" : Str).length = 0 by decide +kernel, e] at this
  omega
theorem worse_top {t : Tr} {ps gs : List Str} (h : PI t "" ps gs) : isP t (Str.ofString "" :: ps) = false := isP_no fun z => by
  have l := h.len
  have : 0 < ps.length := by omega
  obtain ⟨x, hx⟩ := List.exists_mem_of_length_pos this
  obtain ⟨u, hu, e, px⟩ := h.end' x hx
  have o := h.one u hu e
  have z1 : (bgs u.1 (Str.ofString "" :: ps)).length = 1 := z.one u.1 (List.mem_map.mpr ⟨u, List.mem_filter.mpr ⟨hu, decide_eq_true e⟩, rfl⟩)
  have eb : bgs u.1 (Str.ofString "" :: ps) = Str.ofString "" :: bgs u.1 ps := List.filter_cons_of_pos ((starts_iff u.1 (Str.ofString "")).mpr List.nil_prefix)
  rw [eb, List.length_cons] at z1
  omega
theorem PI.ascN {t : Tr} {ps gs : List Str} (h : PI t "" ps gs) : ∀ x ∈ ps, Asc x := fun x hx => by
  obtain ⟨u, hu, e⟩ := List.mem_map.mp (h.kn x hx)
  rw [← e]
  exact plc_asc (fun c hc => by cases hc) hu
theorem PI.shortN {t : Tr} {ps gs : List Str} (h : PI t "" ps gs) : ∀ x ∈ ps, x.length ≤ t.dp := fun x hx => by
  obtain ⟨u, hu, e⟩ := List.mem_map.mp (h.kn x hx)
  have := plc_long hu
  rw [show ("" : Str).length = 0 by decide +kernel, e] at this
  omega
theorem cut_del {ps : List Str} {i : Nat} (h : i < ps.length) : ∃ a b x, ps = a ++ x :: b ∧ a.length = i ∧ atI (ps.map V.str) (i : Int) = some (.str x) ∧ cutV (ps.map V.str) none (some (i : Int)) = a.map V.str ∧ cutV (ps.map V.str) (some ((i : Int) + 1)) none = b.map V.str := by
  refine ⟨ps.take i, ps.drop (i + 1), ps[i], ?_, ?_, ?_, ?_, ?_⟩
  · rw [← List.drop_eq_getElem_cons h, List.take_append_drop]
  · rw [List.length_take]; omega
  · exact atI_nat (by rw [List.getElem?_map, List.getElem?_eq_getElem h]; rfl)
  · unfold cutV
    rw [HT.sIx_nat, List.length_map]
    have e1 : HT.sIx ps.length 0 none = 0 := by simp [HT.sIx]
    rw [e1, Nat.min_eq_left (by omega), List.drop_zero, Nat.sub_zero, ← List.map_take]
  · have e0 : ((i : Int) + 1) = ((i + 1 : Nat) : Int) := by omega
    unfold cutV
    rw [e0, HT.sIx_nat, List.length_map]
    have e1 : HT.sIx ps.length ps.length none = ps.length := by simp [HT.sIx]
    rw [e1, Nat.min_eq_left (by omega), ← List.map_drop, ← List.map_take, List.take_of_length_le (by rw [List.length_drop]; omega)]
theorem TD.hd {K : PySem.W.Frag} {H : Hp} {v : V} {t : NT} (h : TD K H v t) : ∃ p l r, v = .ref p ∧ H p = some (.tup (.ref l :: r)) ∧ Cn K H l t.ct := by
  cases h with
  | lf h1 h2 => exact ⟨_, _, _, rfl, h1, h2⟩
  | fk h1 h2 h3 h4 h5 => exact ⟨_, _, _, rfl, h1, h2⟩
theorem at_0h {x : V} {r : List V} : atI (x :: r) 0 = some x := atI_nat (xs := x :: r) (j := 0) rfl
theorem fall_y {ks : List Key} {cs : List (Str × Int)} {q : Qs} {y n w : NT} {x : Nat} {xs : List Nat} (e : say q ks = true) (hp : x :: xs <+: cds ((NT.fk cs q y n).fall ks)) (hg : (NT.fk cs q y n).go (x :: xs) = some w) : x = 121 ∧ xs <+: cds (y.fall ks) ∧ y.go xs = some w := by
  have ef : (NT.fk cs q y n).fall ks = "y" ++ y.fall ks := if_pos e
  rw [ef, cds_app, show cds ("y" : Str) = [121] by decide +kernel] at hp
  have h2 := List.cons_prefix_cons.mp hp
  obtain rfl := h2.1
  exact ⟨rfl, h2.2, hg⟩
theorem fall_n {ks : List Key} {cs : List (Str × Int)} {q : Qs} {y n w : NT} {x : Nat} {xs : List Nat} (e : say q ks = false) (hp : x :: xs <+: cds ((NT.fk cs q y n).fall ks)) (hg : (NT.fk cs q y n).go (x :: xs) = some w) : x = 110 ∧ xs <+: cds (n.fall ks) ∧ n.go xs = some w := by
  have ef : (NT.fk cs q y n).fall ks = "n" ++ n.fall ks := if_neg (by rw [e]; exact Bool.false_ne_true)
  rw [ef, cds_app, show cds ("n" : Str) = [110] by decide +kernel] at hp
  have h2 := List.cons_prefix_cons.mp hp
  obtain rfl := h2.1
  exact ⟨rfl, h2.2, hg⟩
theorem str_of (xs : List Nat) : ∃ s : Str, cds s = xs := ⟨⟨xs.toArray⟩, rfl⟩
theorem cm_or (cs : List (Str × Int)) : (cmn cs).1 = .non ∨ ∃ w, (cmn cs).1 = .str w := by
  rcases cmn_or cs (.non, 0) with h | ⟨c, hc, h⟩
  · exact .inl h
  · exact .inr ⟨_, h⟩
theorem cut20 (ns : List Int) : ∃ ms : List Int, cutV (ns.map V.int) (some 4) (some 20) = ms.map V.int ∧ ms.length ≤ 16 := by
  refine ⟨(ns.drop (HT.sIx ns.length 0 (some 4))).take (HT.sIx ns.length ns.length (some 20) - HT.sIx ns.length 0 (some 4)), ?_, ?_⟩
  · unfold cutV
    rw [List.length_map, List.map_take, List.map_drop]
  · have e1 : HT.sIx ns.length 0 (some 4) = min 4 ns.length := (by simp [HT.sIx])
    have e2 : HT.sIx ns.length ns.length (some 20) = min 20 ns.length := (by simp [HT.sIx])
    rw [List.length_take, List.length_drop, e1, e2]
    omega

local macro_rules | `(tactic| walk_at "ne") => `(tactic| first | assumption | exact Ne.symm (by assumption) | exact L2.ne_of (by assumption) (by assumption) (by intro z; cases z) | exact L2.ne_fresh (by assumption) (by walk_at "hp") | exact Ne.symm (L2.ne_fresh (by assumption) (by walk_at "hp")))
local macro_rules | `(tactic| walk_at "sf") => `(tactic| first | assumption | ((with_reducible refine L2.SqF.nw (by assumption) ?_); walk_at "sf") | ((with_reducible refine L2.SqF.lst (by walk_at "hp") ?_); walk_at "sf") | ((refine L2.SqF.sm (by assumption) ?_); walk_at "sf") | ((refine L2.SqF.sb (by assumption) (by walk_at "hp") ?_); walk_at "sf") | ((refine L2.SqF.sbi (by assumption) (by walk_at "hp") ?_); walk_at "sf"))
local macro_rules | `(tactic| walk_at "hp") => `(tactic| first | assumption | exact L2.upd_same | ((with_reducible refine L2.kp ?_ (by assumption)); walk_at "hp") | ((with_reducible refine L2.upd_at ?_ ?_); walk_at "ne"; walk_at "hp") | ((refine L2.Same.at' (by assumption) ?_); walk_at "hp") | ((refine L2.SameB.at' (by assumption) ?_ ?_); walk_at "hp"; walk_at "ne") | ((refine L2.SameT.at' (by assumption) ?_); walk_at "hp"))
local macro_rules | `(tactic| walk_at "ty") => `(tactic| first | exact .int _ | exact .bl _ | exact .str _ | exact .non | exact .tup (by walk_at "hp") | exact .lst (by walk_at "hp"))
local macro_rules | `(tactic| walk_at "b0") => `(tactic| first | assumption | exact Bz.w (by omega) (by omega) | exact Bz.mul (by walk_at "b0") (by walk_at "b0") | exact Bz.add' (by walk_at "b0") (by walk_at "b0") | exact Bz.sub' (by walk_at "b0") (by walk_at "b0") | exact Bz.neg (by walk_at "b0"))
local macro_rules | `(tactic| walk_at "bz") => `(tactic| first | walk_at "b0" | exact Bz.mono (by walk_at "b0") (by decide))
local macro_rules | `(tactic| walk_at "ss") => `(tactic| first | exact True.intro | (refine And.intro rfl ?_; walk_at "ss"))
local macro_rules | `(tactic| walk_at "sd") => `(tactic| first | assumption | ((with_reducible show @Eq _ _ _); first | (with_reducible exact rfl) | walk_at "hp" | exact L2.isi_same | exact L2.isi_ib | exact L2.isi_bi | exact L2.atI_mapD (PySem.Str.empty : PySem.Str) (by omega) (by omega) | exact L2.atI_mapD (0 : Int) (by omega) (by omega) | ((with_reducible show PySem.W.kitOne _ _ _ = some _); with_unfolding_all exact rfl) | omega) | ((with_reducible show L2.SqL _ _ _ _); first | (apply L2.SqL.of; walk_at "hp") | (apply L2.SqF.sq; walk_at "sf")) | ((with_reducible show L2.SqT _ _ _ _); exact L2.SqT.of (by walk_at "hp")) | ((with_reducible show L2.SqL _ _ _ _ ∨ L2.SqT _ _ _ _); first | exact Or.inl (L2.SqL.of (by walk_at "hp")) | exact Or.inr (L2.SqT.of (by walk_at "hp")) | exact Or.inl (by assumption) | exact Or.inr (by assumption)) | ((with_reducible show L2.TyOf _ _ _ _); walk_at "ty") | ((with_reducible show L2.tyV _ _ _ _); first | exact rfl | exact Or.inl ⟨rfl, _, L2.SqL.of (by walk_at "hp")⟩) | ((with_reducible show _ ≤ PySem.sizeLine); first | exact L2.sz | exact L2.szB (by omega) | omega) | ((with_reducible show _ < PySem.sizeLine); first | exact L2.small1000 (by omega) | omega) | ((with_reducible show L2.CPow _ _); exact ⟨by decide, by decide, by decide⟩) | ((with_reducible show L2.CDivB _ _); exact Lw.cN _ (by decide) (by decide)) | ((with_reducible show PySem.IntMulOk _ _); exact Bz.mulOk (by walk_at "b0") (by walk_at "b0")) | ((with_reducible show Bz _ _); walk_at "bz") | ((with_reducible show L2.SubS _ _); walk_at "ss") | ((with_reducible show L2.TVs _ _ _ _); exact L2.TVs.mono (L2.Same.t (by assumption)) (by assumption)) | ((with_reducible show @Ne L2.V _ _); walk_at "ne") | ((with_reducible show @Ne PySem.Addr _ _); walk_at "ne") | ((with_reducible show List.length _ < 1000); exact of_decide_eq_true rfl) | exact Exists.intro _ (L2.SqL.of (by walk_at "hp")) | exact Exists.intro _ (L2.SqT.of (by walk_at "hp")) | omega)
local macro_rules | `(tactic| walk_at "nw") => `(tactic| ((fail_if_success (refine ⟨(fun _ _ _ _ => True : Nat → Nat → L2.St → L2.Hp → Prop), ?_⟩)); (fail_if_success (refine ⟨(fun _ _ _ => True : Nat → L2.St → L2.Hp → Prop), ?_⟩)); (fail_if_success (refine ⟨(fun _ _ _ => True : Nat → List L2.V → L2.Hp → Prop), ?_⟩)); (fail_if_success (refine ⟨(fun _ _ => True : L2.St → L2.Hp → Prop), ?_⟩)); (fail_if_success (refine ⟨(PySem.PyData.none : PySem.PyData), ?_⟩))))
local macro_rules | `(tactic| walk_at "r1") => `(tactic| first | (apply And.intro; · ((with_reducible show @Eq _ _ _); exact rfl)) | (apply And.intro; · walk_at "sd") | (walk_at "nw"; apply Exists.intro) | refine L2.iteT ?_ | refine L2.iteF ?_ | refine L2.iteNotT ?_ | refine L2.iteNotF ?_ | refine L2.iteNN ?_ | (refine L2.iteY (by omega) ?_) | (refine L2.iteN (by omega) ?_) | (refine L2.iteYn (by omega) ?_) | (refine L2.iteNS (by omega) ?_) | (refine Or.inl (And.intro (L2.SqL.of (by walk_at "hp")) ?_)) | (intro p hp) | (intro p))
local macro_rules | `(tactic| walk_at "rd") => `(tactic| repeat walk_at "r1")
local macro_rules | `(tactic| walk_at "cf") => `(tactic| (intro σ H Q q; repeat (first | exact q | (apply And.intro; · ((with_reducible show @Eq _ _ _); exact rfl)) | (apply And.intro; · first | ((with_reducible show L2.CPow _ _); exact ⟨by decide, by decide, by decide⟩) | ((with_reducible show PySem.IntMulOk _ _); exact Bz.mulOk (bzl (by decide)) (bzl (by decide)))) | apply Exists.intro)))
local macro_rules | `(tactic| walk_at "sm") => `(tactic| first | assumption | exact L2.Same.refl _ | exact L2.Same.new (by walk_at "sm") (by assumption) _ | exact L2.Same.trans (by assumption) (by walk_at "sm"))
local macro_rules | `(tactic| walk_at "kx") => `(tactic| try dsimp (config := { beta := false, proj := false, zeta := false, eta := false, iota := false }) only [L2.cxK, L2.lcK, L2.wishK])

section
variable {P : Program} {w : World} {K : PySem.W.Frag} {mg : Str → Option Value} {base : Heap}

theorem ok_is_whole (T : Tx K mg) : FnOk P w K mg base (CXe P w) 1 T.f_is_whole T.d_is_whole ["value"] sp_is_whole := by
  have sc := sc_is_whole
  refine T.F_is_whole.okx sc (fun vs H Q E h => ?_) (fun cdv A outer s H vs Q E hr h => ?_)
  · obtain ⟨i, rfl, q⟩ := h
    rfl
  obtain ⟨i, rfl, q⟩ := h
  have hu := hr.units0
  have hu2 := hr.units
  have hu1 := Nat.lt_of_le_of_lt (Nat.add_le_add_left (show 1 ≤ 64 by decide) _) hu2
  refine ⟨_, (@pss_one _ _ _ (@ps_ret _ _ _ _ (pe_and (pe_callB call_isi rfl T.z_isinstance bt_isinstance (pa_cons (pv 0) (pa_cons (pe_bltn (v := .ty "int") rfl T.z_int bt_int rfl) pa_nil))) (pe_one (pe_not (pe_callB call_isi rfl T.z_isinstance bt_isinstance (pa_cons (pv 0) (pa_cons (pe_bltn (v := .ty "bool") rfl T.z_bool bt_bool rfl) pa_nil)))))))), ?_⟩
  walk_at "kx"
  walk_at "rd"
  exact q

theorem ok_greatest_divisor (T : Tx K mg) : FnOk P w K mg base (CXe P w) 1 T.f_greatest_divisor T.d_greatest_divisor ["one", "other"] sp_greatest_divisor := by
  have sc := sc_greatest_divisor
  refine T.F_greatest_divisor.okx sc (fun vs H Q E h => ?_) (fun cdv A outer s H vs Q E hr h => ?_)
  · obtain ⟨a, b, rfl, hb, q⟩ := h
    rfl
  obtain ⟨a, b, rfl, hb, q⟩ := h
  have hu := hr.units0
  have hu2 := hr.units
  have hu1 := Nat.lt_of_le_of_lt (Nat.add_le_add_left (show 1 ≤ 64 by decide) _) hu2
  refine ⟨_, (@pss_cons _ _ _ _ _ (@ps_set _ _ 2 _ _ _ _ sc.nd rfl (by first | exact Or.inl rfl | exact Or.inr rfl) (pe_callB call_abs rfl T.z_abs bt_abs (pa_cons (pv 0) pa_nil)) (by rfl) (by first | exact .inl rfl | exact .inr rfl | assumption))
      (@pss_cons _ _ _ _ _ (@ps_set _ _ 3 _ _ _ _ sc.nd rfl (by first | exact Or.inl rfl | exact Or.inr rfl) (pe_callB call_abs rfl T.z_abs bt_abs (pa_cons (pv 1) pa_nil)) (by rfl) (by first | exact .inl rfl | exact .inr rfl | assumption))
      (@pss_cons _ _ _ _ _ (ps_while powx (@pt_cmpR _ _ _ _ _ _ _ _ op_neI (pv 3) pe_int (nomark _)) (@pss_cons _ _ _ _ _ (@ps_set _ _ 4 _ _ _ _ sc.nd rfl (by first | exact Or.inl rfl | exact Or.inr rfl) (@pe_op _ _ _ _ _ _ _ _ op_mod (pv 2) (pv 3)) (by rfl) (by first | exact .inl rfl | exact .inr rfl | assumption))
      (@pss_cons _ _ _ _ _ (@ps_set _ _ 2 _ _ _ _ sc.nd rfl (by first | exact Or.inl rfl | exact Or.inr rfl) (pv 3) (by rfl) (by first | exact .inl rfl | exact .inr rfl | assumption))
      (@pss_one _ _ _ (@ps_set _ _ 3 _ _ _ _ sc.nd rfl (by first | exact Or.inl rfl | exact Or.inr rfl) (pv 4) (by rfl) (by first | exact .inl rfl | exact .inr rfl | assumption))))))
      (@pss_one _ _ _ (@ps_ret _ _ _ _ (pv 2)))))), ?_⟩
  walk_at "kx"
  walk_at "rd"
  refine while_by (fun σ H' => H' = H ∧ ∃ (x y : Int) (r : Option V), σ = [some (.int a), some (.int b), some (.int x), some (.int y), r] ∧ M.Inv a b x y)
    (fun σ _ => match σ with | [_, _, _, some (.int y), _] => y.toNat | _ => 0) ⟨rfl, _, _, _, rfl, M.Inv.start2 a b⟩ ?_ ?_
  · rintro σ' H' ⟨rfl, x, y, r, rfl, iv⟩
    have h1 := iv.y0
    walk_at "rd"
    refine ite3n (fun c => ?_) (fun c => ?_)
    · have hy : 0 < y := by omega
      walk_at "rd"
      exact ⟨⟨rfl, _, _, _, rfl, iv.turn hy⟩, M.less hy⟩
    · walk_at "rd"
      rw [iv.out c hb]
      exact q
  · rintro σ' H' Q1 Q2 hq ⟨v, e, i, j, ei, ej, k, ek, y⟩
    exact ⟨v, e, i, j, ei, ej, k, ek, hq _ _ y⟩

theorem ok_ratio (T : Tx K mg) : FnOk P w K mg base (CXe P w) 2 T.f_ratio T.d_ratio ["top", "bottom"] (sp_ratio T.c_NoRatio) := by
  have sc := sc_ratio
  refine T.F_ratio.okx sc (fun vs H Q E h => ?_) (fun cdv A outer s H vs Q E hr h => ?_)
  · obtain ⟨t, b, rfl, bz, q⟩ := h
    rfl
  obtain ⟨t, b, rfl, bz, q⟩ := h
  have hu := hr.units0
  have hu2 := hr.units
  have hu1 := Nat.lt_of_le_of_lt (Nat.add_le_add_left (show 1 ≤ 64 by decide) _) hu2
  refine ⟨_, (@pss_cons _ _ _ _ _ (@ps_if _ _ _ _ _ _ _ _ (PW.pt (pw_or (pt_not (pt_val (pe_call (ok_is_whole T) (hr.mono (by decide)) rfl T.m_is_whole T.F_is_whole.kp T.b_is_whole .nil (pass_e fun _ _ z => z) (pa_cons (pv 0) pa_nil)))) (pw_or1 (pt_not (pt_val (pe_call (ok_is_whole T) (hr.mono (by decide)) rfl T.m_is_whole T.F_is_whole.kp T.b_is_whole .nil (pass_e fun _ _ z => z) (pa_cons (pv 1) pa_nil))))))) (@pss_one _ _ _ (ps_raise T.x_NoRatio rfl (pa_cons pe_str pa_nil se_c))) pss_nil)
      (@pss_cons _ _ _ _ _ (@ps_if _ _ _ _ _ _ _ _ (@pt_cmpR _ _ _ _ _ _ _ _ op_eqI (pv 1) pe_int (nomark _)) (@pss_one _ _ _ (ps_raise T.x_NoRatio rfl (pa_cons pe_str pa_nil se_c))) pss_nil)
      (@pss_cons _ _ _ _ _ (@ps_set _ _ 2 _ _ _ _ sc.nd rfl (by first | exact Or.inl rfl | exact Or.inr rfl) (pe_call (ok_greatest_divisor T) (hr.mono (by decide)) rfl T.m_greatest_divisor T.F_greatest_divisor.kp T.b_greatest_divisor .nil (pass_e fun _ _ z => z) (pa_cons (pv 0) (pa_cons (pv 1) pa_nil))) (by rfl) (by first | exact .inl rfl | exact .inr rfl | assumption))
      (@pss_cons _ _ _ _ _ (@ps_if _ _ _ _ _ _ _ _ (@pt_cmpR _ _ _ _ _ _ _ _ op_lt (pv 1) pe_int (nomark _)) (@pss_one _ _ _ (@ps_set _ _ 2 _ _ _ _ sc.nd rfl (by first | exact Or.inl rfl | exact Or.inr rfl) (pe_un un_neg (pv 2)) (by rfl) (by first | exact .inl rfl | exact .inr rfl | assumption))) pss_nil)
      (@pss_one _ _ _ (@ps_ret _ _ _ _ (pe_tup (pa_cons (@pe_op _ _ _ _ _ _ _ _ op_fdivM (pv 0) (pv 2)) (pa_cons (@pe_op _ _ _ _ _ _ _ _ op_fdivM (pv 1) (pv 2)) pa_nil))))))))), ?_⟩
  walk_at "kx"
  rcases q with ⟨hb, q⟩ | ⟨hb, q⟩
  · subst hb
    walk_at "rd"
    exact q
  · walk_at "rd"
    refine ite3 (fun c => ?_) (fun c => ?_)
    · have cm := cM' (t := t) hb bz t
      have cm2 := cM' (t := t) hb bz b
      walk_at "rd"
      exact q.neg c _ (by assumption)
    · have cm := cM (t := t) hb bz t
      have cm2 := cM (t := t) hb bz b
      walk_at "rd"
      exact q.pos (by omega) _ (by assumption)

theorem ok_check_measure (T : Tx K mg) : FnOk P w K mg base (CXe P w) 1 T.f_check_measure T.d_check_measure ["measure"] (sp_check_measure T.c_NoMeasure) := by
  have sc := sc_check_measure
  refine T.F_check_measure.okx sc (fun vs H Q E h => ?_) (fun cdv A outer s H vs Q E hr h => ?_)
  · obtain ⟨m, rfl, sh, q⟩ := h
    rfl
  obtain ⟨m, rfl, sh, q⟩ := h
  have hu := hr.units0
  have hu2 := hr.units
  have hu1 := Nat.lt_of_le_of_lt (Nat.add_le_add_left (show 1 ≤ 64 by decide) _) hu2
  refine ⟨_, (@pss_one _ _ _ (@ps_if _ _ _ _ _ _ _ _ (@pt_cmpR _ _ _ _ _ _ _ _ op_notIn_seq (pv 0) (pe_glob (v := .ref T.c_MEASURES) rfl T.m_MEASURES rfl) (by with_unfolding_all rfl)) (@pss_one _ _ _ (ps_raise T.x_NoMeasure rfl (pa_cons (pe_fstr (pfs_lit (k := 100) (by decide +kernel) (pfs_r (pv 0) pfs_nil))) pa_nil))) pss_nil)), ?_⟩
  walk_at "kx"
  have s1 := sh.ok
  have s2 := sh.len
  rcases q with ⟨hm, q⟩ | ⟨hm, q⟩
  · have e := isM_in m hm
    walk_at "rd"
    refine ⟨.inr (T.q_MEASURES _), rfl, rfl, ?_⟩
    walk_at "rd"
    rw [e]
    walk_at "rd"
    exact q
  · have e := isM_out m hm
    walk_at "rd"
    refine ⟨.inr (T.q_MEASURES _), rfl, rfl, ?_⟩
    walk_at "rd"
    rw [e]
    walk_at "rd"
    exact q

theorem ok_commonest (T : Tx K mg) : FnOk P w K mg base (CXe P w) 1 T.f_commonest T.d_commonest ["counted"] (sp_commonest K) := by
  have sc := sc_commonest
  refine T.F_commonest.okx sc (fun vs H Q E h => ?_) (fun cdv A outer s H vs Q E hr h => ?_)
  · obtain ⟨a, cs, rfl, ⟨xs, ha, ht⟩, q⟩ := h
    rfl
  obtain ⟨a, cs, rfl, ⟨xs, ha, ht⟩, q⟩ := h
  have hu := hr.units0
  have hu2 := hr.units
  have hu1 := Nat.lt_of_le_of_lt (Nat.add_le_add_left (show 1 ≤ 64 by decide) _) hu2
  refine ⟨_, (@pss_cons _ _ _ _ _ (@ps_set _ _ 1 _ _ _ _ sc.nd rfl (by first | exact Or.inl rfl | exact Or.inr rfl) pe_non (by rfl) (by first | exact .inl rfl | exact .inr rfl | assumption))
      (@pss_cons _ _ _ _ _ (@ps_set _ _ 2 _ _ _ _ sc.nd rfl (by first | exact Or.inl rfl | exact Or.inr rfl) pe_int (by rfl) (by first | exact .inl rfl | exact .inr rfl | assumption))
      (@pss_cons _ _ _ _ _ (ps_for powx rfl (pi_list (pv 0)) (pg_tup rfl (pgs_cons (pg_name (i := 3) sc.nd rfl (by first | exact Or.inl rfl | exact Or.inr rfl)) (pgs_cons (pg_name (i := 4) sc.nd rfl (by first | exact Or.inl rfl | exact Or.inr rfl)) pgs_nil)))
      (@pss_one _ _ _ (@ps_if _ _ _ _ _ _ _ _ (@pt_cmpR _ _ _ _ _ _ _ _ op_gt (pv 4) (pv 2) (nomark _)) (@pss_cons _ _ _ _ _ (@ps_set _ _ 1 _ _ _ _ sc.nd rfl (by first | exact Or.inl rfl | exact Or.inr rfl) (pv 3) (by rfl) (by first | exact .inl rfl | exact .inr rfl | assumption))
      (@pss_one _ _ _ (@ps_set _ _ 2 _ _ _ _ sc.nd rfl (by first | exact Or.inl rfl | exact Or.inr rfl) (pv 4) (by rfl) (by first | exact .inl rfl | exact .inr rfl | assumption)))) pss_nil)))
      (@pss_one _ _ _ (@ps_ret _ _ _ _ (pv 1)))))), ?_⟩
  walk_at "kx"
  have hlen : xs.length = cs.length := by have := ht.length; rw [List.length_map] at this; exact this
  walk_at "rd"
  refine for_list (K := K) (a := a) (xs := xs) (fun i σ H' => Iv (H' = H ∧ ∃ o1 o2, σ = [some (.ref a), some ((cs.take i).foldl cmS (.non, 0)).1, some (.int ((cs.take i).foldl cmS (.non, 0)).2), o1, o2])) ⟨⟨rfl, _, _, rfl⟩⟩ (fun i σ H' _ z => by rw [z.o.1]; exact SqL.of ha) ?_ ?_
  · rintro i x σ H' hi ⟨⟨rfl, o1, o2, rfl⟩⟩
    have il := (List.getElem?_eq_some_iff.mp hi).1
    obtain ⟨d, hd, tv⟩ := ht.get hi
    rw [List.getElem?_map] at hd
    obtain ⟨c, hc, rfl⟩ := Option.map_eq_some_iff.mp hd
    obtain ⟨p, u, v, rfl, hp, t1, t2⟩ := tv.pair
    obtain rfl := t1.strs
    obtain rfl := t2.ints
    walk_at "rd"
    have e : (cs.take (i + 1)).foldl cmS (.non, 0) = cmS ((cs.take i).foldl cmS (.non, 0)) c := by rw [List.take_add_one, hc, List.foldl_append]; rfl
    rw [e]
    refine ite3 (fun h => ?_) (fun h => ?_)
    · rw [cmS_t h]
      walk_at "rd"
      exact ⟨⟨rfl, _, _, rfl⟩⟩
    · rw [cmS_f h]
      walk_at "rd"
      exact ⟨⟨rfl, _, _, rfl⟩⟩
  · rintro σ H' ⟨⟨rfl, o1, o2, rfl⟩⟩
    walk_at "rd"
    rw [hlen, List.take_length]
    exact q

theorem ok_all_rows (T : Tx K mg) : FnOk P w K mg base (CXe P w) 1 T.f_all_rows T.d_all_rows ["counted"] (sp_all_rows K) := by
  have sc := sc_all_rows
  refine T.F_all_rows.okx sc (fun vs H Q E h => ?_) (fun cdv A outer s H vs Q E hr h => ?_)
  · obtain ⟨a, cs, rfl, ⟨xs, ha, ht⟩, hn, q⟩ := h
    rfl
  obtain ⟨a, cs, rfl, ⟨xs, ha, ht⟩, hn, q⟩ := h
  have hu := hr.units0
  have hu2 := hr.units
  have hu1 := Nat.lt_of_le_of_lt (Nat.add_le_add_left (show 1 ≤ 64 by decide) _) hu2
  refine ⟨_, (@pss_one _ _ _ (@ps_ret _ _ _ _ (pe_callB (call_sum rfl) rfl T.z_sum bt_sum (pa_cons (pe_lc (ts := ["answer", "many"]) (js := []) (LcOk.of rfl) rfl (pi_list (pv 0)) (fun _ _ _ _ => (pg_tup rfl (pgs_cons (pg_name (i := 0) (nodup_of rfl) rfl (Or.inl rfl)) (pgs_cons (pg_name (i := 1) (nodup_of rfl) rfl (Or.inl rfl)) pgs_nil)))) (fun _ _ _ _ => pf_nil) (fun _ _ _ _ => (pv 1))) pa_nil)))), ?_⟩
  walk_at "kx"
  have hlen : xs.length = cs.length := by have := ht.length; rw [List.length_map] at this; exact this
  walk_at "rd"
  refine lc_list (K := K) (a := a) (xs := xs) (fun i ys H2 => Iv (H2 = H ∧ ys = ((cs.take i).map (·.2)).map V.int)) ⟨⟨rfl, rfl⟩⟩ (fun i ys H2 hi z => ⟨by rw [z.o.1]; exact SqL.of ha, by rw [z.o.2, List.length_map, List.length_map, List.length_take]; exact small1000 (by omega)⟩) ?_ ?_
  · rintro i x ys H2 hi ⟨⟨rfl, rfl⟩⟩
    have il := (List.getElem?_eq_some_iff.mp hi).1
    obtain ⟨d, hd, tv⟩ := ht.get hi
    rw [List.getElem?_map] at hd
    obtain ⟨c, hc, rfl⟩ := Option.map_eq_some_iff.mp hd
    obtain ⟨p, u, v, rfl, hp, t1, t2⟩ := tv.pair
    obtain rfl := t1.strs
    obtain rfl := t2.ints
    walk_at "rd"
    refine ⟨⟨rfl, ?_⟩⟩
    rw [List.take_add_one, hc, List.map_append, List.map_append]
    rfl
  · rintro ys H2 ⟨⟨rfl, rfl⟩⟩ p hp
    rw [hlen, List.take_length]
    walk_at "rd"
    exact q _ (by walk_at "sm")

theorem ok_misses (T : Tx K mg) : FnOk P w K mg base (CXe P w) 2 T.f_misses T.d_misses ["counted"] (sp_misses K) := by
  have sc := sc_misses
  refine T.F_misses.okx sc (fun vs H Q E h => ?_) (fun cdv A outer s H vs Q E hr h => ?_)
  · obtain ⟨a, cs, rfl, cn, hn, q⟩ := h
    rfl
  obtain ⟨a, cs, rfl, cn, hn, q⟩ := h
  have hu := hr.units0
  have hu2 := hr.units
  have hu1 := Nat.lt_of_le_of_lt (Nat.add_le_add_left (show 1 ≤ 64 by decide) _) hu2
  refine ⟨_, (@pss_one _ _ _ (@ps_ret _ _ _ _ (@pe_op _ _ _ _ _ _ _ _ op_sub (pe_call (ok_all_rows T) (hr.mono (by decide)) rfl T.m_all_rows T.F_all_rows.kp T.b_all_rows .nil (pass_e fun _ _ z => z) (pa_cons (pv 0) pa_nil)) (pe_callKw (call_max_dflt rfl) rfl T.z_max bt_max (pa_cons (pe_lc (ts := ["answer", "many"]) (js := []) (LcOk.of rfl) rfl (pi_list (pv 0)) (fun _ _ _ _ => (pg_tup rfl (pgs_cons (pg_name (i := 0) (nodup_of rfl) rfl (Or.inl rfl)) (pgs_cons (pg_name (i := 1) (nodup_of rfl) rfl (Or.inl rfl)) pgs_nil)))) (fun _ _ _ _ => pf_nil) (fun _ _ _ _ => (pv 1))) pa_nil) pe_int)))), ?_⟩
  walk_at "kx"
  walk_at "rd"
  rename_i H1 S1
  obtain ⟨xs, ha, ht⟩ := cn.same S1
  have hlen : xs.length = cs.length := by have := ht.length; rw [List.length_map] at this; exact this
  walk_at "rd"
  refine lc_list (K := K) (a := a) (xs := xs) (fun i ys H2 => Iv (H2 = H1 ∧ ys = ((cs.take i).map (·.2)).map V.int)) ⟨⟨rfl, rfl⟩⟩ (fun i ys H2 hi z => ⟨by rw [z.o.1]; exact SqL.of ha, by rw [z.o.2, List.length_map, List.length_map, List.length_take]; exact small1000 (by omega)⟩) ?_ ?_
  · rintro i x ys H2 hi ⟨⟨rfl, rfl⟩⟩
    have il := (List.getElem?_eq_some_iff.mp hi).1
    obtain ⟨d, hd, tv⟩ := ht.get hi
    rw [List.getElem?_map] at hd
    obtain ⟨c, hc, rfl⟩ := Option.map_eq_some_iff.mp hd
    obtain ⟨p, u, v, rfl, hp, t1, t2⟩ := tv.pair
    obtain rfl := t1.strs
    obtain rfl := t2.ints
    walk_at "rd"
    refine ⟨⟨rfl, ?_⟩⟩
    rw [List.take_add_one, hc, List.map_append, List.map_append]
    rfl
  · rintro ys H2 ⟨⟨rfl, rfl⟩⟩ p hp
    rw [hlen, List.take_length]
    walk_at "rd"
    exact q _ (by walk_at "sm")

theorem ok_shares (T : Tx K mg) : FnOk P w K mg base (CXe P w) 3 T.f_shares T.d_shares ["counted"] (sp_shares K) := by
  have sc := sc_shares
  refine T.F_shares.okx sc (fun vs H Q E h => ?_) (fun cdv A outer s H vs Q E hr h => ?_)
  · obtain ⟨a, cs, rfl, cn, cz, q⟩ := h
    rfl
  obtain ⟨a, cs, rfl, cn, cz, q⟩ := h
  have hu := hr.units0
  have hu2 := hr.units
  have hu1 := Nat.lt_of_le_of_lt (Nat.add_le_add_left (show 1 ≤ 64 by decide) _) hu2
  refine ⟨_, (@pss_cons _ _ _ _ _ (@ps_set _ _ 1 _ _ _ _ sc.nd rfl (by first | exact Or.inl rfl | exact Or.inr rfl) (pe_call (ok_all_rows T) (hr.mono (by decide)) rfl T.m_all_rows T.F_all_rows.kp T.b_all_rows .nil (pass_e fun _ _ z => z) (pa_cons (pv 0) pa_nil)) (by rfl) (by first | exact .inl rfl | exact .inr rfl | assumption))
      (@pss_cons _ _ _ _ _ (@ps_if _ _ _ _ _ _ _ _ (@pt_cmpR _ _ _ _ _ _ _ _ op_eqI (pv 1) pe_int (nomark _)) (@pss_one _ _ _ (@ps_ret _ _ _ _ (pe_call (ok_ratio T) (hr.mono (by decide)) rfl T.m_ratio T.F_ratio.kp T.b_ratio .nil (pass_e fun _ _ z => z) (pa_cons pe_int (pa_cons pe_int pa_nil))))) pss_nil)
      (@pss_cons _ _ _ _ _ (@ps_set _ _ 2 _ _ _ _ sc.nd rfl (by first | exact Or.inl rfl | exact Or.inr rfl) (pe_callB (call_sum rfl) rfl T.z_sum bt_sum (pa_cons (pe_lc (ts := ["answer", "many"]) (js := []) (LcOk.of rfl) rfl (pi_list (pv 0)) (fun _ _ _ _ => (pg_tup rfl (pgs_cons (pg_name (i := 0) (nodup_of rfl) rfl (Or.inl rfl)) (pgs_cons (pg_name (i := 1) (nodup_of rfl) rfl (Or.inl rfl)) pgs_nil)))) (fun _ _ _ _ => pf_nil) (fun _ _ _ _ => (@pe_op _ _ _ _ _ _ _ _ op_mulB (pv 1) (pv 1)))) pa_nil)) (by rfl) (by first | exact .inl rfl | exact .inr rfl | assumption))
      (@pss_one _ _ _ (@ps_ret _ _ _ _ (pe_call (ok_ratio T) (hr.mono (by decide)) rfl T.m_ratio T.F_ratio.kp T.b_ratio .nil (pass_e fun _ _ z => z) (pa_cons (@pe_op _ _ _ _ _ _ _ _ op_sub (@pe_op _ _ _ _ _ _ _ _ op_mulB (pv 1) (pv 1)) (pv 2)) (pa_cons (pv 1) pa_nil)))))))), ?_⟩
  walk_at "kx"
  have n60 := cz.len
  have sb := cz.sum
  have u : messR cs "shares" = if sumC cs = 0 then Rat.divInt 0 1 else Rat.divInt (sumC cs * sumC cs - sqC cs) (sumC cs) := if_neg (by decide +kernel)
  rw [u] at q
  have z1 : Bz 8000 1 := (Bz.w (x := 1) (by decide) (by decide)).mono (by decide)
  have zs : Bz 128 (sumC cs) := Bz.w (by omega) (by omega)
  have z8 : Bz 8000 (sumC cs) := zs.mono (by decide)
  walk_at "rd"
  rename_i H1 S1
  refine ite3 (fun h0 => ?_) (fun h0 => ?_)
  · rw [if_pos h0] at q
    walk_at "rd"
    exact .inr ⟨by decide, (q.of S1).nw⟩
  · rw [if_neg h0] at q
    obtain ⟨xs, ha, ht⟩ := cn.same S1
    have hlen : xs.length = cs.length := by have := ht.length; rw [List.length_map] at this; exact this
    walk_at "rd"
    refine lc_list (K := K) (a := a) (xs := xs) (fun i ys H2 => Iv (H2 = H1 ∧ ys = ((cs.take i).map fun c => c.2 * c.2).map V.int)) ⟨⟨rfl, rfl⟩⟩ (fun i ys H2 hi z => ⟨by rw [z.o.1]; exact SqL.of ha, by rw [z.o.2, List.length_map, List.length_map, List.length_take]; exact small1000 (by omega)⟩) ?_ ?_
    · rintro i x ys H2 hi ⟨⟨rfl, rfl⟩⟩
      have il := (List.getElem?_eq_some_iff.mp hi).1
      obtain ⟨d, hd, tv⟩ := ht.get hi
      rw [List.getElem?_map] at hd
      obtain ⟨c, hc, rfl⟩ := Option.map_eq_some_iff.mp hd
      obtain ⟨p, u, v, rfl, hp, t1, t2⟩ := tv.pair
      obtain rfl := t1.strs
      obtain rfl := t2.ints
      have c1 := cz.one c (List.mem_of_getElem? hc)
      have c2 := cz.up c (List.mem_of_getElem? hc)
      have zc : Bz 128 c.2 := Bz.w (by omega) (by omega)
      walk_at "rd"
      refine ⟨⟨rfl, ?_⟩⟩
      rw [List.take_add_one, hc, List.map_append, List.map_append]
      rfl
    · rintro ys H2 ⟨⟨rfl, rfl⟩⟩ p hp
      rw [hlen, List.take_length]
      walk_at "rd"
      refine .inr ⟨h0, ?_⟩
      exact ((q.of S1).of (same_new hp _)).nw

theorem ok_mess (T : Tx K mg) : FnOk P w K mg base (CXe P w) 4 T.f_mess T.d_mess ["counted", "measure"] (sp_mess K T.c_NoMeasure) := by
  have sc := sc_mess
  refine T.F_mess.okx sc (fun vs H Q E h => ?_) (fun cdv A outer s H vs Q E hr h => ?_)
  · obtain ⟨a, cs, m, rfl, cn, cz, sh, q⟩ := h
    rfl
  obtain ⟨a, cs, m, rfl, cn, cz, sh, q⟩ := h
  have hu := hr.units0
  have hu2 := hr.units
  have hu1 := Nat.lt_of_le_of_lt (Nat.add_le_add_left (show 1 ≤ 64 by decide) _) hu2
  refine ⟨_, (@pss_cons _ _ _ _ _ (ps_expr (pe_call (ok_check_measure T) (hr.mono (by decide)) rfl T.m_check_measure T.F_check_measure.kp T.b_check_measure .nil (pass_e fun _ _ z => z) (pa_cons (pv 1) pa_nil)))
      (@pss_cons _ _ _ _ _ (@ps_if _ _ _ _ _ _ _ _ (@pt_cmpR _ _ _ _ _ _ _ _ op_eqS (pv 1) pe_str (nomark _)) (@pss_one _ _ _ (@ps_ret _ _ _ _ (pe_call (ok_ratio T) (hr.mono (by decide)) rfl T.m_ratio T.F_ratio.kp T.b_ratio .nil (pass_e fun _ _ z => z) (pa_cons (pe_call (ok_misses T) (hr.mono (by decide)) rfl T.m_misses T.F_misses.kp T.b_misses .nil (pass_e fun _ _ z => z) (pa_cons (pv 0) pa_nil)) (pa_cons pe_int pa_nil))))) pss_nil)
      (@pss_one _ _ _ (@ps_ret _ _ _ _ (pe_call (ok_shares T) (hr.mono (by decide)) rfl T.m_shares T.F_shares.kp T.b_shares .nil (pass_e fun _ _ z => z) (pa_cons (pv 0) pa_nil)))))), ?_⟩
  walk_at "kx"
  have n60 := cz.len
  have z1 : Bz 8000 1 := (Bz.w (x := 1) (by decide) (by decide)).mono (by decide)
  rcases q with ⟨hm, q⟩ | ⟨hm, q⟩
  · walk_at "rd"
    refine .inl ⟨hm, ?_⟩
    walk_at "rd"
    refine ite3 (fun h => ?_) (fun h => ?_)
    · have u : messR cs m = Rat.divInt (sumC cs - mxD 0 (cs.map (·.2))) 1 := if_pos h
      rw [u] at q
      walk_at "rd"
      rename_i H1 S1
      exact .inr ⟨by decide, (q.of S1).nw⟩
    · have e : m = "shares" := hm.resolve_left h
      subst e
      walk_at "rd"
      exact q _ _ (by assumption) (by assumption) (by assumption)
  · walk_at "rd"
    refine .inr ⟨hm, ?_⟩
    walk_at "rd"
    exact q

theorem ok_says (T : Tx K mg) : FnOk P w K mg base (CXe P w) 1 T.f_says T.d_says ["question", "values"] sp_says := by
  have sc := sc_says
  refine T.F_says.okx sc (fun vs H Q E h => ?_) (fun cdv A outer s H vs Q E hr h => ?_)
  · obtain ⟨qa, va, q, ks, rfl, hq, hv, ak, k⟩ := h
    rfl
  obtain ⟨qa, va, q, ks, rfl, hq, hv, ak, k⟩ := h
  have hu := hr.units0
  have hu2 := hr.units
  have hu1 := Nat.lt_of_le_of_lt (Nat.add_le_add_left (show 1 ≤ 64 by decide) _) hu2
  refine ⟨_, (@pss_cons _ _ _ _ _ (@ps_set _ _ 2 _ _ _ _ sc.nd rfl (by first | exact Or.inl rfl | exact Or.inr rfl) (@pe_ix _ _ _ _ _ _ _ ix_tup (pv 1) (@pe_ix _ _ _ _ _ _ _ ix_tup (pv 0) pe_int (fun _ _ => rfl)) (fun _ _ => rfl)) (by rfl) (by first | exact .inl rfl | exact .inr rfl | assumption))
      (@pss_cons _ _ _ _ _ (@ps_if _ _ _ _ _ _ _ _ (@pt_cmpR _ _ _ _ _ _ _ _ op_eqS (@pe_ix _ _ _ _ _ _ _ ix_tup (pv 0) pe_int (fun _ _ => rfl)) pe_str (nomark _)) (@pss_one _ _ _ (@ps_ret _ _ _ _ (pe_cmpR op_le (pv 2) (@pe_ix _ _ _ _ _ _ _ ix_tup (pv 0) pe_int (fun _ _ => rfl)) (nomark _)))) pss_nil)
      (@pss_one _ _ _ (@ps_ret _ _ _ _ (pe_cmpR op_eq (pv 2) (@pe_ix _ _ _ _ _ _ _ ix_tup (pv 0) pe_int (fun _ _ => rfl)) (nomark _)))))), ?_⟩
  walk_at "kx"
  have hq : H qa = some (.tup [.str q.kd, .int q.at', kV q.c]) := hq
  rcases ak with ⟨e, v, n, e1, e2⟩ | ⟨e, v, w', e1, e2⟩
  · have ea : atI (ks.map kV) (q.at' : Int) = some (.int v) := atI_nat (by rw [List.getElem?_map, e1]; rfl)
    have es : say q ks = decide (v ≤ n) := by unfold say; rw [e1, e2]
    rw [e, e2] at hq
    rw [es] at k
    walk_at "rd"
    exact k
  · have ea : atI (ks.map kV) (q.at' : Int) = some (.str v) := atI_nat (by rw [List.getElem?_map, e1]; rfl)
    have es : say q ks = decide (v = w') := by unfold say; rw [e1, e2]
    rw [e, e2] at hq
    rw [es] at k
    walk_at "rd"
    show Q (V.bl (decide (V.str v = V.str w'))) H
    rw [str_eqV]
    exact k

theorem ok_Node___init__ (T : Tx K mg) : FnOk P w K mg base (CXe P w) 1 T.f_Node___init__ T.d_Node___init__ ["self", "counted"] (sp_init_node T.c_Leaf T.c_Fork) := by
  have sc := sc_Node___init__
  refine T.F_Node___init__.okx sc (fun vs H Q E h => ?_) (fun cdv A outer s H vs Q E hr h => ?_)
  · obtain ⟨x, a, C, dx, xs, rfl, hx, hC, ha, q⟩ := h
    rfl
  obtain ⟨x, a, C, dx, xs, rfl, hx, hC, ha, q⟩ := h
  have hu := hr.units0
  have hu2 := hr.units
  have hu1 := Nat.lt_of_le_of_lt (Nat.add_le_add_left (show 1 ≤ 64 by decide) _) hu2
  refine ⟨_, (@pss_one _ _ _ (ps_fld (pv 0) (pe_callTy call_list_of rfl T.z_list bt_list (pa_cons (pv 1) pa_nil)) rfl)), ?_⟩
  walk_at "kx"
  have C1 := T.C_Leaf
  have C2 := T.C_Fork
  have N0 : NoAttr K T.c_Leaf "counted" := T.nLc
  have N1 : NoAttr K T.c_Fork "counted" := T.nFcd
  have N2 : NoAttr K T.c_Fork "question" := T.nFqn
  have N3 : NoAttr K T.c_Fork "yes" := T.nFys
  have N4 : NoAttr K T.c_Fork "no" := T.nFno
  have N5 : NoAttr K T.c_Fork "leaf_count" := T.nFlt
  have N6 : NoAttr K T.c_Fork "depth" := T.nFdh
  rcases hC with rfl | rfl
  · walk_at "rd"
    rename_i l hl
    exact q l hl
  · walk_at "rd"
    rename_i l hl
    exact q l hl

theorem ok_Leaf_below (T : Tx K mg) : FnOk P w K mg base (CXe P w) 1 T.f_Leaf_below T.d_Leaf_below ["self", "sign"] sp_lbelow := by
  have sc := sc_Leaf_below
  refine T.F_Leaf_below.okx sc (fun vs H Q E h => ?_) (fun cdv A outer s H vs Q E hr h => ?_)
  · obtain ⟨x, w, rfl, q⟩ := h
    rfl
  obtain ⟨x, w, rfl, q⟩ := h
  have hu := hr.units0
  have hu2 := hr.units
  have hu1 := Nat.lt_of_le_of_lt (Nat.add_le_add_left (show 1 ≤ 64 by decide) _) hu2
  refine ⟨_, (@pss_one _ _ _ (@ps_ret _ _ _ _ pe_non)), ?_⟩
  walk_at "kx"
  walk_at "rd"
  exact q

theorem ok_Leaf_leaves (T : Tx K mg) : FnOk P w K mg base (CXe P w) 1 T.f_Leaf_leaves T.d_Leaf_leaves ["self"] (sp_lleaves T.c_Leaf 1) := by
  have sc := sc_Leaf_leaves
  refine T.F_Leaf_leaves.okx sc (fun vs H Q E h => ?_) (fun cdv A outer s H vs Q E hr h => ?_)
  · obtain ⟨x, dx, fs, rfl, hx, q⟩ := h
    rfl
  obtain ⟨x, dx, fs, rfl, hx, q⟩ := h
  have hu := hr.units0
  have hu2 := hr.units
  have hu1 := Nat.lt_of_le_of_lt (Nat.add_le_add_left (show 1 ≤ 64 by decide) _) hu2
  refine ⟨_, (@pss_one _ _ _ (@ps_ret _ _ _ _ pe_int)), ?_⟩
  walk_at "kx"
  walk_at "rd"
  exact q

theorem ok_Leaf_deep (T : Tx K mg) : FnOk P w K mg base (CXe P w) 1 T.f_Leaf_deep T.d_Leaf_deep ["self"] (sp_lleaves T.c_Leaf 0) := by
  have sc := sc_Leaf_deep
  refine T.F_Leaf_deep.okx sc (fun vs H Q E h => ?_) (fun cdv A outer s H vs Q E hr h => ?_)
  · obtain ⟨x, dx, fs, rfl, hx, q⟩ := h
    rfl
  obtain ⟨x, dx, fs, rfl, hx, q⟩ := h
  have hu := hr.units0
  have hu2 := hr.units
  have hu1 := Nat.lt_of_le_of_lt (Nat.add_le_add_left (show 1 ≤ 64 by decide) _) hu2
  refine ⟨_, (@pss_one _ _ _ (@ps_ret _ _ _ _ pe_int)), ?_⟩
  walk_at "kx"
  walk_at "rd"
  exact q

theorem ok_Leaf_place_of (T : Tx K mg) : FnOk P w K mg base (CXe P w) 1 T.f_Leaf_place_of T.d_Leaf_place_of ["self", "values"] sp_lplace := by
  have sc := sc_Leaf_place_of
  refine T.F_Leaf_place_of.okx sc (fun vs H Q E h => ?_) (fun cdv A outer s H vs Q E hr h => ?_)
  · obtain ⟨x, va, rfl, q⟩ := h
    rfl
  obtain ⟨x, va, rfl, q⟩ := h
  have hu := hr.units0
  have hu2 := hr.units
  have hu1 := Nat.lt_of_le_of_lt (Nat.add_le_add_left (show 1 ≤ 64 by decide) _) hu2
  refine ⟨_, (@pss_one _ _ _ (@ps_ret _ _ _ _ pe_str)), ?_⟩
  walk_at "kx"
  walk_at "rd"
  exact q

theorem ok_Fork_below (T : Tx K mg) : FnOk P w K mg base (CXe P w) 1 T.f_Fork_below T.d_Fork_below ["self", "sign"] (sp_fbelow T.c_Leaf T.c_Fork K) := by
  have sc := sc_Fork_below
  refine T.F_Fork_below.okx sc (fun vs H Q E h => ?_) (fun cdv A outer s H vs Q E hr h => ?_)
  · obtain ⟨x, w, dx, l, qa, v1, v2, a, b, rfl, hx, q⟩ := h
    rfl
  obtain ⟨x, w, dx, l, qa, v1, v2, a, b, rfl, hx, q⟩ := h
  have hu := hr.units0
  have hu2 := hr.units
  have hu1 := Nat.lt_of_le_of_lt (Nat.add_le_add_left (show 1 ≤ 64 by decide) _) hu2
  refine ⟨_, (@pss_cons _ _ _ _ _ (@ps_if _ _ _ _ _ _ _ _ (@pt_cmpR _ _ _ _ _ _ _ _ op_eqS (pv 1) pe_str (nomark _)) (@pss_one _ _ _ (@ps_ret _ _ _ _ (pe_fld (pv 0) rfl))) pss_nil)
      (@pss_cons _ _ _ _ _ (@ps_if _ _ _ _ _ _ _ _ (@pt_cmpR _ _ _ _ _ _ _ _ op_eqS (pv 1) pe_str (nomark _)) (@pss_one _ _ _ (@ps_ret _ _ _ _ (pe_fld (pv 0) rfl))) pss_nil)
      (@pss_one _ _ _ (@ps_ret _ _ _ _ pe_non)))), ?_⟩
  walk_at "kx"
  have C1 := T.C_Leaf
  have C2 := T.C_Fork
  have N0 : NoAttr K T.c_Leaf "counted" := T.nLc
  have N1 : NoAttr K T.c_Fork "counted" := T.nFcd
  have N2 : NoAttr K T.c_Fork "question" := T.nFqn
  have N3 : NoAttr K T.c_Fork "yes" := T.nFys
  have N4 : NoAttr K T.c_Fork "no" := T.nFno
  have N5 : NoAttr K T.c_Fork "leaf_count" := T.nFlt
  have N6 : NoAttr K T.c_Fork "depth" := T.nFdh
  walk_at "rd"
  refine ite3 (fun e => ?_) (fun e => ?_)
  · rw [if_pos e] at q
    walk_at "rd"
    exact q
  · rw [if_neg e] at q
    walk_at "rd"
    refine ite3 (fun e => ?_) (fun e => ?_)
    · rw [if_pos e] at q
      walk_at "rd"
      exact q
    · rw [if_neg e] at q
      walk_at "rd"
      exact q

theorem ok_Fork_leaves (T : Tx K mg) : FnOk P w K mg base (CXe P w) 1 T.f_Fork_leaves T.d_Fork_leaves ["self"] (sp_ffield T.c_Fork "leaf_count") := by
  have sc := sc_Fork_leaves
  refine T.F_Fork_leaves.okx sc (fun vs H Q E h => ?_) (fun cdv A outer s H vs Q E hr h => ?_)
  · obtain ⟨x, dx, fs, v, rfl, hx, hv, q⟩ := h
    rfl
  obtain ⟨x, dx, fs, v, rfl, hx, hv, q⟩ := h
  have hu := hr.units0
  have hu2 := hr.units
  have hu1 := Nat.lt_of_le_of_lt (Nat.add_le_add_left (show 1 ≤ 64 by decide) _) hu2
  refine ⟨_, (@pss_one _ _ _ (@ps_ret _ _ _ _ (pe_fld (pv 0) rfl))), ?_⟩
  walk_at "kx"
  have C1 := T.C_Leaf
  have C2 := T.C_Fork
  have N0 : NoAttr K T.c_Leaf "counted" := T.nLc
  have N1 : NoAttr K T.c_Fork "counted" := T.nFcd
  have N2 : NoAttr K T.c_Fork "question" := T.nFqn
  have N3 : NoAttr K T.c_Fork "yes" := T.nFys
  have N4 : NoAttr K T.c_Fork "no" := T.nFno
  have N5 : NoAttr K T.c_Fork "leaf_count" := T.nFlt
  have N6 : NoAttr K T.c_Fork "depth" := T.nFdh
  walk_at "rd"
  exact q

theorem ok_Fork_deep (T : Tx K mg) : FnOk P w K mg base (CXe P w) 1 T.f_Fork_deep T.d_Fork_deep ["self"] (sp_ffield T.c_Fork "depth") := by
  have sc := sc_Fork_deep
  refine T.F_Fork_deep.okx sc (fun vs H Q E h => ?_) (fun cdv A outer s H vs Q E hr h => ?_)
  · obtain ⟨x, dx, fs, v, rfl, hx, hv, q⟩ := h
    rfl
  obtain ⟨x, dx, fs, v, rfl, hx, hv, q⟩ := h
  have hu := hr.units0
  have hu2 := hr.units
  have hu1 := Nat.lt_of_le_of_lt (Nat.add_le_add_left (show 1 ≤ 64 by decide) _) hu2
  refine ⟨_, (@pss_one _ _ _ (@ps_ret _ _ _ _ (pe_fld (pv 0) rfl))), ?_⟩
  walk_at "kx"
  have C1 := T.C_Leaf
  have C2 := T.C_Fork
  have N0 : NoAttr K T.c_Leaf "counted" := T.nLc
  have N1 : NoAttr K T.c_Fork "counted" := T.nFcd
  have N2 : NoAttr K T.c_Fork "question" := T.nFqn
  have N3 : NoAttr K T.c_Fork "yes" := T.nFys
  have N4 : NoAttr K T.c_Fork "no" := T.nFno
  have N5 : NoAttr K T.c_Fork "leaf_count" := T.nFlt
  have N6 : NoAttr K T.c_Fork "depth" := T.nFdh
  walk_at "rd"
  exact q

theorem ok_Fork_place_of0 (T : Tx K mg) : FnOk P w K mg base (CXe P w) (0 + 2) T.f_Fork_place_of T.d_Fork_place_of ["self", "values"] (sp_fplace T.c_Leaf T.c_Fork K 0) := by
  have sc := sc_Fork_place_of
  refine T.F_Fork_place_of.okx sc (fun vs H Q E h => ?_) (fun cdv A outer s H vs Q E hr h => ?_)
  · obtain ⟨x, va, dx, l, qa, v1, v2, cs, qq, y, n, ks, rfl, hx, hq, n1, n2, hv, ha, hd, h9, q⟩ := h
    rfl
  obtain ⟨x, va, dx, l, qa, v1, v2, cs, qq, y, n, ks, rfl, hx, hq, n1, n2, hv, ha, hd, h9, q⟩ := h
  have hu := hr.units0
  have hu2 := hr.units
  have hu1 := Nat.lt_of_le_of_lt (Nat.add_le_add_left (show 1 ≤ 64 by decide) _) hu2
  refine ⟨_, (@pss_cons _ _ _ _ _ (@ps_if _ _ _ _ _ _ _ _ (pt_val (pe_call (ok_says T) (hr.mono (by decide)) rfl T.m_says T.F_says.kp T.b_says .nil (pass_e fun _ _ z => z) (pa_cons (pe_fld (pv 0) rfl) (pa_cons (pv 1) pa_nil)))) (@pss_one _ _ _ ps_never) pss_nil)
      (@pss_one _ _ _ ps_never)), ?_⟩
  walk_at "kx"
  exact absurd hd (by omega)

theorem ok_Fork_place_ofS (T : Tx K mg) (d : Nat) (ih : FnOk P w K mg base (CXe P w) (d + 2) T.f_Fork_place_of T.d_Fork_place_of ["self", "values"] (sp_fplace T.c_Leaf T.c_Fork K d)) : FnOk P w K mg base (CXe P w) (d + 1 + 2) T.f_Fork_place_of T.d_Fork_place_of ["self", "values"] (sp_fplace T.c_Leaf T.c_Fork K (d + 1)) := by
  have sc := sc_Fork_place_of
  refine T.F_Fork_place_of.okx sc (fun vs H Q E h => ?_) (fun cdv A outer s H vs Q E hr h => ?_)
  · obtain ⟨x, va, dx, l, qa, v1, v2, cs, qq, y, n, ks, rfl, hx, hq, n1, n2, hv, ha, hd, h9, q⟩ := h
    rfl
  obtain ⟨x, va, dx, l, qa, v1, v2, cs, qq, y, n, ks, rfl, hx, hq, n1, n2, hv, ha, hd, h9, q⟩ := h
  have hu := hr.units0
  have hu2 := hr.units
  have hu1 := Nat.lt_of_le_of_lt (Nat.add_le_add_left (show 1 ≤ 64 by decide) _) hu2
  refine ⟨_, (@pss_cons _ _ _ _ _ (@ps_if _ _ _ _ _ _ _ _ (pt_val (pe_call (ok_says T) (hr.mono (by omega)) rfl T.m_says T.F_says.kp T.b_says .nil (pass_e fun _ _ z => z) (pa_cons (pe_fld (pv 0) rfl) (pa_cons (pv 1) pa_nil)))) (@pss_one _ _ _ (@ps_ret _ _ _ _ (@pe_op _ _ _ _ _ _ _ _ op_add_str pe_str (pe_meth2 (pe_fld (pv 0) rfl) T.C_Leaf T.M_Leaf_place_of (ok_Leaf_place_of T) (hr.mono (by omega)) T.b_Leaf_place_of T.C_Fork T.M_Fork_place_of ih (hr.mono (by omega)) T.b_Fork_place_of (pass_e fun _ _ z => z) (pa_cons (pv 1) pa_nil))))) pss_nil)
      (@pss_one _ _ _ (@ps_ret _ _ _ _ (@pe_op _ _ _ _ _ _ _ _ op_add_str pe_str (pe_meth2 (pe_fld (pv 0) rfl) T.C_Leaf T.M_Leaf_place_of (ok_Leaf_place_of T) (hr.mono (by omega)) T.b_Leaf_place_of T.C_Fork T.M_Fork_place_of ih (hr.mono (by omega)) T.b_Fork_place_of (pass_e fun _ _ z => z) (pa_cons (pv 1) pa_nil)))))), ?_⟩
  walk_at "kx"
  have C1 := T.C_Leaf
  have C2 := T.C_Fork
  have N0 : NoAttr K T.c_Leaf "counted" := T.nLc
  have N1 : NoAttr K T.c_Fork "counted" := T.nFcd
  have N2 : NoAttr K T.c_Fork "question" := T.nFqn
  have N3 : NoAttr K T.c_Fork "yes" := T.nFys
  have N4 : NoAttr K T.c_Fork "no" := T.nFno
  have N5 : NoAttr K T.c_Fork "leaf_count" := T.nFlt
  have N6 : NoAttr K T.c_Fork "depth" := T.nFdh
  cases ha with
  | fk ak ay an =>
    have ly := y.fall_len ks
    have ln := n.fall_len ks
    have l1 : ("y" : Str).length = 1 := by decide +kernel
    have l2 : ("n" : Str).length = 1 := by decide +kernel
    walk_at "rd"
    refine iteB (fun e => ?_) (fun e => ?_)
    · have ef : (NT.fk cs qq y n).fall ks = "y" ++ y.fall ks := if_pos e
      rw [ef] at q
      walk_at "rd"
      refine nd_place (d := d) n1 hv ay (by omega) (by omega) (fun k hk => by walk_at "rd"; exact hk) ?_
      walk_at "rd"
      exact q
    · have ef : (NT.fk cs qq y n).fall ks = "n" ++ n.fall ks := if_neg (by rw [e]; exact Bool.false_ne_true)
      rw [ef] at q
      walk_at "rd"
      refine nd_place (d := d) n2 hv an (by omega) (by omega) (fun k hk => by walk_at "rd"; exact hk) ?_
      walk_at "rd"
      exact q

theorem ok_Fork_place_ofA (T : Tx K mg) : ∀ d : Nat, FnOk P w K mg base (CXe P w) (d + 2) T.f_Fork_place_of T.d_Fork_place_of ["self", "values"] (sp_fplace T.c_Leaf T.c_Fork K d) := by
  intro d
  induction d with
  | zero => exact ok_Fork_place_of0 T
  | succ d ih => exact ok_Fork_place_ofS T d ih
theorem ok_Fork_place_of (T : Tx K mg) : FnOk P w K mg base (CXe P w) (24 + 2) T.f_Fork_place_of T.d_Fork_place_of ["self", "values"] (sp_fplace T.c_Leaf T.c_Fork K 24) := by exact ok_Fork_place_ofA T 24

theorem ok_Fork___init__ (T : Tx K mg) : FnOk P w K mg base (CXe P w) 3 T.f_Fork___init__ T.d_Fork___init__ ["self", "counted", "question", "yes", "no"] (sp_init_fork T.c_Leaf T.c_Fork K) := by
  have sc := sc_Fork___init__
  refine T.F_Fork___init__.okx sc (fun vs H Q E h => ?_) (fun cdv A outer s H vs Q E hr h => ?_)
  · obtain ⟨x, a, qa, dx, v1, v2, cs, qq, y, n, rfl, hx, ⟨xs, ha, ht⟩, hq, n1, n2, q⟩ := h
    rfl
  obtain ⟨x, a, qa, dx, v1, v2, cs, qq, y, n, rfl, hx, ⟨xs, ha, ht⟩, hq, n1, n2, q⟩ := h
  have hu := hr.units0
  have hu2 := hr.units
  have hu1 := Nat.lt_of_le_of_lt (Nat.add_le_add_left (show 1 ≤ 64 by decide) _) hu2
  refine ⟨_, (@pss_cons _ _ _ _ _ (ps_expr (pe_clsc (pe_glob (v := .ref T.c_Node) rfl T.m_Node rfl) T.cc_Node___init__ (ok_Node___init__ T) (hr.mono (by decide)) T.b_Node___init__ (pass_e fun _ _ z => z) (pa_cons (pv 0) (pa_cons (pv 1) pa_nil))))
      (@pss_cons _ _ _ _ _ (ps_fld (pv 0) (pv 2) rfl)
      (@pss_cons _ _ _ _ _ (ps_fld (pv 0) (pv 3) rfl)
      (@pss_cons _ _ _ _ _ (@ps_mid _ _ _ (ps_fld (pv 0) (pv 4) rfl))
      (@pss_cons _ _ _ _ _ (ps_fld (pv 0) (@pe_op _ _ _ _ _ _ _ _ op_add (pe_meth20 (pv 3) T.C_Leaf T.M_Leaf_leaves (ok_Leaf_leaves T) (hr.mono (by decide)) T.b_Leaf_leaves T.C_Fork T.M_Fork_leaves (ok_Fork_leaves T) (hr.mono (by decide)) T.b_Fork_leaves (pass_e fun _ _ z => z)) (pe_meth20 (pv 4) T.C_Leaf T.M_Leaf_leaves (ok_Leaf_leaves T) (hr.mono (by decide)) T.b_Leaf_leaves T.C_Fork T.M_Fork_leaves (ok_Fork_leaves T) (hr.mono (by decide)) T.b_Fork_leaves (pass_e fun _ _ z => z))) rfl)
      (@pss_one _ _ _ (ps_fld (pv 0) (@pe_op _ _ _ _ _ _ _ _ op_add pe_int (pe_callB (call_max2 rfl) rfl T.z_max bt_max (pa_cons (pe_meth20 (pv 3) T.C_Leaf T.M_Leaf_deep (ok_Leaf_deep T) (hr.mono (by decide)) T.b_Leaf_deep T.C_Fork T.M_Fork_deep (ok_Fork_deep T) (hr.mono (by decide)) T.b_Fork_deep (pass_e fun _ _ z => z)) (pa_cons (pe_meth20 (pv 4) T.C_Leaf T.M_Leaf_deep (ok_Leaf_deep T) (hr.mono (by decide)) T.b_Leaf_deep T.C_Fork T.M_Fork_deep (ok_Fork_deep T) (hr.mono (by decide)) T.b_Fork_deep (pass_e fun _ _ z => z)) pa_nil)))) rfl))))))), ?_⟩
  walk_at "kx"
  have C1 := T.C_Leaf
  have C2 := T.C_Fork
  have N0 : NoAttr K T.c_Leaf "counted" := T.nLc
  have N1 : NoAttr K T.c_Fork "counted" := T.nFcd
  have N2 : NoAttr K T.c_Fork "question" := T.nFqn
  have N3 : NoAttr K T.c_Fork "yes" := T.nFys
  have N4 : NoAttr K T.c_Fork "no" := T.nFno
  have N5 : NoAttr K T.c_Fork "leaf_count" := T.nFlt
  have N6 : NoAttr K T.c_Fork "depth" := T.nFdh
  have cne := lne T.kLF T.kFF
  walk_at "rd"
  refine ⟨.inr rfl, ha, fun l hl => ?_⟩
  have nlx : l ≠ x := Ne.symm (ne_of_none hx hl)
  walk_at "rd"
  refine ⟨fun σ' H1 => Iv (σ' = [some (.ref x), some (.ref a), some (.ref qa), some v1, some v2] ∧ SameB x H H1 ∧ H1 l = some (.lst xs) ∧ H1 x = some (.ins T.c_Fork dx [("counted", .ref l), ("question", .ref qa), ("yes", v1), ("no", v2)])), ?_, ?_⟩
  · walk_at "rd"
    refine ⟨⟨rfl, fun b o nb e => ?_, ?_, ?_⟩⟩
    · rw [upd_ne nb, upd_ne nb, upd_ne nb, upd_ne nb]
      exact kp e hl
    · rw [upd_ne nlx, upd_ne nlx, upd_ne nlx, upd_ne nlx]
      exact upd_same
    · rw [upd_same]
      rfl
  rintro σ' H1 ⟨⟨rfl, S1, hl1, hx1⟩⟩
  have m1 := n1.sbx S1 hx cne (by decide)
  have m2 := n2.sbx S1 hx cne (by decide)
  have hq1 := S1 _ _ (ne_of hq hx (by intro z; cases z)) hq
  have ht1 := ht.mono (S1.ti hx)
  walk_at "rd"
  refine nd_leaves m1 ?_
  walk_at "rd"
  refine nd_leaves m2 ?_
  walk_at "rd"
  have S2 : SameB x H1 (upd H1 x (.ins T.c_Fork dx [("counted", .ref l), ("question", .ref qa), ("yes", v1), ("no", v2), ("leaf_count", .int ((y.lv : Nat) + (n.lv : Nat)))])) := fun b o nb e => by rw [upd_ne nb]; exact e
  have k1 := m1.sbx S2 hx1 cne (show 4 < 6 by decide)
  have k2 := m2.sbx S2 hx1 cne (show 4 < 6 by decide)
  refine nd_deep k1 ?_
  walk_at "rd"
  refine nd_deep k2 ?_
  walk_at "rd"
  have e1 : ((y.lv + n.lv : Nat) : Int) = (y.lv : Nat) + (n.lv : Nat) := by omega
  have e2 : ((1 + max y.dp n.dp : Nat) : Int) = 1 + (if ((n.dp : Nat) : Int) > (y.dp : Nat) then ((n.dp : Nat) : Int) else (y.dp : Nat)) := by split <;> omega
  generalize hf : (HO.ins T.c_Fork dx (putF "depth" _ _)) = fo
  generalize (HO.ins T.c_Fork dx (putF "leaf_count" _ _)) = mo
  have S4 : SameB x H1 (upd (upd H1 x mo) x fo) := fun b o nb e => by rw [upd_ne nb, upd_ne nb]; exact e
  refine q _ (fun b o nb e => S4 _ _ nb (S1 _ _ nb e)) (.fk (l := l) (dx := dx) ?_ ⟨xs, S4 _ _ nlx hl1, ht1.mono (S4.ti hx1)⟩ (S4 _ _ (ne_of hq1 hx1 (by intro z; cases z)) hq1) (m1.sbx S4 hx1 cne (show 4 < 6 by decide)) (m2.sbx S4 hx1 cne (show 4 < 6 by decide)))
  rw [upd_same, ← hf, e1, e2]
  rfl

theorem ok_Node_at (T : Tx K mg) : FnOk P w K mg base (CXe P w) 2 T.f_Node_at T.d_Node_at ["self", "place"] (sp_at T.c_Leaf T.c_Fork K) := by
  have sc := sc_Node_at
  refine T.F_Node_at.okx sc (fun vs H Q E h => ?_) (fun cdv A outer s H vs Q E hr h => ?_)
  · obtain ⟨v, pw, t, u, rfl, nd, lw, hg, q⟩ := h
    rfl
  obtain ⟨v, pw, t, u, rfl, nd, lw, hg, q⟩ := h
  have hu := hr.units0
  have hu2 := hr.units
  have hu1 := Nat.lt_of_le_of_lt (Nat.add_le_add_left (show 1 ≤ 64 by decide) _) hu2
  refine ⟨_, (@pss_cons _ _ _ _ _ (@ps_set _ _ 2 _ _ _ _ sc.nd rfl (by first | exact Or.inl rfl | exact Or.inr rfl) (pv 0) (by rfl) (by first | exact .inl rfl | exact .inr rfl | assumption))
      (@pss_cons _ _ _ _ _ (ps_for powx rfl (pi_str (pv 1)) (pg_name (i := 3) sc.nd rfl (by first | exact Or.inl rfl | exact Or.inr rfl))
      (@pss_cons _ _ _ _ _ (@ps_set _ _ 2 _ _ _ _ sc.nd rfl (by first | exact Or.inl rfl | exact Or.inr rfl) (pe_meth2 (pv 2) T.C_Leaf T.M_Leaf_below (ok_Leaf_below T) (hr.mono (by decide)) T.b_Leaf_below T.C_Fork T.M_Fork_below (ok_Fork_below T) (hr.mono (by decide)) T.b_Fork_below (pass_e fun _ _ z => z) (pa_cons (pv 3) pa_nil)) (by rfl) (by first | exact .inl rfl | exact .inr rfl | assumption))
      (@pss_one _ _ _ (@ps_if _ _ _ _ _ _ _ _ (@pt_cmpR _ _ _ _ _ _ _ _ op_isN (pv 2) pe_non (nomark _)) (@pss_one _ _ _ ps_never) pss_nil))))
      (@pss_one _ _ _ (@ps_ret _ _ _ _ (pv 2))))), ?_⟩
  walk_at "kx"
  have hcl : (cds pw).length = pw.cps.size := cds_len pw
  have hwz : pw.length ≤ sizeLine := szB (by omega)
  walk_at "rd"
  refine for_str (fun i σ H' => Iv (H' = H ∧ ∃ (v' : V) (t' : NT) (o3 : Option V), σ = [some v, some (.str pw), some v', o3] ∧ ND T.c_Leaf T.c_Fork K H v' t' ∧ t'.go ((cds pw).drop i) = some u)) ⟨⟨rfl, v, t, _, rfl, nd, hg⟩⟩ ?_ ?_
  · rintro i c σ H' hi ⟨⟨rfl, v', t', o3, rfl, nd', hg'⟩⟩
    have e2 : (cds pw)[i]? = some c := by rw [show cds pw = pw.cps.toList from rfl, Array.getElem?_toList]; exact hi
    have ed : (cds pw).drop i = c :: (cds pw).drop (i + 1) := by
      have il := (List.getElem?_eq_some_iff.mp e2)
      rw [List.drop_eq_getElem_cons il.1, il.2]
    rw [ed] at hg'
    walk_at "rd"
    refine nd_below nd' hg' (fun k hk => by walk_at "rd"; exact hk) fun v2 t2 nd2 hg2 => ?_
    obtain ⟨a2, rfl⟩ := nd2.ref
    walk_at "rd"
    exact ⟨⟨rfl, _, t2, _, rfl, nd2, hg2⟩⟩
  · rintro σ H' ⟨⟨rfl, v', t', o3, rfl, nd', hg'⟩⟩
    rw [← hcl, List.drop_length] at hg'
    have hg2 : some t' = some u := by rw [← hg']; cases t' <;> rfl
    obtain rfl : t' = u := Option.some.inj hg2
    walk_at "rd"
    exact q _ nd'

theorem ok_costed0 (T : Tx K mg) : FnOk P w K mg base (CXe P w) (0 + 5) T.f_costed T.d_costed ["node", "measure"] (sp_costed T.c_Leaf T.c_Fork K T.c_NoMeasure 0) := by
  have sc := sc_costed
  refine T.F_costed.okx sc (fun vs H Q E h => ?_) (fun cdv A outer s H vs Q E hr h => ?_)
  · obtain ⟨v, m, t, rfl, nd, nz, sh, td, q⟩ := h
    rfl
  obtain ⟨v, m, t, rfl, nd, nz, sh, td, q⟩ := h
  have hu := hr.units0
  have hu2 := hr.units
  have hu1 := Nat.lt_of_le_of_lt (Nat.add_le_add_left (show 1 ≤ 64 by decide) _) hu2
  refine ⟨_, (@pss_cons _ _ _ _ _ (@ps_set _ _ 2 _ _ _ _ sc.nd rfl (by first | exact Or.inl rfl | exact Or.inr rfl) (pe_call (ok_mess T) (hr.mono (by decide)) rfl T.m_mess T.F_mess.kp T.b_mess .nil (pass_e fun _ _ z => z) (pa_cons (pe_fld (pv 0) rfl) (pa_cons (pv 1) pa_nil))) (by rfl) (by first | exact .inl rfl | exact .inr rfl | assumption))
      (@pss_cons _ _ _ _ _ (@ps_if _ _ _ _ _ _ _ _ (pt_val (pe_callB call_isiO rfl T.z_isinstance bt_isinstance (pa_cons (pv 0) (pa_cons (pe_glob (v := .ref T.c_Fork) rfl T.m_Fork rfl) pa_nil)))) (@pss_one _ _ _ ps_never) pss_nil)
      (@pss_one _ _ _ (@ps_ret _ _ _ _ (pe_tup (pa_cons pe_str (pa_cons (pv 2) pa_nil) se_c)))))), ?_⟩
  walk_at "kx"
  have C1 := T.C_Leaf
  have C2 := T.C_Fork
  have N0 : NoAttr K T.c_Leaf "counted" := T.nLc
  have N1 : NoAttr K T.c_Fork "counted" := T.nFcd
  have N2 : NoAttr K T.c_Fork "question" := T.nFqn
  have N3 : NoAttr K T.c_Fork "yes" := T.nFys
  have N4 : NoAttr K T.c_Fork "no" := T.nFno
  have N5 : NoAttr K T.c_Fork "leaf_count" := T.nFlt
  have N6 : NoAttr K T.c_Fork "depth" := T.nFdh
  have t1 : ∀ {H : Hp} {a dx fs}, H a = some (.ins T.c_Leaf dx fs) → TyOf K H (.ref a) (.ref T.c_Leaf) := fun h => .ins h C1 T.clL T.ogt T.otk T.omL
  have t2 : ∀ {H : Hp} {a dx fs}, H a = some (.ins T.c_Fork dx fs) → TyOf K H (.ref a) (.ref T.c_Fork) := fun h => .ins h C2 T.clF T.ogt T.otk T.omF
  have k1 := T.kLF
  have k2 := T.kFF
  cases nd with
  | @lf x dx l cs hx cn =>
    cases nz with
    | lf cz =>
      walk_at "rd"
      rcases q with ⟨hm, q⟩ | ⟨hm, q⟩
      · refine .inl ⟨hm, fun r H1 hr0 S1 hr => ?_⟩
        have ty := t1 (S1 _ _ hx)
        walk_at "rd"
        rename_i pp hpp
        exact q _ _ (S1.new hpp _) (.en upd_same (kp hr hpp))
      · exact .inr ⟨hm, q⟩
  | fk h1 => exact absurd td (by show ¬ 1 + max _ _ ≤ 0; omega)

theorem ok_costedS (T : Tx K mg) (d : Nat) (ih : FnOk P w K mg base (CXe P w) (d + 5) T.f_costed T.d_costed ["node", "measure"] (sp_costed T.c_Leaf T.c_Fork K T.c_NoMeasure d)) : FnOk P w K mg base (CXe P w) (d + 1 + 5) T.f_costed T.d_costed ["node", "measure"] (sp_costed T.c_Leaf T.c_Fork K T.c_NoMeasure (d + 1)) := by
  have sc := sc_costed
  refine T.F_costed.okx sc (fun vs H Q E h => ?_) (fun cdv A outer s H vs Q E hr h => ?_)
  · obtain ⟨v, m, t, rfl, nd, nz, sh, td, q⟩ := h
    rfl
  obtain ⟨v, m, t, rfl, nd, nz, sh, td, q⟩ := h
  have hu := hr.units0
  have hu2 := hr.units
  have hu1 := Nat.lt_of_le_of_lt (Nat.add_le_add_left (show 1 ≤ 64 by decide) _) hu2
  refine ⟨_, (@pss_cons _ _ _ _ _ (@ps_set _ _ 2 _ _ _ _ sc.nd rfl (by first | exact Or.inl rfl | exact Or.inr rfl) (pe_call (ok_mess T) (hr.mono (by omega)) rfl T.m_mess T.F_mess.kp T.b_mess .nil (pass_e fun _ _ z => z) (pa_cons (pe_fld (pv 0) rfl) (pa_cons (pv 1) pa_nil))) (by rfl) (by first | exact .inl rfl | exact .inr rfl | assumption))
      (@pss_cons _ _ _ _ _ (@ps_if _ _ _ _ _ _ _ _ (pt_val (pe_callB call_isiO rfl T.z_isinstance bt_isinstance (pa_cons (pv 0) (pa_cons (pe_glob (v := .ref T.c_Fork) rfl T.m_Fork rfl) pa_nil)))) (@pss_one _ _ _ (@ps_ret _ _ _ _ (pe_tup (pa_cons pe_str (pa_cons (pv 2) (pa_cons (pe_call ih (hr.mono (by omega)) rfl T.m_costed T.F_costed.kp T.b_costed .nil (pass_e fun _ _ z => z) (pa_cons (pe_fld (pv 0) rfl) (pa_cons (pv 1) pa_nil))) (pa_cons (pe_call ih (hr.mono (by omega)) rfl T.m_costed T.F_costed.kp T.b_costed .nil (pass_e fun _ _ z => z) (pa_cons (pe_fld (pv 0) rfl) (pa_cons (pv 1) pa_nil))) pa_nil))) se_c)))) pss_nil)
      (@pss_one _ _ _ (@ps_ret _ _ _ _ (pe_tup (pa_cons pe_str (pa_cons (pv 2) pa_nil) se_c)))))), ?_⟩
  walk_at "kx"
  have C1 := T.C_Leaf
  have C2 := T.C_Fork
  have N0 : NoAttr K T.c_Leaf "counted" := T.nLc
  have N1 : NoAttr K T.c_Fork "counted" := T.nFcd
  have N2 : NoAttr K T.c_Fork "question" := T.nFqn
  have N3 : NoAttr K T.c_Fork "yes" := T.nFys
  have N4 : NoAttr K T.c_Fork "no" := T.nFno
  have N5 : NoAttr K T.c_Fork "leaf_count" := T.nFlt
  have N6 : NoAttr K T.c_Fork "depth" := T.nFdh
  have t1 : ∀ {H : Hp} {a dx fs}, H a = some (.ins T.c_Leaf dx fs) → TyOf K H (.ref a) (.ref T.c_Leaf) := fun h => .ins h C1 T.clL T.ogt T.otk T.omL
  have t2 : ∀ {H : Hp} {a dx fs}, H a = some (.ins T.c_Fork dx fs) → TyOf K H (.ref a) (.ref T.c_Fork) := fun h => .ins h C2 T.clF T.ogt T.otk T.omF
  have k1 := T.kLF
  have k2 := T.kFF
  cases nd with
  | @lf x dx l cs hx cn =>
    cases nz with
    | lf cz =>
      walk_at "rd"
      rcases q with ⟨hm, q⟩ | ⟨hm, q⟩
      · refine .inl ⟨hm, fun r H1 hr0 S1 hr => ?_⟩
        have ty := t1 (S1 _ _ hx)
        walk_at "rd"
        rename_i pp hpp
        exact q _ _ (S1.new hpp _) (.en upd_same (kp hr hpp))
      · exact .inr ⟨hm, q⟩
  | @fk x dx l qa cs qq v1 v2 y n hx cn hq n1 n2 =>
    cases nz with
    | fk cz zy zn =>
      have dd : 1 + max y.dp n.dp ≤ d + 1 := td
      walk_at "rd"
      rcases q with ⟨hm, q⟩ | ⟨hm, q⟩
      · refine .inl ⟨hm, fun r H1 hr0 S1 hr => ?_⟩
        have hx1 := S1 _ _ hx
        have ty := t2 hx1
        walk_at "rd"
        refine ⟨n1.same S1, zy, sh, by omega, .inl ⟨hm, fun H2 u2 S2 c2 => ?_⟩⟩
        have hx2 := S2 _ _ hx1
        walk_at "rd"
        refine ⟨(n2.same S1).same S2, zn, sh, by omega, .inl ⟨hm, fun H3 u3 S3 c3 => ?_⟩⟩
        walk_at "rd"
        rename_i pp hpp
        have SN := same_new hpp (H := H3) (.tup [.str "fork", .ref r, u2, u3])
        exact q _ _ (((S1.trans S2).trans S3).trans SN) (.fk upd_same (SN _ _ (S3 _ _ (S2 _ _ hr))) ((c2.same S3).same SN) (c3.same SN))
      · exact .inr ⟨hm, q⟩

theorem ok_costedA (T : Tx K mg) : ∀ d : Nat, FnOk P w K mg base (CXe P w) (d + 5) T.f_costed T.d_costed ["node", "measure"] (sp_costed T.c_Leaf T.c_Fork K T.c_NoMeasure d) := by
  intro d
  induction d with
  | zero => exact ok_costed0 T
  | succ d ih => exact ok_costedS T d ih
theorem ok_costed (T : Tx K mg) : FnOk P w K mg base (CXe P w) (32 + 5) T.f_costed T.d_costed ["node", "measure"] (sp_costed T.c_Leaf T.c_Fork K T.c_NoMeasure 32) := by exact ok_costedA T 32

theorem ok_trees_by_place (T : Tx K mg) : FnOk P w K mg base (CXe P w) 1 T.f_trees_by_place T.d_trees_by_place ["tree"] (sp_trees K) := by
  have sc := sc_trees_by_place
  refine T.F_trees_by_place.okx sc (fun vs H Q E h => ?_) (fun cdv A outer s H vs Q E hr h => ?_)
  · obtain ⟨v, t, B, rfl, tv, lt, q⟩ := h
    rfl
  obtain ⟨v, t, B, rfl, tv, lt, q⟩ := h
  have hu := hr.units0
  have hu2 := hr.units
  have hu1 := Nat.lt_of_le_of_lt (Nat.add_le_add_left (show 1 ≤ 64 by decide) _) hu2
  refine ⟨_, (@pss_cons _ _ _ _ _ (@ps_set _ _ 1 _ _ _ _ sc.nd rfl (by first | exact Or.inl rfl | exact Or.inr rfl) pe_dnewK (by rfl) (by first | exact .inl rfl | exact .inr rfl | assumption))
      (@pss_cons _ _ _ _ _ (@ps_set _ _ 2 _ _ _ _ sc.nd rfl (by first | exact Or.inl rfl | exact Or.inr rfl) (@pe_lst _ _ _ _ (pa_cons (pe_tup (pa_cons pe_str (pa_cons (pv 0) pa_nil) se_c)) pa_nil)) (by rfl) (by first | exact .inl rfl | exact .inr rfl | assumption))
      (@pss_cons _ _ _ _ _ (ps_while powx (@pt_cmpR _ _ _ _ _ _ _ _ op_gt (pe_callB call_len_seq rfl T.z_len bt_len (pa_cons (pv 2) pa_nil)) pe_int (nomark _)) (@pss_cons _ _ _ _ _ (@ps_mid _ _ _ (@ps_set _ _ 3 _ _ _ _ sc.nd rfl (by first | exact Or.inl rfl | exact Or.inr rfl) (pe_bm0 PySem.F.plainAttrs_list PySem.F.slot_list_pop PySem.F.type_list_pop mt_pop (pv 2)) (by rfl) (by first | exact .inl rfl | exact .inr rfl | assumption)))
      (@pss_cons _ _ _ _ _ (@ps_set _ _ 4 _ _ _ _ sc.nd rfl (by first | exact Or.inl rfl | exact Or.inr rfl) (@pe_ix _ _ _ _ _ _ _ ix_tup (pv 3) pe_int (fun _ _ => rfl)) (by rfl) (by first | exact .inl rfl | exact .inr rfl | assumption))
      (@pss_cons _ _ _ _ _ (@ps_set _ _ 5 _ _ _ _ sc.nd rfl (by first | exact Or.inl rfl | exact Or.inr rfl) (@pe_ix _ _ _ _ _ _ _ ix_tup (pv 3) pe_int (fun _ _ => rfl)) (by rfl) (by first | exact .inl rfl | exact .inr rfl | assumption))
      (@pss_cons _ _ _ _ _ (@ps_mid _ _ _ (ps_dput hu1 (pv 1) (pv 4) (pv 5) rfl))
      (@pss_one _ _ _ (@ps_if _ _ _ _ _ _ _ _ (@pt_cmpR _ _ _ _ _ _ _ _ op_eqS (@pe_ix _ _ _ _ _ _ _ ix_tup (pv 5) pe_int (fun _ _ => rfl)) pe_str (nomark _)) (@pss_cons _ _ _ _ _ (ps_expr (pe_bm PySem.F.plainAttrs_list PySem.F.slot_list_append PySem.F.type_list_append mt_append (pv 2) (pa_cons (pe_tup (pa_cons (@pe_op _ _ _ _ _ _ _ _ op_add_str (pv 4) pe_str) (pa_cons (@pe_ix _ _ _ _ _ _ _ ix_tup (pv 5) pe_int (fun _ _ => rfl)) pa_nil))) pa_nil)))
      (@pss_one _ _ _ (ps_expr (pe_bm PySem.F.plainAttrs_list PySem.F.slot_list_append PySem.F.type_list_append mt_append (pv 2) (pa_cons (pe_tup (pa_cons (@pe_op _ _ _ _ _ _ _ _ op_add_str (pv 4) pe_str) (pa_cons (@pe_ix _ _ _ _ _ _ _ ix_tup (pv 5) pe_int (fun _ _ => rfl)) pa_nil))) pa_nil))))) pss_nil)))))))
      (@pss_one _ _ _ (@ps_ret _ _ _ _ (pv 1)))))), ?_⟩
  walk_at "kx"
  walk_at "rd"
  rename_i z1 hz1 p1 hp1 z2 hz2
  have n12 : z1 ≠ z2 := fun e => by
    rw [← e, upd_ne (fun e2 => by rw [← e2, upd_same] at hp1; cases hp1), upd_same] at hz2
    cases hz2
  have fz2 : H z2 = none := Same.free ((same_new hz1 _).new hp1 _) hz2
  have ld := t.dp_lt
  have pl := plt_len t ""
  have tv2 := tv.mono (((same_new hz1 (.dK [])).new hp1 (.tup [.str "", v])).new hz2 (.lst [.ref p1])).t
  have hx0 : (upd (upd (upd H z1 (.dK [])) p1 (.tup [.str "", v])) z2 (.lst [.ref p1])) z1 = some (.dK []) := kp (kp upd_same hp1) hz2
  have hy0 := upd_same (H := upd (upd H z1 (.dK [])) p1 (.tup [.str "", v])) (a := z2) (o := .lst [.ref p1])
  have hp0 : (upd (upd (upd H z1 (.dK [])) p1 (.tup [.str "", v])) z2 (.lst [.ref p1])) p1 = some (.tup [.str "", v]) := kp upd_same hz2
  have S0 : Same H (upd (upd (upd H z1 (.dK [])) p1 (.tup [.str "", v])) z2 (.lst [.ref p1])) := ((same_new hz1 _).new hp1 _).new hz2 _
  generalize upd (upd (upd H z1 (.dK [])) p1 (.tup [.str "", v])) z2 (.lst [.ref p1]) = H0 at tv2 hx0 hy0 hp0 S0 ⊢
  refine while_by (fun σ' H' => Iv (Same H H' ∧ (∃ kvs es ys ts, H' z1 = some (.dK kvs) ∧ DT K B H' kvs es ∧ H' z2 = some (.lst ys) ∧ TVs K H' ys ((ts : List (Str × Tr)).map (thD B)) ∧ (∀ e ∈ ts, e.1.length + e.2.dp ≤ 60) ∧ (es ++ plts ts).Perm (plt t "")) ∧ ∃ o3 o4 o5, σ' = [some v, some (.ref z1), some (.ref z2), o3, o4, o5])) (fun _ H => match H z1 with | some (.dK kvs) => 100 - kvs.length | _ => 0) ⟨⟨S0, ⟨[], [], [.ref p1], [("", t)], hx0, .nil, hy0, .cons (.tup hp0 (.cons (.str _) (.cons tv2 .nil))) .nil, fun e he => (by rw [List.mem_singleton.mp he]; show ("" : Str).length + t.dp ≤ 60; rw [show ("" : Str).length = 0 by decide +kernel]; omega), by rw [List.nil_append]; show (plt t "" ++ []).Perm _; rw [List.append_nil]⟩, _, _, _, rfl⟩⟩ ?_ ?_
  · rintro σ' H' ⟨⟨S, ⟨kvs, es, ys, ts, hx, dt, hy, ty, ht, pm⟩, o3, o4, o5, rfl⟩⟩
    have xl := dt.length
    have ul : es.length + (plts ts).length ≤ 60 := by have := pm.length_eq; rw [List.length_append] at this; omega
    walk_at "rd"
    refine ite3 (fun c => ?_) (fun c => ?_)
    · obtain ⟨zs, y, as, e, rfl, rfl, tz, te⟩ := TVs.lastH ty (by omega)
      have ea := pop1_at zs y
      have eb := pop1_rest zs y
      obtain ⟨q0, s0⟩ := e
      obtain ⟨pp, u1, u2, rfl, hpp, t1, t2⟩ := TV.pair te
      obtain rfl := t1.strs
      have lb := ht (q0, s0) (List.mem_append_right _ (List.mem_singleton.mpr rfl))
      have ht0 : ∀ e ∈ as, e.1.length + e.2.dp ≤ 60 := fun e he => ht e (List.mem_append_left _ he)
      rw [plts_app] at pm ul
      clear ht te ty t1
      have zl : zs.length = as.length := by rw [tz.length, List.length_map]
      have al : as.length ≤ (plts as).length := plts_len as
      rw [List.length_append] at ul
      have zz : zs.length < sizeLine := small1000 (by omega)
      have kz : kvs.length < sizeLine := small1000 (by omega)
      have nz2 : z2 ≠ z1 := Ne.symm n12
      have hpp : H' pp = some (.tup [.str q0, u2]) := hpp
      have t2 : TV K H' u2 (htD B s0) := t2
      have nq : q0 ∉ es.map (·.1) := fun z => by
        have nd := (pm.map (·.1)).nodup_iff.mpr (plt_nodup t "")
        rw [List.map_append, List.nodup_append] at nd
        refine nd.2.2 q0 z q0 ?_ rfl
        rw [List.map_append]
        refine List.mem_append_right _ ?_
        cases s0 with
        | en w => exact List.mem_cons_self
        | fk w y n => exact List.mem_cons_self
      refine ⟨fun σ' H1 => Iv (H1 = upd H' z2 (.lst zs) ∧ σ' = [some v, some (.ref z1), some (.ref z2), some (.ref pp), o4, o5]), ?_, ?_⟩
      · walk_at "rd"
        rw [eb]
        exact ⟨⟨rfl, rfl⟩⟩
      rintro σ' H1 ⟨⟨e1, rfl⟩⟩
      have st1 : SameT H' H1 := by rw [e1]; exact (SameT.refl H').lst hy _
      have hx1 : H1 z1 = some (.dK kvs) := by rw [e1, upd_ne n12]; exact hx
      have hy1 : H1 z2 = some (.lst zs) := by rw [e1]; exact upd_same
      have S1 : Same H H1 := by rw [e1]; exact Same.over S fz2 _
      have hpp1 := st1 _ _ hpp
      clear e1 ea eb
      have g3 : DPut H1 z1 (.str q0) u2 (upd H1 z1 (.dK (putK kvs (.inr q0) u2))) := DPut.k (k := .inr q0) hx1 kz
      rw [putK_new u2 (dt.vno nq)] at g3
      walk_at "rd"
      refine ⟨fun σ' H2 => Iv (Same H H2 ∧ H2 z1 = some (.dK (kvs ++ [(.inr q0, u2)])) ∧ H2 z2 = some (.lst zs) ∧ SameT H' H2 ∧ σ' = [some v, some (.ref z1), some (.ref z2), some (.ref pp), some (.str q0), some u2]), ?_, ?_⟩
      · walk_at "rd"
        exact ⟨⟨Same.over S1 hz1 _, upd_same, by rw [upd_ne nz2]; exact hy1, st_dk st1 hx1 _, rfl⟩⟩
      rintro σ' H2 ⟨⟨S2, hx2, hy2, st2, rfl⟩⟩
      have ms : ∀ H3 : Hp, H3 z1 = some (.dK (kvs ++ [(.inr q0, u2)])) → (match H3 z1 with | some (.dK kvs) => 100 - kvs.length | _ => 0) < (match H' z1 with | some (.dK kvs) => 100 - kvs.length | _ => 0) := fun H3 e => by
        rw [e, hx]
        show 100 - (kvs ++ [(Sum.inr q0, u2)]).length < 100 - kvs.length
        rw [List.length_append, List.length_singleton]
        omega
      have tz2 := tz.mono st2
      cases s0 with
      | en w =>
        obtain ⟨p2, c2, rfl, hp2, hc2⟩ := TV.hen t2
        have hp3 := st2 _ _ hp2
        walk_at "rd"
        refine ⟨⟨S2, ⟨_, es ++ [(q0, .en w)], zs, as, hx2, (dt.mono st2).snoc (e := (q0, .en w)) (t2.mono st2), hy2, tz2, ht0, ?_⟩, _, _, _, rfl⟩, ms _ hx2⟩
        refine .trans ?_ pm
        have := plt_step (us := es) (A := plts as) (B := []) (q0, Tr.en w)
        rw [List.append_nil] at this
        exact this
      | fk w y n =>
        obtain ⟨p2, c2, a2, a3, rfl, hp2, hc2, ty, tn⟩ := TV.hfk t2
        have lb : q0.length + (max y.dp n.dp + 1) ≤ 60 := lb
        have k1 : q0.length + ("y" : Str).length ≤ sizeLine := szB (by rw [ynl.1]; omega)
        have k2 : q0.length + ("n" : Str).length ≤ sizeLine := szB (by rw [ynl.2]; omega)
        have hp3 := st2 _ _ hp2
        have ly : ∀ z : V, (zs ++ [z]).length < sizeLine := fun z => small1000 (by rw [List.length_append, List.length_singleton]; omega)
        have ty2 := ty.mono st2
        have tn2 := tn.mono st2
        have td2 := (dt.mono st2).snoc (e := (q0, .fk w y n)) (t2.mono st2)
        walk_at "rd"
        rename_i r1 hr1 r2 hr2
        have v1 := (SameT.refl H2).new hr1 (.tup [.str (q0 ++ "y"), a2])
        have S3 := S2.new hr1 (.tup [.str (q0 ++ "y"), a2])
        have hx3 := kp hx2 hr1 (u := .tup [.str (q0 ++ "y"), a2])
        have hy3 := kp hy2 hr1 (u := .tup [.str (q0 ++ "y"), a2])
        have hr3 := upd_same (H := H2) (a := r1) (o := .tup [.str (q0 ++ "y"), a2])
        generalize upd H2 r1 (.tup [.str (q0 ++ "y"), a2]) = H3 at v1 S3 hx3 hy3 hr3 hr2 ⊢
        have v2 := v1.lst hy3 (.lst (zs ++ [.ref r1]))
        have w2 := (SameT.refl H3).lst hy3 (.lst (zs ++ [.ref r1]))
        have S4 := Same.over S3 fz2 (.lst (zs ++ [.ref r1]))
        have hx4 : upd H3 z2 (.lst (zs ++ [.ref r1])) z1 = some (.dK (kvs ++ [(.inr q0, .ref p2)])) := by rw [upd_ne n12]; exact hx3
        have hy4 := upd_same (H := H3) (a := z2) (o := .lst (zs ++ [.ref r1]))
        have hr4 := w2 _ _ hr3
        generalize upd H3 z2 (.lst (zs ++ [.ref r1])) = H4 at v2 w2 S4 hx4 hy4 hr4 hr2 ⊢
        have v5 := v2.new hr2 (.tup [.str (q0 ++ "n"), a3])
        have S5 := S4.new hr2 (.tup [.str (q0 ++ "n"), a3])
        have hx5 := kp hx4 hr2 (u := .tup [.str (q0 ++ "n"), a3])
        have hy5 := kp hy4 hr2 (u := .tup [.str (q0 ++ "n"), a3])
        have hr5 := kp hr4 hr2 (u := .tup [.str (q0 ++ "n"), a3])
        have hs5 := upd_same (H := H4) (a := r2) (o := .tup [.str (q0 ++ "n"), a3])
        generalize upd H4 r2 (.tup [.str (q0 ++ "n"), a3]) = H5 at v5 S5 hx5 hy5 hr5 hs5 ⊢
        have v6 := v5.lst hy5 (.lst (zs ++ [.ref r1] ++ [.ref r2]))
        have w6 := (SameT.refl H5).lst hy5 (.lst (zs ++ [.ref r1] ++ [.ref r2]))
        have S6 := Same.over S5 fz2 (.lst (zs ++ [.ref r1] ++ [.ref r2]))
        have hx6 : upd H5 z2 (.lst (zs ++ [.ref r1] ++ [.ref r2])) z1 = some (.dK (kvs ++ [(.inr q0, .ref p2)])) := by rw [upd_ne n12]; exact hx5
        refine ⟨ly _, ?_⟩
        walk_at "rd"
        refine ⟨⟨S6, ⟨_, es ++ [(q0, .fk w y n)], _, as ++ [(q0 ++ "y", y)] ++ [(q0 ++ "n", n)], hx6, td2.mono v6, upd_same, ?_, ?_, ?_⟩, _, _, _, rfl⟩, ms _ hx6⟩
        · rw [List.map_append, List.map_append]
          exact TVs.snoc (TVs.snoc (tz2.mono v6) (.tup (w6 _ _ hr5) (.cons (.str _) (.cons (ty2.mono v6) .nil)))) (.tup (w6 _ _ hs5) (.cons (.str _) (.cons (tn2.mono v6) .nil)))
        · refine snocT (snocT ht0 ?_) ?_
          · show (q0 ++ "y" : Str).length + y.dp ≤ 60
            rw [len_app, ynl.1]
            omega
          · show (q0 ++ "n" : Str).length + n.dp ≤ 60
            rw [len_app, ynl.2]
            omega
        · refine .trans ?_ pm
          have := plt_step (us := es) (A := plts as) (B := plt y (q0 ++ "y") ++ plt n (q0 ++ "n")) (q0, Tr.fk w y n)
          rw [plts_app, plts_app, List.append_assoc (plts as)]
          show (es ++ [(q0, Tr.fk w y n)] ++ (plts as ++ ((plt y (q0 ++ "y") ++ []) ++ (plt n (q0 ++ "n") ++ [])))).Perm (es ++ (plts as ++ (((q0, Tr.fk w y n) :: (plt y (q0 ++ "y") ++ plt n (q0 ++ "n"))) ++ [])))
          rw [List.append_nil, List.append_nil, List.append_nil]
          exact this
    · have e0 : ys.length = 0 := by omega
      obtain rfl := List.length_eq_zero_iff.mp e0
      have ets : ts = [] := by
        have := ty.length
        rw [List.length_map] at this
        exact List.length_eq_zero_iff.mp this.symm
      subst ets
      have pm0 : es.Perm (plt t "") := by
        have := pm
        rw [show plts [] = [] from rfl, List.append_nil] at this
        exact this
      walk_at "rd"
      exact q _ z1 kvs es S hz1 hx dt pm0
  · rintro σ' H' Q1 Q2 hq ⟨v, e, p, ys, ev, hs, i, j, ei, ej, k, ek, y⟩
    exact ⟨v, e, p, ys, ev, hs, i, j, ei, ej, k, ek, hq _ _ y⟩

theorem ok_places_of (T : Tx K mg) : FnOk P w K mg base (CXe P w) 2 T.f_places_of T.d_places_of ["tree", "sort"] (sp_places_of K) := by
  have sc := sc_places_of
  refine T.F_places_of.okx sc (fun vs H Q E h => ?_) (fun cdv A outer s H vs Q E hr h => ?_)
  · obtain ⟨v, t, B, so, rfl, tv, lt, q⟩ := h
    rfl
  obtain ⟨v, t, B, so, rfl, tv, lt, q⟩ := h
  have hu := hr.units0
  have hu2 := hr.units
  have hu1 := Nat.lt_of_le_of_lt (Nat.add_le_add_left (show 1 ≤ 64 by decide) _) hu2
  refine ⟨_, (@pss_one _ _ _ (@ps_ret _ _ _ _ (pe_callB call_sortedS rfl T.z_sorted bt_sorted (pa_cons (pe_lc (ts := ["place", "part"]) (js := [1]) (LcOk.of rfl) rfl (pi_items (pe_call (ok_trees_by_place T) (hr.mono (by decide)) rfl T.m_trees_by_place T.F_trees_by_place.kp T.b_trees_by_place .nil (pass_e fun _ _ z => z) (pa_cons (pv 0) pa_nil)) rfl rfl) (fun _ _ _ _ => (pg_tup rfl (pgs_cons (pg_name (i := 0) (nodup_of rfl) rfl (Or.inl rfl)) (pgs_cons (pg_name (i := 1) (nodup_of rfl) rfl (Or.inl rfl)) pgs_nil)))) (fun _ _ _ _ => (pf_one (@pt_cmpR _ _ _ _ _ _ _ _ op_eqS (@pe_ix _ _ _ _ _ _ _ ix_tup (pv 1) pe_int (fun _ _ => rfl)) (pv 2) (nomark _)))) (fun _ _ _ _ => (pv 0))) pa_nil)))), ?_⟩
  walk_at "kx"
  walk_at "rd"
  rename_i H1 d kvs es S1 fd hd dt pm
  refine .inl ⟨hd, fun ep => ?_⟩
  intro C s2 H2 fp
  have pl := plt_len t ""
  have el := pm.length_eq
  have kl := dt.length
  have ml : ∀ i, ((((es.take i).filter fun e => decide (knd e.2 = so)).map (·.1)).map V.str).length < 100 := fun i => by
    rw [List.length_map, List.length_map]
    have z1 := List.length_filter_le (fun e => decide (knd e.2 = so)) (es.take i)
    have z2 : (es.take i).length ≤ es.length := by rw [List.length_take]; omega
    omega
  refine lc_items (P := P) (w := w) (a := d) (kvs := kvs) (ep := ep) (fun i ys H' => Iv (Same H H' ∧ SameT H1 H' ∧ H' d = some (FzD P w d kvs ep) ∧ ys = ((((es.take i).filter fun e => decide (knd e.2 = so)).map (·.1)).map V.str))) ?_ ?_ ?_ ?_
  · exact ⟨⟨Same.over S1 fd _, st_dk (SameT.refl _) hd _, upd_same, by rw [List.take_zero]; rfl⟩⟩
  · rintro i ys H3 hi ⟨⟨_, _, e1, e2⟩⟩
    refine ⟨e1, ?_⟩
    rw [e2]
    have := ml i
    exact small1000 (by omega)
  · rintro i k x T0 ys H3 hk ⟨⟨S3, st3, hf, rfl⟩⟩ hT
    obtain ⟨⟨q0, s0⟩, he, rfl, te⟩ := dt.get hk
    have te : TV K H1 x (htD B s0) := te
    have S4 := S3.new hT (.tup [kV (.inr q0), x])
    have st4 := st3.new hT (.tup [kV (.inr q0), x])
    have hf4 := kp hf hT (u := .tup [kV (.inr q0), x])
    have hT4 : upd H3 T0 (.tup [kV (.inr q0), x]) T0 = some (.tup [.str q0, x]) := upd_same
    have te4 := te.mono st4
    generalize upd H3 T0 (.tup [kV (.inr q0), x]) = H4 at S4 st4 hf4 hT4 te4 ⊢
    have hlt : i < es.length := (List.getElem?_eq_some_iff.mp he).1
    have tk : es.take (i + 1) = es.take i ++ [(q0, s0)] := by rw [List.take_add_one, he]; rfl
    have kn : ∃ p2 xs2, x = .ref p2 ∧ H4 p2 = some (.tup (.str (knd s0) :: xs2)) := by
      cases s0 with
      | en w0 =>
        obtain ⟨p2, c2, rfl, hp2, hc2⟩ := TV.hen te4
        exact ⟨_, _, rfl, hp2⟩
      | fk w0 y n =>
        obtain ⟨p2, c2, a2, a3, rfl, hp2, hc2, ty, tn⟩ := TV.hfk te4
        exact ⟨_, _, rfl, hp2⟩
    obtain ⟨p2, xs2, rfl, hp2⟩ := kn
    walk_at "rd"
    refine ⟨atI_nat (xs := V.str (knd s0) :: xs2) (j := 0) rfl, ?_⟩
    walk_at "rd"
    show if _ then _ else _
    by_cases c : knd s0 = so
    · rw [if_pos (decide_eq_true c)]
      walk_at "rd"
      refine ⟨S4, st4, hf4, ?_⟩
      rw [tk, List.filter_append, show List.filter (fun e : Str × Tr => decide (knd e.2 = so)) [(q0, s0)] = [(q0, s0)] from List.filter_cons_of_pos (decide_eq_true c), List.map_append, List.map_append]
      rfl
    · rw [if_neg (by rw [decide_eq_false c]; exact Bool.false_ne_true)]
      refine ⟨by omega, ⟨⟨S4, st4, hf4, ?_⟩⟩⟩
      rw [tk, List.filter_append, show List.filter (fun e : Str × Tr => decide (knd e.2 = so)) [(q0, s0)] = [] from List.filter_cons_of_neg (by show ¬ decide (knd s0 = so) = true; rw [decide_eq_false c]; exact Bool.false_ne_true), List.append_nil]
  · rintro ys H3 ⟨⟨S3, st3, hf, rfl⟩⟩ p hp
    walk_at "rd"
    have eT : es.take kvs.length = es := by rw [kl, List.take_length]
    have m0 := ml kvs.length
    rw [List.length_map, List.length_map] at m0
    rw [List.length_map]
    have lf := List.length_filter_le (fun e => decide (knd e.2 = so)) (es.take kvs.length)
    rw [eT] at lf ⊢
    refine ⟨by omega, fun q1 ws' f1 p1 s1 => q _ q1 ws' ((S3.new hp _).new f1 _) (Same.free (S3.new hp _) f1) upd_same (p1.trans ?_) s1⟩
    have pk : (plK t so) = (((plt t "").filter fun e => decide (knd e.2 = so)).map (·.1)) := by
      unfold plK
      rw [plt_plc, List.filter_map, List.map_map]
      rfl
    rw [pk]
    exact (pm.filter _).map _

theorem ok_ends (T : Tx K mg) : FnOk P w K mg base (CXe P w) 3 T.f_ends T.d_ends ["tree"] (sp_ends K) := by
  have sc := sc_ends
  refine T.F_ends.okx sc (fun vs H Q E h => ?_) (fun cdv A outer s H vs Q E hr h => ?_)
  · obtain ⟨v, t, B, rfl, tv, lt, q⟩ := h
    rfl
  obtain ⟨v, t, B, rfl, tv, lt, q⟩ := h
  have hu := hr.units0
  have hu2 := hr.units
  have hu1 := Nat.lt_of_le_of_lt (Nat.add_le_add_left (show 1 ≤ 64 by decide) _) hu2
  refine ⟨_, (@pss_one _ _ _ (@ps_ret _ _ _ _ (pe_call (ok_places_of T) (hr.mono (by decide)) rfl T.m_places_of T.F_places_of.kp T.b_places_of .nil (pass_e fun _ _ z => z) (pa_cons (pv 0) (pa_cons pe_str pa_nil se_c))))), ?_⟩
  walk_at "kx"
  walk_at "rd"
  rename_i h1 p1 ws s1 f1 e1 m1 o1
  exact q _ _ _ s1 f1 e1 m1 o1

theorem ok_beginnings (T : Tx K mg) : FnOk P w K mg base (CXe P w) 1 T.f_beginnings T.d_beginnings ["place", "places"] (sp_beginnings K) := by
  have sc := sc_beginnings
  refine T.F_beginnings.okx sc (fun vs H Q E h => ?_) (fun cdv A outer s H vs Q E hr h => ?_)
  · obtain ⟨x, a, ps, rfl, ha, hl, q⟩ := h
    rfl
  obtain ⟨x, a, ps, rfl, ha, hl, q⟩ := h
  have hu := hr.units0
  have hu2 := hr.units
  have hu1 := Nat.lt_of_le_of_lt (Nat.add_le_add_left (show 1 ≤ 64 by decide) _) hu2
  refine ⟨_, (@pss_one _ _ _ (@ps_ret _ _ _ _ (pe_lc (ts := ["one"]) (js := [0]) (LcOk.of rfl) rfl (pi_list (pv 1)) (fun _ _ _ _ => (pg_name (i := 0) (nodup_of rfl) rfl (Or.inl rfl))) (fun _ _ _ _ => (pf_one (pt_val (pe_bm PySem.F.plainAttrs_str PySem.F.slot_str_startswith PySem.F.type_str_startswith mt_startswith (pv 1) (pa_cons (pv 0) pa_nil))))) (fun _ _ _ _ => (pv 0))))), ?_⟩
  walk_at "kx"
  have hl2 : (ps.map V.str).length = ps.length := List.length_map _
  walk_at "rd"
  refine lc_list (K := K) (a := a) (xs := ps.map V.str) (fun i ys H' => Iv (H' = H ∧ ys = (bgs x (ps.take i)).map V.str)) ⟨⟨rfl, rfl⟩⟩ (fun i ys H' hi z => ⟨SqL.of (by rw [z.o.1]; exact ha), ?_⟩) ?_ ?_
  · rw [z.o.2, List.length_map]
    refine small1000 (Nat.le_trans (List.length_filter_le _ _) ?_)
    rw [List.length_take]
    omega
  · rintro i v ys H' hi ⟨⟨rfl, rfl⟩⟩
    rw [List.getElem?_map] at hi
    obtain ⟨o, ho, rfl⟩ := Option.map_eq_some_iff.mp hi
    have il := (List.getElem?_eq_some_iff.mp ho).1
    have ft := filter_takeS (p := fun o => Txt.startswith x o) ho
    walk_at "rd"
    refine iteB (fun c => ?_) (fun c => ?_)
    · walk_at "rd"
      refine ⟨⟨rfl, ?_⟩⟩
      unfold bgs
      rw [ft, if_pos c, List.map_append]
      rfl
    · walk_at "rd"
      refine ⟨⟨rfl, ?_⟩⟩
      unfold bgs
      rw [ft, if_neg (by rw [c]; decide), List.append_nil]
  · rintro ys H' ⟨⟨rfl, rfl⟩⟩ p hp
    rw [hl2, List.take_length]
    exact q p hp

theorem ok_is_pruning (T : Tx K mg) : FnOk P w K mg base (CXe P w) 4 T.f_is_pruning T.d_is_pruning ["tree", "places"] (sp_isp K) := by
  have sc := sc_is_pruning
  refine T.F_is_pruning.okx sc (fun vs H Q E h => ?_) (fun cdv A outer s H vs Q E hr h => ?_)
  · obtain ⟨v, t, B, a, ps, rfl, tv, lt, ha, pl, pa, q⟩ := h
    rfl
  obtain ⟨v, t, B, a, ps, rfl, tv, lt, ha, pl, pa, q⟩ := h
  have hu := hr.units0
  have hu2 := hr.units
  have hu1 := Nat.lt_of_le_of_lt (Nat.add_le_add_left (show 1 ≤ 64 by decide) _) hu2
  refine ⟨_, (@pss_cons _ _ _ _ _ (@ps_set _ _ 2 _ _ _ _ sc.nd rfl (by first | exact Or.inl rfl | exact Or.inr rfl) (pe_call (ok_trees_by_place T) (hr.mono (by decide)) rfl T.m_trees_by_place T.F_trees_by_place.kp T.b_trees_by_place .nil (pass_e fun _ _ z => z) (pa_cons (pv 0) pa_nil)) (by rfl) (by first | exact .inl rfl | exact .inr rfl | assumption))
      (@pss_cons _ _ _ _ _ (@ps_if _ _ _ _ _ _ _ _ (pt_not (pt_val (pe_callB (call_all rfl) rfl T.z_all bt_all (pa_cons (pe_lc (ts := ["place"]) (js := [2]) (LcOk.of rfl) rfl (pi_list (pv 1)) (fun _ _ _ _ => (pg_name (i := 0) (nodup_of rfl) rfl (Or.inl rfl))) (fun _ _ _ _ => pf_nil) (fun _ _ _ _ => (pe_cmpR (op_in_dk hu1) (pv 0) (pv 1) (by with_unfolding_all rfl)))) pa_nil)))) (@pss_one _ _ _ (@ps_ret _ _ _ _ pe_bl)) pss_nil)
      (@pss_cons _ _ _ _ _ (@ps_if _ _ _ _ _ _ _ _ (@pt_cmpR _ _ _ _ _ _ _ _ (op_neD hu2) (pv 1) (pe_callB (call_sortedSS rfl) rfl T.z_sorted bt_sorted (pa_cons (pe_callTy (call_setS rfl) rfl T.z_set bt_set (pa_cons (pv 1) pa_nil)) pa_nil)) (nomark _)) (@pss_one _ _ _ (@ps_ret _ _ _ _ pe_bl)) pss_nil)
      (@pss_one _ _ _ (@ps_ret _ _ _ _ (pe_callB (call_all rfl) rfl T.z_all bt_all (pa_cons (pe_lc (ts := ["end"]) (js := [1]) (LcOk.of rfl) rfl (pi_list (pe_call (ok_ends T) (hr.mono (by decide)) rfl T.m_ends T.F_ends.kp T.b_ends .nil (pass_e fun _ _ z => z) (pa_cons (pv 0) pa_nil))) (fun _ _ _ _ => (pg_name (i := 0) (nodup_of rfl) rfl (Or.inl rfl))) (fun _ _ _ _ => pf_nil) (fun _ _ _ _ => (pe_cmpR op_eqI (pe_callB call_len_seq rfl T.z_len bt_len (pa_cons (pe_call (ok_beginnings T) (hr.mono (by decide)) rfl T.m_beginnings T.F_beginnings.kp T.b_beginnings .nil passN (pa_cons (pv 0) (pa_cons (pv 1) pa_nil))) pa_nil)) pe_int (nomark _)))) pa_nil))))))), ?_⟩
  walk_at "kx"
  walk_at "rd"
  rename_i H1 d kvs es S1 fd hd dt pm cA sA hA fA
  have ha1 := S1 _ _ ha
  have tv1 := tv.mono S1.t
  have hl2 : (ps.map V.str).length = ps.length := List.length_map _
  refine lc_list (K := K) (a := a) (xs := ps.map V.str) (fun i ys H' => Iv (H' = H1 ∧ ys = ((ps.take i).map fun x => decide (x ∈ (plc t "").map (·.1))).map V.bl)) ⟨⟨rfl, rfl⟩⟩ (fun i ys H' hi z => ⟨SqL.of (by rw [z.o.1]; exact ha1), ?_⟩) ?_ ?_
  · rw [z.o.2, List.length_map, List.length_map, List.length_take]
    exact small1000 (by omega)
  · rintro i v ys H' hi ⟨⟨rfl, rfl⟩⟩
    rw [List.getElem?_map] at hi
    obtain ⟨x, hx, rfl⟩ := Option.map_eq_some_iff.mp hi
    have il := (List.getElem?_eq_some_iff.mp hx).1
    have g : DGet _ d (.str x) _ := DGet.k (k := .inr x) hd
    walk_at "rd"
    refine ⟨⟨rfl, ?_⟩⟩
    rw [dt.has pm x, List.take_add_one, hx, List.map_append, List.map_append]
    rfl
  rintro ys H' ⟨⟨rfl, rfl⟩⟩ p hp
  rw [hl2, List.take_length]
  walk_at "rd"
  have eall : ((ps.map fun x => decide (x ∈ (plc t "").map (·.1))).all id) = true ↔ ∀ x ∈ ps, x ∈ (plc t "").map (·.1) := by
    rw [List.all_map, List.all_eq_true]
    exact ⟨fun z x hx => of_decide_eq_true (z x hx), fun z x hx => decide_eq_true (z x hx)⟩
  have S2 := S1.new hp (.lst ((ps.map fun x => decide (x ∈ (plc t "").map (·.1))).map V.bl))
  have ha2 := kp ha1 hp (u := .lst ((ps.map fun x => decide (x ∈ (plc t "").map (·.1))).map V.bl))
  generalize upd H' p (.lst ((ps.map fun x => decide (x ∈ (plc t "").map (·.1))).map V.bl)) = H2 at S2 ha2 ⊢
  generalize ((ps.map fun x => decide (x ∈ (plc t "").map (·.1))).all id) = bb at eall ⊢
  cases bb with
  | false =>
    refine iteB (fun _ => ?_) (fun c => absurd c (by decide))
    walk_at "rd"
    have := q H2 S2
    rw [isP_no fun z => Bool.false_ne_true (eall.mpr z.kn)] at this
    exact this
  | true =>
    have kn := eall.mp rfl
    refine iteB (fun c => absurd c (by decide)) (fun _ => ?_)
    have dl : (ddS ps).length < 64 := Nat.lt_of_le_of_lt (ddS_len ps) pl
    walk_at "rd"
    rename_i z1 hz1 z2 ws hz2 pw sw
    have S3 := (S2.new hz1 (SetXO P w z1 ((ddS ps).map Sum.inr))).new hz2 (.lst (ws.map V.str))
    have hw3 := upd_same (H := upd H2 z1 (SetXO P w z1 ((ddS ps).map Sum.inr))) (a := z2) (o := .lst (ws.map V.str))
    have ha3 := kp (kp ha2 hz1 (u := SetXO P w z1 ((ddS ps).map Sum.inr))) hz2 (u := .lst (ws.map V.str))
    have wa : ∀ x ∈ ws, Asc x := fun x hx => pa x (ddS_mem.mp (pw.mem_iff.mp hx))
    show rNeD K (V.ref a) (V.ref z2) (upd (upd H2 z1 (SetXO P w z1 ((ddS ps).map Sum.inr))) z2 (.lst (ws.map V.str))) _
    generalize upd (upd H2 z1 (SetXO P w z1 ((ddS ps).map Sum.inr))) z2 (.lst (ws.map V.str)) = H3 at S3 hw3 ha3 ⊢
    refine ⟨_, _, dvS ha3, dvS hw3, ((shS (n := 62) pa).mono (by decide)).shaped, ((shS (n := 62) wa).mono (by decide)).shaped, ?_⟩
    rw [strs_eqv]
    have si := sset_iff pw sw
    by_cases c : ps = ws
    · rw [decide_eq_true c]
      refine ⟨_, rfl, iteB (fun c => absurd c (by decide)) (fun _ => ?_)⟩
      have up := si.mp c
      have tv3 := tv.mono S3.t
      clear si c pw sw wa hw3 eall tv1 ha1 hd dt pm
      walk_at "rd"
      rename_i H4 e ws4 S4 fe he pe se cB sB hB fB
      have ha4 := S4 _ _ ha3
      have l4 : ws4.length < 100 := by
        have := pe.length_eq
        unfold plK at this
        rw [List.length_map] at this
        have z2 := List.length_filter_le (fun u : Str × Str => decide (u.2 = Str.ofString "end")) (plc t "")
        have z3 := plc_len t ""
        omega
      have hl4 : (ws4.map V.str).length = ws4.length := List.length_map _
      refine lc_list (K := K) (a := e) (xs := ws4.map V.str) (fun i ys H' => Iv (Same H4 H' ∧ ys = ((ws4.take i).map fun x => decide ((bgs x ps).length = 1)).map V.bl)) ⟨⟨Same.refl _, rfl⟩⟩ (fun i ys H' hi z => ⟨SqL.of (z.o.1 _ _ he), ?_⟩) ?_ ?_
      · rw [z.o.2, List.length_map, List.length_map, List.length_take]
        exact small1000 (by omega)
      · rintro i v ys H' hi ⟨⟨S5, rfl⟩⟩
        rw [List.getElem?_map] at hi
        obtain ⟨x, hx, rfl⟩ := Option.map_eq_some_iff.mp hi
        have il := (List.getElem?_eq_some_iff.mp hx).1
        have ha5 := S5 _ _ ha4
        walk_at "rd"
        rename_i p5 hp5
        refine ⟨⟨S5.new hp5 _, ?_⟩⟩
        rw [List.take_add_one, hx, List.map_append, List.map_append]
        show _ ++ [V.bl (decide (((List.map V.str (bgs x ps)).length : Int) = 1))] = _ ++ [V.bl (decide ((bgs x ps).length = 1))]
        rw [List.length_map]
        have : decide (((bgs x ps).length : Int) = 1) = decide ((bgs x ps).length = 1) := by
          rw [Bool.eq_iff_iff, decide_eq_true_iff, decide_eq_true_iff]
          omega
        rw [this]
      rintro ys H' ⟨⟨S5, rfl⟩⟩ p hp
      rw [hl4, List.take_length]
      walk_at "rd"
      have qq := q _ ((S3.trans (S4.trans S5)).new hp (HO.lst (List.map V.bl (List.map (fun x => decide ((bgs x ps).length = 1)) ws4))))
      have ee : (List.map (fun x => decide ((bgs x ps).length = 1)) ws4).all id = isP t ps := by
        rw [Bool.eq_iff_iff, List.all_map, List.all_eq_true]
        constructor
        · intro z
          exact isP_yes ⟨kn, up, fun e he => of_decide_eq_true (z e (pe.mem_iff.mpr he))⟩
        · intro z x hx
          exact decide_eq_true ((isP_of z).one x (pe.mem_iff.mp hx))
      rw [ee]
      exact qq
    · rw [decide_eq_false c]
      refine ⟨_, rfl, iteB (fun _ => ?_) (fun c => absurd c (by decide))⟩
      walk_at "rd"
      have := q H3 S3
      rw [isP_no fun z => c (si.mpr z.up)] at this
      exact this

theorem ok_check_pruning (T : Tx K mg) : FnOk P w K mg base (CXe P w) 5 T.f_check_pruning T.d_check_pruning ["tree", "places"] (sp_check_pr2 T.c_NoPruning K) := by
  have sc := sc_check_pruning
  refine T.F_check_pruning.okx sc (fun vs H Q E h => ?_) (fun cdv A outer s H vs Q E hr h => ?_)
  · obtain ⟨v, t, B, a, ps, rfl, tv, lt, ha, pl, pa, q⟩ := h
    rfl
  obtain ⟨v, t, B, a, ps, rfl, tv, lt, ha, pl, pa, q⟩ := h
  have hu := hr.units0
  have hu2 := hr.units
  have hu1 := Nat.lt_of_le_of_lt (Nat.add_le_add_left (show 1 ≤ 64 by decide) _) hu2
  refine ⟨_, (@pss_one _ _ _ (@ps_if _ _ _ _ _ _ _ _ (pt_not (pt_val (pe_call (ok_is_pruning T) (hr.mono (by decide)) rfl T.m_is_pruning T.F_is_pruning.kp T.b_is_pruning .nil (pass_e fun _ _ z => z) (pa_cons (pv 0) (pa_cons (pv 1) pa_nil))))) (@pss_one _ _ _ (ps_raise T.x_NoPruning rfl (pa_cons pe_str pa_nil se_c))) pss_nil)), ?_⟩
  walk_at "kx"
  walk_at "rd"
  rename_i H1 S1
  rcases q with ⟨e, q⟩ | ⟨e, q⟩
  · rw [e]
    walk_at "rd"
    exact q _ S1
  · rw [e]
    walk_at "rd"
    exact q _ S1

theorem ok_answer_pruned (T : Tx K mg) : FnOk P w K mg base (CXe P w) 27 T.f_answer_pruned T.d_answer_pruned ["node", "places", "values"] (sp_ansp T.c_Leaf T.c_Fork K) := by
  have sc := sc_answer_pruned
  refine T.F_answer_pruned.okx sc (fun vs H Q E h => ?_) (fun cdv A outer s H vs Q E hr h => ?_)
  · obtain ⟨v, a, va, t, u, ps, ks, p, rfl, nd, ha, lp, hv, ak, td, hb, hg, l1, q⟩ := h
    rfl
  obtain ⟨v, a, va, t, u, ps, ks, p, rfl, nd, ha, lp, hv, ak, td, hb, hg, l1, q⟩ := h
  have hu := hr.units0
  have hu2 := hr.units
  have hu1 := Nat.lt_of_le_of_lt (Nat.add_le_add_left (show 1 ≤ 64 by decide) _) hu2
  refine ⟨_, (@pss_cons _ _ _ _ _ (@ps_set _ _ 3 _ _ _ _ sc.nd rfl (by first | exact Or.inl rfl | exact Or.inr rfl) (@pe_ix _ _ _ _ _ _ _ ix_list (pe_call (ok_beginnings T) (hr.mono (by decide)) rfl T.m_beginnings T.F_beginnings.kp T.b_beginnings .nil (pass_e fun _ _ z => z) (pa_cons (pe_meth2 (pv 0) T.C_Leaf T.M_Leaf_place_of (ok_Leaf_place_of T) (hr.mono (by decide)) T.b_Leaf_place_of T.C_Fork T.M_Fork_place_of (ok_Fork_place_of T) (hr.mono (by decide)) T.b_Fork_place_of (pass_e fun _ _ z => z) (pa_cons (pv 2) pa_nil)) (pa_cons (pv 1) pa_nil))) pe_int (fun _ _ => rfl)) (by rfl) (by first | exact .inl rfl | exact .inr rfl | assumption))
      (@pss_one _ _ _ (@ps_ret _ _ _ _ (pe_call (ok_commonest T) (hr.mono (by decide)) rfl T.m_commonest T.F_commonest.kp T.b_commonest .nil (pass_e fun _ _ z => z) (pa_cons (pe_fld (pe_meth2 (pv 0) T.C_Leaf T.M_Leaf_at (ok_Node_at T) (hr.mono (by decide)) T.b_Node_at T.C_Fork T.M_Fork_at (ok_Node_at T) (hr.mono (by decide)) T.b_Node_at (pass_e fun _ _ z => z) (pa_cons (pv 3) pa_nil)) rfl) pa_nil))))), ?_⟩
  walk_at "kx"
  have C1 := T.C_Leaf
  have C2 := T.C_Fork
  have N0 : NoAttr K T.c_Leaf "counted" := T.nLc
  have N1 : NoAttr K T.c_Fork "counted" := T.nFcd
  have N2 : NoAttr K T.c_Fork "question" := T.nFqn
  have N3 : NoAttr K T.c_Fork "yes" := T.nFys
  have N4 : NoAttr K T.c_Fork "no" := T.nFno
  have N5 : NoAttr K T.c_Fork "leaf_count" := T.nFlt
  have N6 : NoAttr K T.c_Fork "depth" := T.nFdh
  walk_at "rd"
  refine nd_place (d := 24) nd hv ak (by omega) (by decide) (fun k hk => by walk_at "rd"; exact hk) ?_
  walk_at "rd"
  rename_i b hb0
  rw [hb]
  walk_at "rd"
  have S := same_new hb0 (H := H) (.lst ([p].map V.str))
  refine nd_at (nd.same S) l1 hg (fun k hk => by walk_at "rd"; exact hk) fun v' nd' => ?_
  cases nd' with
  | lf h1 cn =>
    walk_at "rd"
    exact q _ S
  | fk h1 cn h3 h4 h5 =>
    walk_at "rd"
    exact q _ S

theorem ok_answer (T : Tx K mg) : FnOk P w K mg base (CXe P w) 38 T.f_answer T.d_answer ["node", "places", "values"] (sp_answer T.c_Leaf T.c_Fork K T.c_NoPruning) := by
  have sc := sc_answer
  refine T.F_answer.okx sc (fun vs H Q E h => ?_) (fun cdv A outer s H vs Q E hr h => ?_)
  · obtain ⟨v, a, va, t, ps, ks, rfl, nd, nz, lv, ha, lp, pa, hv, ak, q⟩ := h
    rfl
  obtain ⟨v, a, va, t, ps, ks, rfl, nd, nz, lv, ha, lp, pa, hv, ak, q⟩ := h
  have hu := hr.units0
  have hu2 := hr.units
  have hu1 := Nat.lt_of_le_of_lt (Nat.add_le_add_left (show 1 ≤ 64 by decide) _) hu2
  refine ⟨_, (@pss_cons _ _ _ _ _ (ps_expr (pe_call (ok_check_pruning T) (hr.mono (by decide)) rfl T.m_check_pruning T.F_check_pruning.kp T.b_check_pruning .nil (pass_e fun _ _ z => z) (pa_cons (pe_call (ok_costed T) (hr.mono (by decide)) rfl T.m_costed T.F_costed.kp T.b_costed .nil (pass_e fun _ _ z => z) (pa_cons (pv 0) (pa_cons pe_str pa_nil se_c))) (pa_cons (pv 1) pa_nil))))
      (@pss_one _ _ _ (@ps_ret _ _ _ _ (pe_call (ok_answer_pruned T) (hr.mono (by decide)) rfl T.m_answer_pruned T.F_answer_pruned.kp T.b_answer_pruned .nil (pass_e fun _ _ z => z) (pa_cons (pv 0) (pa_cons (pv 1) (pa_cons (pv 2) pa_nil))))))), ?_⟩
  walk_at "kx"
  have dp := t.dp_lv
  have lm := t.tm_lv
  have shm : Sh "misses" := shM (.inl rfl)
  walk_at "rd"
  refine .inl ⟨.inl rfl, fun H1 u S1 cv => ?_⟩
  have tv := cv.tm
  have ha1 := S1 _ _ ha
  have lt : t.tm.lv ≤ 30 := by omega
  walk_at "rd"
  rcases q with ⟨⟨gs, pi⟩, q⟩ | ⟨e, q⟩
  · refine .inl ⟨isP_yes pi.isP, fun H2 S2 => ?_⟩
    obtain ⟨p, r, w, hp, ep, hg, hpre, hb⟩ := pi_fall ks pi
    have ep : p = r := by rw [ep]; exact str_ext (by rw [cds_app]; rfl)
    subst ep
    have hb : bgs (t.fall ks) ps = [p] := by
      have e : ("" ++ t.fall ks : Str) = t.fall ks := str_ext (by rw [cds_app]; rfl)
      rw [e] at hb
      exact hb
    have S12 := S1.trans S2
    have nd2 := nd.same S12
    have ha2 := S12 _ _ ha
    have hv2 := S12 _ _ hv
    have l1 := pi.shortN p hp
    have dm := t.tm_dp
    walk_at "rd"
    rename_i H3 S3
    exact q _ p w (S12.trans S3) hb hg
  · exact .inr ⟨e, fun H2 S2 => q _ (S1.trans S2)⟩

theorem ok_law_cell (T : Tx K mg) : FnOk P w K mg base (CXe P w) 1 T.f_law_cell T.d_law_cell ["_law_script", "_law_k"] (sp_law_cell K) := by
  have sc := sc_law_cell
  refine T.F_law_cell.okx sc (fun vs H Q E h => ?_) (fun cdv A outer s H vs Q E hr h => ?_)
  · obtain ⟨a, ns, k, rfl, hS, hk, q⟩ := h
    rfl
  obtain ⟨a, ns, k, rfl, hS, hk, q⟩ := h
  have hu := hr.units0
  have hu2 := hr.units
  have hu1 := Nat.lt_of_le_of_lt (Nat.add_le_add_left (show 1 ≤ 64 by decide) _) hu2
  refine ⟨_, (@pss_cons _ _ _ _ _ (@ps_if _ _ _ _ _ _ _ _ (@pt_cmpR _ _ _ _ _ _ _ _ op_lt (pv 1) (pe_callB call_len_seq rfl T.z_len bt_len (pa_cons (pv 0) pa_nil)) (nomark _)) (@pss_one _ _ _ (@ps_ret _ _ _ _ (@pe_ix _ _ _ _ _ _ _ ix_list (pv 0) (pv 1) (fun _ _ => rfl)))) pss_nil)
      (@pss_one _ _ _ (@ps_ret _ _ _ _ pe_int))), ?_⟩
  walk_at "kx"
  have hl2 : (ns.map V.int).length = ns.length := List.length_map _
  walk_at "rd"
  refine ite3 (fun h => ?_) (fun h => ?_)
  · obtain ⟨v, hv⟩ := at_ints (ns := ns) (k := k) hk (by omega)
    walk_at "rd"
    exact q v
  · exact q 0

theorem ok_law_next (T : Tx K mg) : FnOk P w K mg base (CXe P w) 1 T.f_law_next T.d_law_next ["_law_cell_here", "_law_k"] sp_law_next := by
  have sc := sc_law_next
  refine T.F_law_next.okx sc (fun vs H Q E h => ?_) (fun cdv A outer s H vs Q E hr h => ?_)
  · obtain ⟨c, k, rfl, k0, k3, q⟩ := h
    rfl
  obtain ⟨c, k, rfl, k0, k3, q⟩ := h
  have hu := hr.units0
  have hu2 := hr.units
  have hu1 := Nat.lt_of_le_of_lt (Nat.add_le_add_left (show 1 ≤ 64 by decide) _) hu2
  refine ⟨_, (@pss_one _ _ _ (@ps_ret _ _ _ _ (@pe_op _ _ _ _ _ _ _ _ op_mod (@pe_op _ _ _ _ _ _ _ _ op_add (@pe_op _ _ _ _ _ _ _ _ op_add (@pe_op _ _ _ _ _ _ _ _ op_mulB (pv 0) (@pe_op _ _ _ _ _ _ _ _ op_add pe_int (@pe_op _ _ _ _ _ _ _ _ op_mulB pe_int (pv 1)))) pe_int) (pv 1)) pe_int))), ?_⟩
  walk_at "kx"
  have m1 := mulN c k0 k3
  walk_at "rd"
  exact q _ (Int.emod_nonneg _ (by decide)) (Int.emod_lt_of_pos _ (by decide))

theorem ok_law_words (T : Tx K mg) : FnOk P w K mg base (CXe P w) 1 T.f_law_words T.d_law_words ["_law_cell_here"] sp_words4 := by
  have sc := sc_law_words
  refine T.F_law_words.okx sc (fun vs H Q E h => ?_) (fun cdv A outer s H vs Q E hr h => ?_)
  · obtain ⟨c, rfl, c0, c30, q⟩ := h
    rfl
  obtain ⟨c, rfl, c0, c30, q⟩ := h
  have hu := hr.units0
  have hu2 := hr.units
  have hu1 := Nat.lt_of_le_of_lt (Nat.add_le_add_left (show 1 ≤ 64 by decide) _) hu2
  refine ⟨_, (@pss_cons _ _ _ _ _ (@ps_set _ _ 1 _ _ _ _ sc.nd rfl (by first | exact Or.inl rfl | exact Or.inr rfl) pe_str (by rfl) (by first | exact .inl rfl | exact .inr rfl | assumption))
      (@pss_cons _ _ _ _ _ (@ps_set _ _ 2 _ _ _ _ sc.nd rfl (by first | exact Or.inl rfl | exact Or.inr rfl) pe_str (by rfl) (by first | exact .inl rfl | exact .inr rfl | assumption))
      (@pss_cons _ _ _ _ _ (ps_for powx rfl (pi_range1 rfl T.z_range (pa_cons (@pe_op _ _ _ _ _ _ _ _ op_add pe_int (@pe_op _ _ _ _ _ _ _ _ op_mod (pv 0) pe_int)) pa_nil)) (pg_name (i := 3) sc.nd rfl (by first | exact Or.inl rfl | exact Or.inr rfl))
      (@pss_one _ _ _ (@ps_set _ _ 2 _ _ _ _ sc.nd rfl (by first | exact Or.inl rfl | exact Or.inr rfl) (@pe_op _ _ _ _ _ _ _ _ op_add_str (pv 2) (@pe_ix _ _ _ _ _ _ _ ix_str (pv 1) (@pe_op _ _ _ _ _ _ _ _ op_mod (@pe_op _ _ _ _ _ _ _ _ op_add (@pe_op _ _ _ _ _ _ _ _ op_fdivB (pv 0) pe_int) (@pe_op _ _ _ _ _ _ _ _ op_mulB (pv 3) (@pe_op _ _ _ _ _ _ _ _ op_fdivB (pv 0) pe_int))) pe_int) (fun _ _ => rfl))) (by rfl) (by first | exact .inl rfl | exact .inr rfl | assumption))))
      (@pss_one _ _ _ (@ps_ret _ _ _ _ (pe_lc (ts := ["_law_k"]) (js := [2, 1, 0]) (LcOk.of rfl) rfl (pi_range1 rfl T.z_range (pa_cons pe_int pa_nil)) (fun _ _ _ _ => (pg_name (i := 0) (nodup_of rfl) rfl (Or.inl rfl))) (fun _ _ _ _ => pf_nil) (fun _ _ _ _ => (@pe_op _ _ _ _ _ _ _ _ op_add_str (pv 1) (@pe_ix _ _ _ _ _ _ _ ix_str (pv 2) (@pe_op _ _ _ _ _ _ _ _ op_mod (@pe_op _ _ _ _ _ _ _ _ op_add (@pe_op _ _ _ _ _ _ _ _ op_fdivB (pv 3) pe_int) (pv 0)) pe_int) (fun _ _ => rfl)))))))))), ?_⟩
  walk_at "kx"
  have lz : ("abcdefghijklmnopqrstuvwxyz" : Str).length ≤ sizeLine := by rw [let_len]; exact sz
  have zc : Bz 110 (c / 286) := by
    show (c / 286).natAbs < 2 ^ 110
    have : (1000000000000000000000000000000 : Nat) < 2 ^ 110 := by decide
    omega
  walk_at "rd"
  refine for_range (n := (1 + c % 11).toNat) (fun i σ H' => Iv (H' = H ∧ ∃ (w : Str) (o3 : Option V), σ = [some (.int c), some (.str "abcdefghijklmnopqrstuvwxyz"), some (.str w), o3] ∧ w.length = i ∧ ∀ x ∈ cds w, 97 ≤ x ∧ x ≤ 122))
    ⟨⟨rfl, _, _, rfl, rfl, fun x hx => by cases hx⟩⟩ ?_ ?_
  · rintro i σ H' hi ⟨⟨rfl, w, o3, rfl, lw, aw⟩⟩
    have zi : Bz 10 (0 + (i : Int)) := by
      show (0 + (i : Int)).natAbs < 2 ^ 10
      omega
    have la := let_at (d := (c / 11 + (0 + (i : Int)) * (c / 286)) % 26) (by omega) (by omega)
    have l1 := len1 (97 + ((c / 11 + (0 + (i : Int)) * (c / 286)) % 26).toNat)
    walk_at "rd"
    exact ⟨⟨rfl, _, _, rfl, by rw [lenA, len1, lw], grow_w aw ⟨by omega, by omega⟩⟩⟩
  · rintro σ H' ⟨⟨rfl, w, o3, rfl, lw, aw⟩⟩
    walk_at "rd"
    refine lc_range (n := Int.toNat 4) (fun i ys H2 => Iv (H2 = H' ∧ ∃ ws : List Str, ys = ws.map V.str ∧ ws.length = i ∧ ∀ w ∈ ws, isW w = true)) ⟨⟨rfl, [], rfl, rfl, fun w hw => by cases hw⟩⟩ (fun i ys H2 hi z => ?_) ?_ ?_
    · obtain ⟨_, ws, e, l, _⟩ := z.o
      rw [e, List.length_map, l]
      have : Int.toNat 4 = 4 := rfl
      exact small1000 (by omega)
    · rintro i ys H2 hi ⟨⟨rfl, ws, rfl, ls, aw2⟩⟩
      have la := let_at (d := (c / 11 + (0 + (i : Int))) % 26) (by omega) (by omega)
      have l1 := len1 (97 + ((c / 11 + (0 + (i : Int))) % 26).toNat)
      walk_at "rd"
      refine ⟨⟨rfl, ws ++ [_], by rw [List.map_append]; rfl, by rw [List.length_append, ls]; rfl, fun x hx => ?_⟩⟩
      rcases List.mem_append.mp hx with hx | hx
      · exact aw2 x hx
      · rw [List.mem_singleton.mp hx]
        exact isW_of (grow_w aw ⟨by omega, by omega⟩) (by rw [lenA, len1]; omega) (by rw [lenA, len1]; omega)
    · rintro ys H2 ⟨⟨rfl, ws, rfl, ls, aw2⟩⟩ p hp
      exact q _ p ws (same_new hp _) hp upd_same ls aw2

theorem ok_law_counted (T : Tx K mg) : FnOk P w K mg base (CXe P w) 2 T.f_law_counted T.d_law_counted ["_law_cell_here", "_law_words_here"] (sp_counted4 K) := by
  have sc := sc_law_counted
  refine T.F_law_counted.okx sc (fun vs H Q E h => ?_) (fun cdv A outer s H vs Q E hr h => ?_)
  · obtain ⟨c, sa, ws, rfl, hsa, l4, hw, q⟩ := h
    rfl
  obtain ⟨c, sa, ws, rfl, hsa, l4, hw, q⟩ := h
  have hu := hr.units0
  have hu2 := hr.units
  have hu1 := Nat.lt_of_le_of_lt (Nat.add_le_add_left (show 1 ≤ 64 by decide) _) hu2
  refine ⟨_, (@pss_cons _ _ _ _ _ (@ps_set _ _ 2 _ _ _ _ sc.nd rfl (by first | exact Or.inl rfl | exact Or.inr rfl) (@pe_lst _ _ _ _ pa_nil) (by rfl) (by first | exact .inl rfl | exact .inr rfl | assumption))
      (@pss_cons _ _ _ _ _ (@ps_if _ _ _ _ _ _ _ _ (@pt_cmpR _ _ _ _ _ _ _ _ op_eqI (@pe_op _ _ _ _ _ _ _ _ op_mod (pv 0) pe_int) pe_int (nomark _)) (@pss_one _ _ _ (@ps_ret _ _ _ _ (pv 2))) pss_nil)
      (@pss_cons _ _ _ _ _ (ps_for powx rfl (pi_enum rfl T.z_enumerate (pa_cons (pe_callB call_sortedS rfl T.z_sorted bt_sorted (pa_cons (pe_slice sl_list (pv 1) po_none (po_some pe_int)) pa_nil)) pa_nil)) (pg_tup rfl (pgs_cons (pg_name (i := 3) sc.nd rfl (by first | exact Or.inl rfl | exact Or.inr rfl)) (pgs_cons (pg_name (i := 4) sc.nd rfl (by first | exact Or.inl rfl | exact Or.inr rfl)) pgs_nil)))
      (@pss_one _ _ _ (@ps_if _ _ _ _ _ _ _ _ (PW.pt (pw_or (@pt_cmpR _ _ _ _ _ _ _ _ op_gt (@pe_op _ _ _ _ _ _ _ _ op_mod (pe_call (ok_law_next T) (hr.mono (by decide)) rfl T.m_law_next T.F_law_next.kp T.b_law_next .nil (pass_e fun _ _ z => z) (pa_cons (pv 0) (pa_cons (pv 3) pa_nil))) pe_int) pe_int (nomark _)) (pw_or1 (PW.pt (pw_and (@pt_cmpR _ _ _ _ _ _ _ _ op_eqI (pe_callB call_len_seq rfl T.z_len bt_len (pa_cons (pv 2) pa_nil)) pe_int (nomark _)) (pw_and1 (@pt_cmpR _ _ _ _ _ _ _ _ op_eqI (pv 3) pe_int (nomark _)))))))) (@pss_one _ _ _ (ps_expr (pe_bm PySem.F.plainAttrs_list PySem.F.slot_list_append PySem.F.type_list_append mt_append (pv 2) (pa_cons (pe_tup (pa_cons (pv 4) (pa_cons (@pe_op _ _ _ _ _ _ _ _ op_add pe_int (@pe_op _ _ _ _ _ _ _ _ op_mod (@pe_op _ _ _ _ _ _ _ _ op_fdivB (pe_call (ok_law_next T) (hr.mono (by decide)) rfl T.m_law_next T.F_law_next.kp T.b_law_next .nil (pass_e fun _ _ z => z) (pa_cons (pv 0) (pa_cons pe_int pa_nil))) (@pe_op _ _ _ _ _ _ _ _ op_add (pv 3) pe_int)) pe_int)) pa_nil))) pa_nil)))) pss_nil)))
      (@pss_one _ _ _ (@ps_ret _ _ _ _ (pv 2)))))), ?_⟩
  walk_at "kx"
  have wl : (ws.map V.str).length = ws.length := List.length_map _
  walk_at "rd"
  rename_i z hz
  refine ite3 (fun e => ?_) (fun e => ?_)
  · walk_at "rd"
    exact q _ z [] (same_new hz _) hz ⟨[], upd_same, .nil⟩ (fun c hc => by cases hc) (by decide)
  · walk_at "rd"
    rename_i p1 hp1
    rw [cut_strs (by decide)]
    have lt3 : (ws.take (Int.toNat 3)).length = 3 := by rw [List.length_take]; have : Int.toNat 3 = 3 := rfl; omega
    refine ⟨SqL.of upd_same, by omega, fun q1 ws' hq1 pm so => ?_⟩
    have lw' : ws'.length = 3 := by rw [pm.length_eq]; exact lt3
    have wlm : (ws'.map V.str).length = ws'.length := List.length_map _
    have hw' : ∀ w ∈ ws', isW w = true := fun w hm => hw w (List.mem_of_mem_take (pm.mem_iff.mp hm))
    have S1 := ((same_new hz (H := H) (.lst [])).new hp1 (.lst ((ws.take (Int.toNat 3)).map V.str))).new hq1 (.lst (ws'.map V.str))
    have hz1 := kp (u := .lst (ws'.map V.str)) (kp (u := .lst ((ws.take (Int.toNat 3)).map V.str)) (upd_same (H := H) (a := z) (o := .lst [])) hp1) hq1
    have hq2 := upd_same (H := upd (upd H z (.lst [])) p1 (.lst ((ws.take (Int.toNat 3)).map V.str))) (a := q1) (o := .lst (ws'.map V.str))
    have nzq : z ≠ q1 := ne_of_none (kp (u := .lst ((ws.take (Int.toNat 3)).map V.str)) (upd_same (H := H) (a := z) (o := .lst [])) hp1) hq1
    generalize upd (upd (upd H z (.lst [])) p1 (.lst ((ws.take (Int.toNat 3)).map V.str))) q1 (.lst (ws'.map V.str)) = H1 at S1 hz1 hq2 ⊢
    walk_at "rd"
    refine for_enum (K := K) (a := q1) (xs := ws'.map V.str) (fun i σ' H' => Iv (∃ (cs : List (Str × Int)) (zs : List V) (o3 o4 : Option V), σ' = [some (.int c), some (.ref sa), some (.ref z), o3, o4] ∧ Same H H' ∧ H' z = some (.lst zs) ∧ TVs K H' zs (cs.map cD) ∧ (∀ c ∈ cs, Wc c) ∧ cs.length ≤ i ∧ H' q1 = some (.lst (ws'.map V.str)))) ⟨⟨[], [], _, _, rfl, S1, hz1, .nil, (fun c hc => by cases hc), Nat.le_refl _, hq2⟩⟩ (fun i σ' H' _ y => by obtain ⟨_, _, _, _, _, _, _, _, _, _, h⟩ := y.o; exact SqL.of h) ?_ ?_
    · rintro i v σ' H' TT hi ⟨⟨cs, zs, o3, o4, rfl, S, hzs, tz, ok, lc, hq3⟩⟩ hT
      rw [List.getElem?_map] at hi
      obtain ⟨w', hw2, rfl⟩ := Option.map_eq_some_iff.mp hi
      have il := (List.getElem?_eq_some_iff.mp hw2).1
      have ww := hw' w' (List.mem_of_getElem? hw2)
      have lzs : zs.length = cs.length := by have := tz.length; rw [List.length_map] at this; exact this
      have ST := same_new hT (H := H') (.tup [.int (i : Int), .str w'])
      have S2 := S.trans ST
      have hzs2 := ST _ _ hzs
      have tz2 := tz.mono ST.t
      have hq4 := ST _ _ hq3
      have hT2 := upd_same (H := H') (a := TT) (o := .tup [.int (i : Int), .str w'])
      generalize upd H' TT (.tup [.int (i : Int), .str w']) = H2 at S2 hzs2 tz2 hq4 hT2 ⊢
      have cd : ∀ x, CDivB x ((i : Int) + 1) := fun x => cN x (by omega) (by omega)
      have skip : Iv (∃ (cs : List (Str × Int)) (zs : List V) (o3 o4 : Option V), [some (.int c), some (.ref sa), some (.ref z), some (.int (i : Int)), some (.str w')] = [some (.int c), some (.ref sa), some (.ref z), o3, o4] ∧ Same H H2 ∧ H2 z = some (.lst zs) ∧ TVs K H2 zs (cs.map cD) ∧ (∀ c ∈ cs, Wc c) ∧ cs.length ≤ i + 1 ∧ H2 q1 = some (.lst (ws'.map V.str))) := ⟨⟨cs, zs, _, _, rfl, S2, hzs2, tz2, ok, by omega, hq4⟩⟩
      have put : ∀ (pp : Addr) (n : Int), (1 ≤ n ∧ n ≤ 9) → H2 pp = none → Iv (∃ (cs : List (Str × Int)) (zs' : List V) (o3 o4 : Option V), [some (.int c), some (.ref sa), some (.ref z), some (.int (i : Int)), some (.str w')] = [some (.int c), some (.ref sa), some (.ref z), o3, o4] ∧ Same H (upd (upd H2 pp (.tup [.str w', .int n])) z (.lst (zs ++ [.ref pp]))) ∧ upd (upd H2 pp (.tup [.str w', .int n])) z (.lst (zs ++ [.ref pp])) z = some (.lst zs') ∧ TVs K (upd (upd H2 pp (.tup [.str w', .int n])) z (.lst (zs ++ [.ref pp]))) zs' (cs.map cD) ∧ (∀ c ∈ cs, Wc c) ∧ cs.length ≤ i + 1 ∧ upd (upd H2 pp (.tup [.str w', .int n])) z (.lst (zs ++ [.ref pp])) q1 = some (.lst (ws'.map V.str))) := fun pp n hn hpp => by
        have npz : pp ≠ z := Ne.symm (ne_of_none hzs2 hpp)
        have SP := same_new hpp (H := H2) (.tup [.str w', .int n])
        have st := (SameT.refl (upd H2 pp (.tup [.str w', .int n]))).lst (SP _ _ hzs2) (.lst (zs ++ [.ref pp]))
        refine ⟨⟨cs ++ [(w', n)], _, _, _, rfl, (S2.trans SP).upd hz _, upd_same, ?_, fun x hx => ?_, by rw [List.length_append]; show _ + 1 ≤ _; omega, by rw [upd_ne (Ne.symm nzq)]; exact SP _ _ hq4⟩⟩
        · rw [List.map_append]
          exact ((tz2.mono SP.t).mono st).append (.cons (.tup (xs := [.str w', .int n]) (by rw [upd_ne npz]; exact upd_same) (.cons (.str _) (.cons (.int _) .nil))) .nil)
        · rcases List.mem_append.mp hx with hx | hx
          · exact ok x hx
          · rw [List.mem_singleton.mp hx]; exact ⟨ww, hn⟩
      have lz3 : zs.length < 1000 := by omega
      walk_at "rd"
      rename_i v1 hv1 hv2
      refine ite3 (fun e1 => ?_) (fun e1 => ?_)
      · walk_at "rd"
        refine ⟨cd _, ?_⟩
        walk_at "rd"
        rename_i pp hpp
        exact put pp _ ⟨by omega, by omega⟩ hpp
      · walk_at "rd"
        refine ite3 (fun e2 => ?_) (fun e2 => ?_)
        · walk_at "rd"
          refine ite3 (fun e3 => ?_) (fun e3 => ?_)
          · walk_at "rd"
            refine ⟨cd _, ?_⟩
            walk_at "rd"
            rename_i pp hpp
            exact put pp _ ⟨by omega, by omega⟩ hpp
          · walk_at "rd"
            exact skip
        · walk_at "rd"
          exact skip
    · rintro σ' H' ⟨⟨cs, zs, o3, o4, rfl, S, hzs, tz, ok, lc, hq3⟩⟩
      walk_at "rd"
      exact q _ z cs S hz ⟨zs, hzs, tz⟩ ok (by omega)

theorem ok_law_question (T : Tx K mg) : FnOk P w K mg base (CXe P w) 1 T.f_law_question T.d_law_question ["_law_cell_here", "_law_words_here", "_law_scale"] sp_question4 := by
  have sc := sc_law_question
  refine T.F_law_question.okx sc (fun vs H Q E h => ?_) (fun cdv A outer s H vs Q E hr h => ?_)
  · obtain ⟨c, sc, sa, ws, rfl, hsc, hsa, l4, hw, q⟩ := h
    rfl
  obtain ⟨c, sc, sa, ws, rfl, hsc, hsa, l4, hw, q⟩ := h
  have hu := hr.units0
  have hu2 := hr.units
  have hu1 := Nat.lt_of_le_of_lt (Nat.add_le_add_left (show 1 ≤ 64 by decide) _) hu2
  refine ⟨_, (@pss_cons _ _ _ _ _ (@ps_if _ _ _ _ _ _ _ _ (@pt_cmpR _ _ _ _ _ _ _ _ op_eqI (@pe_op _ _ _ _ _ _ _ _ op_mod (pv 0) pe_int) pe_int (nomark _)) (@pss_one _ _ _ (@ps_ret _ _ _ _ (pe_tup (pa_cons pe_str (pa_cons pe_int (pa_cons (@pe_ix _ _ _ _ _ _ _ ix_list (pv 1) (@pe_op _ _ _ _ _ _ _ _ op_mod (@pe_op _ _ _ _ _ _ _ _ op_fdivB (pv 0) pe_int) pe_int) (fun _ _ => rfl)) pa_nil)) se_c)))) pss_nil)
      (@pss_one _ _ _ (@ps_ret _ _ _ _ (pe_tup (pa_cons pe_str (pa_cons pe_int (pa_cons (@pe_op _ _ _ _ _ _ _ _ op_mulB (@pe_op _ _ _ _ _ _ _ _ op_sub (@pe_op _ _ _ _ _ _ _ _ op_mod (@pe_op _ _ _ _ _ _ _ _ op_fdivB (pv 0) pe_int) pe_int) pe_int) (pv 2)) pa_nil)) se_c))))), ?_⟩
  walk_at "kx"
  have wl : (ws.map V.str).length = ws.length := List.length_map _
  have zs : Bz 100 sc := by
    show sc.natAbs < 2 ^ 100
    have : (10000000000000000000000000 : Nat) < 2 ^ 100 := by decide
    rcases hsc with rfl | rfl <;> omega
  have zq : Bz 10 (c / 3 % 37 - 6) := by
    show (c / 3 % 37 - 6).natAbs < 2 ^ 10
    omega
  walk_at "rd"
  refine ite3 (fun e => ?_) (fun e => ?_)
  · walk_at "rd"
    rename_i p hp
    refine q _ p ⟨"is", 1, .inr (ws.getD (c / 3 % 3).toNat Str.empty)⟩ (same_new hp _) upd_same (.inr ⟨rfl, rfl, _, rfl, hw _ (getD_mem (Str.empty : Str) (by omega))⟩)
  · walk_at "rd"
    rename_i p hp
    refine q _ p ⟨"most", 0, .inl ((c / 3 % 37 - 6) * sc)⟩ (same_new hp _) upd_same (.inl ⟨rfl, rfl, _, rfl⟩)

theorem ok_law_pile (T : Tx K mg) : FnOk P w K mg base (CXe P w) 3 T.f_law_pile T.d_law_pile ["_law_cells", "_law_words_here", "_law_scale"] (sp_pile K) := by
  have sc := sc_law_pile
  refine T.F_law_pile.okx sc (fun vs H Q E h => ?_) (fun cdv A outer s H vs Q E hr h => ?_)
  · obtain ⟨ce, sa, ns, ws, sl, rfl, hce, l16, hsc, hsa, l4, hw, q⟩ := h
    rfl
  obtain ⟨ce, sa, ns, ws, sl, rfl, hce, l16, hsc, hsa, l4, hw, q⟩ := h
  have hu := hr.units0
  have hu2 := hr.units
  have hu1 := Nat.lt_of_le_of_lt (Nat.add_le_add_left (show 1 ≤ 64 by decide) _) hu2
  refine ⟨_, (@pss_cons _ _ _ _ _ (@ps_set _ _ 3 _ _ _ _ sc.nd rfl (by first | exact Or.inl rfl | exact Or.inr rfl) (@pe_lst _ _ _ _ pa_nil) (by rfl) (by first | exact .inl rfl | exact .inr rfl | assumption))
      (@pss_cons _ _ _ _ _ (@ps_mid _ _ _ (ps_for powx rfl (pi_list (pv 0)) (pg_name (i := 4) sc.nd rfl (by first | exact Or.inl rfl | exact Or.inr rfl))
      (@pss_cons _ _ _ _ _ (@ps_mid _ _ _ (@ps_set _ _ 5 _ _ _ _ sc.nd rfl (by first | exact Or.inl rfl | exact Or.inr rfl) (pe_call (ok_law_counted T) (hr.mono (by decide)) rfl T.m_law_counted T.F_law_counted.kp T.b_law_counted .nil (pass_e fun _ _ z => z) (pa_cons (pe_call (ok_law_next T) (hr.mono (by decide)) rfl T.m_law_next T.F_law_next.kp T.b_law_next .nil (pass_e fun _ _ z => z) (pa_cons (pv 4) (pa_cons pe_int pa_nil))) (pa_cons (pv 1) pa_nil))) (by rfl) (by first | exact .inl rfl | exact .inr rfl | assumption)))
      (@pss_one _ _ _ (@ps_if _ _ _ _ _ _ _ _ (PW.pt (pw_or (@pt_cmpR _ _ _ _ _ _ _ _ op_lt (@pe_op _ _ _ _ _ _ _ _ op_mod (pv 4) pe_int) pe_int (nomark _)) (pw_or1 (@pt_cmpR _ _ _ _ _ _ _ _ op_lt (pe_callB call_len_seq rfl T.z_len bt_len (pa_cons (pv 3) pa_nil)) pe_int (nomark _))))) (@pss_one _ _ _ (ps_expr (pe_bm PySem.F.plainAttrs_list PySem.F.slot_list_append PySem.F.type_list_append mt_append (pv 3) (pa_cons (pe_tup (pa_cons (pv 5) (pa_cons pe_non pa_nil))) pa_nil)))) (@pss_one _ _ _ (@ps_set _ _ 3 _ _ _ _ sc.nd rfl (by first | exact Or.inl rfl | exact Or.inr rfl) (@pe_op _ _ _ _ _ _ _ _ op_cat (pe_slice sl_list (pv 3) po_none (po_some (pe_un un_neg pe_int))) (@pe_lst _ _ _ _ (pa_cons (pe_tup (pa_cons (pv 5) (pa_cons (pe_call (ok_law_question T) (hr.mono (by decide)) rfl T.m_law_question T.F_law_question.kp T.b_law_question .nil (pass_e fun _ _ z => z) (pa_cons (@pe_op _ _ _ _ _ _ _ _ op_fdivB (pv 4) pe_int) (pa_cons (pv 1) (pa_cons (pv 2) pa_nil)))) (pa_cons (@pe_ix _ _ _ _ _ _ _ ix_list (pv 3) (pe_un un_neg pe_int) (fun _ _ => rfl)) (pa_cons (@pe_ix _ _ _ _ _ _ _ ix_list (pv 3) (pe_un un_neg pe_int) (fun _ _ => rfl)) pa_nil))))) pa_nil))) (by rfl) (by first | exact .inl rfl | exact .inr rfl | assumption))))))))
      (@pss_cons _ _ _ _ _ (@ps_mid _ _ _ (@ps_if _ _ _ _ _ _ _ _ (@pt_cmpR _ _ _ _ _ _ _ _ op_eqI (pe_callB call_len_seq rfl T.z_len bt_len (pa_cons (pv 3) pa_nil)) pe_int (nomark _)) (@pss_one _ _ _ (ps_expr (pe_bm PySem.F.plainAttrs_list PySem.F.slot_list_append PySem.F.type_list_append mt_append (pv 3) (pa_cons (pe_tup (pa_cons (@pe_lst _ _ _ _ (pa_cons (pe_tup (pa_cons (@pe_ix _ _ _ _ _ _ _ ix_list (pv 1) pe_int (fun _ _ => rfl)) (pa_cons pe_int pa_nil))) pa_nil)) (pa_cons pe_non pa_nil))) pa_nil)))) pss_nil))
      (@pss_cons _ _ _ _ _ (ps_while powx (@pt_cmpR _ _ _ _ _ _ _ _ op_gt (pe_callB call_len_seq rfl T.z_len bt_len (pa_cons (pv 3) pa_nil)) pe_int (nomark _)) (@pss_one _ _ _ (@ps_set _ _ 3 _ _ _ _ sc.nd rfl (by first | exact Or.inl rfl | exact Or.inr rfl) (@pe_op _ _ _ _ _ _ _ _ op_cat (pe_slice sl_list (pv 3) po_none (po_some (pe_un un_neg pe_int))) (@pe_lst _ _ _ _ (pa_cons (pe_tup (pa_cons (@pe_lst _ _ _ _ pa_nil) (pa_cons (pe_tup (pa_cons pe_str (pa_cons pe_int (pa_cons (@pe_op _ _ _ _ _ _ _ _ op_mulB (pe_callB call_len_seq rfl T.z_len bt_len (pa_cons (pv 3) pa_nil)) (pv 2)) pa_nil)) se_c)) (pa_cons (@pe_ix _ _ _ _ _ _ _ ix_list (pv 3) (pe_un un_neg pe_int) (fun _ _ => rfl)) (pa_cons (@pe_ix _ _ _ _ _ _ _ ix_list (pv 3) (pe_un un_neg pe_int) (fun _ _ => rfl)) pa_nil))))) pa_nil))) (by rfl) (by first | exact .inl rfl | exact .inr rfl | assumption))))
      (@pss_one _ _ _ (@ps_ret _ _ _ _ (@pe_ix _ _ _ _ _ _ _ ix_list (pv 3) pe_int (fun _ _ => rfl)))))))), ?_⟩
  walk_at "kx"
  have nl : (ns.map V.int).length = ns.length := List.length_map _
  have wl : (ws.map V.str).length = ws.length := List.length_map _
  have zs : Bz 100 sl := by
    show sl.natAbs < 2 ^ 100
    have : (10000000000000000000000000 : Nat) < 2 ^ 100 := by decide
    rcases hsc with rfl | rfl <;> omega
  walk_at "rd"
  rename_i z0 hz0
  refine ⟨fun σ' H1 => Iv (∃ (z : Addr) (xs : List V) (ts : List NT) (o4 o5 : Option V), σ' = [some (.ref ce), some (.ref sa), some (.int sl), some (.ref z), o4, o5] ∧ Pil K H H1 z xs ts ∧ szs ts ≤ 16), ?_, ?_⟩
  · walk_at "rd"
    refine for_list (K := K) (a := ce) (xs := ns.map V.int) (fun i σ H' => Iv (∃ (z : Addr) (xs : List V) (ts : List NT) (o4 o5 : Option V), σ = [some (.ref ce), some (.ref sa), some (.int sl), some (.ref z), o4, o5] ∧ Pil K H H' z xs ts ∧ szs ts ≤ i)) ⟨⟨z0, [], [], _, _, rfl, ⟨same_new hz0 _, hz0, upd_same, .nil, (fun t ht => by cases ht)⟩, Nat.le_refl _⟩⟩ (fun i σ H' _ y => by obtain ⟨_, _, _, _, _, _, p, _⟩ := y.o; exact SqL.of (p.s _ _ hce)) ?_ ?_
    · rintro i v σ H' hi ⟨⟨z, xs, ts, o4, o5, rfl, pl, ls⟩⟩
      have il := (List.getElem?_eq_some_iff.mp hi).1
      rw [List.getElem?_map] at hi
      obtain ⟨n, hn, rfl⟩ := Option.map_eq_some_iff.mp hi
      have hsa' := pl.s _ _ hsa
      have hzx := pl.h
      have lx := pl.len
      have l2 := szs_len ts
      walk_at "rd"
      refine ⟨fun σ' H1 => Iv (∃ (tl : Addr) (cs : List (Str × Int)), σ' = [some (.ref ce), some (.ref sa), some (.int sl), some (.ref z), some (.int n), some (.ref tl)] ∧ Same H' H1 ∧ H' tl = none ∧ Cn K H1 tl cs ∧ (∀ c ∈ cs, Wc c) ∧ cs.length ≤ 60), ?_, ?_⟩
      · walk_at "rd"
        rename_i H1 tl cs S1 htl cn wc lc
        exact ⟨⟨tl, cs, rfl, S1, htl, cn, wc, lc⟩⟩
      rintro σ' H1 ⟨⟨tl, cs, rfl, S1, htl, cn, wc, lc⟩⟩
      have hsa1 := S1 _ _ hsa'
      have hz1 := S1 _ _ hzx
      have ntz : tl ≠ z := Ne.symm (ne_of_none hzx htl)
      have lx3 : xs.length < 1000 := by omega
      have put : ∀ pp, H1 pp = none → Iv (∃ (z' : Addr) (xs' : List V) (ts : List NT) (o4 o5 : Option V), [some (.ref ce), some (.ref sa), some (.int sl), some (.ref z), some (.int n), some (.ref tl)] = [some (.ref ce), some (.ref sa), some (.int sl), some (.ref z'), o4, o5] ∧ Pil K H (upd (upd H1 pp (.tup [.ref tl, .non])) z (.lst (xs ++ [.ref pp]))) z' xs' ts ∧ szs ts ≤ i + 1) := fun pp hpp => by
        have SP := same_new hpp (H := H1) (.tup [.ref tl, .non])
        have npz : pp ≠ z := Ne.symm (ne_of_none hz1 hpp)
        refine ⟨⟨z, _, ts ++ [.lf cs], _, _, rfl, pl.put (S1.trans SP) (.lf (del_at upd_same npz) ((cn.same SP).del (SP _ _ hz1) ntz)) (.lf wc lc), ?_⟩⟩
        rw [szs_snoc]
        show szs ts + 1 ≤ i + 1
        omega
      walk_at "rd"
      refine ite3 (fun e1 => ?_) (fun e1 => ?_)
      · walk_at "rd"
        rename_i pp hpp
        exact put pp hpp
      · walk_at "rd"
        refine ite3 (fun e2 => ?_) (fun e2 => ?_)
        · walk_at "rd"
          rename_i pp hpp
          exact put pp hpp
        · obtain ⟨ys, us, v1, v2, t1, t2, ex, et, tt, d1, d2⟩ := pl.t.two (by omega)
          have a1 : atI xs (-1) = some v2 := by rw [ex]; exact atI_last _ _
          have a2 : atI xs (-2) = some v1 := by rw [ex]; exact at_m2 ys v1 v2
          have ec : cutV xs none (some (-2)) = ys := by rw [ex]; exact cut_m2 ys v1 v2
          have lys : ys.length + 2 = xs.length := by rw [ex]; simp
          walk_at "rd"
          rename_i l1 hl1 H3 qa qq S3 hqa qw pp hpp lp hlp
          rw [ec]
          refine ⟨by show ys.length + 1 ≤ sizeLine; exact szB (by omega), fun z2 hz2 => ?_⟩
          have S13 := (same_new hl1 (H := H1) (.lst (cutV xs none (some (-2))))).trans S3
          have SP := (same_new hpp (H := H3) (.tup [.ref tl, .ref qa, v1, v2])).new hlp (.lst [.ref pp])
          have SA := S1.trans (S13.trans SP)
          have wt : ∀ t, t = t1 ∨ t = t2 → Wg t := fun t ht => pl.w t (by
            rw [et]
            rcases ht with rfl | rfl
            · exact List.mem_append_left _ (List.mem_append_right _ (List.mem_singleton.mpr rfl))
            · exact List.mem_append_right _ (List.mem_singleton.mpr rfl))
          have es : szs ts = szs us + t1.sz + t2.sz := by rw [et, szs_snoc, szs_snoc]
          refine ⟨⟨z2, _, us ++ [.fk cs qq t1 t2], _, _, rfl, pl.join ex et tt SA hz2 (.fk (kp upd_same hlp) ((cn.same S13).same SP) (SP _ _ hqa) ((d1.same (del_same _ _)).same SA) ((d2.same (del_same _ _)).same SA)) (.fk wc lc qw (wt t1 (.inl rfl)) (wt t2 (.inr rfl))), ?_⟩⟩
          rw [szs_snoc]
          show szs us + (1 + t1.sz + t2.sz) ≤ i + 1
          omega
    · rintro σ H' ⟨⟨z, xs, ts, o4, o5, rfl, pl, ls⟩⟩
      exact ⟨⟨z, xs, ts, _, _, rfl, pl, by omega⟩⟩
  rintro σ' H1 ⟨⟨z, xs, ts, o4, o5, rfl, pl, ls⟩⟩
  have hzx := pl.h
  have lx := pl.len
  have l2 := szs_len ts
  have hsa1 := pl.s _ _ hsa
  refine ⟨fun σ' H2 => Iv (∃ (z : Addr) (xs : List V) (ts : List NT), σ' = [some (.ref ce), some (.ref sa), some (.int sl), some (.ref z), o4, o5] ∧ Pil K H H2 z xs ts ∧ 1 ≤ ts.length ∧ szs ts ≤ 16), ?_, ?_⟩
  · walk_at "rd"
    refine ite3 (fun e => ?_) (fun e => ?_)
    · have ws0 := hw _ (getD_mem (Str.empty : Str) (show Int.toNat 0 < ws.length by show 0 < ws.length; omega))
      obtain rfl : ts = [] := List.length_eq_zero_iff.mp (by omega)
      obtain rfl : xs = [] := List.length_eq_zero_iff.mp (by omega)
      walk_at "rd"
      rename_i p1 hp1 l1 hl1 p2 hp2
      have SA := ((same_new hp1 (H := H1) (.tup [.str (ws.getD (Int.toNat 0) Str.empty), .int 1])).new hl1 (.lst [.ref p1])).new hp2 (.tup [.ref l1, .non])
      have hzA := SA _ _ hzx
      have n2 : p2 ≠ z := fun e => by rw [e] at hp2; have := ((same_new hp1 (H := H1) (.tup [.str (ws.getD (Int.toNat 0) Str.empty), .int 1])).new hl1 (.lst [.ref p1])) _ _ hzx; rw [this] at hp2; cases hp2
      have n1 : l1 ≠ z := fun e => by rw [e] at hl1; have := (same_new hp1 (H := H1) (.tup [.str (ws.getD (Int.toNat 0) Str.empty), .int 1])) _ _ hzx; rw [this] at hl1; cases hl1
      have wl1 : Wg (.lf [(ws.getD (Int.toNat 0) Str.empty, (1 : Int))]) := .lf (fun c hc => by rw [List.mem_singleton.mp hc]; exact ⟨ws0, by show 1 ≤ (1 : Int); decide, by show (1 : Int) ≤ 9; decide⟩) (show 1 ≤ 60 by decide)
      have cn1 : Cn K (upd (upd (upd H1 p1 (.tup [.str (ws.getD (Int.toNat 0) Str.empty), .int 1])) l1 (.lst [.ref p1])) p2 (.tup [.ref l1, .non])) l1 [(ws.getD (Int.toNat 0) Str.empty, (1 : Int))] := ⟨[.ref p1], kp upd_same hp2, .cons (.tup (xs := [.str (ws.getD (Int.toNat 0) Str.empty), .int 1]) (kp (kp upd_same hl1) hp2) (.cons (.str _) (.cons (.int _) .nil))) .nil⟩
      have pp1 := pl.put SA (.lf (del_at upd_same n2) (cn1.del hzA n1)) wl1
      exact ⟨⟨z, _, _, rfl, pp1, (show 1 ≤ 1 by decide), (show 1 ≤ 16 by decide)⟩⟩
    · walk_at "rd"
      exact ⟨⟨z, xs, ts, rfl, pl, by omega, ls⟩⟩
  clear pl hzx lx l2 hsa1 ls
  rintro σ' H2 ⟨⟨z, xs, ts, rfl, pl, l1, ls⟩⟩
  have l2 := szs_len ts
  refine while_by (fun σ' H' => Iv (∃ (z : Addr) (xs : List V) (ts : List NT), σ' = [some (.ref ce), some (.ref sa), some (.int sl), some (.ref z), o4, o5] ∧ Pil K H H' z xs ts ∧ 1 ≤ ts.length ∧ szs ts + ts.length ≤ 32))
    (fun σ H => match σ with | [_, _, _, some (.ref z), _, _] => (lsX H z).length | _ => 0) ⟨⟨z, xs, ts, rfl, pl, l1, by omega⟩⟩ ?_ ?_
  · clear pl l1 ls l2
    rintro σ' H' ⟨⟨z, xs, ts, rfl, pl, l1, ls⟩⟩
    have hzx := pl.h
    have lx := pl.len
    have zl : Bz 10 ((xs.length : Nat) : Int) := by
      show ((xs.length : Nat) : Int).natAbs < 2 ^ 10
      omega
    walk_at "rd"
    refine ite3 (fun c2 => ?_) (fun c2 => ?_)
    · obtain ⟨ys, us, v1, v2, t1, t2, ex, et, tt, d1, d2⟩ := pl.t.two (by omega)
      have a1 : atI xs (-1) = some v2 := by rw [ex]; exact atI_last _ _
      have a2 : atI xs (-2) = some v1 := by rw [ex]; exact at_m2 ys v1 v2
      have ec : cutV xs none (some (-2)) = ys := by rw [ex]; exact cut_m2 ys v1 v2
      have lys : ys.length + 2 = xs.length := by rw [ex]; simp
      have wt : ∀ t, t = t1 ∨ t = t2 → Wg t := fun t ht => pl.w t (by
        rw [et]
        rcases ht with rfl | rfl
        · exact List.mem_append_left _ (List.mem_append_right _ (List.mem_singleton.mpr rfl))
        · exact List.mem_append_right _ (List.mem_singleton.mpr rfl))
      have es : szs ts = szs us + t1.sz + t2.sz := by rw [et, szs_snoc, szs_snoc]
      have lu : us.length + 2 = ts.length := by rw [et]; simp
      walk_at "rd"
      rename_i la hla le hle qa hqa pp hpp lp hlp
      rw [ec] at hle hqa hpp hlp ⊢
      refine ⟨by show ys.length + 1 ≤ sizeLine; exact szB (by omega), fun z2 hz2 => ?_⟩
      have SA := ((((same_new hla (H := H') (.lst ys)).new hle (.lst [])).new hqa (.tup [.str "most", .int 0, .int ((xs.length : Nat) * sl)])).new hpp (.tup [.ref le, .ref qa, v1, v2])).new hlp (.lst [.ref pp])
      have wf := wf_nil2 (sc := sl) (k := xs.length) hsc (by omega) (wt t1 (.inl rfl)) (wt t2 (.inr rfl))
      have pj := pl.join ex et tt SA hz2 (.fk (kp upd_same hlp) ⟨[], kp (kp (kp upd_same hqa) hpp) hlp, .nil⟩ (kp (kp upd_same hpp) hlp) ((d1.same (del_same _ _)).same SA) ((d2.same (del_same _ _)).same SA)) wf
      refine ⟨⟨z2, _, _, rfl, pj, by rw [List.length_append]; show 1 ≤ _ + 1; omega, ?_⟩, ?_⟩
      · rw [szs_snoc, List.length_append]
        show szs us + (1 + t1.sz + t2.sz) + (us.length + 1) ≤ 32
        omega
      · show (lsX _ z2).length < (lsX H' z).length
        rw [lsX_at upd_same, lsX_at hzx, List.length_append]
        show ys.length + 1 < xs.length
        omega
    · obtain ⟨ys, us, v, tt, ex, et, ty, dv⟩ := pl.t.last (by omega)
      have ly : ys = [] := List.length_eq_zero_iff.mp (by rw [ex, List.length_append] at lx c2; have : [v].length = 1 := rfl; have := ty.length; rw [et, List.length_append] at lx; have : [tt].length = 1 := rfl; omega)
      subst ly
      obtain rfl : us = [] := List.length_eq_zero_iff.mp ty.length.symm
      have a0 : atI xs 0 = some v := by rw [ex]; rfl
      have es : szs ts = tt.sz := by rw [et]; rfl
      walk_at "rd"
      exact q _ v tt pl.s (dv.same (del_same _ _)) (pl.w tt (by rw [et]; exact List.mem_append_right _ (List.mem_singleton.mpr rfl))) (by omega)
  · rintro σ' H' Q1 Q2 hq ⟨v, e, p, ys, ev, hs, i, j, ei, ej, k, ek, y⟩
    exact ⟨v, e, p, ys, ev, hs, i, j, ei, ej, k, ek, hq _ _ y⟩

theorem ok_law_node0 (T : Tx K mg) : FnOk P w K mg base (CXe P w) (0 + 4) T.f_law_node T.d_law_node ["_law_tree"] (sp_node T.c_Leaf T.c_Fork K 0) := by
  have sc := sc_law_node
  refine T.F_law_node.okx sc (fun vs H Q E h => ?_) (fun cdv A outer s H vs Q E hr h => ?_)
  · obtain ⟨v, t, rfl, td, dd, q⟩ := h
    rfl
  obtain ⟨v, t, rfl, td, dd, q⟩ := h
  have hu := hr.units0
  have hu2 := hr.units
  have hu1 := Nat.lt_of_le_of_lt (Nat.add_le_add_left (show 1 ≤ 64 by decide) _) hu2
  refine ⟨_, (@pss_cons _ _ _ _ _ (@ps_if _ _ _ _ _ _ _ _ (@pt_cmpR _ _ _ _ _ _ _ _ op_isN (@pe_ix _ _ _ _ _ _ _ ix_tup (pv 0) pe_int (fun _ _ => rfl)) pe_non (nomark _)) (@pss_one _ _ _ (@ps_ret _ _ _ _ (pe_make T.M_Leaf (ok_Node___init__ T) (hr.mono (by decide)) rfl T.m_Leaf T.b_Node___init__ .nil (pass_e fun _ _ z => z) (pa_cons (pe_callTy call_list_of rfl T.z_list bt_list (pa_cons (@pe_ix _ _ _ _ _ _ _ ix_tup (pv 0) pe_int (fun _ _ => rfl)) pa_nil)) pa_nil)))) pss_nil)
      (@pss_one _ _ _ ps_never)), ?_⟩
  walk_at "kx"
  have C1 := T.C_Leaf
  have C2 := T.C_Fork
  have N0 : NoAttr K T.c_Leaf "counted" := T.nLc
  have N1 : NoAttr K T.c_Fork "counted" := T.nFcd
  have N2 : NoAttr K T.c_Fork "question" := T.nFqn
  have N3 : NoAttr K T.c_Fork "yes" := T.nFys
  have N4 : NoAttr K T.c_Fork "no" := T.nFno
  have N5 : NoAttr K T.c_Fork "leaf_count" := T.nFlt
  have N6 : NoAttr K T.c_Fork "depth" := T.nFdh
  cases t with
  | lf cs =>
    cases td with
    | lf h1 cn =>
      obtain ⟨xs, hl, tl⟩ := id cn
      walk_at "rd"
      rename_i l1 hl1 x dx hx hdx ndx
      have hx0 := (upd_none hx).2
      have hx' : upd (upd H l1 (.lst xs)) dx (.own x) x = none := by rw [upd_ne (Ne.symm ndx)]; exact hx
      refine ⟨.inl rfl, kp (kp upd_same hdx) hx', fun l hl2 => ?_⟩
      have nlx : l ≠ x := Ne.symm (ne_of_none upd_same hl2)
      have S := ((((same_new hl1 (H := H) (.lst xs)).new hdx (.own x)).new hx' (.ins T.c_Leaf dx [])).new hl2 (.lst xs)).upd hx0 (.ins T.c_Leaf dx [("counted", .ref l)])
      exact ⟨rfl, q _ _ S (.lf upd_same ⟨xs, by rw [upd_ne nlx]; exact upd_same, tl.mono S.t⟩)⟩
  | fk cs qq y n => exact absurd dd (by show ¬ 1 + max y.dp n.dp ≤ 0; omega)

theorem ok_law_nodeS (T : Tx K mg) (d : Nat) (ih : FnOk P w K mg base (CXe P w) (d + 4) T.f_law_node T.d_law_node ["_law_tree"] (sp_node T.c_Leaf T.c_Fork K d)) : FnOk P w K mg base (CXe P w) (d + 1 + 4) T.f_law_node T.d_law_node ["_law_tree"] (sp_node T.c_Leaf T.c_Fork K (d + 1)) := by
  have sc := sc_law_node
  refine T.F_law_node.okx sc (fun vs H Q E h => ?_) (fun cdv A outer s H vs Q E hr h => ?_)
  · obtain ⟨v, t, rfl, td, dd, q⟩ := h
    rfl
  obtain ⟨v, t, rfl, td, dd, q⟩ := h
  have hu := hr.units0
  have hu2 := hr.units
  have hu1 := Nat.lt_of_le_of_lt (Nat.add_le_add_left (show 1 ≤ 64 by decide) _) hu2
  refine ⟨_, (@pss_cons _ _ _ _ _ (@ps_if _ _ _ _ _ _ _ _ (@pt_cmpR _ _ _ _ _ _ _ _ op_isN (@pe_ix _ _ _ _ _ _ _ ix_tup (pv 0) pe_int (fun _ _ => rfl)) pe_non (nomark _)) (@pss_one _ _ _ (@ps_ret _ _ _ _ (pe_make T.M_Leaf (ok_Node___init__ T) (hr.mono (by omega)) rfl T.m_Leaf T.b_Node___init__ .nil (pass_e fun _ _ z => z) (pa_cons (pe_callTy call_list_of rfl T.z_list bt_list (pa_cons (@pe_ix _ _ _ _ _ _ _ ix_tup (pv 0) pe_int (fun _ _ => rfl)) pa_nil)) pa_nil)))) pss_nil)
      (@pss_one _ _ _ (@ps_ret _ _ _ _ (pe_make T.M_Fork (ok_Fork___init__ T) (hr.mono (by omega)) rfl T.m_Fork T.b_Fork___init__ .nil (pass_e fun _ _ z => z) (pa_cons (pe_callTy call_list_of rfl T.z_list bt_list (pa_cons (@pe_ix _ _ _ _ _ _ _ ix_tup (pv 0) pe_int (fun _ _ => rfl)) pa_nil)) (pa_cons (@pe_ix _ _ _ _ _ _ _ ix_tup (pv 0) pe_int (fun _ _ => rfl)) (pa_cons (pe_call ih (hr.mono (by omega)) rfl T.m_law_node T.F_law_node.kp T.b_law_node .nil (pass_e fun _ _ z => z) (pa_cons (@pe_ix _ _ _ _ _ _ _ ix_tup (pv 0) pe_int (fun _ _ => rfl)) pa_nil)) (pa_cons (pe_call ih (hr.mono (by omega)) rfl T.m_law_node T.F_law_node.kp T.b_law_node .nil (pass_e fun _ _ z => z) (pa_cons (@pe_ix _ _ _ _ _ _ _ ix_tup (pv 0) pe_int (fun _ _ => rfl)) pa_nil)) pa_nil)))))))), ?_⟩
  walk_at "kx"
  have C1 := T.C_Leaf
  have C2 := T.C_Fork
  have N0 : NoAttr K T.c_Leaf "counted" := T.nLc
  have N1 : NoAttr K T.c_Fork "counted" := T.nFcd
  have N2 : NoAttr K T.c_Fork "question" := T.nFqn
  have N3 : NoAttr K T.c_Fork "yes" := T.nFys
  have N4 : NoAttr K T.c_Fork "no" := T.nFno
  have N5 : NoAttr K T.c_Fork "leaf_count" := T.nFlt
  have N6 : NoAttr K T.c_Fork "depth" := T.nFdh
  cases t with
  | lf cs =>
    cases td with
    | lf h1 cn =>
      obtain ⟨xs, hl, tl⟩ := id cn
      walk_at "rd"
      rename_i l1 hl1 x dx hx hdx ndx
      have hx0 := (upd_none hx).2
      have hx' : upd (upd H l1 (.lst xs)) dx (.own x) x = none := by rw [upd_ne (Ne.symm ndx)]; exact hx
      refine ⟨.inl rfl, kp (kp upd_same hdx) hx', fun l hl2 => ?_⟩
      have nlx : l ≠ x := Ne.symm (ne_of_none upd_same hl2)
      have S := ((((same_new hl1 (H := H) (.lst xs)).new hdx (.own x)).new hx' (.ins T.c_Leaf dx [])).new hl2 (.lst xs)).upd hx0 (.ins T.c_Leaf dx [("counted", .ref l)])
      exact ⟨rfl, q _ _ S (.lf upd_same ⟨xs, by rw [upd_ne nlx]; exact upd_same, tl.mono S.t⟩)⟩
  | fk cs qq y n =>
    cases td with
    | @fk pp l qa _ _ v1 v2 _ _ h1 cn hq ty tn =>
      obtain ⟨xs, hl, tl⟩ := id cn
      have dy : y.dp ≤ d := by have : 1 + max y.dp n.dp ≤ d + 1 := dd; omega
      have dn : n.dp ≤ d := by have : 1 + max y.dp n.dp ≤ d + 1 := dd; omega
      walk_at "rd"
      rename_i l1 hl1
      have S1 := same_new hl1 (H := H) (.lst xs)
      refine ⟨ty.same S1, dy, fun H2 u1 S2 n1 => ?_⟩
      have S12 := S1.trans S2
      have h2 := S12 _ _ h1
      walk_at "rd"
      refine ⟨tn.same S12, dn, fun H3 u3 S3 n3 => ?_⟩
      walk_at "rd"
      rename_i x dx hx hdx ndx
      have S13 := S12.trans S3
      have hx' : upd H3 dx (.own x) x = none := by rw [upd_ne (Ne.symm ndx)]; exact hx
      have S4 := (same_new hdx (H := H3) (.own x)).new hx' (.ins T.c_Fork dx [])
      refine ⟨⟨xs, S4 _ _ (S3 _ _ (S2 _ _ upd_same)), (tl.mono S13.t).mono S4.t⟩, S4 _ _ (S13 _ _ hq), (n1.same S3).same S4, n3.same S4, fun H5 S5 n5 => ⟨rfl, q _ _ (fun b o e => S5 _ _ (ne_of_none (S13 _ _ e) hx) (S4 _ _ (S13 _ _ e))) n5⟩⟩

theorem ok_law_nodeA (T : Tx K mg) : ∀ d : Nat, FnOk P w K mg base (CXe P w) (d + 4) T.f_law_node T.d_law_node ["_law_tree"] (sp_node T.c_Leaf T.c_Fork K d) := by
  intro d
  induction d with
  | zero => exact ok_law_node0 T
  | succ d ih => exact ok_law_nodeS T d ih
theorem ok_law_node (T : Tx K mg) : FnOk P w K mg base (CXe P w) (32 + 4) T.f_law_node T.d_law_node ["_law_tree"] (sp_node T.c_Leaf T.c_Fork K 32) := by exact ok_law_nodeA T 32

theorem ok_law_drawn0 (T : Tx K mg) : FnOk P w K mg base (CXe P w) (0 + 2) T.f_law_drawn T.d_law_drawn ["_law_tree", "_law_place", "_law_cell_here"] (sp_drawn42 K 0) := by
  have sc := sc_law_drawn
  refine T.F_law_drawn.okx sc (fun vs H Q E h => ?_) (fun cdv A outer s H vs Q E hr h => ?_)
  · obtain ⟨v, t, q, c, rfl, td, dd, lv, lq, q'⟩ := h
    rfl
  obtain ⟨v, t, q, c, rfl, td, dd, lv, lq, q'⟩ := h
  have hu := hr.units0
  have hu2 := hr.units
  have hu1 := Nat.lt_of_le_of_lt (Nat.add_le_add_left (show 1 ≤ 64 by decide) _) hu2
  refine ⟨_, (@pss_cons _ _ _ _ _ (@ps_if _ _ _ _ _ _ _ _ (PW.pt (pw_or (@pt_cmpR _ _ _ _ _ _ _ _ op_isN (@pe_ix _ _ _ _ _ _ _ ix_tup (pv 0) pe_int (fun _ _ => rfl)) pe_non (nomark _)) (pw_or1 (@pt_cmpR _ _ _ _ _ _ _ _ op_eqI (@pe_op _ _ _ _ _ _ _ _ op_mod (pv 2) pe_int) pe_int (nomark _))))) (@pss_one _ _ _ (@ps_ret _ _ _ _ (@pe_lst _ _ _ _ (pa_cons (pv 1) pa_nil)))) pss_nil)
      (@pss_cons _ _ _ _ _ ps_never
      (@pss_one _ _ _ ps_never))), ?_⟩
  walk_at "kx"
  have lz : q.length ≤ sizeLine := szB (by omega)
  cases td with
  | @lf p l cs h1 cn =>
    walk_at "rd"
    rename_i z hz
    exact q' _ z [q] [] (same_new hz _) hz upd_same (.stop _ _)
  | @fk p l qa cs qq v1 v2 y n h1 cn hq ty tn => exact absurd dd (by show ¬ 1 + max y.dp n.dp ≤ 0; omega)

theorem ok_law_drawnS (T : Tx K mg) (d : Nat) (ih : FnOk P w K mg base (CXe P w) (d + 2) T.f_law_drawn T.d_law_drawn ["_law_tree", "_law_place", "_law_cell_here"] (sp_drawn42 K d)) : FnOk P w K mg base (CXe P w) (d + 1 + 2) T.f_law_drawn T.d_law_drawn ["_law_tree", "_law_place", "_law_cell_here"] (sp_drawn42 K (d + 1)) := by
  have sc := sc_law_drawn
  refine T.F_law_drawn.okx sc (fun vs H Q E h => ?_) (fun cdv A outer s H vs Q E hr h => ?_)
  · obtain ⟨v, t, q, c, rfl, td, dd, lv, lq, q'⟩ := h
    rfl
  obtain ⟨v, t, q, c, rfl, td, dd, lv, lq, q'⟩ := h
  have hu := hr.units0
  have hu2 := hr.units
  have hu1 := Nat.lt_of_le_of_lt (Nat.add_le_add_left (show 1 ≤ 64 by decide) _) hu2
  refine ⟨_, (@pss_cons _ _ _ _ _ (@ps_if _ _ _ _ _ _ _ _ (PW.pt (pw_or (@pt_cmpR _ _ _ _ _ _ _ _ op_isN (@pe_ix _ _ _ _ _ _ _ ix_tup (pv 0) pe_int (fun _ _ => rfl)) pe_non (nomark _)) (pw_or1 (@pt_cmpR _ _ _ _ _ _ _ _ op_eqI (@pe_op _ _ _ _ _ _ _ _ op_mod (pv 2) pe_int) pe_int (nomark _))))) (@pss_one _ _ _ (@ps_ret _ _ _ _ (@pe_lst _ _ _ _ (pa_cons (pv 1) pa_nil)))) pss_nil)
      (@pss_cons _ _ _ _ _ (@ps_set _ _ 3 _ _ _ _ sc.nd rfl (by first | exact Or.inl rfl | exact Or.inr rfl) (pe_call ih (hr.mono (by omega)) rfl T.m_law_drawn T.F_law_drawn.kp T.b_law_drawn .nil (pass_e fun _ _ z => z) (pa_cons (@pe_ix _ _ _ _ _ _ _ ix_tup (pv 0) pe_int (fun _ _ => rfl)) (pa_cons (@pe_op _ _ _ _ _ _ _ _ op_add_str (pv 1) pe_str) (pa_cons (pe_call (ok_law_next T) (hr.mono (by omega)) rfl T.m_law_next T.F_law_next.kp T.b_law_next .nil (pass_e fun _ _ z => z) (pa_cons (pv 2) (pa_cons pe_int pa_nil))) pa_nil)))) (by rfl) (by first | exact .inl rfl | exact .inr rfl | assumption))
      (@pss_one _ _ _ (@ps_ret _ _ _ _ (@pe_op _ _ _ _ _ _ _ _ op_cat (pv 3) (pe_call ih (hr.mono (by omega)) rfl T.m_law_drawn T.F_law_drawn.kp T.b_law_drawn .nil (pass_e fun _ _ z => z) (pa_cons (@pe_ix _ _ _ _ _ _ _ ix_tup (pv 0) pe_int (fun _ _ => rfl)) (pa_cons (@pe_op _ _ _ _ _ _ _ _ op_add_str (pv 1) pe_str) (pa_cons (pe_call (ok_law_next T) (hr.mono (by omega)) rfl T.m_law_next T.F_law_next.kp T.b_law_next .nil (pass_e fun _ _ z => z) (pa_cons (pv 2) (pa_cons pe_int pa_nil))) pa_nil))))))))), ?_⟩
  walk_at "kx"
  have lz : q.length ≤ sizeLine := szB (by omega)
  cases td with
  | @lf p l cs h1 cn =>
    walk_at "rd"
    rename_i z hz
    exact q' _ z [q] [] (same_new hz _) hz upd_same (.stop _ _)
  | @fk p l qa cs qq v1 v2 y n h1 cn hq ty tn =>
    have dy : y.dp ≤ d := by have : 1 + max y.dp n.dp ≤ d + 1 := dd; omega
    have dn : n.dp ≤ d := by have : 1 + max y.dp n.dp ≤ d + 1 := dd; omega
    have lyn : y.lv + n.lv ≤ 50 := lv
    have ly1 : ("y" : Str).length = 1 := by decide +kernel
    have ln1 : ("n" : Str).length = 1 := by decide +kernel
    have a3 : (q ++ "n" : Str).length + d ≤ 100 := by rw [lenA]; omega
    have a4 : (q ++ "y" : Str).length + d ≤ 100 := by rw [lenA]; omega
    have zn : q.length + ("n" : Str).length ≤ sizeLine := szB (by omega)
    have zy : q.length + ("y" : Str).length ≤ sizeLine := szB (by omega)
    walk_at "rd"
    refine ite3 (fun e => ?_) (fun e => ?_)
    · walk_at "rd"
      rename_i z hz
      exact q' _ z [q] [] (same_new hz _) hz upd_same (.stop _ _)
    · walk_at "rd"
      rename_i c1 hc1 hc2 H1 p1 ps2 gs2 S1 hp10 hp1 pi2 c2 hc3 hc4
      have h1' := S1 _ _ h1
      refine ⟨ty.same S1, dy, by omega, by rw [lenA]; omega, fun H2 p2 ps1 gs1 S2 hp20 hp2 pi1 => ?_⟩
      have hp12 := S2 _ _ hp1
      have l1 := pi1.len.1
      have l2 := pi2.len.1
      have m1 := y.tm_lv
      have m2 := n.tm_lv
      have lz2 : (ps2.map V.str).length + (ps1.map V.str).length ≤ 1000 := by rw [List.length_map, List.length_map]; omega
      walk_at "rd"
      rename_i z hz
      have S3 := same_new hz (H := H2) (.lst (ps2.map V.str ++ ps1.map V.str))
      refine q' _ z (ps2 ++ ps1) _ ((S1.trans S2).trans S3) ((S1.trans S2).free hz) (by rw [upd_same, List.map_append]) (.go pi1 pi2)

theorem ok_law_drawnA (T : Tx K mg) : ∀ d : Nat, FnOk P w K mg base (CXe P w) (d + 2) T.f_law_drawn T.d_law_drawn ["_law_tree", "_law_place", "_law_cell_here"] (sp_drawn42 K d) := by
  intro d
  induction d with
  | zero => exact ok_law_drawn0 T
  | succ d ih => exact ok_law_drawnS T d ih
theorem ok_law_drawn (T : Tx K mg) : FnOk P w K mg base (CXe P w) (20 + 2) T.f_law_drawn T.d_law_drawn ["_law_tree", "_law_place", "_law_cell_here"] (sp_drawn42 K 20) := by exact ok_law_drawnA T 20

theorem ok_law_yes (T : Tx K mg) : FnOk P w K mg base (CXe P w) 1 T.f_law_yes T.d_law_yes ["_law_question_here", "_law_values"] sp_says := by
  have sc := sc_law_yes
  refine T.F_law_yes.okx sc (fun vs H Q E h => ?_) (fun cdv A outer s H vs Q E hr h => ?_)
  · obtain ⟨qa, va, q, ks, rfl, hq, hv, ak, k⟩ := h
    rfl
  obtain ⟨qa, va, q, ks, rfl, hq, hv, ak, k⟩ := h
  have hu := hr.units0
  have hu2 := hr.units
  have hu1 := Nat.lt_of_le_of_lt (Nat.add_le_add_left (show 1 ≤ 64 by decide) _) hu2
  refine ⟨_, (@pss_cons _ _ _ _ _ (@ps_if _ _ _ _ _ _ _ _ (@pt_cmpR _ _ _ _ _ _ _ _ op_eqS (@pe_ix _ _ _ _ _ _ _ ix_tup (pv 0) pe_int (fun _ _ => rfl)) pe_str (nomark _)) (@pss_one _ _ _ (@ps_ret _ _ _ _ (pe_cmpR op_le (@pe_ix _ _ _ _ _ _ _ ix_tup (pv 1) (@pe_ix _ _ _ _ _ _ _ ix_tup (pv 0) pe_int (fun _ _ => rfl)) (fun _ _ => rfl)) (@pe_ix _ _ _ _ _ _ _ ix_tup (pv 0) pe_int (fun _ _ => rfl)) (nomark _)))) pss_nil)
      (@pss_one _ _ _ (@ps_ret _ _ _ _ (pe_cmpR op_eq (@pe_ix _ _ _ _ _ _ _ ix_tup (pv 1) (@pe_ix _ _ _ _ _ _ _ ix_tup (pv 0) pe_int (fun _ _ => rfl)) (fun _ _ => rfl)) (@pe_ix _ _ _ _ _ _ _ ix_tup (pv 0) pe_int (fun _ _ => rfl)) (nomark _))))), ?_⟩
  walk_at "kx"
  have hq : H qa = some (.tup [.str q.kd, .int q.at', kV q.c]) := hq
  rcases ak with ⟨e, v, n, e1, e2⟩ | ⟨e, v, w', e1, e2⟩
  · have ea : atI (ks.map kV) (q.at' : Int) = some (.int v) := atI_nat (by rw [List.getElem?_map, e1]; rfl)
    have es : say q ks = decide (v ≤ n) := by unfold say; rw [e1, e2]
    rw [e, e2] at hq
    rw [es] at k
    walk_at "rd"
    exact k
  · have ea : atI (ks.map kV) (q.at' : Int) = some (.str v) := atI_nat (by rw [List.getElem?_map, e1]; rfl)
    have es : say q ks = decide (v = w') := by unfold say; rw [e1, e2]
    rw [e, e2] at hq
    rw [es] at k
    walk_at "rd"
    show Q (V.bl (decide (V.str v = V.str w'))) H
    rw [str_eqV]
    exact k

theorem ok_law_due (T : Tx K mg) : FnOk P w K mg base (CXe P w) 2 T.f_law_due T.d_law_due ["_law_tree", "_law_places", "_law_values"] (sp_due42 K) := by
  have sc := sc_law_due
  refine T.F_law_due.okx sc (fun vs H Q E h => ?_) (fun cdv A outer s H vs Q E hr h => ?_)
  · obtain ⟨v, a, va, t, ps, gs, ks, rfl, td, ha, lp, dd, hv, ak, pi, q⟩ := h
    rfl
  obtain ⟨v, a, va, t, ps, gs, ks, rfl, td, ha, lp, dd, hv, ak, pi, q⟩ := h
  have hu := hr.units0
  have hu2 := hr.units
  have hu1 := Nat.lt_of_le_of_lt (Nat.add_le_add_left (show 1 ≤ 64 by decide) _) hu2
  refine ⟨_, (@pss_cons _ _ _ _ _ (@ps_set _ _ 3 _ _ _ _ sc.nd rfl (by first | exact Or.inl rfl | exact Or.inr rfl) pe_str (by rfl) (by first | exact .inl rfl | exact .inr rfl | assumption))
      (@pss_cons _ _ _ _ _ (ps_while powx (@pt_cmpR _ _ _ _ _ _ _ _ op_notIn_seq (pv 3) (pv 1) (by with_unfolding_all rfl)) (@pss_one _ _ _ (@ps_if _ _ _ _ _ _ _ _ (pt_val (pe_call (ok_law_yes T) (hr.mono (by decide)) rfl T.m_law_yes T.F_law_yes.kp T.b_law_yes .nil (pass_e fun _ _ z => z) (pa_cons (@pe_ix _ _ _ _ _ _ _ ix_tup (pv 0) pe_int (fun _ _ => rfl)) (pa_cons (pv 2) pa_nil)))) (@pss_cons _ _ _ _ _ (@ps_set _ _ 0 _ _ _ _ sc.nd rfl (by first | exact Or.inl rfl | exact Or.inr rfl) (@pe_ix _ _ _ _ _ _ _ ix_tup (pv 0) pe_int (fun _ _ => rfl)) (by rfl) (by first | exact .inl rfl | exact .inr rfl | assumption))
      (@pss_one _ _ _ (@ps_set _ _ 3 _ _ _ _ sc.nd rfl (by first | exact Or.inl rfl | exact Or.inr rfl) (@pe_op _ _ _ _ _ _ _ _ op_add_str (pv 3) pe_str) (by rfl) (by first | exact .inl rfl | exact .inr rfl | assumption)))) (@pss_cons _ _ _ _ _ (@ps_set _ _ 0 _ _ _ _ sc.nd rfl (by first | exact Or.inl rfl | exact Or.inr rfl) (@pe_ix _ _ _ _ _ _ _ ix_tup (pv 0) pe_int (fun _ _ => rfl)) (by rfl) (by first | exact .inl rfl | exact .inr rfl | assumption))
      (@pss_one _ _ _ (@ps_set _ _ 3 _ _ _ _ sc.nd rfl (by first | exact Or.inl rfl | exact Or.inr rfl) (@pe_op _ _ _ _ _ _ _ _ op_add_str (pv 3) pe_str) (by rfl) (by first | exact .inl rfl | exact .inr rfl | assumption)))))))
      (@pss_cons _ _ _ _ _ (@ps_set _ _ 4 _ _ _ _ sc.nd rfl (by first | exact Or.inl rfl | exact Or.inr rfl) pe_non (by rfl) (by first | exact .inl rfl | exact .inr rfl | assumption))
      (@pss_cons _ _ _ _ _ (@ps_set _ _ 5 _ _ _ _ sc.nd rfl (by first | exact Or.inl rfl | exact Or.inr rfl) pe_int (by rfl) (by first | exact .inl rfl | exact .inr rfl | assumption))
      (@pss_cons _ _ _ _ _ (ps_for powx rfl (pi_list (@pe_ix _ _ _ _ _ _ _ ix_tup (pv 0) pe_int (fun _ _ => rfl))) (pg_tup rfl (pgs_cons (pg_name (i := 6) sc.nd rfl (by first | exact Or.inl rfl | exact Or.inr rfl)) (pgs_cons (pg_name (i := 7) sc.nd rfl (by first | exact Or.inl rfl | exact Or.inr rfl)) pgs_nil)))
      (@pss_one _ _ _ (@ps_if _ _ _ _ _ _ _ _ (@pt_cmpR _ _ _ _ _ _ _ _ op_gt (pv 7) (pv 5) (nomark _)) (@pss_cons _ _ _ _ _ (@ps_set _ _ 4 _ _ _ _ sc.nd rfl (by first | exact Or.inl rfl | exact Or.inr rfl) (pv 6) (by rfl) (by first | exact .inl rfl | exact .inr rfl | assumption))
      (@pss_one _ _ _ (@ps_set _ _ 5 _ _ _ _ sc.nd rfl (by first | exact Or.inl rfl | exact Or.inr rfl) (pv 7) (by rfl) (by first | exact .inl rfl | exact .inr rfl | assumption)))) pss_nil)))
      (@pss_one _ _ _ (@ps_ret _ _ _ _ (pv 4)))))))), ?_⟩
  walk_at "kx"
  obtain ⟨p, r, w, hp, ep, hg, hpre, hb⟩ := pi_fall ks pi
  have ep : p = r := by rw [ep]; exact str_ext (by rw [cds_app]; rfl)
  subst ep
  have hb : bgs (t.fall ks) ps = [p] := by
    have e : ("" ++ t.fall ks : Str) = t.fall ks := str_ext (by rw [cds_app]; rfl)
    rw [e] at hb
    exact hb
  have lpp := pi.shortN p hp
  have dm := t.tm_dp
  have ly1 : ("y" : Str).length = 1 := by decide +kernel
  have ln1 : ("n" : Str).length = 1 := by decide +kernel
  have cy : cds ("y" : Str) = [121] := by decide +kernel
  have cn : cds ("n" : Str) = [110] := by decide +kernel
  walk_at "rd"
  refine while_by (fun σ H' => Iv (H' = H ∧ ∃ (u : V) (t' : NT) (pl re : Str), σ = [some u, some (.ref a), some (.ref va), some (.str pl), none, none, none, none] ∧ TD K H u t' ∧ Asks ks t' ∧ p = pl ++ re ∧ t'.go (cds re) = some w ∧ cds re <+: cds (t'.fall ks)))
    (fun σ _ => match σ with | [_, _, _, some (.str pl), _, _, _, _] => 100 - pl.length | _ => 0) ⟨⟨rfl, v, t, "", p, rfl, td, ak, str_ext (by rw [cds_app]; rfl), hg, hpre⟩⟩ ?_ ?_
  · rintro σ' H' ⟨⟨rfl, u, t', pl, re, rfl, td', ak', epl, hg', hpr'⟩⟩
    have lpl : pl.length + re.length = p.length := by rw [epl, lenA]
    have fl := flat_str ps
    have iv := inV_str (x := pl) (ws := ps)
    walk_at "rd"
    by_cases c : pl ∈ ps
    · have e1 : (if true = true then !inV (.str pl) (ps.map V.str) else inV (.str pl) (ps.map V.str)) = false := by rw [if_pos rfl, iv, decide_eq_true c]; rfl
      rw [e1]
      have e2 : pl = p := by
        have : pl ∈ bgs (t.fall ks) ps := mem_bgs.mpr ⟨c, by
          refine List.IsPrefix.trans ?_ hpre
          rw [epl, cds_app]
          exact List.prefix_append _ _⟩
        rw [hb] at this
        exact List.mem_singleton.mp this
      have e3 : cds re = [] := by
        have : (cds re).length = 0 := by rw [cds_len]; have := congrArg Str.length e2; omega
        exact List.length_eq_zero_iff.mp this
      rw [e3] at hg'
      have e4 : t' = w := Option.some.inj (by rw [← hg']; cases t' <;> rfl)
      subst e4
      obtain ⟨pp, l, r, rfl, hpp, ⟨xs, hl, ht⟩⟩ := td'.hd
      have a0 := at_0h (x := .ref l) (r := r)
      have hlen : xs.length = t'.ct.length := by have := ht.length; rw [List.length_map] at this; exact this
      have qq := q H' p t' (Same.refl _) hb hg
      generalize t'.ct = cs at ht hlen qq
      walk_at "rd"
      refine for_list (K := K) (a := l) (xs := xs) (fun i σ H2 => Iv (H2 = H' ∧ ∃ o1 o2, σ = [some (.ref pp), some (.ref a), some (.ref va), some (.str pl), some ((cs.take i).foldl cmS (.non, 0)).1, some (.int ((cs.take i).foldl cmS (.non, 0)).2), o1, o2])) ⟨⟨rfl, _, _, rfl⟩⟩ (fun i σ H' _ z => by rw [z.o.1]; exact SqL.of hl) ?_ ?_
      · rintro i x σ H2 hi ⟨⟨rfl, o1, o2, rfl⟩⟩
        have il := (List.getElem?_eq_some_iff.mp hi).1
        obtain ⟨d, hd, tv⟩ := ht.get hi
        rw [List.getElem?_map] at hd
        obtain ⟨c, hc, rfl⟩ := Option.map_eq_some_iff.mp hd
        obtain ⟨p2, u, v, rfl, hp2, t1, t2⟩ := tv.pair
        obtain rfl := t1.strs
        obtain rfl := t2.ints
        walk_at "rd"
        have e : (cs.take (i + 1)).foldl cmS (.non, 0) = cmS ((cs.take i).foldl cmS (.non, 0)) c := by rw [List.take_add_one, hc, List.foldl_append]; rfl
        rw [e]
        refine ite3 (fun h => ?_) (fun h => ?_)
        · rw [cmS_t h]
          walk_at "rd"
          exact ⟨⟨rfl, _, _, rfl⟩⟩
        · rw [cmS_f h]
          walk_at "rd"
          exact ⟨⟨rfl, _, _, rfl⟩⟩
      · rintro σ H2 ⟨⟨rfl, o1, o2, rfl⟩⟩
        walk_at "rd"
        rw [hlen, List.take_length]
        exact qq
    · have e1 : (if true = true then !inV (.str pl) (ps.map V.str) else inV (.str pl) (ps.map V.str)) = true := by rw [if_pos rfl, iv, decide_eq_false c]; rfl
      rw [e1]
      have ne : cds re ≠ [] := fun z => c (by
        have : p = pl := by rw [epl]; exact str_ext (by rw [cds_app, z, List.append_nil])
        rw [← this]; exact hp)
      obtain ⟨x, xs, ex⟩ := List.exists_cons_of_ne_nil ne
      have lre : re.length = xs.length + 1 := by rw [← cds_len, ex]; rfl
      rw [ex] at hg' hpr'
      obtain ⟨r2, er2⟩ := str_of xs
      cases td' with
      | lf h1 cn' => cases hg'
      | @fk pp l qa cs qq v1 v2 y n h1 cn' hq ty tn =>
        cases ak' with
        | fk aq ay an =>
          have zn : pl.length + ("n" : Str).length ≤ sizeLine := szB (by omega)
          have zy : pl.length + ("y" : Str).length ≤ sizeLine := szB (by omega)
          walk_at "rd"
          refine iteB (fun e => ?_) (fun e => ?_)
          · obtain ⟨rfl, f1, f2⟩ := fall_y e hpr' hg'
            walk_at "rd"
            refine ⟨⟨rfl, v1, y, _, r2, rfl, ty, ay, ?_, by rw [er2]; exact f2, by rw [er2]; exact f1⟩, ?_⟩
            · rw [epl]; exact str_ext (by rw [cds_app, cds_app, cds_app, ex, er2, cy, List.append_assoc]; rfl)
            · show 100 - (pl ++ "y").length < 100 - pl.length
              rw [lenA]; omega
          · obtain ⟨rfl, f1, f2⟩ := fall_n e hpr' hg'
            walk_at "rd"
            refine ⟨⟨rfl, v2, n, _, r2, rfl, tn, an, ?_, by rw [er2]; exact f2, by rw [er2]; exact f1⟩, ?_⟩
            · rw [epl]; exact str_ext (by rw [cds_app, cds_app, cds_app, ex, er2, cn, List.append_assoc]; rfl)
            · show 100 - (pl ++ "n").length < 100 - pl.length
              rw [lenA]; omega
  · rintro σ H1 Q1 Q2 hq z
    obtain ⟨x, e, y, f, p, xs, ey, hs, f1, f2, k, hk, z⟩ := z
    exact ⟨x, e, y, f, p, xs, ey, hs, f1, f2, k, hk, hq _ _ z⟩

theorem ok_law_refused (T : Tx K mg) : FnOk P w K mg base (CXe P w) 39 T.f_law_refused T.d_law_refused ["_law_node_here", "_law_places", "_law_values"] (sp_ref42 T.c_Leaf T.c_Fork K) := by
  have sc := sc_law_refused
  refine T.F_law_refused.okx sc (fun vs H Q E h => ?_) (fun cdv A outer s H vs Q E hr h => ?_)
  · obtain ⟨v, a, va, t, ps, ks, rfl, nd, nz, lv, ha, lp, pa, hv, ak, e, q⟩ := h
    rfl
  obtain ⟨v, a, va, t, ps, ks, rfl, nd, nz, lv, ha, lp, pa, hv, ak, e, q⟩ := h
  have hu := hr.units0
  have hu2 := hr.units
  have hu1 := Nat.lt_of_le_of_lt (Nat.add_le_add_left (show 1 ≤ 64 by decide) _) hu2
  refine ⟨_, (@pss_cons _ _ _ _ _ (ps_try (pex_call (ok_answer T) (hr.mono (by decide)) rfl T.m_answer T.F_answer.kp T.b_answer .nil (pa_cons (pv 0) (pa_cons (pv 1) (pa_cons (pv 2) pa_nil)))) rfl rfl rfl T.m_NoPruning (fun _ => (@pss_one _ _ _ (@ps_ret _ _ _ _ pe_bl))))
      (@pss_one _ _ _ (@ps_ret _ _ _ _ pe_bl))), ?_⟩
  walk_at "kx"
  have t4 := T.t4
  have i1 := T.i_NoPruning
  walk_at "rd"
  refine .inr ⟨e, fun H1 S1 => ?_⟩
  walk_at "rd"
  exact q _ (by walk_at "sm")

theorem ok_law_by_base (T : Tx K mg) : FnOk P w K mg base (CXe P w) 39 T.f_law_by_base T.d_law_by_base ["_law_node_here", "_law_places", "_law_values"] (sp_ref42 T.c_Leaf T.c_Fork K) := by
  have sc := sc_law_by_base
  refine T.F_law_by_base.okx sc (fun vs H Q E h => ?_) (fun cdv A outer s H vs Q E hr h => ?_)
  · obtain ⟨v, a, va, t, ps, ks, rfl, nd, nz, lv, ha, lp, pa, hv, ak, e, q⟩ := h
    rfl
  obtain ⟨v, a, va, t, ps, ks, rfl, nd, nz, lv, ha, lp, pa, hv, ak, e, q⟩ := h
  have hu := hr.units0
  have hu2 := hr.units
  have hu1 := Nat.lt_of_le_of_lt (Nat.add_le_add_left (show 1 ≤ 64 by decide) _) hu2
  refine ⟨_, (@pss_cons _ _ _ _ _ (ps_tryAs (pex_call (ok_answer T) (hr.mono (by decide)) rfl T.m_answer T.F_answer.kp T.b_answer .nil (pa_cons (pv 0) (pa_cons (pv 1) (pa_cons (pv 2) pa_nil)))) rfl rfl rfl T.m_PruneError sc.nd (i := 3) rfl rfl (fun _ => (@pss_one _ _ _ (@ps_ret _ _ _ _ (pe_callB call_isiE rfl T.z_isinstance bt_isinstance (pa_cons (pv 3) (pa_cons (pe_bltn (v := .ty "ValueError") rfl T.z_ValueError bt_ValueError rfl) pa_nil)))))))
      (@pss_one _ _ _ (@ps_ret _ _ _ _ pe_bl))), ?_⟩
  walk_at "kx"
  have t1 := T.t1
  have i1 := T.i_NoPruning
  have t3 := isiTy T.t3
  walk_at "rd"
  refine .inr ⟨e, fun H1 S1 => ?_⟩
  walk_at "rd"
  exact q _ (by walk_at "sm")

theorem ok_law_wrong (T : Tx K mg) : FnOk P w K mg base (CXe P w) 1 T.f_law_wrong T.d_law_wrong ["_law_places", "_law_cell_here"] sp_wrong42 := by
  have sc := sc_law_wrong
  refine T.F_law_wrong.okx sc (fun vs H Q E h => ?_) (fun cdv A outer s H vs Q E hr h => ?_)
  · obtain ⟨a, c, t, ps, gs, rfl, ha, pi, lv, q⟩ := h
    rfl
  obtain ⟨a, c, t, ps, gs, rfl, ha, pi, lv, q⟩ := h
  have hu := hr.units0
  have hu2 := hr.units
  have hu1 := Nat.lt_of_le_of_lt (Nat.add_le_add_left (show 1 ≤ 64 by decide) _) hu2
  refine ⟨_, (@pss_cons _ _ _ _ _ (@ps_mid _ _ _ (@ps_set _ _ 2 _ _ _ _ sc.nd rfl (by first | exact Or.inl rfl | exact Or.inr rfl) (@pe_op _ _ _ _ _ _ _ _ op_mod (pv 1) (pe_callB call_len_seq rfl T.z_len bt_len (pa_cons (pv 0) pa_nil))) (by rfl) (by first | exact .inl rfl | exact .inr rfl | assumption)))
      (@pss_cons _ _ _ _ _ (@ps_mid _ _ _ (@ps_set _ _ 3 _ _ _ _ sc.nd rfl (by first | exact Or.inl rfl | exact Or.inr rfl) (@pe_lst _ _ _ _ (pa_cons (@pe_op _ _ _ _ _ _ _ _ op_cat (pv 0) (@pe_lst _ _ _ _ (pa_cons (@pe_ix _ _ _ _ _ _ _ ix_list (pv 0) (pv 2) (fun _ _ => rfl)) pa_nil))) (pa_cons (@pe_op _ _ _ _ _ _ _ _ op_cat (pe_slice sl_list (pv 0) po_none (po_some (pv 2))) (pe_slice sl_list (pv 0) (po_some (@pe_op _ _ _ _ _ _ _ _ op_add (pv 2) pe_int)) po_none)) (pa_cons (pe_callB call_sortedS rfl T.z_sorted bt_sorted (pa_cons (@pe_op _ _ _ _ _ _ _ _ op_cat (pv 0) (@pe_lst _ _ _ _ (pa_cons (@pe_op _ _ _ _ _ _ _ _ op_add_str (@pe_ix _ _ _ _ _ _ _ ix_list (pv 0) (pv 2) (fun _ _ => rfl)) pe_str) pa_nil))) pa_nil)) pa_nil)))) (by rfl) (by first | exact .inl rfl | exact .inr rfl | assumption)))
      (@pss_cons _ _ _ _ _ (@ps_mid _ _ _ (@ps_set _ _ 3 _ _ _ _ sc.nd rfl (by first | exact Or.inl rfl | exact Or.inr rfl) (@pe_op _ _ _ _ _ _ _ _ op_cat (pv 3) (@pe_lst _ _ _ _ (pa_cons (pe_callB call_sortedS rfl T.z_sorted bt_sorted (pa_cons (@pe_op _ _ _ _ _ _ _ _ op_cat (pv 0) (@pe_lst _ _ _ _ (pa_cons (@pe_op _ _ _ _ _ _ _ _ op_add_str (@pe_ix _ _ _ _ _ _ _ ix_list (pv 0) (pv 2) (fun _ _ => rfl)) pe_str) pa_nil))) pa_nil)) (pa_cons (@pe_lst _ _ _ _ pa_nil) (pa_cons (@pe_lst _ _ _ _ (pa_cons pe_str pa_nil se_c)) pa_nil))))) (by rfl) (by first | exact .inl rfl | exact .inr rfl | assumption)))
      (@pss_cons _ _ _ _ _ (@ps_if _ _ _ _ _ _ _ _ (@pt_cmpR _ _ _ _ _ _ _ _ op_gt (pe_callB call_len_seq rfl T.z_len bt_len (pa_cons (pv 0) pa_nil)) pe_int (nomark _)) (@pss_one _ _ _ (ps_expr (pe_bm PySem.F.plainAttrs_list PySem.F.slot_list_append PySem.F.type_list_append mt_append (pv 3) (pa_cons (@pe_op _ _ _ _ _ _ _ _ op_cat (@pe_lst _ _ _ _ (pa_cons pe_str pa_nil se_c)) (pv 0)) pa_nil)))) pss_nil)
      (@pss_one _ _ _ (@ps_ret _ _ _ _ (pv 3))))))), ?_⟩
  walk_at "kx"
  have pl := pi.len
  have pas := pi.ascN
  have psh := pi.shortN
  have tdl := t.dp_lt
  have ml : (ps.map V.str).length = ps.length := List.length_map _
  have lz0 : ((ps.map V.str).length : Int) = (ps.length : Int) := by rw [ml]
  have ax : Asc ("x" : Str) := ascW _ (by decide +kernel)
  have lx : ("x" : Str).length = 1 := by decide +kernel
  have cx : cds ("x" : Str) = [120] := by decide +kernel
  refine ⟨fun σ' H' => Iv (H' = H ∧ ∃ i : Nat, i < ps.length ∧ σ' = [some (.ref a), some (.int c), some (.int (i : Int)), none]), ?_, ?_⟩
  · walk_at "rd"
    refine ⟨⟨rfl, (c % (ps.length : Int)).toNat, ?_, ?_⟩⟩
    · have := Int.emod_lt_of_pos c (show 0 < (ps.length : Int) by omega)
      have := Int.emod_nonneg c (show (ps.length : Int) ≠ 0 by omega)
      omega
    · have := Int.emod_nonneg c (show (ps.length : Int) ≠ 0 by omega)
      rw [Int.toNat_of_nonneg this, ← ml]
      rfl
  rintro σ' H' ⟨⟨rfl, i, hi, rfl⟩⟩
  obtain ⟨A, B, x, ep, la, ai, c1, c2⟩ := cut_del hi
  have hx : x ∈ ps := by rw [ep]; exact List.mem_append_right _ List.mem_cons_self
  have lpx := psh x hx
  have lab : A.length + B.length + 1 = ps.length := by rw [ep]; simp; omega
  refine ⟨fun σ' H1 => Iv (∃ (z : Addr) (xs : List V) (rs : List (List Str)), σ' = [some (.ref a), some (.int c), some (.int (i : Int)), some (.ref z)] ∧ Same H' H1 ∧ H' z = none ∧ H1 z = some (.lst xs) ∧ LVs H1 xs rs ∧ rs.length = 3 ∧ ∀ r ∈ rs, Wr t r), ?_, ?_⟩
  · walk_at "rd"
    rename_i p1 hp1
    refine ⟨szB (by rw [ml]; show _ + 1 ≤ _; omega), fun p2 hp2 => ?_⟩
    have S2 := (same_new hp1 (H := H') (.lst [.str x])).new hp2 (.lst (ps.map V.str ++ [.str x]))
    have k2 := upd_same (H := upd H' p1 (.lst [.str x])) (a := p2) (o := .lst (ps.map V.str ++ [.str x]))
    generalize upd (upd H' p1 (.lst [.str x])) p2 (.lst (ps.map V.str ++ [.str x])) = H2 at S2 k2 ⊢
    have ha2 := S2 _ _ ha
    walk_at "rd"
    rename_i p3 hp3 p4 hp4
    rw [c1] at hp4
    rw [c1, c2]
    refine ⟨szB (by rw [List.length_map, List.length_map]; omega), fun p5 hp5 => ?_⟩
    have S5 := S2.trans (((same_new hp3 (H := H2) (.lst (A.map V.str))).new hp4 (.lst (B.map V.str))).new hp5 (.lst (A.map V.str ++ B.map V.str)))
    have k2 := kp (u := .lst (A.map V.str ++ B.map V.str)) (kp (u := .lst (B.map V.str)) (kp (u := .lst (A.map V.str)) k2 hp3) hp4) hp5
    have k5 := upd_same (H := upd (upd H2 p3 (.lst (A.map V.str))) p4 (.lst (B.map V.str))) (a := p5) (o := .lst (A.map V.str ++ B.map V.str))
    generalize upd (upd (upd H2 p3 (.lst (A.map V.str))) p4 (.lst (B.map V.str))) p5 (.lst (A.map V.str ++ B.map V.str)) = H5 at S5 k2 k5 ⊢
    have ha5 := S5 _ _ ha
    clear hp3 hp4 hp5 ha c1 c2 ha2 S2
    have zx : x.length + ("x" : Str).length ≤ sizeLine := szB (by omega)
    walk_at "rd"
    rename_i p6 hp6
    refine ⟨szB (by rw [ml]; show _ + 1 ≤ _; omega), fun p7 hp7 => ?_⟩
    refine ⟨p7, ps ++ [x ++ Str.ofString "x"], rfl, SqL.of (by rw [List.map_append]; exact upd_same), (by rw [List.length_append]; show _ + 1 < 64; omega), fun p8 ws' hp8 pm so => ?_⟩
    have S8 := (((same_new hp6 (H := H5) (.lst [.str (x ++ "x")])).new hp7 (.lst (ps.map V.str ++ [.str (x ++ "x")]))).new hp8 (.lst (ws'.map V.str)))
    have k8 := upd_same (H := upd (upd H5 p6 (.lst [.str (x ++ "x")])) p7 (.lst (ps.map V.str ++ [.str (x ++ "x")]))) (a := p8) (o := .lst (ws'.map V.str))
    generalize upd (upd (upd H5 p6 (.lst [.str (x ++ "x")])) p7 (.lst (ps.map V.str ++ [.str (x ++ "x")]))) p8 (.lst (ws'.map V.str)) = H8 at S8 k8 ⊢
    have k2 := S8 _ _ k2
    have k5 := S8 _ _ k5
    have S58 := S5.trans S8
    clear ha5 hp6 hp7 hp8 S5 S8
    walk_at "rd"
    rename_i p9 hp9
    have S9 := same_new hp9 (H := H8) (.lst [.ref p2, .ref p5, .ref p8])
    refine ⟨⟨p9, [.ref p2, .ref p5, .ref p8], [ps ++ [x], A ++ B, ws'], rfl, S58.trans S9, S58.free hp9, upd_same, .cons (by rw [List.map_append]; exact S9 _ _ k2) (.cons (by rw [List.map_append]; exact S9 _ _ k5) (.cons (S9 _ _ k8) .nil)), rfl, fun r hr => ?_⟩⟩
    rcases List.mem_cons.mp hr with rfl | hr
    · refine ⟨by rw [List.length_append]; show _ + 1 < 64; omega, fun y hy => ?_, worse1 hx⟩
      rcases List.mem_append.mp hy with hy | hy
      · exact pas y hy
      · rw [List.mem_singleton.mp hy]; exact pas x hx
    rcases List.mem_cons.mp hr with rfl | hr
    · refine ⟨by rw [List.length_append]; omega, fun y hy => pas y (by rw [ep]; rcases List.mem_append.mp hy with hy | hy; exact List.mem_append_left _ hy; exact List.mem_append_right _ (List.mem_cons_of_mem _ hy)), worse_del pi ep⟩
    rw [List.mem_singleton.mp hr]
    refine ⟨by rw [pm.length_eq, List.length_append]; show _ + 1 < 64; omega, fun y hy => ?_, worse_sign (x := x ++ "x") (c := 120) (pm.mem_iff.mpr (List.mem_append_right _ (List.mem_singleton.mpr rfl))) (by rw [cds_app, cx]; exact List.mem_append_right _ (List.mem_singleton.mpr rfl)) (by decide) (by decide)⟩
    rcases List.mem_append.mp (pm.mem_iff.mp hy) with hy | hy
    · exact pas y hy
    · rw [List.mem_singleton.mp hy]; exact (pas x hx).app ax
  rintro σ' H1 ⟨⟨z, xs, rs, rfl, S1, hz0, hz, lvs, l3, wr⟩⟩
  clear c1 c2 cx
  have ha1 := S1 _ _ ha
  have lxs : xs.length = 3 := by rw [lvs.len, l3]
  clear ha
  refine ⟨fun σ' H2 => Iv (∃ (z : Addr) (xs : List V) (rs : List (List Str)), σ' = [some (.ref a), some (.int c), some (.int (i : Int)), some (.ref z)] ∧ Same H1 H2 ∧ H1 z = none ∧ H2 z = some (.lst xs) ∧ LVs (del H2 z) xs rs ∧ rs.length = 6 ∧ ∀ r ∈ rs, Wr t r), ?_, ?_⟩
  · have ly : ("yyyyyyyyyyyyyyyyyyyyy" : Str).length = 21 := by decide +kernel
    have ay : Asc ("yyyyyyyyyyyyyyyyyyyyy" : Str) := ascW _ (by decide +kernel)
    have zy : x.length + ("yyyyyyyyyyyyyyyyyyyyy" : Str).length ≤ sizeLine := szB (by omega)
    generalize ("yyyyyyyyyyyyyyyyyyyyy" : Str) = yy at ly ay zy ⊢
    walk_at "rd"
    rename_i p1 hp1
    refine ⟨szB (by rw [ml]; show _ + 1 ≤ _; omega), fun p2 hp2 => ?_⟩
    refine ⟨p2, ps ++ [x ++ yy], rfl, SqL.of (by rw [List.map_append]; exact upd_same), (by rw [List.length_append]; show _ + 1 < 64; omega), fun p3 ws' hp3 pm so => ?_⟩
    have S3 := (((same_new hp1 (H := H1) (.lst [.str (x ++ yy)])).new hp2 (.lst (ps.map V.str ++ [.str (x ++ yy)]))).new hp3 (.lst (ws'.map V.str)))
    have k3 := upd_same (H := upd (upd H1 p1 (.lst [.str (x ++ yy)])) p2 (.lst (ps.map V.str ++ [.str (x ++ yy)]))) (a := p3) (o := .lst (ws'.map V.str))
    generalize upd (upd (upd H1 p1 (.lst [.str (x ++ yy)])) p2 (.lst (ps.map V.str ++ [.str (x ++ yy)]))) p3 (.lst (ws'.map V.str)) = H3 at S3 k3 ⊢
    have hz3 := S3 _ _ hz
    have lv3 := lvs.same S3
    clear hp1 hp2 hp3 ha1
    walk_at "rd"
    rename_i p4 hp4 p5 hp5 p6 hp6
    have S6 := ((same_new hp4 (H := H3) (.lst [])).new hp5 (.lst [.str "x"])).new hp6 (.lst [.ref p3, .ref p4, .ref p5])
    refine ⟨szB (by rw [lxs]; show 3 + 3 ≤ 1000000; decide), fun p7 hp7 => ?_⟩
    have S7 := S6.new hp7 (.lst (xs ++ [.ref p3, .ref p4, .ref p5]))
    have S37 := S3.trans S7
    have g4 : LVs (upd (upd (upd H3 p4 (.lst [])) p5 (.lst [.str "x"])) p6 (.lst [.ref p3, .ref p4, .ref p5])) (xs ++ [.ref p3] ++ [.ref p4] ++ [.ref p5]) (rs ++ [ws'] ++ [[]] ++ [[Str.ofString "x"]]) := (((lv3.same S6).snoc (S6 _ _ k3)).snoc (ps := []) (kp (kp upd_same hp5) hp6)).snoc (ps := [Str.ofString "x"]) (kp upd_same hp6)
    have lA : xs ++ [.ref p3, .ref p4, .ref p5] = xs ++ [.ref p3] ++ [.ref p4] ++ [.ref p5] := by simp
    refine ⟨⟨p7, _, rs ++ [ws'] ++ [[]] ++ [[Str.ofString "x"]], rfl, S37, (S3.trans S6).free hp7, upd_same, by rw [lA]; exact g4.same (fun b o h => del_at (same_new hp7 _ _ _ h) (ne_of_none h hp7)), by simp [l3], fun r hr => ?_⟩⟩
    rcases List.mem_append.mp hr with hr | hr
    · rcases List.mem_append.mp hr with hr | hr
      · rcases List.mem_append.mp hr with hr | hr
        · exact wr r hr
        · rw [List.mem_singleton.mp hr]
          refine ⟨by rw [pm.length_eq, List.length_append]; show _ + 1 < 64; omega, fun y hy => ?_, worse_long (x := x ++ yy) (pm.mem_iff.mpr (List.mem_append_right _ (List.mem_singleton.mpr rfl))) (by rw [lenA]; omega)⟩
          rcases List.mem_append.mp (pm.mem_iff.mp hy) with hy | hy
          · exact pas y hy
          · rw [List.mem_singleton.mp hy]; exact (pas x hx).app ay
      · rw [List.mem_singleton.mp hr]
        exact ⟨by decide, (fun y hy => by cases hy), isP_no (nil_isP t)⟩
    · rw [List.mem_singleton.mp hr]
      exact ⟨by decide, (fun y hy => by rw [List.mem_singleton.mp hy]; exact ax), worse_sign (x := Str.ofString "x") (c := 120) (List.mem_singleton.mpr rfl) (by decide +kernel) (by decide) (by decide)⟩
  clear hz lvs l3 wr lxs
  rintro σ' H2 ⟨⟨z, xs, rs, rfl, S2, hz2, hz, lvs, l6, wr⟩⟩
  have S02 := S1.trans S2
  have ha2 := S2 _ _ ha1
  have hz00 : H' z = none := S1.free hz2
  have lxs : xs.length = 6 := by rw [lvs.len, l6]
  have lvs' := lvs.same (del_same _ _)
  walk_at "rd"
  refine ite3 (fun e => ?_) (fun e => ?_)
  · walk_at "rd"
    rename_i p1 hp1
    refine ⟨szB (by rw [ml]; show 1 + _ ≤ _; omega), fun p2 hp2 => ?_⟩
    have S3 := (same_new hp1 (H := H2) (.lst [.str ""])).new hp2 (.lst ([.str ""] ++ ps.map V.str))
    have k2 := upd_same (H := upd H2 p1 (.lst [.str ""])) (a := p2) (o := .lst ([.str ""] ++ ps.map V.str))
    have n2 : p2 ≠ z := Ne.symm (ne_of_none (kp (u := .lst [.str ""]) hz hp1) hp2)
    generalize upd (upd H2 p1 (.lst [.str ""])) p2 (.lst ([.str ""] ++ ps.map V.str)) = H3 at S3 k2 ⊢
    have hz3 := S3 _ _ hz
    have lz3 : xs.length < 1000 := by omega
    walk_at "rd"
    have lv3 := lvs.same (del_mono z S3)
    have SD : Same (del H3 z) (upd H3 z (.lst (xs ++ [.ref p2]))) := fun b o h => by rw [upd_ne (del_ne h)]; exact del_same _ _ _ _ h
    refine q _ z _ (rs ++ [Str.ofString "" :: ps]) (fun b o h => by rw [upd_ne (ne_of_none h hz00)]; exact S3 _ _ (S02 _ _ h)) hz00 upd_same ((lv3.same SD).snoc (by rw [upd_ne n2]; exact k2)) (by rw [List.length_append]; show _ + 1 ≤ 7; omega) fun r hr => ?_
    rcases List.mem_append.mp hr with hr | hr
    · exact wr r hr
    · rw [List.mem_singleton.mp hr]
      refine ⟨by rw [List.length_cons]; omega, fun y hy => ?_, worse_top pi⟩
      rcases List.mem_cons.mp hy with rfl | hy
      · intro c hc; cases hc
      · exact pas y hy
  · walk_at "rd"
    exact q _ z xs rs S02 hz00 hz lvs' (by omega) wr

theorem ok_law (T : Tx K mg) : FnOk P w K mg base (CXe P w) 40 T.f_law T.d_law ["_law_script"] (sp_law K) := by
  have sc := sc_law
  refine T.F_law.okx sc (fun vs H Q E h => ?_) (fun cdv A outer s H vs Q E hr h => ?_)
  · obtain ⟨a, ns, rfl, hS, hl, q⟩ := h
    rfl
  obtain ⟨a, ns, rfl, hS, hl, q⟩ := h
  have hu := hr.units0
  have hu2 := hr.units
  have hu1 := Nat.lt_of_le_of_lt (Nat.add_le_add_left (show 1 ≤ 64 by decide) _) hu2
  refine ⟨_, (@pss_cons _ _ _ _ _ (@ps_mid _ _ _ (@ps_set _ _ 1 _ _ _ _ sc.nd rfl (by first | exact Or.inl rfl | exact Or.inr rfl) (pe_call (ok_law_words T) (hr.mono (by decide)) rfl T.m_law_words T.F_law_words.kp T.b_law_words .nil (pass_e fun _ _ z => z) (pa_cons (@pe_op _ _ _ _ _ _ _ _ op_mod (pe_call (ok_law_cell T) (hr.mono (by decide)) rfl T.m_law_cell T.F_law_cell.kp T.b_law_cell .nil (pass_e fun _ _ z => z) (pa_cons (pv 0) (pa_cons pe_int pa_nil))) (pe_fold (.int 1000000000000000000000000000000) (@pe_op _ _ _ _ _ _ _ _ op_pow pe_int pe_int) (by walk_at "cf"))) pa_nil)) (by rfl) (by first | exact .inl rfl | exact .inr rfl | assumption)))
      (@pss_cons _ _ _ _ _ (@ps_mid _ _ _ (@ps_set _ _ 2 _ _ _ _ sc.nd rfl (by first | exact Or.inl rfl | exact Or.inr rfl) (@pe_ix _ _ _ _ _ _ _ ix_list (@pe_lst _ _ _ _ (pa_cons pe_int (pa_cons pe_int (pa_cons pe_int (pa_cons (pe_fold (.int 10000000000000000000000000) (@pe_op _ _ _ _ _ _ _ _ op_pow pe_int pe_int) (by walk_at "cf")) pa_nil))))) (@pe_op _ _ _ _ _ _ _ _ op_mod (pe_call (ok_law_cell T) (hr.mono (by decide)) rfl T.m_law_cell T.F_law_cell.kp T.b_law_cell .nil (pass_e fun _ _ z => z) (pa_cons (pv 0) (pa_cons pe_int pa_nil))) pe_int) (fun _ _ => rfl)) (by rfl) (by first | exact .inl rfl | exact .inr rfl | assumption)))
      (@pss_cons _ _ _ _ _ (@ps_mid _ _ _ (@ps_set _ _ 3 _ _ _ _ sc.nd rfl (by first | exact Or.inl rfl | exact Or.inr rfl) (pe_call (ok_law_pile T) (hr.mono (by decide)) rfl T.m_law_pile T.F_law_pile.kp T.b_law_pile .nil (pass_e fun _ _ z => z) (pa_cons (pe_slice sl_list (pv 0) (po_some pe_int) (po_some pe_int)) (pa_cons (pv 1) (pa_cons (pv 2) pa_nil)))) (by rfl) (by first | exact .inl rfl | exact .inr rfl | assumption)))
      (@pss_cons _ _ _ _ _ (@ps_mid _ _ _ (@ps_set _ _ 4 _ _ _ _ sc.nd rfl (by first | exact Or.inl rfl | exact Or.inr rfl) (pe_call (ok_law_node T) (hr.mono (by decide)) rfl T.m_law_node T.F_law_node.kp T.b_law_node .nil (pass_e fun _ _ z => z) (pa_cons (pv 3) pa_nil)) (by rfl) (by first | exact .inl rfl | exact .inr rfl | assumption)))
      (@pss_cons _ _ _ _ _ (@ps_mid _ _ _ (@ps_set _ _ 5 _ _ _ _ sc.nd rfl (by first | exact Or.inl rfl | exact Or.inr rfl) (pe_call (ok_law_drawn T) (hr.mono (by decide)) rfl T.m_law_drawn T.F_law_drawn.kp T.b_law_drawn .nil (pass_e fun _ _ z => z) (pa_cons (pv 3) (pa_cons pe_str (pa_cons (pe_call (ok_law_next T) (hr.mono (by decide)) rfl T.m_law_next T.F_law_next.kp T.b_law_next .nil (pass_e fun _ _ z => z) (pa_cons (pe_call (ok_law_cell T) (hr.mono (by decide)) rfl T.m_law_cell T.F_law_cell.kp T.b_law_cell .nil (pass_e fun _ _ z => z) (pa_cons (pv 0) (pa_cons pe_int pa_nil))) (pa_cons pe_int pa_nil))) pa_nil) se_c))) (by rfl) (by first | exact .inl rfl | exact .inr rfl | assumption)))
      (@pss_cons _ _ _ _ _ (@ps_mid _ _ _ (ps_for powx rfl (pi_range1 rfl T.z_range (pa_cons pe_int pa_nil)) (pg_name (i := 6) sc.nd rfl (by first | exact Or.inl rfl | exact Or.inr rfl))
      (@pss_cons _ _ _ _ _ (@ps_set _ _ 7 _ _ _ _ sc.nd rfl (by first | exact Or.inl rfl | exact Or.inr rfl) (@pe_op _ _ _ _ _ _ _ _ op_fdivB (pe_call (ok_law_next T) (hr.mono (by decide)) rfl T.m_law_next T.F_law_next.kp T.b_law_next .nil (pass_e fun _ _ z => z) (pa_cons (pe_call (ok_law_cell T) (hr.mono (by decide)) rfl T.m_law_cell T.F_law_cell.kp T.b_law_cell .nil (pass_e fun _ _ z => z) (pa_cons (pv 0) (pa_cons pe_int pa_nil))) (pa_cons (@pe_op _ _ _ _ _ _ _ _ op_mod (pv 6) pe_int) pa_nil))) (@pe_op _ _ _ _ _ _ _ _ op_add (pv 6) pe_int)) (by rfl) (by first | exact .inl rfl | exact .inr rfl | assumption))
      (@pss_cons _ _ _ _ _ (@ps_mid _ _ _ (@ps_set _ _ 8 _ _ _ _ sc.nd rfl (by first | exact Or.inl rfl | exact Or.inr rfl) (pe_tup (pa_cons (@pe_op _ _ _ _ _ _ _ _ op_add (@pe_op _ _ _ _ _ _ _ _ op_mulB (@pe_op _ _ _ _ _ _ _ _ op_sub (@pe_op _ _ _ _ _ _ _ _ op_mod (pv 7) pe_int) pe_int) (pv 2)) (@pe_op _ _ _ _ _ _ _ _ op_mod (@pe_op _ _ _ _ _ _ _ _ op_fdivB (pv 7) pe_int) pe_int)) (pa_cons (@pe_ix _ _ _ _ _ _ _ ix_list (pv 1) (@pe_op _ _ _ _ _ _ _ _ op_mod (@pe_op _ _ _ _ _ _ _ _ op_fdivB (pv 7) pe_int) pe_int) (fun _ _ => rfl)) pa_nil))) (by rfl) (by first | exact .inl rfl | exact .inr rfl | assumption)))
      (@pss_cons _ _ _ _ _ (@ps_mid _ _ _ (@ps_set _ _ 9 _ _ _ _ sc.nd rfl (by first | exact Or.inl rfl | exact Or.inr rfl) (pe_callTy call_list_of rfl T.z_list bt_list (pa_cons (pv 5) pa_nil)) (by rfl) (by first | exact .inl rfl | exact .inr rfl | assumption)))
      (@pss_cons _ _ _ _ _ (@ps_mid _ _ _ (@ps_set _ _ 10 _ _ _ _ sc.nd rfl (by first | exact Or.inl rfl | exact Or.inr rfl) (pe_call (ok_answer T) (hr.mono (by decide)) rfl T.m_answer T.F_answer.kp T.b_answer .nil (pass_e fun _ _ z => z) (pa_cons (pv 4) (pa_cons (pv 9) (pa_cons (pv 8) pa_nil)))) (by rfl) (by first | exact .inl rfl | exact .inr rfl | assumption)))
      (@pss_cons _ _ _ _ _ (@ps_mid _ _ _ (@ps_set _ _ 11 _ _ _ _ sc.nd rfl (by first | exact Or.inl rfl | exact Or.inr rfl) (pe_call (ok_law_due T) (hr.mono (by decide)) rfl T.m_law_due T.F_law_due.kp T.b_law_due .nil (pass_e fun _ _ z => z) (pa_cons (pv 3) (pa_cons (pv 5) (pa_cons (pv 8) pa_nil)))) (by rfl) (by first | exact .inl rfl | exact .inr rfl | assumption)))
      (@pss_cons _ _ _ _ _ (@ps_if _ _ _ _ _ _ _ _ (PW.pt (pw_or (@pt_cmpR _ _ _ _ _ _ _ _ op_ne (pv 10) (pv 11) (nomark _)) (pw_or1 (@pt_cmpR _ _ _ _ _ _ _ _ op_neB (pe_callB call_isi rfl T.z_isinstance bt_isinstance (pa_cons (pv 10) (pa_cons (pe_bltn (v := .ty "str") rfl T.z_str bt_str rfl) pa_nil))) (pe_callB call_isi rfl T.z_isinstance bt_isinstance (pa_cons (pv 11) (pa_cons (pe_bltn (v := .ty "str") rfl T.z_str bt_str rfl) pa_nil))) (nomark _))))) (@pss_one _ _ _ (@ps_ret _ _ _ _ pe_bl)) pss_nil)
      (@pss_one _ _ _ (@ps_if _ _ _ _ _ _ _ _ (@pt_cmpR _ _ _ _ _ _ _ _ (op_neD hu2) (pv 9) (pv 5) (nomark _)) (@pss_one _ _ _ (@ps_ret _ _ _ _ pe_bl)) pss_nil))))))))))
      (@pss_cons _ _ _ _ _ (@ps_mid _ _ _ (ps_for powx rfl (pi_list (pe_call (ok_law_wrong T) (hr.mono (by decide)) rfl T.m_law_wrong T.F_law_wrong.kp T.b_law_wrong .nil (pass_e fun _ _ z => z) (pa_cons (pv 5) (pa_cons (pe_call (ok_law_cell T) (hr.mono (by decide)) rfl T.m_law_cell T.F_law_cell.kp T.b_law_cell .nil (pass_e fun _ _ z => z) (pa_cons (pv 0) (pa_cons pe_int pa_nil))) pa_nil)))) (pg_name (i := 12) sc.nd rfl (by first | exact Or.inl rfl | exact Or.inr rfl))
      (@pss_one _ _ _ (@ps_if _ _ _ _ _ _ _ _ (PW.pt (pw_or (pt_not (pt_val (pe_call (ok_law_refused T) (hr.mono (by decide)) rfl T.m_law_refused T.F_law_refused.kp T.b_law_refused .nil (pass_e fun _ _ z => z) (pa_cons (pv 4) (pa_cons (pe_callTy call_list_of rfl T.z_list bt_list (pa_cons (pv 12) pa_nil)) (pa_cons (pv 8) pa_nil)))))) (pw_or1 (pt_not (pt_val (pe_call (ok_law_by_base T) (hr.mono (by decide)) rfl T.m_law_by_base T.F_law_by_base.kp T.b_law_by_base .nil (pass_e fun _ _ z => z) (pa_cons (pv 4) (pa_cons (pe_callTy call_list_of rfl T.z_list bt_list (pa_cons (pv 12) pa_nil)) (pa_cons (pv 8) pa_nil))))))))) (@pss_one _ _ _ (@ps_ret _ _ _ _ pe_bl)) pss_nil))))
      (@pss_one _ _ _ (@ps_ret _ _ _ _ (pe_cmpR op_eq (pe_call (ok_answer T) (hr.mono (by decide)) rfl T.m_answer T.F_answer.kp T.b_answer .nil (pass_e fun _ _ z => z) (pa_cons (pv 4) (pa_cons (pv 5) (pa_cons (pv 8) pa_nil)))) (pe_call (ok_law_due T) (hr.mono (by decide)) rfl T.m_law_due T.F_law_due.kp T.b_law_due .nil (pass_e fun _ _ z => z) (pa_cons (pv 3) (pa_cons (pv 5) (pa_cons (pv 8) pa_nil)))) (nomark _))))))))))), ?_⟩
  walk_at "kx"
  walk_at "rd"
  refine ⟨fun σ' H1 => Iv (∃ (wa : Addr) (ws : List Str), σ' = [some (.ref a), some (.ref wa), none, none, none, none, none, none, none, none, none, none, none] ∧ Same H H1 ∧ H1 wa = some (.lst (ws.map V.str)) ∧ ws.length = 4 ∧ ∀ w ∈ ws, isW w = true), ?_, ?_⟩
  · walk_at "rd"
    rename_i v0 H1 wa ws S1 hwa0 hwa lw hw
    exact ⟨⟨wa, ws, rfl, S1, hwa, lw, hw⟩⟩
  rintro σ' H1 ⟨⟨wa, ws, rfl, S1, hwa, lw, hw⟩⟩
  have hS1 := hS.same S1
  clear hS
  refine ⟨fun σ' H3 => Iv (∃ (sl : Int), σ' = [some (.ref a), some (.ref wa), some (.int sl), none, none, none, none, none, none, none, none, none, none] ∧ (sl = 1 ∨ sl = 10000000000000000000000000) ∧ Same H1 H3), ?_, ?_⟩
  · walk_at "rd"
    rename_i pl hpl v2
    refine ⟨scA_at (d := v2 % 4) (by omega) (by omega), ?_⟩
    exact ⟨⟨_, rfl, scA_or _, same_new hpl _⟩⟩
  rintro σ' H3 ⟨⟨sl, rfl, hsc, S3⟩⟩
  have hS3 := hS1.same S3
  have hwa3 := S3 _ _ hwa
  clear hS1 hwa
  refine ⟨fun σ' H4 => Iv (∃ (v : V) (t : NT), σ' = [some (.ref a), some (.ref wa), some (.int sl), some v, none, none, none, none, none, none, none, none, none] ∧ Same H3 H4 ∧ TD K H4 v t ∧ Wg t ∧ t.sz ≤ 32), ?_, ?_⟩
  · obtain ⟨ms, em, lm⟩ := cut20 ns
    have hh : Iv (SqF K H3 a (ns.map V.int)) := ⟨hS3⟩
    clear hS3
    walk_at "rd"
    refine ⟨hh.o.sq, fun ce hce => ?_⟩
    rw [em]
    have hwa4 := kp (u := .lst (ms.map V.int)) hwa3 hce
    walk_at "rd"
    rename_i H4 v t S4 td wf sz
    exact ⟨⟨v, t, rfl, (same_new hce _).trans S4, td, wf, sz⟩⟩
  rintro σ' H4 ⟨⟨v, t, rfl, S4, td, wg, sz⟩⟩
  have hS4 := hS3.same S4
  have hwa4 := S4 _ _ hwa3
  clear hS3 hwa3
  have lvz := t.lv_sz
  have dpz := t.dp_lv
  refine ⟨fun σ' H5 => Iv (∃ (u : V), σ' = [some (.ref a), some (.ref wa), some (.int sl), some v, some u, none, none, none, none, none, none, none, none] ∧ Same H4 H5 ∧ ND T.c_Leaf T.c_Fork K H5 u t), ?_, ?_⟩
  · walk_at "rd"
    rename_i H5 u S5 nd
    exact ⟨⟨u, rfl, S5, nd⟩⟩
  rintro σ' H5 ⟨⟨u, rfl, S5, nd⟩⟩
  have hS5 := hS4.same S5
  have hwa5 := S5 _ _ hwa4
  have td5 := td.same S5
  clear hS4 hwa4 td
  have e0 : ("" : Str).length = 0 := by decide +kernel
  refine ⟨fun σ' H6 => Iv (∃ (pa : Addr) (ps gs : List Str), σ' = [some (.ref a), some (.ref wa), some (.int sl), some v, some u, some (.ref pa), none, none, none, none, none, none, none] ∧ Same H5 H6 ∧ H6 pa = some (.lst (ps.map V.str)) ∧ PI t.tm "" ps gs), ?_, ?_⟩
  · have lz0 : ("" : Str).length + 20 ≤ 100 := by omega
    walk_at "rd"
    rename_i c1 c2 h3 h4 H6 pa ps gs S6 hpa0 hpa pi
    exact ⟨⟨pa, ps, gs, rfl, S6, hpa, pi⟩⟩
  rintro σ' H6 ⟨⟨pa, ps, gs, rfl, S6, hpa, pi⟩⟩
  have hS6 := hS5.same S6
  have hwa6 := S6 _ _ hwa5
  have td6 := td5.same S6
  have nd6 := nd.same S6
  clear hS5 hwa5 td5 nd e0
  have nz := wg.nz
  have lt := pi.len
  have lm := t.tm_lv
  have pas := pi.ascN
  refine ⟨fun σ' H7 => Iv (∃ (va : Addr) (x : Int) (w : Str) (ok_ oc oh of od : Option V), σ' = [some (.ref a), some (.ref wa), some (.int sl), some v, some u, some (.ref pa), ok_, oc, some (.ref va), oh, of, od, none] ∧ Same H6 H7 ∧ H7 va = some (.tup (([.inl x, .inr w] : List Key).map kV))), ?_, ?_⟩
  · walk_at "rd"
    refine for_range (n := Int.toNat 5) (fun i σ H7 => Iv (∃ (ok_ oc ov oh of od : Option V), σ = [some (.ref a), some (.ref wa), some (.int sl), some v, some u, some (.ref pa), ok_, oc, ov, oh, of, od, none] ∧ Same H6 H7 ∧ (0 < i → ∃ (va : Addr) (x : Int) (w : Str), ov = some (.ref va) ∧ H7 va = some (.tup (([.inl x, .inr w] : List Key).map kV))))) ⟨⟨_, _, _, _, _, _, rfl, Same.refl _, fun z => absurd z (Nat.lt_irrefl 0)⟩⟩ ?_ ?_
    · rintro i σ H7 hi ⟨⟨ok_, oc, ov, oh, of, od, rfl, S7, _⟩⟩
      have hS7 := hS6.same S7
      have hwa7 := S7 _ _ hwa6
      have cd : ∀ x, CDivB x (0 + (i : Int) + 1) := fun x => cN x (by omega) (by have : Int.toNat 5 = 5 := rfl; omega)
      walk_at "rd"
      rename_i c1 c2 h1 h2
      refine ⟨cd _, ?_⟩
      have zs : Bz 100 sl := by
        show sl.natAbs < 2 ^ 100
        have : (10000000000000000000000000 : Nat) < 2 ^ 100 := by decide
        rcases hsc with rfl | rfl <;> omega
      have zq : Bz 10 (c2 / (0 + (i : Int) + 1) % 40 - 7) := by
        show (c2 / (0 + (i : Int) + 1) % 40 - 7).natAbs < 2 ^ 10
        omega
      have wl : (ws.map V.str).length = ws.length := List.length_map _
      walk_at "rd"
      refine ⟨fun σ' H8 => Iv (∃ (va : Addr) (x : Int) (w : Str) (o7 : Option V), σ' = [some (.ref a), some (.ref wa), some (.int sl), some v, some u, some (.ref pa), some (.int (0 + (i : Int))), o7, some (.ref va), oh, of, od, none] ∧ Same H7 H8 ∧ H8 va = some (.tup (([.inl x, .inr w] : List Key).map kV))), ?_, ?_⟩
      · walk_at "rd"
        rename_i va hva
        exact ⟨⟨va, _, _, _, rfl, same_new hva _, upd_same⟩⟩
      rintro σ' H8 ⟨⟨va, x, wx, o7, rfl, S8, hva⟩⟩
      have S68 := S7.trans S8
      have hpa8 := S68 _ _ hpa
      clear hS7 hwa7 zs zq
      refine ⟨fun σ' H9 => Iv (∃ (ha : Addr), σ' = [some (.ref a), some (.ref wa), some (.int sl), some v, some u, some (.ref pa), some (.int (0 + (i : Int))), o7, some (.ref va), some (.ref ha), of, od, none] ∧ Same H8 H9 ∧ H9 ha = some (.lst (ps.map V.str))), ?_, ?_⟩
      · walk_at "rd"
        rename_i ha hha
        exact ⟨⟨ha, rfl, same_new hha _, upd_same⟩⟩
      rintro σ' H9 ⟨⟨ha, rfl, S9, hha⟩⟩
      have S69 := S68.trans S9
      have hva9 := S9 _ _ hva
      have nd9 := nd6.same S69
      have ak := wg.asks x wx
      clear hva hpa8
      obtain ⟨p, r, wt, hp, ep, hg, hpre, hb⟩ := pi_fall [.inl x, .inr wx] pi
      have ep : p = r := by rw [ep]; exact str_ext (by rw [cds_app]; rfl)
      subst ep
      have hb : bgs (t.fall [.inl x, .inr wx]) ps = [p] := by
        have e : ("" ++ t.fall [.inl x, .inr wx] : Str) = t.fall [.inl x, .inr wx] := str_ext (by rw [cds_app]; rfl)
        rw [e] at hb
        exact hb
      refine ⟨fun σ' HA => Iv (σ' = [some (.ref a), some (.ref wa), some (.int sl), some v, some u, some (.ref pa), some (.int (0 + (i : Int))), o7, some (.ref va), some (.ref ha), some (cmn wt.ct).1, od, none] ∧ Same H9 HA), ?_, ?_⟩
      · walk_at "rd"
        refine .inl ⟨⟨gs, pi⟩, fun HA p2 w2 SA hb2 hg2 => ?_⟩
        rw [hb] at hb2
        obtain rfl := (List.cons.inj hb2).1
        obtain rfl := Option.some.inj (hg.symm.trans hg2)
        exact ⟨⟨rfl, SA⟩⟩
      rintro σ' HA ⟨⟨rfl, SA⟩⟩
      have S6A := S69.trans SA
      have td9 := td6.same S6A
      have hpaA := S6A _ _ hpa
      have hvaA := SA _ _ hva9
      have hhaA := SA _ _ hha
      refine ⟨fun σ' HB => Iv (σ' = [some (.ref a), some (.ref wa), some (.int sl), some v, some u, some (.ref pa), some (.int (0 + (i : Int))), o7, some (.ref va), some (.ref ha), some (cmn wt.ct).1, some (cmn wt.ct).1, none] ∧ Same HA HB), ?_, ?_⟩
      · walk_at "rd"
        rename_i HB p2 w2 SB hb2 hg2
        rw [hb] at hb2
        obtain rfl := (List.cons.inj hb2).1
        obtain rfl := Option.some.inj (hg.symm.trans hg2)
        exact ⟨⟨rfl, SB⟩⟩
      rintro σ' HB ⟨⟨rfl, SB⟩⟩
      have S6B := S6A.trans SB
      have hpaB := SB _ _ hpaA
      have hvaB := SB _ _ hvaA
      have hhaB := SB _ _ hhaA
      have fin : Iv (∃ (ok_ oc ov oh of od : Option V), [some (.ref a), some (.ref wa), some (.int sl), some v, some u, some (.ref pa), some (.int (0 + (i : Int))), o7, some (.ref va), some (.ref ha), some (cmn wt.ct).1, some (cmn wt.ct).1, none] = [some (.ref a), some (.ref wa), some (.int sl), some v, some u, some (.ref pa), ok_, oc, ov, oh, of, od, none] ∧ Same H6 HB ∧ (0 < i + 1 → ∃ (va : Addr) (x : Int) (w : Str), ov = some (.ref va) ∧ HB va = some (.tup (([.inl x, .inr w] : List Key).map kV)))) := ⟨⟨_, _, _, _, _, _, rfl, S6B, fun _ => ⟨va, x, wx, rfl, hvaB⟩⟩⟩
      have shp : Shp 64 (.list (ps.map PyData.str)) := (shS (n := 62) pas).mono (by decide)
      clear hS6 hwa6 td6 nd6 td9 nd9 hb hg pi ak
      rcases cm_or wt.ct with e | ⟨w3, e⟩
      · rw [e] at fin ⊢
        walk_at "rd"
        refine ned (d := .list (ps.map PyData.str)) (dvS hhaB) (dvS hpaB) shp ?_
        walk_at "rd"
        exact fin
      · rw [e] at fin ⊢
        walk_at "rd"
        have en : (!decide (V.str w3 = V.str w3)) = false := by rw [decide_eq_true (rfl : V.str w3 = V.str w3)]; rfl
        rw [en]
        walk_at "rd"
        refine ned (d := .list (ps.map PyData.str)) (dvS hhaB) (dvS hpaB) shp ?_
        walk_at "rd"
        exact fin
    · rintro σ H7 ⟨⟨ok_, oc, ov, oh, of, od, rfl, S7, hv⟩⟩
      obtain ⟨va, x, w', rfl, hva⟩ := hv (by decide)
      exact ⟨⟨va, x, w', _, _, _, _, _, rfl, S7, hva⟩⟩
  rintro σ' H7 ⟨⟨va, x, w', ok_, oc, oh, of, od, rfl, S7, hva⟩⟩
  have hS7 := hS6.same S7
  have hpa7 := S7 _ _ hpa
  have td7 := td6.same S7
  have nd7 := nd6.same S7
  have ak := wg.asks x w'
  clear hS6 hpa td6 nd6 hwa6
  refine ⟨fun σ' H8 => Iv (∃ os : Option V, σ' = [some (.ref a), some (.ref wa), some (.int sl), some v, some u, some (.ref pa), ok_, oc, some (.ref va), oh, of, od, os] ∧ Same H7 H8), ?_, ?_⟩
  · walk_at "rd"
    rename_i c1 H8 wr xs rs S8 hwr0 hwr lvs l7 bad
    have hva8 := S8 _ _ hva
    have nd8 := nd7.same S8
    clear hS7 hva hpa7 td7 nd7
    refine for_list (K := K) (a := wr) (xs := xs) (fun i σ H9 => Iv (∃ os : Option V, σ = [some (.ref a), some (.ref wa), some (.int sl), some v, some u, some (.ref pa), ok_, oc, some (.ref va), oh, of, od, os] ∧ Same H8 H9)) ⟨⟨_, rfl, Same.refl _⟩⟩ (fun i σ H9 _ z => by obtain ⟨_, _, S9⟩ := z.o; exact SqL.of (S9 _ _ hwr)) ?_ ?_
    · rintro i y σ H9 hi ⟨⟨os, rfl, S9⟩⟩
      obtain ⟨l, r, rfl, hl', hr⟩ := lvs.at hi
      obtain ⟨b1, b2, b3⟩ := bad r (List.mem_of_getElem? hr)
      have hl9 := S9 _ _ hl'
      have hva9 := S9 _ _ hva8
      have nd9 := nd8.same S9
      walk_at "rd"
      rename_i p1 hp1
      have S1_ := same_new hp1 (H := H9) (.lst (r.map V.str))
      refine ⟨nd9.same S1_, nz, by omega, upd_same, b1, b2, S1_ _ _ hva9, ak, b3, fun HA SA => ?_⟩
      have S9A := S1_.trans SA
      have hlA := S9A _ _ hl9
      walk_at "rd"
      rename_i p2 hp2
      have S2_ := S9A.trans (same_new hp2 (H := HA) (.lst (r.map V.str)))
      refine ⟨nd9.same S2_, nz, by omega, upd_same, b1, b2, S2_ _ _ hva9, ak, b3, fun HB SB => ?_⟩
      walk_at "rd"
      exact ⟨⟨_, rfl, S9.trans (S2_.trans SB)⟩⟩
    · rintro σ H9 ⟨⟨os, rfl, S9⟩⟩
      exact ⟨⟨_, rfl, S8.trans S9⟩⟩
  rintro σ' H8 ⟨⟨os, rfl, S8⟩⟩
  have hpa8 := S8 _ _ hpa7
  have td8 := td7.same S8
  have nd8 := nd7.same S8
  have hva8 := S8 _ _ hva
  clear hS7 hpa7 td7 nd7 hva
  walk_at "rd"
  refine .inl ⟨⟨gs, pi⟩, fun H9 p w2 S9 hb hg => ?_⟩
  have td9 := td8.same S9
  have hpa9 := S9 _ _ hpa8
  have hva9 := S9 _ _ hva8
  walk_at "rd"
  rename_i HA p2 w3 SA hb2 hg2
  rw [hb] at hb2
  obtain rfl := (List.cons.inj hb2).1
  obtain rfl := Option.some.inj (hg.symm.trans hg2)
  rcases cm_or w2.ct with e | ⟨w4, e⟩
  · rw [e]
    walk_at "rd"
    rw [decide_eq_true (rfl : V.non = V.non)]
    exact q _
  · rw [e]
    walk_at "rd"
    rw [decide_eq_true (rfl : V.str w4 = V.str w4)]
    exact q _

end

theorem fin {K : PySem.W.Frag} {h : Heap} {mg : Str → Option Value} {fa f0 f1 f2 f3 f4 f5 f6 f7 f8 f9 f10 f11 f12 f13 f14 f15 f16 f17 f18 f19 f20 f21 f22 f23 f24 f25 f26 f27 f28 f29 f30 f31 f32 f33 f34 f35 f36 f37 f38 f39 f40 f41 f42 f43 c_PruneError c_NoRatio c_NoMeasure c_NoPlace c_NoPruning c_Node c_Leaf c_Fork c_MEASURES : Addr} (X : K.In h) (G : h.Ns mainGlobals mg) (hfa : mg "law" = some (.ref fa))
    {od0 an0 od1 an1 od2 an2 od3 an3 od4 an4 od5 an5 od6 an6 od7 an7 od8 an8 od9 an9 od10 an10 od11 an11 od12 an12 od13 an13 od14 an14 od15 an15 od16 an16 od17 an17 od18 an18 od19 an19 od20 an20 od21 an21 od22 an22 od23 an23 od24 an24 od25 an25 od26 an26 od27 an27 od28 an28 od29 an29 od30 an30 od31 an31 od32 an32 od33 an33 od34 an34 od35 an35 od36 an36 od37 an37 od38 an38 od39 an39 od40 an40 od41 an41 od42 an42 od43 an43 : Option Addr} {sl0 sl1 sl2 sl3 sl4 sl5 sl6 sl7 sl8 sl9 sl10 sl11 sl12 sl13 sl14 sl15 sl16 sl17 sl18 sl19 sl20 sl21 sl22 sl23 sl24 sl25 sl26 sl27 sl28 sl29 sl30 sl31 sl32 sl33 sl34 sl35 sl36 sl37 sl38 sl39 sl40 sl41 sl42 sl43 : Array (Option Value)} {oc0 kV0 dc0 pm0 cd0 ct0 oc1 kV1 dc1 pm1 cd1 ct1 oc2 kV2 dc2 pm2 cd2 ct2 oc3 kV3 dc3 pm3 cd3 ct3 oc4 kV4 dc4 pm4 cd4 ct4 oc5 kV5 dc5 pm5 cd5 ct5 oc6 kV6 dc6 pm6 cd6 ct6 oc7 kV7 dc7 pm7 cd7 ct7 oc8 kV8 dc8 pm8 cd8 ct8 oc9 kV9 dc9 pm9 cd9 ct9 oc10 kV10 dc10 pm10 cd10 ct10 oc11 kV11 dc11 pm11 cd11 ct11 oc12 kV12 dc12 pm12 cd12 ct12 oc13 kV13 dc13 pm13 cd13 ct13 oc14 kV14 dc14 pm14 cd14 ct14 oc15 kV15 dc15 pm15 cd15 ct15 oc16 kV16 dc16 pm16 cd16 ct16 oc17 kV17 dc17 pm17 cd17 ct17 oc18 kV18 dc18 pm18 cd18 ct18 oc19 kV19 dc19 pm19 cd19 ct19 oc20 kV20 dc20 pm20 cd20 ct20 oc21 kV21 dc21 pm21 cd21 ct21 oc22 kV22 dc22 pm22 cd22 ct22 oc23 kV23 dc23 pm23 cd23 ct23 oc24 kV24 dc24 pm24 cd24 ct24 oc25 kV25 dc25 pm25 cd25 ct25 oc26 kV26 dc26 pm26 cd26 ct26 oc27 kV27 dc27 pm27 cd27 ct27 oc28 kV28 dc28 pm28 cd28 ct28 oc29 kV29 dc29 pm29 cd29 ct29 oc30 kV30 dc30 pm30 cd30 ct30 oc31 kV31 dc31 pm31 cd31 ct31 oc32 kV32 dc32 pm32 cd32 ct32 oc33 kV33 dc33 pm33 cd33 ct33 oc34 kV34 dc34 pm34 cd34 ct34 oc35 kV35 dc35 pm35 cd35 ct35 oc36 kV36 dc36 pm36 cd36 ct36 oc37 kV37 dc37 pm37 cd37 ct37 oc38 kV38 dc38 pm38 cd38 ct38 oc39 kV39 dc39 pm39 cd39 ct39 oc40 kV40 dc40 pm40 cd40 ct40 oc41 kV41 dc41 pm41 cd41 ct41 oc42 kV42 dc42 pm42 cd42 ct42 oc43 kV43 dc43 pm43 cd43 ct43 : Value}
    {o_MEASURES : Obj}
    (a_PruneError : PySem.W.nsIn K mainGlobals "PruneError" = some (some (.ref c_PruneError)))
    (a_NoRatio : PySem.W.nsIn K mainGlobals "NoRatio" = some (some (.ref c_NoRatio)))
    (e_NoRatio : PySem.W.excIn K c_NoRatio [.type "ValueError", .type "Exception", .type "BaseException", .type "object"] "ValueError.__new__" = true)
    (ga_NoRatio : PySem.W.findIn K (.ref c_NoRatio) "__getattribute__" = some (some (.builtin "BaseException.__getattribute__")))
    (gt_NoRatio : PySem.W.findIn K (.ref c_NoRatio) "__getattr__" = some none)
    (cl_NoRatio : PySem.W.findIn K (.ref c_NoRatio) "__class__" = some (some (.builtin "object.__class__")))
    (mb_NoRatio : PySem.W.mroIn K c_NoRatio (.type "BaseException") = some true)
    (mo_NoRatio : PySem.W.mroIn K c_NoRatio (.type "object") = some true)
    (a_NoMeasure : PySem.W.nsIn K mainGlobals "NoMeasure" = some (some (.ref c_NoMeasure)))
    (e_NoMeasure : PySem.W.excIn K c_NoMeasure [.type "ValueError", .type "Exception", .type "BaseException", .type "object"] "ValueError.__new__" = true)
    (ga_NoMeasure : PySem.W.findIn K (.ref c_NoMeasure) "__getattribute__" = some (some (.builtin "BaseException.__getattribute__")))
    (gt_NoMeasure : PySem.W.findIn K (.ref c_NoMeasure) "__getattr__" = some none)
    (cl_NoMeasure : PySem.W.findIn K (.ref c_NoMeasure) "__class__" = some (some (.builtin "object.__class__")))
    (mb_NoMeasure : PySem.W.mroIn K c_NoMeasure (.type "BaseException") = some true)
    (mo_NoMeasure : PySem.W.mroIn K c_NoMeasure (.type "object") = some true)
    (a_NoPlace : PySem.W.nsIn K mainGlobals "NoPlace" = some (some (.ref c_NoPlace)))
    (a_NoPruning : PySem.W.nsIn K mainGlobals "NoPruning" = some (some (.ref c_NoPruning)))
    (e_NoPruning : PySem.W.excIn K c_NoPruning [.type "ValueError", .type "Exception", .type "BaseException", .type "object"] "ValueError.__new__" = true)
    (ga_NoPruning : PySem.W.findIn K (.ref c_NoPruning) "__getattribute__" = some (some (.builtin "BaseException.__getattribute__")))
    (gt_NoPruning : PySem.W.findIn K (.ref c_NoPruning) "__getattr__" = some none)
    (cl_NoPruning : PySem.W.findIn K (.ref c_NoPruning) "__class__" = some (some (.builtin "object.__class__")))
    (mb_NoPruning : PySem.W.mroIn K c_NoPruning (.type "BaseException") = some true)
    (mo_NoPruning : PySem.W.mroIn K c_NoPruning (.type "object") = some true)
    (a_Node : PySem.W.nsIn K mainGlobals "Node" = some (some (.ref c_Node)))
    (pg_Node : PySem.W.plainGet K c_Node Str.empty = true)
    (hd_Node : PySem.W.hasDictIn K c_Node = true)
    (po_Node : PySem.W.plainOver K c_Node = true)
    (sa_Node : PySem.W.findIn K (.ref c_Node) "__setattr__" = some (some (.builtin "object.__setattr__")))
    (a_Leaf : PySem.W.nsIn K mainGlobals "Leaf" = some (some (.ref c_Leaf)))
    (pg_Leaf : PySem.W.plainGet K c_Leaf Str.empty = true)
    (hd_Leaf : PySem.W.hasDictIn K c_Leaf = true)
    (po_Leaf : PySem.W.plainOver K c_Leaf = true)
    (sa_Leaf : PySem.W.findIn K (.ref c_Leaf) "__setattr__" = some (some (.builtin "object.__setattr__")))
    (a_Fork : PySem.W.nsIn K mainGlobals "Fork" = some (some (.ref c_Fork)))
    (pg_Fork : PySem.W.plainGet K c_Fork Str.empty = true)
    (hd_Fork : PySem.W.hasDictIn K c_Fork = true)
    (po_Fork : PySem.W.plainOver K c_Fork = true)
    (sa_Fork : PySem.W.findIn K (.ref c_Fork) "__setattr__" = some (some (.builtin "object.__setattr__")))
    (a0 : PySem.W.nsIn K mainGlobals "is_whole" = some (some (.ref f0)))
    (l0 : K.lookup f0 = some ⟨oc0, od0, .func (PySem.W.fnOf "is_whole" "is_whole" (defArgs s_is_whole) (defBody s_is_whole) (defScope s_is_whole) .none kV0 dc0 pm0 an0 cd0 ct0), sl0⟩)
    (k_c0 : PySem.W.codeIn K cd0 "is_whole" = true)
    (k_k0 : PySem.W.keepIn K (.ref f0) = true)
    (a1 : PySem.W.nsIn K mainGlobals "greatest_divisor" = some (some (.ref f1)))
    (l1 : K.lookup f1 = some ⟨oc1, od1, .func (PySem.W.fnOf "greatest_divisor" "greatest_divisor" (defArgs s_greatest_divisor) (defBody s_greatest_divisor) (defScope s_greatest_divisor) .none kV1 dc1 pm1 an1 cd1 ct1), sl1⟩)
    (k_c1 : PySem.W.codeIn K cd1 "greatest_divisor" = true)
    (k_k1 : PySem.W.keepIn K (.ref f1) = true)
    (a2 : PySem.W.nsIn K mainGlobals "ratio" = some (some (.ref f2)))
    (l2 : K.lookup f2 = some ⟨oc2, od2, .func (PySem.W.fnOf "ratio" "ratio" (defArgs s_ratio) (defBody s_ratio) (defScope s_ratio) .none kV2 dc2 pm2 an2 cd2 ct2), sl2⟩)
    (k_c2 : PySem.W.codeIn K cd2 "ratio" = true)
    (k_k2 : PySem.W.keepIn K (.ref f2) = true)
    (a3 : PySem.W.nsIn K mainGlobals "check_measure" = some (some (.ref f3)))
    (l3 : K.lookup f3 = some ⟨oc3, od3, .func (PySem.W.fnOf "check_measure" "check_measure" (defArgs s_check_measure) (defBody s_check_measure) (defScope s_check_measure) .none kV3 dc3 pm3 an3 cd3 ct3), sl3⟩)
    (k_c3 : PySem.W.codeIn K cd3 "check_measure" = true)
    (k_k3 : PySem.W.keepIn K (.ref f3) = true)
    (a4 : PySem.W.nsIn K mainGlobals "commonest" = some (some (.ref f4)))
    (l4 : K.lookup f4 = some ⟨oc4, od4, .func (PySem.W.fnOf "commonest" "commonest" (defArgs s_commonest) (defBody s_commonest) (defScope s_commonest) .none kV4 dc4 pm4 an4 cd4 ct4), sl4⟩)
    (k_c4 : PySem.W.codeIn K cd4 "commonest" = true)
    (k_k4 : PySem.W.keepIn K (.ref f4) = true)
    (a5 : PySem.W.nsIn K mainGlobals "all_rows" = some (some (.ref f5)))
    (l5 : K.lookup f5 = some ⟨oc5, od5, .func (PySem.W.fnOf "all_rows" "all_rows" (defArgs s_all_rows) (defBody s_all_rows) (defScope s_all_rows) .none kV5 dc5 pm5 an5 cd5 ct5), sl5⟩)
    (k_c5 : PySem.W.codeIn K cd5 "all_rows" = true)
    (k_k5 : PySem.W.keepIn K (.ref f5) = true)
    (a6 : PySem.W.nsIn K mainGlobals "misses" = some (some (.ref f6)))
    (l6 : K.lookup f6 = some ⟨oc6, od6, .func (PySem.W.fnOf "misses" "misses" (defArgs s_misses) (defBody s_misses) (defScope s_misses) .none kV6 dc6 pm6 an6 cd6 ct6), sl6⟩)
    (k_c6 : PySem.W.codeIn K cd6 "misses" = true)
    (k_k6 : PySem.W.keepIn K (.ref f6) = true)
    (a7 : PySem.W.nsIn K mainGlobals "shares" = some (some (.ref f7)))
    (l7 : K.lookup f7 = some ⟨oc7, od7, .func (PySem.W.fnOf "shares" "shares" (defArgs s_shares) (defBody s_shares) (defScope s_shares) .none kV7 dc7 pm7 an7 cd7 ct7), sl7⟩)
    (k_c7 : PySem.W.codeIn K cd7 "shares" = true)
    (k_k7 : PySem.W.keepIn K (.ref f7) = true)
    (a8 : PySem.W.nsIn K mainGlobals "mess" = some (some (.ref f8)))
    (l8 : K.lookup f8 = some ⟨oc8, od8, .func (PySem.W.fnOf "mess" "mess" (defArgs s_mess) (defBody s_mess) (defScope s_mess) .none kV8 dc8 pm8 an8 cd8 ct8), sl8⟩)
    (k_c8 : PySem.W.codeIn K cd8 "mess" = true)
    (k_k8 : PySem.W.keepIn K (.ref f8) = true)
    (a9 : PySem.W.nsIn K mainGlobals "says" = some (some (.ref f9)))
    (l9 : K.lookup f9 = some ⟨oc9, od9, .func (PySem.W.fnOf "says" "says" (defArgs s_says) (defBody s_says) (defScope s_says) .none kV9 dc9 pm9 an9 cd9 ct9), sl9⟩)
    (k_c9 : PySem.W.codeIn K cd9 "says" = true)
    (k_k9 : PySem.W.keepIn K (.ref f9) = true)
    (a10 : PySem.W.findIn K (.ref c_Node) "__init__" = some (some (.ref f10)))
    (i10 : PySem.W.isFn K (.ref f10) = true)
    (mk_Node : PySem.W.makesIn K c_Node = true)
    (kc_Node : PySem.W.keepIn K (.ref c_Node) = true)
    (l10 : K.lookup f10 = some ⟨oc10, od10, .func (PySem.W.fnOf "__init__" "Node.__init__" (defArgs s_Node___init__) (defBody s_Node___init__) (defScope s_Node___init__) .none kV10 dc10 pm10 an10 cd10 ct10), sl10⟩)
    (k_c10 : PySem.W.codeIn K cd10 "Node.__init__" = true)
    (k_k10 : PySem.W.keepIn K (.ref f10) = true)
    (a11 : PySem.W.findIn K (.ref c_Leaf) "below" = some (some (.ref f11)))
    (i11 : PySem.W.isFn K (.ref f11) = true)
    (l11 : K.lookup f11 = some ⟨oc11, od11, .func (PySem.W.fnOf "below" "Leaf.below" (defArgs s_Leaf_below) (defBody s_Leaf_below) (defScope s_Leaf_below) .none kV11 dc11 pm11 an11 cd11 ct11), sl11⟩)
    (k_c11 : PySem.W.codeIn K cd11 "Leaf.below" = true)
    (k_k11 : PySem.W.keepIn K (.ref f11) = true)
    (a12 : PySem.W.findIn K (.ref c_Leaf) "leaves" = some (some (.ref f12)))
    (i12 : PySem.W.isFn K (.ref f12) = true)
    (l12 : K.lookup f12 = some ⟨oc12, od12, .func (PySem.W.fnOf "leaves" "Leaf.leaves" (defArgs s_Leaf_leaves) (defBody s_Leaf_leaves) (defScope s_Leaf_leaves) .none kV12 dc12 pm12 an12 cd12 ct12), sl12⟩)
    (k_c12 : PySem.W.codeIn K cd12 "Leaf.leaves" = true)
    (k_k12 : PySem.W.keepIn K (.ref f12) = true)
    (a13 : PySem.W.findIn K (.ref c_Leaf) "deep" = some (some (.ref f13)))
    (i13 : PySem.W.isFn K (.ref f13) = true)
    (l13 : K.lookup f13 = some ⟨oc13, od13, .func (PySem.W.fnOf "deep" "Leaf.deep" (defArgs s_Leaf_deep) (defBody s_Leaf_deep) (defScope s_Leaf_deep) .none kV13 dc13 pm13 an13 cd13 ct13), sl13⟩)
    (k_c13 : PySem.W.codeIn K cd13 "Leaf.deep" = true)
    (k_k13 : PySem.W.keepIn K (.ref f13) = true)
    (a14 : PySem.W.findIn K (.ref c_Leaf) "place_of" = some (some (.ref f14)))
    (i14 : PySem.W.isFn K (.ref f14) = true)
    (l14 : K.lookup f14 = some ⟨oc14, od14, .func (PySem.W.fnOf "place_of" "Leaf.place_of" (defArgs s_Leaf_place_of) (defBody s_Leaf_place_of) (defScope s_Leaf_place_of) .none kV14 dc14 pm14 an14 cd14 ct14), sl14⟩)
    (k_c14 : PySem.W.codeIn K cd14 "Leaf.place_of" = true)
    (k_k14 : PySem.W.keepIn K (.ref f14) = true)
    (a15 : PySem.W.findIn K (.ref c_Fork) "below" = some (some (.ref f15)))
    (i15 : PySem.W.isFn K (.ref f15) = true)
    (l15 : K.lookup f15 = some ⟨oc15, od15, .func (PySem.W.fnOf "below" "Fork.below" (defArgs s_Fork_below) (defBody s_Fork_below) (defScope s_Fork_below) .none kV15 dc15 pm15 an15 cd15 ct15), sl15⟩)
    (k_c15 : PySem.W.codeIn K cd15 "Fork.below" = true)
    (k_k15 : PySem.W.keepIn K (.ref f15) = true)
    (a16 : PySem.W.findIn K (.ref c_Fork) "leaves" = some (some (.ref f16)))
    (i16 : PySem.W.isFn K (.ref f16) = true)
    (l16 : K.lookup f16 = some ⟨oc16, od16, .func (PySem.W.fnOf "leaves" "Fork.leaves" (defArgs s_Fork_leaves) (defBody s_Fork_leaves) (defScope s_Fork_leaves) .none kV16 dc16 pm16 an16 cd16 ct16), sl16⟩)
    (k_c16 : PySem.W.codeIn K cd16 "Fork.leaves" = true)
    (k_k16 : PySem.W.keepIn K (.ref f16) = true)
    (a17 : PySem.W.findIn K (.ref c_Fork) "deep" = some (some (.ref f17)))
    (i17 : PySem.W.isFn K (.ref f17) = true)
    (l17 : K.lookup f17 = some ⟨oc17, od17, .func (PySem.W.fnOf "deep" "Fork.deep" (defArgs s_Fork_deep) (defBody s_Fork_deep) (defScope s_Fork_deep) .none kV17 dc17 pm17 an17 cd17 ct17), sl17⟩)
    (k_c17 : PySem.W.codeIn K cd17 "Fork.deep" = true)
    (k_k17 : PySem.W.keepIn K (.ref f17) = true)
    (a18 : PySem.W.findIn K (.ref c_Fork) "place_of" = some (some (.ref f18)))
    (i18 : PySem.W.isFn K (.ref f18) = true)
    (l18 : K.lookup f18 = some ⟨oc18, od18, .func (PySem.W.fnOf "place_of" "Fork.place_of" (defArgs s_Fork_place_of) (defBody s_Fork_place_of) (defScope s_Fork_place_of) .none kV18 dc18 pm18 an18 cd18 ct18), sl18⟩)
    (k_c18 : PySem.W.codeIn K cd18 "Fork.place_of" = true)
    (k_k18 : PySem.W.keepIn K (.ref f18) = true)
    (a19 : PySem.W.findIn K (.ref c_Fork) "__init__" = some (some (.ref f19)))
    (i19 : PySem.W.isFn K (.ref f19) = true)
    (mk_Fork : PySem.W.makesIn K c_Fork = true)
    (kc_Fork : PySem.W.keepIn K (.ref c_Fork) = true)
    (l19 : K.lookup f19 = some ⟨oc19, od19, .func (PySem.W.fnOf "__init__" "Fork.__init__" (defArgs s_Fork___init__) (defBody s_Fork___init__) (defScope s_Fork___init__) .none kV19 dc19 pm19 an19 cd19 ct19), sl19⟩)
    (k_c19 : PySem.W.codeIn K cd19 "Fork.__init__" = true)
    (k_k19 : PySem.W.keepIn K (.ref f19) = true)
    (a20 : PySem.W.findIn K (.ref c_Node) "at" = some (some (.ref f20)))
    (i20 : PySem.W.isFn K (.ref f20) = true)
    (l20 : K.lookup f20 = some ⟨oc20, od20, .func (PySem.W.fnOf "at" "Node.at" (defArgs s_Node_at) (defBody s_Node_at) (defScope s_Node_at) .none kV20 dc20 pm20 an20 cd20 ct20), sl20⟩)
    (k_c20 : PySem.W.codeIn K cd20 "Node.at" = true)
    (k_k20 : PySem.W.keepIn K (.ref f20) = true)
    (a21 : PySem.W.nsIn K mainGlobals "costed" = some (some (.ref f21)))
    (l21 : K.lookup f21 = some ⟨oc21, od21, .func (PySem.W.fnOf "costed" "costed" (defArgs s_costed) (defBody s_costed) (defScope s_costed) .none kV21 dc21 pm21 an21 cd21 ct21), sl21⟩)
    (k_c21 : PySem.W.codeIn K cd21 "costed" = true)
    (k_k21 : PySem.W.keepIn K (.ref f21) = true)
    (a22 : PySem.W.nsIn K mainGlobals "trees_by_place" = some (some (.ref f22)))
    (l22 : K.lookup f22 = some ⟨oc22, od22, .func (PySem.W.fnOf "trees_by_place" "trees_by_place" (defArgs s_trees_by_place) (defBody s_trees_by_place) (defScope s_trees_by_place) .none kV22 dc22 pm22 an22 cd22 ct22), sl22⟩)
    (k_c22 : PySem.W.codeIn K cd22 "trees_by_place" = true)
    (k_k22 : PySem.W.keepIn K (.ref f22) = true)
    (a23 : PySem.W.nsIn K mainGlobals "places_of" = some (some (.ref f23)))
    (l23 : K.lookup f23 = some ⟨oc23, od23, .func (PySem.W.fnOf "places_of" "places_of" (defArgs s_places_of) (defBody s_places_of) (defScope s_places_of) .none kV23 dc23 pm23 an23 cd23 ct23), sl23⟩)
    (k_c23 : PySem.W.codeIn K cd23 "places_of" = true)
    (k_k23 : PySem.W.keepIn K (.ref f23) = true)
    (a24 : PySem.W.nsIn K mainGlobals "ends" = some (some (.ref f24)))
    (l24 : K.lookup f24 = some ⟨oc24, od24, .func (PySem.W.fnOf "ends" "ends" (defArgs s_ends) (defBody s_ends) (defScope s_ends) .none kV24 dc24 pm24 an24 cd24 ct24), sl24⟩)
    (k_c24 : PySem.W.codeIn K cd24 "ends" = true)
    (k_k24 : PySem.W.keepIn K (.ref f24) = true)
    (a25 : PySem.W.nsIn K mainGlobals "beginnings" = some (some (.ref f25)))
    (l25 : K.lookup f25 = some ⟨oc25, od25, .func (PySem.W.fnOf "beginnings" "beginnings" (defArgs s_beginnings) (defBody s_beginnings) (defScope s_beginnings) .none kV25 dc25 pm25 an25 cd25 ct25), sl25⟩)
    (k_c25 : PySem.W.codeIn K cd25 "beginnings" = true)
    (k_k25 : PySem.W.keepIn K (.ref f25) = true)
    (a26 : PySem.W.nsIn K mainGlobals "is_pruning" = some (some (.ref f26)))
    (l26 : K.lookup f26 = some ⟨oc26, od26, .func (PySem.W.fnOf "is_pruning" "is_pruning" (defArgs s_is_pruning) (defBody s_is_pruning) (defScope s_is_pruning) .none kV26 dc26 pm26 an26 cd26 ct26), sl26⟩)
    (k_c26 : PySem.W.codeIn K cd26 "is_pruning" = true)
    (k_k26 : PySem.W.keepIn K (.ref f26) = true)
    (a27 : PySem.W.nsIn K mainGlobals "check_pruning" = some (some (.ref f27)))
    (l27 : K.lookup f27 = some ⟨oc27, od27, .func (PySem.W.fnOf "check_pruning" "check_pruning" (defArgs s_check_pruning) (defBody s_check_pruning) (defScope s_check_pruning) .none kV27 dc27 pm27 an27 cd27 ct27), sl27⟩)
    (k_c27 : PySem.W.codeIn K cd27 "check_pruning" = true)
    (k_k27 : PySem.W.keepIn K (.ref f27) = true)
    (a28 : PySem.W.nsIn K mainGlobals "answer_pruned" = some (some (.ref f28)))
    (l28 : K.lookup f28 = some ⟨oc28, od28, .func (PySem.W.fnOf "answer_pruned" "answer_pruned" (defArgs s_answer_pruned) (defBody s_answer_pruned) (defScope s_answer_pruned) .none kV28 dc28 pm28 an28 cd28 ct28), sl28⟩)
    (k_c28 : PySem.W.codeIn K cd28 "answer_pruned" = true)
    (k_k28 : PySem.W.keepIn K (.ref f28) = true)
    (a29 : PySem.W.nsIn K mainGlobals "answer" = some (some (.ref f29)))
    (l29 : K.lookup f29 = some ⟨oc29, od29, .func (PySem.W.fnOf "answer" "answer" (defArgs s_answer) (defBody s_answer) (defScope s_answer) .none kV29 dc29 pm29 an29 cd29 ct29), sl29⟩)
    (k_c29 : PySem.W.codeIn K cd29 "answer" = true)
    (k_k29 : PySem.W.keepIn K (.ref f29) = true)
    (a30 : PySem.W.nsIn K mainGlobals "_law_cell" = some (some (.ref f30)))
    (l30 : K.lookup f30 = some ⟨oc30, od30, .func (PySem.W.fnOf "_law_cell" "_law_cell" (defArgs s_law_cell) (defBody s_law_cell) (defScope s_law_cell) .none kV30 dc30 pm30 an30 cd30 ct30), sl30⟩)
    (k_c30 : PySem.W.codeIn K cd30 "_law_cell" = true)
    (k_k30 : PySem.W.keepIn K (.ref f30) = true)
    (a31 : PySem.W.nsIn K mainGlobals "_law_next" = some (some (.ref f31)))
    (l31 : K.lookup f31 = some ⟨oc31, od31, .func (PySem.W.fnOf "_law_next" "_law_next" (defArgs s_law_next) (defBody s_law_next) (defScope s_law_next) .none kV31 dc31 pm31 an31 cd31 ct31), sl31⟩)
    (k_c31 : PySem.W.codeIn K cd31 "_law_next" = true)
    (k_k31 : PySem.W.keepIn K (.ref f31) = true)
    (a32 : PySem.W.nsIn K mainGlobals "_law_words" = some (some (.ref f32)))
    (l32 : K.lookup f32 = some ⟨oc32, od32, .func (PySem.W.fnOf "_law_words" "_law_words" (defArgs s_law_words) (defBody s_law_words) (defScope s_law_words) .none kV32 dc32 pm32 an32 cd32 ct32), sl32⟩)
    (k_c32 : PySem.W.codeIn K cd32 "_law_words" = true)
    (k_k32 : PySem.W.keepIn K (.ref f32) = true)
    (a33 : PySem.W.nsIn K mainGlobals "_law_counted" = some (some (.ref f33)))
    (l33 : K.lookup f33 = some ⟨oc33, od33, .func (PySem.W.fnOf "_law_counted" "_law_counted" (defArgs s_law_counted) (defBody s_law_counted) (defScope s_law_counted) .none kV33 dc33 pm33 an33 cd33 ct33), sl33⟩)
    (k_c33 : PySem.W.codeIn K cd33 "_law_counted" = true)
    (k_k33 : PySem.W.keepIn K (.ref f33) = true)
    (a34 : PySem.W.nsIn K mainGlobals "_law_question" = some (some (.ref f34)))
    (l34 : K.lookup f34 = some ⟨oc34, od34, .func (PySem.W.fnOf "_law_question" "_law_question" (defArgs s_law_question) (defBody s_law_question) (defScope s_law_question) .none kV34 dc34 pm34 an34 cd34 ct34), sl34⟩)
    (k_c34 : PySem.W.codeIn K cd34 "_law_question" = true)
    (k_k34 : PySem.W.keepIn K (.ref f34) = true)
    (a35 : PySem.W.nsIn K mainGlobals "_law_pile" = some (some (.ref f35)))
    (l35 : K.lookup f35 = some ⟨oc35, od35, .func (PySem.W.fnOf "_law_pile" "_law_pile" (defArgs s_law_pile) (defBody s_law_pile) (defScope s_law_pile) .none kV35 dc35 pm35 an35 cd35 ct35), sl35⟩)
    (k_c35 : PySem.W.codeIn K cd35 "_law_pile" = true)
    (k_k35 : PySem.W.keepIn K (.ref f35) = true)
    (a36 : PySem.W.nsIn K mainGlobals "_law_node" = some (some (.ref f36)))
    (l36 : K.lookup f36 = some ⟨oc36, od36, .func (PySem.W.fnOf "_law_node" "_law_node" (defArgs s_law_node) (defBody s_law_node) (defScope s_law_node) .none kV36 dc36 pm36 an36 cd36 ct36), sl36⟩)
    (k_c36 : PySem.W.codeIn K cd36 "_law_node" = true)
    (k_k36 : PySem.W.keepIn K (.ref f36) = true)
    (a37 : PySem.W.nsIn K mainGlobals "_law_drawn" = some (some (.ref f37)))
    (l37 : K.lookup f37 = some ⟨oc37, od37, .func (PySem.W.fnOf "_law_drawn" "_law_drawn" (defArgs s_law_drawn) (defBody s_law_drawn) (defScope s_law_drawn) .none kV37 dc37 pm37 an37 cd37 ct37), sl37⟩)
    (k_c37 : PySem.W.codeIn K cd37 "_law_drawn" = true)
    (k_k37 : PySem.W.keepIn K (.ref f37) = true)
    (a38 : PySem.W.nsIn K mainGlobals "_law_yes" = some (some (.ref f38)))
    (l38 : K.lookup f38 = some ⟨oc38, od38, .func (PySem.W.fnOf "_law_yes" "_law_yes" (defArgs s_law_yes) (defBody s_law_yes) (defScope s_law_yes) .none kV38 dc38 pm38 an38 cd38 ct38), sl38⟩)
    (k_c38 : PySem.W.codeIn K cd38 "_law_yes" = true)
    (k_k38 : PySem.W.keepIn K (.ref f38) = true)
    (a39 : PySem.W.nsIn K mainGlobals "_law_due" = some (some (.ref f39)))
    (l39 : K.lookup f39 = some ⟨oc39, od39, .func (PySem.W.fnOf "_law_due" "_law_due" (defArgs s_law_due) (defBody s_law_due) (defScope s_law_due) .none kV39 dc39 pm39 an39 cd39 ct39), sl39⟩)
    (k_c39 : PySem.W.codeIn K cd39 "_law_due" = true)
    (k_k39 : PySem.W.keepIn K (.ref f39) = true)
    (a40 : PySem.W.nsIn K mainGlobals "_law_refused" = some (some (.ref f40)))
    (l40 : K.lookup f40 = some ⟨oc40, od40, .func (PySem.W.fnOf "_law_refused" "_law_refused" (defArgs s_law_refused) (defBody s_law_refused) (defScope s_law_refused) .none kV40 dc40 pm40 an40 cd40 ct40), sl40⟩)
    (k_c40 : PySem.W.codeIn K cd40 "_law_refused" = true)
    (k_k40 : PySem.W.keepIn K (.ref f40) = true)
    (a41 : PySem.W.nsIn K mainGlobals "_law_by_base" = some (some (.ref f41)))
    (l41 : K.lookup f41 = some ⟨oc41, od41, .func (PySem.W.fnOf "_law_by_base" "_law_by_base" (defArgs s_law_by_base) (defBody s_law_by_base) (defScope s_law_by_base) .none kV41 dc41 pm41 an41 cd41 ct41), sl41⟩)
    (k_c41 : PySem.W.codeIn K cd41 "_law_by_base" = true)
    (k_k41 : PySem.W.keepIn K (.ref f41) = true)
    (a42 : PySem.W.nsIn K mainGlobals "_law_wrong" = some (some (.ref f42)))
    (l42 : K.lookup f42 = some ⟨oc42, od42, .func (PySem.W.fnOf "_law_wrong" "_law_wrong" (defArgs s_law_wrong) (defBody s_law_wrong) (defScope s_law_wrong) .none kV42 dc42 pm42 an42 cd42 ct42), sl42⟩)
    (k_c42 : PySem.W.codeIn K cd42 "_law_wrong" = true)
    (k_k42 : PySem.W.keepIn K (.ref f42) = true)
    (a43 : PySem.W.nsIn K mainGlobals "law" = some (some (.ref f43)))
    (l43 : K.lookup f43 = some ⟨oc43, od43, .func (PySem.W.fnOf "law" "law" (defArgs s_law) (defBody s_law) (defScope s_law) .none kV43 dc43 pm43 an43 cd43 ct43), sl43⟩)
    (k_c43 : PySem.W.codeIn K cd43 "law" = true)
    (k_k43 : PySem.W.keepIn K (.ref f43) = true)
    (ia_Leaf_init : PySem.W.findIn K (.ref c_Leaf) "__init__" = some (some (.ref f10)))
    (ii_Leaf_init : PySem.W.isFn K (.ref f10) = true)
    (imk_Leaf : PySem.W.makesIn K c_Leaf = true)
    (ikc_Leaf : PySem.W.keepIn K (.ref c_Leaf) = true)
    (ia_Leaf_at : PySem.W.findIn K (.ref c_Leaf) "at" = some (some (.ref f20)))
    (ii_Leaf_at : PySem.W.isFn K (.ref f20) = true)
    (ia_Fork_at : PySem.W.findIn K (.ref c_Fork) "at" = some (some (.ref f20)))
    (ii_Fork_at : PySem.W.isFn K (.ref f20) = true)
    (sg_Node_init : PySem.W.specialIn K (.ref c_Node) "__getattribute__" = some (some (.builtin "type.__getattribute__")))
    (rd_Node_init : PySem.W.readsIn K c_Node (.type "type") = true)
    (fc_Node_init : PySem.W.findCls K (.ref c_Node) (.type "type") "__init__" = some (.val (.ref f10)))
    (a_MEASURES : PySem.W.nsIn K mainGlobals "MEASURES" = some (some (.ref c_MEASURES)))
    (l_MEASURES : K.lookup c_MEASURES = some o_MEASURES)
    (q_MEASURES : ∀ H, SqT K H c_MEASURES [.str "misses", .str "shares"])
    (z_ValueError : PySem.W.nsIn K mainGlobals "ValueError" = some none)
    (z_abs : PySem.W.nsIn K mainGlobals "abs" = some none)
    (z_all : PySem.W.nsIn K mainGlobals "all" = some none)
    (z_bool : PySem.W.nsIn K mainGlobals "bool" = some none)
    (z_enumerate : PySem.W.nsIn K mainGlobals "enumerate" = some none)
    (z_int : PySem.W.nsIn K mainGlobals "int" = some none)
    (z_isinstance : PySem.W.nsIn K mainGlobals "isinstance" = some none)
    (z_len : PySem.W.nsIn K mainGlobals "len" = some none)
    (z_list : PySem.W.nsIn K mainGlobals "list" = some none)
    (z_max : PySem.W.nsIn K mainGlobals "max" = some none)
    (z_range : PySem.W.nsIn K mainGlobals "range" = some none)
    (z_set : PySem.W.nsIn K mainGlobals "set" = some none)
    (z_sorted : PySem.W.nsIn K mainGlobals "sorted" = some none)
    (z_str : PySem.W.nsIn K mainGlobals "str" = some none)
    (z_sum : PySem.W.nsIn K mainGlobals "sum" = some none)
    (ht1 : PySem.W.exmOne K (.ref c_NoPruning) (.ref c_PruneError) = some true)
    (ht3 : PySem.W.kitOne K (.ref c_NoPruning) (.type "ValueError") = some true)
    (ht4 : PySem.W.exmOne K (.ref c_NoPruning) (.ref c_NoPruning) = some true)
    (hnLc : PySem.W.findIn K (.ref c_Leaf) "counted" = some none)
    (hnFcd : PySem.W.findIn K (.ref c_Fork) "counted" = some none)
    (hnFqn : PySem.W.findIn K (.ref c_Fork) "question" = some none)
    (hnFys : PySem.W.findIn K (.ref c_Fork) "yes" = some none)
    (hnFno : PySem.W.findIn K (.ref c_Fork) "no" = some none)
    (hnFlt : PySem.W.findIn K (.ref c_Fork) "leaf_count" = some none)
    (hnFdh : PySem.W.findIn K (.ref c_Fork) "depth" = some none)
    (hclL : PySem.W.findIn K (.ref c_Leaf) "__class__" = some (some (.builtin "object.__class__")))
    (hclF : PySem.W.findIn K (.ref c_Fork) "__class__" = some (some (.builtin "object.__class__")))
    (hogt : PySem.W.specialIn K (.builtin "object.__class__") "__get__" = some (some (.builtin "getset_descriptor.__get__")))
    (hotk : PySem.W.takesIn K (.builtin "object.__class__") = some true)
    (homL : PySem.W.mroIn K c_Leaf (.type "object") = some true)
    (homF : PySem.W.mroIn K c_Fork (.type "object") = some true)
    (hkLF : PySem.W.kitOne K (.ref c_Leaf) (.ref c_Fork) = some false)
    (hkFF : PySem.W.kitOne K (.ref c_Fork) (.ref c_Fork) = some true)
    : ∃ T : Tx K mg, T.f_law = fa ∧ ∀ (s : Shared) (u : Value), BindsTo s T.d_law ⟨[u], []⟩ [("_law_script", u)] := by
  have e := hfa.symm.trans (PySem.W.mg_of X G a43)
  cases e
  have F0 := fun_mk (st := s_is_whole) l0 k_c0 k_k0
  have b0 := F0.binds (ps := ["value"]) fun _ _ _ _ _ _ us hl => match us, hl with | [_], _ => rfl
  have F1 := fun_mk (st := s_greatest_divisor) l1 k_c1 k_k1
  have b1 := F1.binds (ps := ["one", "other"]) fun _ _ _ _ _ _ us hl => match us, hl with | [_, _], _ => rfl
  have F2 := fun_mk (st := s_ratio) l2 k_c2 k_k2
  have b2 := F2.binds (ps := ["top", "bottom"]) fun _ _ _ _ _ _ us hl => match us, hl with | [_, _], _ => rfl
  have F3 := fun_mk (st := s_check_measure) l3 k_c3 k_k3
  have b3 := F3.binds (ps := ["measure"]) fun _ _ _ _ _ _ us hl => match us, hl with | [_], _ => rfl
  have F4 := fun_mk (st := s_commonest) l4 k_c4 k_k4
  have b4 := F4.binds (ps := ["counted"]) fun _ _ _ _ _ _ us hl => match us, hl with | [_], _ => rfl
  have F5 := fun_mk (st := s_all_rows) l5 k_c5 k_k5
  have b5 := F5.binds (ps := ["counted"]) fun _ _ _ _ _ _ us hl => match us, hl with | [_], _ => rfl
  have F6 := fun_mk (st := s_misses) l6 k_c6 k_k6
  have b6 := F6.binds (ps := ["counted"]) fun _ _ _ _ _ _ us hl => match us, hl with | [_], _ => rfl
  have F7 := fun_mk (st := s_shares) l7 k_c7 k_k7
  have b7 := F7.binds (ps := ["counted"]) fun _ _ _ _ _ _ us hl => match us, hl with | [_], _ => rfl
  have F8 := fun_mk (st := s_mess) l8 k_c8 k_k8
  have b8 := F8.binds (ps := ["counted", "measure"]) fun _ _ _ _ _ _ us hl => match us, hl with | [_, _], _ => rfl
  have F9 := fun_mk (st := s_says) l9 k_c9 k_k9
  have b9 := F9.binds (ps := ["question", "values"]) fun _ _ _ _ _ _ us hl => match us, hl with | [_, _], _ => rfl
  have F10 := fun_mk (st := s_Node___init__) l10 k_c10 k_k10
  have b10 := F10.binds (ps := ["self", "counted"]) fun _ _ _ _ _ _ us hl => match us, hl with | [_, _], _ => rfl
  have F11 := fun_mk (st := s_Leaf_below) l11 k_c11 k_k11
  have b11 := F11.binds (ps := ["self", "sign"]) fun _ _ _ _ _ _ us hl => match us, hl with | [_, _], _ => rfl
  have F12 := fun_mk (st := s_Leaf_leaves) l12 k_c12 k_k12
  have b12 := F12.binds (ps := ["self"]) fun _ _ _ _ _ _ us hl => match us, hl with | [_], _ => rfl
  have F13 := fun_mk (st := s_Leaf_deep) l13 k_c13 k_k13
  have b13 := F13.binds (ps := ["self"]) fun _ _ _ _ _ _ us hl => match us, hl with | [_], _ => rfl
  have F14 := fun_mk (st := s_Leaf_place_of) l14 k_c14 k_k14
  have b14 := F14.binds (ps := ["self", "values"]) fun _ _ _ _ _ _ us hl => match us, hl with | [_, _], _ => rfl
  have F15 := fun_mk (st := s_Fork_below) l15 k_c15 k_k15
  have b15 := F15.binds (ps := ["self", "sign"]) fun _ _ _ _ _ _ us hl => match us, hl with | [_, _], _ => rfl
  have F16 := fun_mk (st := s_Fork_leaves) l16 k_c16 k_k16
  have b16 := F16.binds (ps := ["self"]) fun _ _ _ _ _ _ us hl => match us, hl with | [_], _ => rfl
  have F17 := fun_mk (st := s_Fork_deep) l17 k_c17 k_k17
  have b17 := F17.binds (ps := ["self"]) fun _ _ _ _ _ _ us hl => match us, hl with | [_], _ => rfl
  have F18 := fun_mk (st := s_Fork_place_of) l18 k_c18 k_k18
  have b18 := F18.binds (ps := ["self", "values"]) fun _ _ _ _ _ _ us hl => match us, hl with | [_, _], _ => rfl
  have F19 := fun_mk (st := s_Fork___init__) l19 k_c19 k_k19
  have b19 := F19.binds (ps := ["self", "counted", "question", "yes", "no"]) fun _ _ _ _ _ _ us hl => match us, hl with | [_, _, _, _, _], _ => rfl
  have F20 := fun_mk (st := s_Node_at) l20 k_c20 k_k20
  have b20 := F20.binds (ps := ["self", "place"]) fun _ _ _ _ _ _ us hl => match us, hl with | [_, _], _ => rfl
  have F21 := fun_mk (st := s_costed) l21 k_c21 k_k21
  have b21 := F21.binds (ps := ["node", "measure"]) fun _ _ _ _ _ _ us hl => match us, hl with | [_, _], _ => rfl
  have F22 := fun_mk (st := s_trees_by_place) l22 k_c22 k_k22
  have b22 := F22.binds (ps := ["tree"]) fun _ _ _ _ _ _ us hl => match us, hl with | [_], _ => rfl
  have F23 := fun_mk (st := s_places_of) l23 k_c23 k_k23
  have b23 := F23.binds (ps := ["tree", "sort"]) fun _ _ _ _ _ _ us hl => match us, hl with | [_, _], _ => rfl
  have F24 := fun_mk (st := s_ends) l24 k_c24 k_k24
  have b24 := F24.binds (ps := ["tree"]) fun _ _ _ _ _ _ us hl => match us, hl with | [_], _ => rfl
  have F25 := fun_mk (st := s_beginnings) l25 k_c25 k_k25
  have b25 := F25.binds (ps := ["place", "places"]) fun _ _ _ _ _ _ us hl => match us, hl with | [_, _], _ => rfl
  have F26 := fun_mk (st := s_is_pruning) l26 k_c26 k_k26
  have b26 := F26.binds (ps := ["tree", "places"]) fun _ _ _ _ _ _ us hl => match us, hl with | [_, _], _ => rfl
  have F27 := fun_mk (st := s_check_pruning) l27 k_c27 k_k27
  have b27 := F27.binds (ps := ["tree", "places"]) fun _ _ _ _ _ _ us hl => match us, hl with | [_, _], _ => rfl
  have F28 := fun_mk (st := s_answer_pruned) l28 k_c28 k_k28
  have b28 := F28.binds (ps := ["node", "places", "values"]) fun _ _ _ _ _ _ us hl => match us, hl with | [_, _, _], _ => rfl
  have F29 := fun_mk (st := s_answer) l29 k_c29 k_k29
  have b29 := F29.binds (ps := ["node", "places", "values"]) fun _ _ _ _ _ _ us hl => match us, hl with | [_, _, _], _ => rfl
  have F30 := fun_mk (st := s_law_cell) l30 k_c30 k_k30
  have b30 := F30.binds (ps := ["_law_script", "_law_k"]) fun _ _ _ _ _ _ us hl => match us, hl with | [_, _], _ => rfl
  have F31 := fun_mk (st := s_law_next) l31 k_c31 k_k31
  have b31 := F31.binds (ps := ["_law_cell_here", "_law_k"]) fun _ _ _ _ _ _ us hl => match us, hl with | [_, _], _ => rfl
  have F32 := fun_mk (st := s_law_words) l32 k_c32 k_k32
  have b32 := F32.binds (ps := ["_law_cell_here"]) fun _ _ _ _ _ _ us hl => match us, hl with | [_], _ => rfl
  have F33 := fun_mk (st := s_law_counted) l33 k_c33 k_k33
  have b33 := F33.binds (ps := ["_law_cell_here", "_law_words_here"]) fun _ _ _ _ _ _ us hl => match us, hl with | [_, _], _ => rfl
  have F34 := fun_mk (st := s_law_question) l34 k_c34 k_k34
  have b34 := F34.binds (ps := ["_law_cell_here", "_law_words_here", "_law_scale"]) fun _ _ _ _ _ _ us hl => match us, hl with | [_, _, _], _ => rfl
  have F35 := fun_mk (st := s_law_pile) l35 k_c35 k_k35
  have b35 := F35.binds (ps := ["_law_cells", "_law_words_here", "_law_scale"]) fun _ _ _ _ _ _ us hl => match us, hl with | [_, _, _], _ => rfl
  have F36 := fun_mk (st := s_law_node) l36 k_c36 k_k36
  have b36 := F36.binds (ps := ["_law_tree"]) fun _ _ _ _ _ _ us hl => match us, hl with | [_], _ => rfl
  have F37 := fun_mk (st := s_law_drawn) l37 k_c37 k_k37
  have b37 := F37.binds (ps := ["_law_tree", "_law_place", "_law_cell_here"]) fun _ _ _ _ _ _ us hl => match us, hl with | [_, _, _], _ => rfl
  have F38 := fun_mk (st := s_law_yes) l38 k_c38 k_k38
  have b38 := F38.binds (ps := ["_law_question_here", "_law_values"]) fun _ _ _ _ _ _ us hl => match us, hl with | [_, _], _ => rfl
  have F39 := fun_mk (st := s_law_due) l39 k_c39 k_k39
  have b39 := F39.binds (ps := ["_law_tree", "_law_places", "_law_values"]) fun _ _ _ _ _ _ us hl => match us, hl with | [_, _, _], _ => rfl
  have F40 := fun_mk (st := s_law_refused) l40 k_c40 k_k40
  have b40 := F40.binds (ps := ["_law_node_here", "_law_places", "_law_values"]) fun _ _ _ _ _ _ us hl => match us, hl with | [_, _, _], _ => rfl
  have F41 := fun_mk (st := s_law_by_base) l41 k_c41 k_k41
  have b41 := F41.binds (ps := ["_law_node_here", "_law_places", "_law_values"]) fun _ _ _ _ _ _ us hl => match us, hl with | [_, _, _], _ => rfl
  have F42 := fun_mk (st := s_law_wrong) l42 k_c42 k_k42
  have b42 := F42.binds (ps := ["_law_places", "_law_cell_here"]) fun _ _ _ _ _ _ us hl => match us, hl with | [_, _], _ => rfl
  have F43 := fun_mk (st := s_law) l43 k_c43 k_k43
  have b43 := F43.binds (ps := ["_law_script"]) fun _ _ _ _ _ _ us hl => match us, hl with | [_], _ => rfl
  exact ⟨⟨c_PruneError, PySem.W.mg_of X G a_PruneError, c_NoRatio, PySem.W.mg_of X G a_NoRatio, ⟨PySem.W.mg_of X G a_NoRatio, e_NoRatio⟩, ⟨ga_NoRatio, gt_NoRatio, cl_NoRatio, mb_NoRatio, mo_NoRatio⟩, c_NoMeasure, PySem.W.mg_of X G a_NoMeasure, ⟨PySem.W.mg_of X G a_NoMeasure, e_NoMeasure⟩, ⟨ga_NoMeasure, gt_NoMeasure, cl_NoMeasure, mb_NoMeasure, mo_NoMeasure⟩, c_NoPlace, PySem.W.mg_of X G a_NoPlace, c_NoPruning, PySem.W.mg_of X G a_NoPruning, ⟨PySem.W.mg_of X G a_NoPruning, e_NoPruning⟩, ⟨ga_NoPruning, gt_NoPruning, cl_NoPruning, mb_NoPruning, mo_NoPruning⟩, c_Node, PySem.W.mg_of X G a_Node, ⟨pg_Node, hd_Node, po_Node, sa_Node⟩, c_Leaf, PySem.W.mg_of X G a_Leaf, ⟨pg_Leaf, hd_Leaf, po_Leaf, sa_Leaf⟩, c_Fork, PySem.W.mg_of X G a_Fork, ⟨pg_Fork, hd_Fork, po_Fork, sa_Fork⟩, _, _, F0, b0, PySem.W.mg_of X G a0, _, _, F1, b1, PySem.W.mg_of X G a1, _, _, F2, b2, PySem.W.mg_of X G a2, _, _, F3, b3, PySem.W.mg_of X G a3, _, _, F4, b4, PySem.W.mg_of X G a4, _, _, F5, b5, PySem.W.mg_of X G a5, _, _, F6, b6, PySem.W.mg_of X G a6, _, _, F7, b7, PySem.W.mg_of X G a7, _, _, F8, b8, PySem.W.mg_of X G a8, _, _, F9, b9, PySem.W.mg_of X G a9, _, _, F10, b10, ⟨mk_Node, a10, i10, kc_Node⟩, _, _, F11, b11, ⟨a11, i11, k_k11⟩, _, _, F12, b12, ⟨a12, i12, k_k12⟩, _, _, F13, b13, ⟨a13, i13, k_k13⟩, _, _, F14, b14, ⟨a14, i14, k_k14⟩, _, _, F15, b15, ⟨a15, i15, k_k15⟩, _, _, F16, b16, ⟨a16, i16, k_k16⟩, _, _, F17, b17, ⟨a17, i17, k_k17⟩, _, _, F18, b18, ⟨a18, i18, k_k18⟩, _, _, F19, b19, ⟨mk_Fork, a19, i19, kc_Fork⟩, _, _, F20, b20, ⟨a20, i20, k_k20⟩, _, _, F21, b21, PySem.W.mg_of X G a21, _, _, F22, b22, PySem.W.mg_of X G a22, _, _, F23, b23, PySem.W.mg_of X G a23, _, _, F24, b24, PySem.W.mg_of X G a24, _, _, F25, b25, PySem.W.mg_of X G a25, _, _, F26, b26, PySem.W.mg_of X G a26, _, _, F27, b27, PySem.W.mg_of X G a27, _, _, F28, b28, PySem.W.mg_of X G a28, _, _, F29, b29, PySem.W.mg_of X G a29, _, _, F30, b30, PySem.W.mg_of X G a30, _, _, F31, b31, PySem.W.mg_of X G a31, _, _, F32, b32, PySem.W.mg_of X G a32, _, _, F33, b33, PySem.W.mg_of X G a33, _, _, F34, b34, PySem.W.mg_of X G a34, _, _, F35, b35, PySem.W.mg_of X G a35, _, _, F36, b36, PySem.W.mg_of X G a36, _, _, F37, b37, PySem.W.mg_of X G a37, _, _, F38, b38, PySem.W.mg_of X G a38, _, _, F39, b39, PySem.W.mg_of X G a39, _, _, F40, b40, PySem.W.mg_of X G a40, _, _, F41, b41, PySem.W.mg_of X G a41, _, _, F42, b42, PySem.W.mg_of X G a42, _, _, F43, b43, PySem.W.mg_of X G a43, ⟨imk_Leaf, ia_Leaf_init, ii_Leaf_init, ikc_Leaf⟩, ⟨ia_Leaf_at, ii_Leaf_at, k_k20⟩, ⟨ia_Fork_at, ii_Fork_at, k_k20⟩, ⟨sg_Node_init, rd_Node_init, fc_Node_init, k_k10⟩, c_MEASURES, PySem.W.mg_of X G a_MEASURES, q_MEASURES, PySem.W.mg_none_of X G z_ValueError, PySem.W.mg_none_of X G z_abs, PySem.W.mg_none_of X G z_all, PySem.W.mg_none_of X G z_bool, PySem.W.mg_none_of X G z_enumerate, PySem.W.mg_none_of X G z_int, PySem.W.mg_none_of X G z_isinstance, PySem.W.mg_none_of X G z_len, PySem.W.mg_none_of X G z_list, PySem.W.mg_none_of X G z_max, PySem.W.mg_none_of X G z_range, PySem.W.mg_none_of X G z_set, PySem.W.mg_none_of X G z_sorted, PySem.W.mg_none_of X G z_str, PySem.W.mg_none_of X G z_sum, ht1, ht3, ht4, hnLc, hnFcd, hnFqn, hnFys, hnFno, hnFlt, hnFdh, hclL, hclF, hogt, hotk, homL, homF, hkLF, hkFF⟩, rfl, fun s u => .of_eq rfl⟩

end Lw

/-! THE CLOSING: the program's top, run once by the kernel, its objects in a tree -/
abbrev PySem.W.Fast.tw12120295609198092659 : PySem.Program := PySem.Challenge.pw_prunepath_k42_answers_of_pruned_trees
theorem PySem.W.Fast.te12120295609198092659 : PySem.Challenge.pw_prunepath_k42_answers_of_pruned_trees = PySem.W.Fast.tw12120295609198092659 := rfl
namespace Cz
open PySem PySem.W PyProof.Rows
def goT (ok : Thread → Bool) (st : SharedT → Thread → Option (SharedT × Thread)) : Nat → SharedT → Thread → Option SharedT
  | 0, _, _ => none
  | n + 1, s, t => match through t with
    | true => some s
    | false => match ok t with
      | false => none
      | true => match st s t with
        | some (s', t') => goT ok st n s' t'
        | none => none
theorem goT_of {tb : String → Option Builtin} {p : Program} {w : World} {n₀ : Nat} {ann : Option Value} : ∀ {n : Nat} {s s₁ : SharedT} {t : Thread}, goT (stepOk n₀ ann) (stepT (denote tb) p w) n s t = some s₁ → topRun tb p w n₀ ann n s.abs t = some s₁.abs
  | 0, _, _, _, h => by cases h
  | n + 1, s, s₁, t, h => by
    unfold goT at h
    unfold topRun
    cases h1 : through t with
    | true =>
      rw [h1] at h
      obtain rfl := Option.some.inj h
      rfl
    | false =>
      rw [h1] at h
      cases h2 : stepOk n₀ ann t with
      | false => rw [h2] at h; cases h
      | true =>
        rw [h2] at h
        cases h3 : stepT (denote tb) p w s t with
        | none => rw [h3] at h; cases h
        | some z =>
          obtain ⟨s', t'⟩ := z
          rw [h3] at h
          simp only [stepT_spec h3]
          exact goT_of h
noncomputable def bt0 (P : Params) : BT := (((((((((((BT.nil.ins 0 (boot_o_0 P)).ins 1 (boot_o_1 P)).ins 2 (boot_o_2 P)).ins 3 (boot_o_3 P)).ins 4 (boot_o_4 P)).ins 5 (boot_o_5 P)).ins 6 (boot_o_6 P)).ins 7 (boot_o_7 P)).ins 8 (boot_o_8 P)).ins 9 (boot_o_9 P)).ins 10 (boot_o_10 P))
theorem bt0_abs (P : Params) : absHeap (bt0 P) 11 (boot_heap P).life = boot_heap P := rfl
noncomputable def sT (w : World) (os : OsState) : SharedT := ⟨bt0 w.params, 11, (boot_heap w.params).life, Array.mk [], boot_drawn, boot_toks, os⟩
noncomputable def sA (w : World) (os : OsState) : Shared := ⟨boot_heap w.params, Array.mk [], boot_drawn, boot_toks, os⟩
theorem sT_abs (w : World) (os : OsState) : (sT w os).abs = sA w os := by
  unfold sT SharedT.abs sA
  dsimp only
  rw [bt0_abs]
theorem left_tree {p q : Program} {loose : List Str} {Xt : Shared → Bool} {α : Type} {Yf : Shared → α} {Ya : World → α} {N : Nat} {g0 : Bool}
    (o : ∀ w : World, (fencedOpening treeTable p w N).map (fun s => (s.heap, s.gens, s.drawn, s.toks)) = some (boot_heap w.params, Array.mk [], boot_drawn, boot_toks))
    (h : ∀ w : World, (fun os : OsState => (goT (stepOk 11 ((boot_heap w.params).nsMap mainGlobals "__annotations__")) (stepT (denote treeTable) p w) N (sT w os) (topStub p)).map fun s => (staticsOk (importedModules p.main.body) (boot_heap w.params) s.abs.heap && namesBound p s.abs.heap && gensDone s.abs && laidKept (boot_heap w.params) s.abs.heap, openSeen q loose (importedModules p.main.body) Xt g0 s.abs)) = fun _ => some (true, openGood q loose))
    (h' : ∀ w : World, (fun os : OsState => (goT (stepOk 11 ((boot_heap w.params).nsMap mainGlobals "__annotations__")) (stepT (denote treeTable) p w) N (sT w os) (topStub p)).map fun s => Yf s.abs) = fun _ => some (Ya w)) :
    LeftO p q loose Xt Yf Ya N g0 := fun w => by
  obtain ⟨⟨h1, gs, d, k, os⟩, e, e'⟩ := Option.map_eq_some_iff.mp (o w)
  obtain ⟨rfl, rfl, rfl, rfl⟩ : h1 = boot_heap w.params ∧ gs = Array.mk [] ∧ d = boot_drawn ∧ k = boot_toks := by simpa using e'
  unfold openEnds
  rw [e]
  obtain ⟨s₁, e1, e2⟩ := Option.map_eq_some_iff.mp (congrFun (h w) os)
  injection e2 with e2 e3
  have e4 := congrFun (h' w) os
  rw [e1] at e4
  have e4 : Yf s₁.abs = Ya w := Option.some.inj e4
  have e5 := goT_of e1
  rw [sT_abs] at e5
  have ez : topFrom treeTable p w N (sA w os) = some s₁.abs := by
    unfold topFrom
    have c : ((sA w os).heap.isNs mainGlobals && (sA w os).gens.size == 0) = true := by kernel_rfl
    rw [c]
    show (topRun treeTable p w 11 ((boot_heap w.params).nsMap mainGlobals "__annotations__") N (sA w os) (topStub p)).bind _ = _
    rw [e5]
    show (match staticsOk (importedModules p.main.body) (boot_heap w.params) s₁.abs.heap && namesBound p s₁.abs.heap && gensDone s₁.abs && laidKept (boot_heap w.params) s₁.abs.heap with
      | true => some s₁.abs
      | false => none) = some s₁.abs
    rw [e2]
  show (topFrom treeTable p w N (sA w os)).map _ = _
  rw [ez]
  show some (openSeen q loose (importedModules p.main.body) Xt g0 s₁.abs, Yf s₁.abs) = some (openGood q loose, Ya w)
  rw [e3, e4]
def keep : List Nat := [1, 2, 3, 4, 5, 7, 9, 10, 12, 13, 14, 15, 16, 17, 18, 20, 22, 23, 24, 26, 27, 28, 29, 31, 32, 33, 35, 36, 38, 39, 40, 41, 42, 43, 44, 45, 46, 47, 48, 49, 50, 51]
def q : Program := PySem.W.view PySem.Challenge.pw_prunepath_k42_answers_of_pruned_trees keep
def loose : List Str := []
set_option maxRecDepth 100000 in
set_option maxHeartbeats 0 in
theorem run1 : ∀ w : World, (fun os : OsState => (goT (stepOk 11 ((boot_heap w.params).nsMap mainGlobals "__annotations__")) (stepT (denote treeTable) PySem.Challenge.pw_prunepath_k42_answers_of_pruned_trees w) 6556 (sT w os) (topStub PySem.Challenge.pw_prunepath_k42_answers_of_pruned_trees)).map fun s => (staticsOk (importedModules PySem.Challenge.pw_prunepath_k42_answers_of_pruned_trees.main.body) (boot_heap w.params) s.abs.heap && namesBound PySem.Challenge.pw_prunepath_k42_answers_of_pruned_trees s.abs.heap && gensDone s.abs && laidKept (boot_heap w.params) s.abs.heap, openSeen q loose (importedModules PySem.Challenge.pw_prunepath_k42_answers_of_pruned_trees.main.body) (fun s => xlAt q [] s && recOk (RowW.records (OpenRow.toRowW (OpenLaw.row PySem.Challenge.rw_prunepath_k42_answers_of_pruned_trees))) s) true s.abs)) = fun _ => some (true, openGood q loose) := by
  rw [PySem.W.Fast.te6613529449190102663, PySem.W.Fast.te10156331382660048174, PySem.W.Fast.te11892475500146522536, PySem.W.Fast.te14364793385576792824, PySem.W.Fast.te4187177175401517315, PySem.W.Fast.te5923862056798008813]
  (intro w; kernel_rfl)
end Cz

open PySem PySem.W PyProof.Rows
local macro_rules | `(tactic| o_head $H) => `(tactic| (refine holds_open (q := Cz.q) (loose := Cz.loose) (Xt := fun s => xlAt Cz.q [] s && recOk (RowW.records (OpenRow.toRowW (OpenLaw.row PySem.Challenge.rw_prunepath_k42_answers_of_pruned_trees))) s) (XP := XL Cz.q []) (Yf := Hook.obs $H) (Ya := Hook.val $H) (YP := Hook.says $H) (N := 6556) ?hl (Hook.of $H) (Hook.keeps $H) (fun s e => xl_of s (Bool.and_eq_true_iff.mp e).1) XL.keeps (by rfl) (by rfl) (by rfl) (fun s e => recFacts_of (Bool.and_eq_true_iff.mp e).2) (by rfl) (by first | assumption | decide +kernel) (by decide +kernel) ⟨rfl, rfl, rfl, rfl, rfl, by decide +kernel⟩ ?hw ?hc; (case hl => (refine Cz.left_tree (boot_open (by kernel_rfl) (by decide) fun s => by kernel_rfl) Cz.run1 ?_; rw [PySem.W.Fast.te6613529449190102663, PySem.W.Fast.te10156331382660048174, PySem.W.Fast.te11892475500146522536, PySem.W.Fast.te14364793385576792824]; (intro w; kernel_rfl))); (case hw => w_witness2)))
set_option maxRecDepth 100000 in
set_option maxHeartbeats 0 in
theorem PySem.Challenge.cw_prunepath_k42_answers_of_pruned_trees_holds : PySem.Challenge.rw_prunepath_k42_answers_of_pruned_trees.Holds := by
  w_on; o_law; k_head
  k_fill
  refine L2.walk_ofX (l := PySem.Challenge.rw_prunepath_k42_answers_of_pruned_trees) (n := 63) (k := 40) (x := "_law_script") (sp := Lw.sp_law) rfl (by decide) rfl ⟨rfl, by decide, by decide, rfl⟩ (fun w h Y => PySem.W.kIn_of Y) ?F ?S
  case F =>
    intro w mg fa h KX G hmg
    have T : ∃ T : Lw.Tx (L2.KOf KX) mg, T.f_law = fa ∧ ∀ (s : Shared) (u : Value), BindsTo s T.d_law ⟨[u], []⟩ [("_law_script", u)] := by
      dsimp only [L2.KOf]
      refine' Lw.fin KX G hmg ?ga_PruneError ?ga_NoRatio ?ge_NoRatio ?gga_NoRatio ?ggt_NoRatio ?gcl_NoRatio ?gmb_NoRatio ?gmo_NoRatio ?ga_NoMeasure ?ge_NoMeasure ?gga_NoMeasure ?ggt_NoMeasure ?gcl_NoMeasure ?gmb_NoMeasure ?gmo_NoMeasure ?ga_NoPlace ?ga_NoPruning ?ge_NoPruning ?gga_NoPruning ?ggt_NoPruning ?gcl_NoPruning ?gmb_NoPruning ?gmo_NoPruning ?ga_Node ?gpg_Node ?ghd_Node ?gpo_Node ?gsa_Node ?ga_Leaf ?gpg_Leaf ?ghd_Leaf ?gpo_Leaf ?gsa_Leaf ?ga_Fork ?gpg_Fork ?ghd_Fork ?gpo_Fork ?gsa_Fork ?ga0 ?gl0 ?gk_c0 ?gk_k0 ?ga1 ?gl1 ?gk_c1 ?gk_k1 ?ga2 ?gl2 ?gk_c2 ?gk_k2 ?ga3 ?gl3 ?gk_c3 ?gk_k3 ?ga4 ?gl4 ?gk_c4 ?gk_k4 ?ga5 ?gl5 ?gk_c5 ?gk_k5 ?ga6 ?gl6 ?gk_c6 ?gk_k6 ?ga7 ?gl7 ?gk_c7 ?gk_k7 ?ga8 ?gl8 ?gk_c8 ?gk_k8 ?ga9 ?gl9 ?gk_c9 ?gk_k9 ?ga10 ?gi10 ?gmk_Node ?gkc_Node ?gl10 ?gk_c10 ?gk_k10 ?ga11 ?gi11 ?gl11 ?gk_c11 ?gk_k11 ?ga12 ?gi12 ?gl12 ?gk_c12 ?gk_k12 ?ga13 ?gi13 ?gl13 ?gk_c13 ?gk_k13 ?ga14 ?gi14 ?gl14 ?gk_c14 ?gk_k14 ?ga15 ?gi15 ?gl15 ?gk_c15 ?gk_k15 ?ga16 ?gi16 ?gl16 ?gk_c16 ?gk_k16 ?ga17 ?gi17 ?gl17 ?gk_c17 ?gk_k17 ?ga18 ?gi18 ?gl18 ?gk_c18 ?gk_k18 ?ga19 ?gi19 ?gmk_Fork ?gkc_Fork ?gl19 ?gk_c19 ?gk_k19 ?ga20 ?gi20 ?gl20 ?gk_c20 ?gk_k20 ?ga21 ?gl21 ?gk_c21 ?gk_k21 ?ga22 ?gl22 ?gk_c22 ?gk_k22 ?ga23 ?gl23 ?gk_c23 ?gk_k23 ?ga24 ?gl24 ?gk_c24 ?gk_k24 ?ga25 ?gl25 ?gk_c25 ?gk_k25 ?ga26 ?gl26 ?gk_c26 ?gk_k26 ?ga27 ?gl27 ?gk_c27 ?gk_k27 ?ga28 ?gl28 ?gk_c28 ?gk_k28 ?ga29 ?gl29 ?gk_c29 ?gk_k29 ?ga30 ?gl30 ?gk_c30 ?gk_k30 ?ga31 ?gl31 ?gk_c31 ?gk_k31 ?ga32 ?gl32 ?gk_c32 ?gk_k32 ?ga33 ?gl33 ?gk_c33 ?gk_k33 ?ga34 ?gl34 ?gk_c34 ?gk_k34 ?ga35 ?gl35 ?gk_c35 ?gk_k35 ?ga36 ?gl36 ?gk_c36 ?gk_k36 ?ga37 ?gl37 ?gk_c37 ?gk_k37 ?ga38 ?gl38 ?gk_c38 ?gk_k38 ?ga39 ?gl39 ?gk_c39 ?gk_k39 ?ga40 ?gl40 ?gk_c40 ?gk_k40 ?ga41 ?gl41 ?gk_c41 ?gk_k41 ?ga42 ?gl42 ?gk_c42 ?gk_k42 ?ga43 ?gl43 ?gk_c43 ?gk_k43 ?gia_Leaf_init ?gii_Leaf_init ?gimk_Leaf ?gikc_Leaf ?gia_Leaf_at ?gii_Leaf_at ?gia_Fork_at ?gii_Fork_at ?gsg_Node_init ?grd_Node_init ?gfc_Node_init ?ga_MEASURES ?gl_MEASURES ?gq_MEASURES ?gz_ValueError ?gz_abs ?gz_all ?gz_bool ?gz_enumerate ?gz_int ?gz_isinstance ?gz_len ?gz_list ?gz_max ?gz_range ?gz_set ?gz_sorted ?gz_str ?gz_sum ?ght1 ?ght3 ?ght4 ?ghnLc ?ghnFcd ?ghnFqn ?ghnFys ?ghnFno ?ghnFlt ?ghnFdh ?ghclL ?ghclF ?ghogt ?ghotk ?ghomL ?ghomF ?ghkLF ?ghkFF
      (case ga_PruneError => first | k_is | k_exc | kit_is | kts_exm)
      (case ga_NoRatio => first | k_is | k_exc | kit_is | kts_exm)
      (case ge_NoRatio => first | k_is | k_exc | kit_is | kts_exm)
      (case gga_NoRatio => first | k_is | k_exc | kit_is | kts_exm)
      (case ggt_NoRatio => first | k_is | k_exc | kit_is | kts_exm)
      (case gcl_NoRatio => first | k_is | k_exc | kit_is | kts_exm)
      (case gmb_NoRatio => first | k_is | k_exc | kit_is | kts_exm)
      (case gmo_NoRatio => first | k_is | k_exc | kit_is | kts_exm)
      (case ga_NoMeasure => first | k_is | k_exc | kit_is | kts_exm)
      (case ge_NoMeasure => first | k_is | k_exc | kit_is | kts_exm)
      (case gga_NoMeasure => first | k_is | k_exc | kit_is | kts_exm)
      (case ggt_NoMeasure => first | k_is | k_exc | kit_is | kts_exm)
      (case gcl_NoMeasure => first | k_is | k_exc | kit_is | kts_exm)
      (case gmb_NoMeasure => first | k_is | k_exc | kit_is | kts_exm)
      (case gmo_NoMeasure => first | k_is | k_exc | kit_is | kts_exm)
      (case ga_NoPlace => first | k_is | k_exc | kit_is | kts_exm)
      (case ga_NoPruning => first | k_is | k_exc | kit_is | kts_exm)
      (case ge_NoPruning => first | k_is | k_exc | kit_is | kts_exm)
      (case gga_NoPruning => first | k_is | k_exc | kit_is | kts_exm)
      (case ggt_NoPruning => first | k_is | k_exc | kit_is | kts_exm)
      (case gcl_NoPruning => first | k_is | k_exc | kit_is | kts_exm)
      (case gmb_NoPruning => first | k_is | k_exc | kit_is | kts_exm)
      (case gmo_NoPruning => first | k_is | k_exc | kit_is | kts_exm)
      (case ga_Node => first | k_is | k_exc | kit_is | kts_exm)
      (case gpg_Node => first | k_is | k_exc | kit_is | kts_exm)
      (case ghd_Node => first | k_is | k_exc | kit_is | kts_exm)
      (case gpo_Node => first | k_is | k_exc | kit_is | kts_exm)
      (case gsa_Node => first | k_is | k_exc | kit_is | kts_exm)
      (case ga_Leaf => first | k_is | k_exc | kit_is | kts_exm)
      (case gpg_Leaf => first | k_is | k_exc | kit_is | kts_exm)
      (case ghd_Leaf => first | k_is | k_exc | kit_is | kts_exm)
      (case gpo_Leaf => first | k_is | k_exc | kit_is | kts_exm)
      (case gsa_Leaf => first | k_is | k_exc | kit_is | kts_exm)
      (case ga_Fork => first | k_is | k_exc | kit_is | kts_exm)
      (case gpg_Fork => first | k_is | k_exc | kit_is | kts_exm)
      (case ghd_Fork => first | k_is | k_exc | kit_is | kts_exm)
      (case gpo_Fork => first | k_is | k_exc | kit_is | kts_exm)
      (case gsa_Fork => first | k_is | k_exc | kit_is | kts_exm)
      (case ga0 => first | k_is | k_exc | kit_is | kts_exm)
      (case gl0 => first | k_is | k_exc | kit_is | kts_exm)
      (case gk_c0 => first | k_is | k_exc | kit_is | kts_exm)
      (case gk_k0 => first | k_is | k_exc | kit_is | kts_exm)
      (case ga1 => first | k_is | k_exc | kit_is | kts_exm)
      (case gl1 => first | k_is | k_exc | kit_is | kts_exm)
      (case gk_c1 => first | k_is | k_exc | kit_is | kts_exm)
      (case gk_k1 => first | k_is | k_exc | kit_is | kts_exm)
      (case ga2 => first | k_is | k_exc | kit_is | kts_exm)
      (case gl2 => first | k_is | k_exc | kit_is | kts_exm)
      (case gk_c2 => first | k_is | k_exc | kit_is | kts_exm)
      (case gk_k2 => first | k_is | k_exc | kit_is | kts_exm)
      (case ga3 => first | k_is | k_exc | kit_is | kts_exm)
      (case gl3 => first | k_is | k_exc | kit_is | kts_exm)
      (case gk_c3 => first | k_is | k_exc | kit_is | kts_exm)
      (case gk_k3 => first | k_is | k_exc | kit_is | kts_exm)
      (case ga4 => first | k_is | k_exc | kit_is | kts_exm)
      (case gl4 => first | k_is | k_exc | kit_is | kts_exm)
      (case gk_c4 => first | k_is | k_exc | kit_is | kts_exm)
      (case gk_k4 => first | k_is | k_exc | kit_is | kts_exm)
      (case ga5 => first | k_is | k_exc | kit_is | kts_exm)
      (case gl5 => first | k_is | k_exc | kit_is | kts_exm)
      (case gk_c5 => first | k_is | k_exc | kit_is | kts_exm)
      (case gk_k5 => first | k_is | k_exc | kit_is | kts_exm)
      (case ga6 => first | k_is | k_exc | kit_is | kts_exm)
      (case gl6 => first | k_is | k_exc | kit_is | kts_exm)
      (case gk_c6 => first | k_is | k_exc | kit_is | kts_exm)
      (case gk_k6 => first | k_is | k_exc | kit_is | kts_exm)
      (case ga7 => first | k_is | k_exc | kit_is | kts_exm)
      (case gl7 => first | k_is | k_exc | kit_is | kts_exm)
      (case gk_c7 => first | k_is | k_exc | kit_is | kts_exm)
      (case gk_k7 => first | k_is | k_exc | kit_is | kts_exm)
      (case ga8 => first | k_is | k_exc | kit_is | kts_exm)
      (case gl8 => first | k_is | k_exc | kit_is | kts_exm)
      (case gk_c8 => first | k_is | k_exc | kit_is | kts_exm)
      (case gk_k8 => first | k_is | k_exc | kit_is | kts_exm)
      (case ga9 => first | k_is | k_exc | kit_is | kts_exm)
      (case gl9 => first | k_is | k_exc | kit_is | kts_exm)
      (case gk_c9 => first | k_is | k_exc | kit_is | kts_exm)
      (case gk_k9 => first | k_is | k_exc | kit_is | kts_exm)
      (case ga10 => first | k_is | k_exc | kit_is | kts_exm)
      (case gi10 => first | k_is | k_exc | kit_is | kts_exm)
      (case gmk_Node => first | k_is | k_exc | kit_is | kts_exm)
      (case gkc_Node => first | k_is | k_exc | kit_is | kts_exm)
      (case gl10 => first | k_is | k_exc | kit_is | kts_exm)
      (case gk_c10 => first | k_is | k_exc | kit_is | kts_exm)
      (case gk_k10 => first | k_is | k_exc | kit_is | kts_exm)
      (case ga11 => first | k_is | k_exc | kit_is | kts_exm)
      (case gi11 => first | k_is | k_exc | kit_is | kts_exm)
      (case gl11 => first | k_is | k_exc | kit_is | kts_exm)
      (case gk_c11 => first | k_is | k_exc | kit_is | kts_exm)
      (case gk_k11 => first | k_is | k_exc | kit_is | kts_exm)
      (case ga12 => first | k_is | k_exc | kit_is | kts_exm)
      (case gi12 => first | k_is | k_exc | kit_is | kts_exm)
      (case gl12 => first | k_is | k_exc | kit_is | kts_exm)
      (case gk_c12 => first | k_is | k_exc | kit_is | kts_exm)
      (case gk_k12 => first | k_is | k_exc | kit_is | kts_exm)
      (case ga13 => first | k_is | k_exc | kit_is | kts_exm)
      (case gi13 => first | k_is | k_exc | kit_is | kts_exm)
      (case gl13 => first | k_is | k_exc | kit_is | kts_exm)
      (case gk_c13 => first | k_is | k_exc | kit_is | kts_exm)
      (case gk_k13 => first | k_is | k_exc | kit_is | kts_exm)
      (case ga14 => first | k_is | k_exc | kit_is | kts_exm)
      (case gi14 => first | k_is | k_exc | kit_is | kts_exm)
      (case gl14 => first | k_is | k_exc | kit_is | kts_exm)
      (case gk_c14 => first | k_is | k_exc | kit_is | kts_exm)
      (case gk_k14 => first | k_is | k_exc | kit_is | kts_exm)
      (case ga15 => first | k_is | k_exc | kit_is | kts_exm)
      (case gi15 => first | k_is | k_exc | kit_is | kts_exm)
      (case gl15 => first | k_is | k_exc | kit_is | kts_exm)
      (case gk_c15 => first | k_is | k_exc | kit_is | kts_exm)
      (case gk_k15 => first | k_is | k_exc | kit_is | kts_exm)
      (case ga16 => first | k_is | k_exc | kit_is | kts_exm)
      (case gi16 => first | k_is | k_exc | kit_is | kts_exm)
      (case gl16 => first | k_is | k_exc | kit_is | kts_exm)
      (case gk_c16 => first | k_is | k_exc | kit_is | kts_exm)
      (case gk_k16 => first | k_is | k_exc | kit_is | kts_exm)
      (case ga17 => first | k_is | k_exc | kit_is | kts_exm)
      (case gi17 => first | k_is | k_exc | kit_is | kts_exm)
      (case gl17 => first | k_is | k_exc | kit_is | kts_exm)
      (case gk_c17 => first | k_is | k_exc | kit_is | kts_exm)
      (case gk_k17 => first | k_is | k_exc | kit_is | kts_exm)
      (case ga18 => first | k_is | k_exc | kit_is | kts_exm)
      (case gi18 => first | k_is | k_exc | kit_is | kts_exm)
      (case gl18 => first | k_is | k_exc | kit_is | kts_exm)
      (case gk_c18 => first | k_is | k_exc | kit_is | kts_exm)
      (case gk_k18 => first | k_is | k_exc | kit_is | kts_exm)
      (case ga19 => first | k_is | k_exc | kit_is | kts_exm)
      (case gi19 => first | k_is | k_exc | kit_is | kts_exm)
      (case gmk_Fork => first | k_is | k_exc | kit_is | kts_exm)
      (case gkc_Fork => first | k_is | k_exc | kit_is | kts_exm)
      (case gl19 => first | k_is | k_exc | kit_is | kts_exm)
      (case gk_c19 => first | k_is | k_exc | kit_is | kts_exm)
      (case gk_k19 => first | k_is | k_exc | kit_is | kts_exm)
      (case ga20 => first | k_is | k_exc | kit_is | kts_exm)
      (case gi20 => first | k_is | k_exc | kit_is | kts_exm)
      (case gl20 => first | k_is | k_exc | kit_is | kts_exm)
      (case gk_c20 => first | k_is | k_exc | kit_is | kts_exm)
      (case gk_k20 => first | k_is | k_exc | kit_is | kts_exm)
      (case ga21 => first | k_is | k_exc | kit_is | kts_exm)
      (case gl21 => first | k_is | k_exc | kit_is | kts_exm)
      (case gk_c21 => first | k_is | k_exc | kit_is | kts_exm)
      (case gk_k21 => first | k_is | k_exc | kit_is | kts_exm)
      (case ga22 => first | k_is | k_exc | kit_is | kts_exm)
      (case gl22 => first | k_is | k_exc | kit_is | kts_exm)
      (case gk_c22 => first | k_is | k_exc | kit_is | kts_exm)
      (case gk_k22 => first | k_is | k_exc | kit_is | kts_exm)
      (case ga23 => first | k_is | k_exc | kit_is | kts_exm)
      (case gl23 => first | k_is | k_exc | kit_is | kts_exm)
      (case gk_c23 => first | k_is | k_exc | kit_is | kts_exm)
      (case gk_k23 => first | k_is | k_exc | kit_is | kts_exm)
      (case ga24 => first | k_is | k_exc | kit_is | kts_exm)
      (case gl24 => first | k_is | k_exc | kit_is | kts_exm)
      (case gk_c24 => first | k_is | k_exc | kit_is | kts_exm)
      (case gk_k24 => first | k_is | k_exc | kit_is | kts_exm)
      (case ga25 => first | k_is | k_exc | kit_is | kts_exm)
      (case gl25 => first | k_is | k_exc | kit_is | kts_exm)
      (case gk_c25 => first | k_is | k_exc | kit_is | kts_exm)
      (case gk_k25 => first | k_is | k_exc | kit_is | kts_exm)
      (case ga26 => first | k_is | k_exc | kit_is | kts_exm)
      (case gl26 => first | k_is | k_exc | kit_is | kts_exm)
      (case gk_c26 => first | k_is | k_exc | kit_is | kts_exm)
      (case gk_k26 => first | k_is | k_exc | kit_is | kts_exm)
      (case ga27 => first | k_is | k_exc | kit_is | kts_exm)
      (case gl27 => first | k_is | k_exc | kit_is | kts_exm)
      (case gk_c27 => first | k_is | k_exc | kit_is | kts_exm)
      (case gk_k27 => first | k_is | k_exc | kit_is | kts_exm)
      (case ga28 => first | k_is | k_exc | kit_is | kts_exm)
      (case gl28 => first | k_is | k_exc | kit_is | kts_exm)
      (case gk_c28 => first | k_is | k_exc | kit_is | kts_exm)
      (case gk_k28 => first | k_is | k_exc | kit_is | kts_exm)
      (case ga29 => first | k_is | k_exc | kit_is | kts_exm)
      (case gl29 => first | k_is | k_exc | kit_is | kts_exm)
      (case gk_c29 => first | k_is | k_exc | kit_is | kts_exm)
      (case gk_k29 => first | k_is | k_exc | kit_is | kts_exm)
      (case ga30 => first | k_is | k_exc | kit_is | kts_exm)
      (case gl30 => first | k_is | k_exc | kit_is | kts_exm)
      (case gk_c30 => first | k_is | k_exc | kit_is | kts_exm)
      (case gk_k30 => first | k_is | k_exc | kit_is | kts_exm)
      (case ga31 => first | k_is | k_exc | kit_is | kts_exm)
      (case gl31 => first | k_is | k_exc | kit_is | kts_exm)
      (case gk_c31 => first | k_is | k_exc | kit_is | kts_exm)
      (case gk_k31 => first | k_is | k_exc | kit_is | kts_exm)
      (case ga32 => first | k_is | k_exc | kit_is | kts_exm)
      (case gl32 => first | k_is | k_exc | kit_is | kts_exm)
      (case gk_c32 => first | k_is | k_exc | kit_is | kts_exm)
      (case gk_k32 => first | k_is | k_exc | kit_is | kts_exm)
      (case ga33 => first | k_is | k_exc | kit_is | kts_exm)
      (case gl33 => first | k_is | k_exc | kit_is | kts_exm)
      (case gk_c33 => first | k_is | k_exc | kit_is | kts_exm)
      (case gk_k33 => first | k_is | k_exc | kit_is | kts_exm)
      (case ga34 => first | k_is | k_exc | kit_is | kts_exm)
      (case gl34 => first | k_is | k_exc | kit_is | kts_exm)
      (case gk_c34 => first | k_is | k_exc | kit_is | kts_exm)
      (case gk_k34 => first | k_is | k_exc | kit_is | kts_exm)
      (case ga35 => first | k_is | k_exc | kit_is | kts_exm)
      (case gl35 => first | k_is | k_exc | kit_is | kts_exm)
      (case gk_c35 => first | k_is | k_exc | kit_is | kts_exm)
      (case gk_k35 => first | k_is | k_exc | kit_is | kts_exm)
      (case ga36 => first | k_is | k_exc | kit_is | kts_exm)
      (case gl36 => first | k_is | k_exc | kit_is | kts_exm)
      (case gk_c36 => first | k_is | k_exc | kit_is | kts_exm)
      (case gk_k36 => first | k_is | k_exc | kit_is | kts_exm)
      (case ga37 => first | k_is | k_exc | kit_is | kts_exm)
      (case gl37 => first | k_is | k_exc | kit_is | kts_exm)
      (case gk_c37 => first | k_is | k_exc | kit_is | kts_exm)
      (case gk_k37 => first | k_is | k_exc | kit_is | kts_exm)
      (case ga38 => first | k_is | k_exc | kit_is | kts_exm)
      (case gl38 => first | k_is | k_exc | kit_is | kts_exm)
      (case gk_c38 => first | k_is | k_exc | kit_is | kts_exm)
      (case gk_k38 => first | k_is | k_exc | kit_is | kts_exm)
      (case ga39 => first | k_is | k_exc | kit_is | kts_exm)
      (case gl39 => first | k_is | k_exc | kit_is | kts_exm)
      (case gk_c39 => first | k_is | k_exc | kit_is | kts_exm)
      (case gk_k39 => first | k_is | k_exc | kit_is | kts_exm)
      (case ga40 => first | k_is | k_exc | kit_is | kts_exm)
      (case gl40 => first | k_is | k_exc | kit_is | kts_exm)
      (case gk_c40 => first | k_is | k_exc | kit_is | kts_exm)
      (case gk_k40 => first | k_is | k_exc | kit_is | kts_exm)
      (case ga41 => first | k_is | k_exc | kit_is | kts_exm)
      (case gl41 => first | k_is | k_exc | kit_is | kts_exm)
      (case gk_c41 => first | k_is | k_exc | kit_is | kts_exm)
      (case gk_k41 => first | k_is | k_exc | kit_is | kts_exm)
      (case ga42 => first | k_is | k_exc | kit_is | kts_exm)
      (case gl42 => first | k_is | k_exc | kit_is | kts_exm)
      (case gk_c42 => first | k_is | k_exc | kit_is | kts_exm)
      (case gk_k42 => first | k_is | k_exc | kit_is | kts_exm)
      (case ga43 => first | k_is | k_exc | kit_is | kts_exm)
      (case gl43 => first | k_is | k_exc | kit_is | kts_exm)
      (case gk_c43 => first | k_is | k_exc | kit_is | kts_exm)
      (case gk_k43 => first | k_is | k_exc | kit_is | kts_exm)
      (case gia_Leaf_init => first | k_is | k_exc | kit_is | kts_exm)
      (case gii_Leaf_init => first | k_is | k_exc | kit_is | kts_exm)
      (case gimk_Leaf => first | k_is | k_exc | kit_is | kts_exm)
      (case gikc_Leaf => first | k_is | k_exc | kit_is | kts_exm)
      (case gia_Leaf_at => first | k_is | k_exc | kit_is | kts_exm)
      (case gii_Leaf_at => first | k_is | k_exc | kit_is | kts_exm)
      (case gia_Fork_at => first | k_is | k_exc | kit_is | kts_exm)
      (case gii_Fork_at => first | k_is | k_exc | kit_is | kts_exm)
      (case gsg_Node_init => first | k_is | k_exc | kit_is | kts_exm)
      (case grd_Node_init => first | k_is | k_exc | kit_is | kts_exm)
      (case gfc_Node_init => first | k_is | k_exc | kit_is | kts_exm)
      (case ga_MEASURES => first | k_is | k_exc | kit_is | kts_exm)
      (case gl_MEASURES => first | k_is | k_exc | kit_is | kts_exm)
      (case gq_MEASURES => exact fun H => .inr ⟨_, _, _, (by k_is), rfl, rfl, by decide, (.cons ⟨_, rfl⟩ (.cons ⟨_, rfl⟩ .nil))⟩)
      (case gz_ValueError => first | k_is | k_exc | kit_is | kts_exm)
      (case gz_abs => first | k_is | k_exc | kit_is | kts_exm)
      (case gz_all => first | k_is | k_exc | kit_is | kts_exm)
      (case gz_bool => first | k_is | k_exc | kit_is | kts_exm)
      (case gz_enumerate => first | k_is | k_exc | kit_is | kts_exm)
      (case gz_int => first | k_is | k_exc | kit_is | kts_exm)
      (case gz_isinstance => first | k_is | k_exc | kit_is | kts_exm)
      (case gz_len => first | k_is | k_exc | kit_is | kts_exm)
      (case gz_list => first | k_is | k_exc | kit_is | kts_exm)
      (case gz_max => first | k_is | k_exc | kit_is | kts_exm)
      (case gz_range => first | k_is | k_exc | kit_is | kts_exm)
      (case gz_set => first | k_is | k_exc | kit_is | kts_exm)
      (case gz_sorted => first | k_is | k_exc | kit_is | kts_exm)
      (case gz_str => first | k_is | k_exc | kit_is | kts_exm)
      (case gz_sum => first | k_is | k_exc | kit_is | kts_exm)
      (case ght1 => first | k_is | k_exc | kit_is | kts_exm)
      (case ght3 => first | k_is | k_exc | kit_is | kts_exm)
      (case ght4 => first | k_is | k_exc | kit_is | kts_exm)
      (case ghnLc => first | k_is | k_exc | kit_is | kts_exm)
      (case ghnFcd => first | k_is | k_exc | kit_is | kts_exm)
      (case ghnFqn => first | k_is | k_exc | kit_is | kts_exm)
      (case ghnFys => first | k_is | k_exc | kit_is | kts_exm)
      (case ghnFno => first | k_is | k_exc | kit_is | kts_exm)
      (case ghnFlt => first | k_is | k_exc | kit_is | kts_exm)
      (case ghnFdh => first | k_is | k_exc | kit_is | kts_exm)
      (case ghclL => first | k_is | k_exc | kit_is | kts_exm)
      (case ghclF => first | k_is | k_exc | kit_is | kts_exm)
      (case ghogt => first | k_is | k_exc | kit_is | kts_exm)
      (case ghotk => first | k_is | k_exc | kit_is | kts_exm)
      (case ghomL => first | k_is | k_exc | kit_is | kts_exm)
      (case ghomF => first | k_is | k_exc | kit_is | kts_exm)
      (case ghkLF => first | k_is | k_exc | kit_is | kts_exm)
      (case ghkFF => first | k_is | k_exc | kit_is | kts_exm)
    obtain ⟨T, rfl, hb⟩ := T
    exact ⟨T.d_law, hb, fun base kb nb => Lw.ok_law T⟩
  case S => exact fun K H a ns hl hO hS => ⟨a, ns, rfl, L2.SqF.of_only hO hS, hl, fun _ => rfl⟩
