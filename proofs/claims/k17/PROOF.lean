import PyProof.Rows.All
import Wide.All
import OpenK.AllK
import Wide.FinOn
import Lean
import PyProof.EqAt
import PyProof.EqKinds
import PyProof.TupleCall
import KE.KRevSl
import KE.BitLaws
import KE.KIntText
import KE.IntTextLaws
import PySem.Challenge.RW_prunepath_k17_trees_looked_at
set_option Elab.async false
set_option linter.all false
set_option maxRecDepth 100000
/-! THE HAND LAYER, for ints, bools, texts, own classes, LISTS and tuples (index, slices, in, append, pop ..), calls, loops. Paste it whole ahead of your own text; what your proof does not reach may be deleted. -/
namespace L2
open PySem PySem.Spec PyProof.Rows

/-- a key: an int or a str -/
abbrev Key := Sum Int Str
def keyIs : Key → Value → Bool
  | .inl k, v => Value.isInt k v
  | .inr x, v => Value.isStrOf x v
def keyH (w : World) : Key → Int
  | .inl k => hashInt k
  | .inr x => hashStr w x
theorem keyIs_shape : ∀ {k : Key} {v : Value}, keyIs k v = true → (∃ i t, k = Sum.inl i ∧ v = Value.int i t) ∨ (∃ x t, k = Sum.inr x ∧ v = Value.str x t)
  | .inl i, v, h => by
    obtain ⟨t, e⟩ := Value.isInt_shape (k := i) (v := v) h
    exact .inl ⟨i, t, rfl, e⟩
  | .inr x, v, h => by
    obtain ⟨t, e⟩ := Value.isStrOf_shape (x := x) (v := v) h
    exact .inr ⟨x, t, rfl, e⟩
theorem key_ll (a b : Int) : decide ((Sum.inl a : Key) = Sum.inl b) = (a == b) := by
  by_cases e : a = b
  · subst e; simp
  · have h : ¬ (Sum.inl a : Key) = Sum.inl b := fun q => e (Sum.inl.inj q)
    rw [decide_eq_false h]
    exact (beq_eq_false_iff_ne.mpr e).symm
theorem key_rr (a b : Str) : decide ((Sum.inr a : Key) = Sum.inr b) = decide (a = b) := by
  by_cases e : a = b
  · subst e; simp
  · have h : ¬ (Sum.inr a : Key) = Sum.inr b := fun q => e (Sum.inr.inj q)
    rw [decide_eq_false h, decide_eq_false e]
theorem key_lr (a : Int) (b : Str) : decide ((Sum.inl a : Key) = Sum.inr b) = false := decide_eq_false (fun q => nomatch q)
theorem key_rl (a : Str) (b : Int) : decide ((Sum.inr a : Key) = Sum.inl b) = false := decide_eq_false (fun q => nomatch q)

def mixKind (prog : Program) (w : World) : PySem.KeyKind prog w Key where
  is := keyIs
  hash := keyH w
  inj := fun v a b ha hb => by
    rcases keyIs_shape ha with ⟨i, t, rfl, rfl⟩ | ⟨x, t, rfl, rfl⟩
    · rcases keyIs_shape hb with ⟨j, u, rfl, e⟩ | ⟨y, u, rfl, e⟩
      · injection e with e1 _; rw [e1]
      · exact nomatch e
    · rcases keyIs_shape hb with ⟨j, u, rfl, e⟩ | ⟨y, u, rfl, e⟩
      · exact nomatch e
      · injection e with e1 _; rw [e1]
  byValue := fun k v h => by
    rcases keyIs_shape h with ⟨i, t, rfl, rfl⟩ | ⟨x, t, rfl, rfl⟩ <;> rfl
  pyHash := fun hv h => by
    rcases keyIs_shape hv with ⟨i, t, rfl, rfl⟩ | ⟨x, t, rfl, rfl⟩
    · exact wpAny_pyHash_int h
    · exact wpAny_pyHash_str h
  eqBool := fun hu hv h => by
    rcases keyIs_shape hu with ⟨i, t, rfl, rfl⟩ | ⟨x, t, rfl, rfl⟩
    · rcases keyIs_shape hv with ⟨j, u, rfl, rfl⟩ | ⟨y, u, rfl, rfl⟩
      · rw [key_ll] at h; exact wpAny_eqBool_int h
      · rw [key_lr] at h; exact SeqAt.EqAt.int_str i t y u _ _ _ _ h
    · rcases keyIs_shape hv with ⟨j, u, rfl, rfl⟩ | ⟨y, u, rfl, rfl⟩
      · rw [key_rl] at h; exact SeqAt.EqAt.str_int x t j u _ _ _ _ h
      · rw [key_rr] at h; exact wpAny_eqBool_str h
  «strs» := fun k x t v h => by
    rcases keyIs_shape h with ⟨i, u, rfl, e⟩ | ⟨y, u, rfl, e⟩
    · exact nomatch e
    · injection e with e1 _
      subst e1
      cases v <;> rfl

end L2

namespace L2
open PySem PySem.Spec PyProof.Rows

/-- a value, without the heap -/
inductive V where
  | non | bl (b : Bool) | int (i : Int) | str (x : Str) | byt (b : Array UInt8) | flt (b : UInt64) | ref (a : Addr) | ty (n : String)
  deriving DecidableEq

def RelV : V → Value → Prop
  | .non, u => u = Value.none
  | .bl b, u => u = Value.bool b
  | .int i, u => ∃ t, u = Value.int i t
  | .str x, u => ∃ t, u = Value.str x t
  | .byt b, u => ∃ t, u = Value.bytes b t
  | .flt b, u => ∃ t, u = Value.float b t
  | .ref a, u => u = Value.ref a
  | .ty n, u => u = Value.type n

abbrev Vals : List V → List Value → Prop := Paired RelV
theorem Vals.length {xs : List V} {us : List Value} (r : Vals xs us) : xs.length = us.length := Paired.length r
theorem Vals.get : ∀ {xs : List V} {us : List Value} {i : Nat} {x : V}, Vals xs us → xs[i]? = some x → ∃ u, us[i]? = some u ∧ RelV x u
  | _, _, _, _, .nil, e => by simp at e
  | _, _, 0, _, .cons r _, e => by simp at e; subst e; exact ⟨_, rfl, r⟩
  | _, _, i + 1, x, .cons _ t, e => by
    obtain ⟨u, h1, h2⟩ := Vals.get (i := i) (x := x) t (by simpa using e)
    exact ⟨u, by simpa using h1, h2⟩
theorem Vals.set {x : V} {u : Value} (r : RelV x u) : ∀ {xs : List V} {us : List Value} (i : Nat), Vals xs us → Vals (xs.set i x) (us.set i u)
  | _, _, _, .nil => .nil
  | _, _, 0, .cons _ t => .cons r t
  | _, _, i + 1, .cons q t => .cons q (Vals.set r i t)
theorem Vals.append : ∀ {xs ys : List V} {us ws : List Value}, Vals xs us → Vals ys ws → Vals (xs ++ ys) (us ++ ws)
  | _, _, _, _, .nil, s => s
  | _, _, _, _, .cons r t, s => .cons r (Vals.append t s)
theorem Vals.take : ∀ {xs : List V} {us : List Value} (n : Nat), Vals xs us → Vals (xs.take n) (us.take n)
  | _, _, 0, _ => .nil
  | _, _, _ + 1, .nil => .nil
  | _, _, n + 1, .cons r t => .cons r (Vals.take n t)
theorem Vals.drop : ∀ {xs : List V} {us : List Value} (n : Nat), Vals xs us → Vals (xs.drop n) (us.drop n)
  | _, _, 0, r => r
  | _, _, _ + 1, .nil => .nil
  | _, _, n + 1, .cons _ t => Vals.drop n t
def RelO : Option V → Option Value → Prop
  | some v, some u => RelV v u
  | none, none => True
  | _, _ => False
def KV {κ : Type} : List (κ × V) → List (κ × Value) → Prop := Paired fun (p : κ × V) (q : κ × Value) => p.1 = q.1 ∧ RelV p.2 q.2

/-- a key of a dict (00_mix): an int or a text -/
def kV : Key → V
  | .inl i => .int i
  | .inr x => .str x

/-- what stands at a tracked address -/
inductive HO where
  /-- a list -/
  | lst (xs : List V)
  /-- a tuple (never changes) -/
  | tup (xs : List V)
  /-- a dict whose keys are ints and texts; one whose keys are tuples of ints and texts (the empty one is both) -/
  | dK (kvs : List (Key × V)) | dT (kvs : List (List Key × V))
  /-- a set of ints: its members, its size -/
  | set (S : Int → Bool) (n : Nat)
  /-- an instance of the class at C, its dict at dx, its attributes -/
  | ins (C dx : Addr) (fs : List (Str × V))
  /-- the dict of the instance at x -/
  | own (x : Addr)
  /-- the dict of an exception -/
  | xd (fs : List (Str × V))
  /-- a bound method, f of x -/
  | met (f x : Addr)
  /-- a range object lo, lo + 1, .. below hi -/
  | rng (lo hi : Int)
  /-- a thing that is known to the object (the script; a dict while a loop walks it): read, never written while it is so -/
  | frz (o : Obj) (u : HO)
  /-- a code object's table -/
  | tbl (ps : Array Value)
  /-- any other thing, by what is true of its one object (a def of one's own: SetO a S n := HO.ext fun h => ..) -/
  | ext (φ : Heap → Prop)

abbrev Hp := Addr → Option HO
def upd (H : Hp) (a : Addr) (o : HO) : Hp := fun b => if b = a then some o else H b
theorem upd_same {H : Hp} {a : Addr} {o : HO} : upd H a o a = some o := by unfold upd; rw [if_pos rfl]
theorem upd_ne {H : Hp} {a b : Addr} {o : HO} (h : b ≠ a) : upd H a o b = H b := by unfold upd; rw [if_neg h]
/-- two objects of different content stand apart -/
theorem ne_of {H : Hp} {a b : Addr} {o u : HO} (h : H a = some o) (h' : H b = some u) (d : o ≠ u) : a ≠ b := by
  intro e; subst e; rw [h] at h'; exact d (Option.some.inj h')
theorem ne_of_none {H : Hp} {a b : Addr} {o : HO} (h : H a = some o) (h' : H b = none) : a ≠ b := by
  intro e; subst e; rw [h] at h'; cases h'

section
variable (P : Program) (w : World)
def ObjOk (H : Hp) (h : Heap) (a : Addr) : HO → Prop
  | .lst xs => xs.length ≤ sizeLine ∧ ∃ (its : List Value) (n : Nat), Vals xs its ∧ h.get? a = some { cls := .type "list", data := .seq its.toArray n }
  | .tup xs => xs.length ≤ sizeLine ∧ ∃ its : List Value, Vals xs its ∧ IsTup h a its.toArray
  | .dK kvs => kvs.length ≤ sizeLine ∧ (a == sysModules) = false ∧ ∃ vs, KV kvs vs ∧ h.DictOf (mixKind P w) a vs
  | .dT kvs => kvs.length ≤ sizeLine ∧ (a == sysModules) = false ∧ ∃ xs : List (List Key × Addr × Value),
      Paired (fun (p : List Key × V) (q : List Key × Addr × Value) => p.1 = q.1 ∧ H q.2.1 = some (.tup (p.1.map kV)) ∧ RelV p.2 q.2.2) kvs xs ∧
      ∃ o es ep, h.get? a = some o ∧ o.ExactDict ∧ o.data = .dict es ep ∧ es.toList = xs.map (entryOfKey (tupleKind (mixKind P w))) ∧ (xs.map (·.1)).Nodup
  | .set S n => h.SetOf (intKind P w) a S n
  | .ins C dx fs => H dx = some (.own a) ∧ fs.length ≤ 1000 ∧ dx ≠ a ∧ h.get? a = some (PySem.W.instObj C dx) ∧
      ∃ mA, h.Ns1 dx mA ∧ (∀ f, RelO (fs.lookup f) (mA f)) ∧ PySem.Within mA (fs.map (·.1))
  | .own _ => ∃ o, h.get? a = some o
  | .xd fs => ∃ mA, h.Ns1 a mA ∧ ∀ f, RelO (fs.lookup f) (mA f)
  | .rng lo hi => ∃ t u v, h.get? a = some { cls := .type "range", data := .fields #[.int lo t, .int hi u, .int 1 v] }
  | .frz o u => h.get? a = some o ∧ ObjOk H h a u
  | .tbl ps => h.get? a = some { cls := .none, data := .fields ps }
  | .met f x => h.get? a = some (PySem.W.methodObj (.ref f) (.ref x))
  | .ext φ => φ h ∧ (∃ o, h.get? a = some o) ∧ ∀ h1 h2 : Heap, φ h1 → (∀ o, h1.get? a = some o → h2.get? a = some o) → φ h2
/-- the abstract heap is held -/
def HOk (H : Hp) (h : Heap) : Prop := ∀ a o, H a = some o → ObjOk P w H h a o
end

section
variable {P : Program} {w : World} {H H' : Hp} {h h' : Heap} {a : Addr} {o : HO}
theorem ObjOk.lt (x : ObjOk P w H h a o) : a < h.objs.size := by
  cases o with
  | lst xs => obtain ⟨_, _, _, _, e⟩ := x; exact Heap.lt_size e
  | tup xs => obtain ⟨_, _, _, p⟩ := x; exact p.lt
  | dK kvs => obtain ⟨_, _, _, _, o, _, _, e, _⟩ := x; exact Heap.lt_size e
  | dT kvs => obtain ⟨_, _, _, _, o, _, _, e, _⟩ := x; exact Heap.lt_size e
  | set S n => obtain ⟨o, _, _, _, e, _⟩ := x; exact Heap.lt_size e
  | ins C dx fs => obtain ⟨_, _, _, e, _⟩ := x; exact Heap.lt_size e
  | own y => obtain ⟨_, e⟩ := x; exact Heap.lt_size e
  | xd fs => obtain ⟨_, ⟨_, _, _, e, _⟩, _⟩ := x; exact Heap.lt_size e
  | rng lo hi => obtain ⟨_, _, _, e⟩ := x; exact Heap.lt_size e
  | frz ob u => obtain ⟨e, _⟩ := x; exact Heap.lt_size e
  | tbl ps => exact Heap.lt_size (show h.get? a = some _ from x)
  | met f y => exact Heap.lt_size (show h.get? a = some _ from x)
  | ext φ => obtain ⟨_, ⟨_, e⟩, _⟩ := x; exact Heap.lt_size e
theorem Paired.mapP {α β : Type} {F G : α → β → Prop} : ∀ {l₁ : List α} {l₂ : List β}, Paired F l₁ l₂ → (∀ a b, F a b → G a b) → Paired G l₁ l₂
  | _, _, .nil, _ => .nil
  | _, _, .cons r t, f => .cons (f _ _ r) (Paired.mapP t f)
/-- what an object's description leans on: its own object, its own dict, the tuples -/
theorem ObjOk.stay (x : ObjOk P w H h a o) (k : ∀ b u, (b = a ∨ H b = some (.own a)) → h.get? b = some u → h'.get? b = some u)
    (ho : ∀ b, H b = some (.own a) → H' b = some (.own a)) (ht : ∀ b xs, H b = some (.tup xs) → H' b = some (.tup xs)) : ObjOk P w H' h' a o := by
  induction o with
  | lst xs => obtain ⟨z, its, n, r, e⟩ := x; exact ⟨z, its, n, r, k _ _ (.inl rfl) e⟩
  | tup xs => obtain ⟨z, its, r, ob, e, c⟩ := x; exact ⟨z, its, r, ob, k _ _ (.inl rfl) e, c⟩
  | dK kvs => obtain ⟨z, y, vs, r, ob, es, ep, e, c⟩ := x; exact ⟨z, y, vs, r, ob, es, ep, k _ _ (.inl rfl) e, c⟩
  | dT kvs =>
    obtain ⟨z, y, xs, r, ob, es, ep, e, c⟩ := x
    exact ⟨z, y, xs, Paired.mapP r fun p q z => ⟨z.1, ht _ _ z.2.1, z.2.2⟩, ob, es, ep, k _ _ (.inl rfl) e, c⟩
  | set S n => obtain ⟨ob, es, ep, t, e, c⟩ := x; exact ⟨ob, es, ep, t, k _ _ (.inl rfl) e, c⟩
  | ins C dx fs =>
    obtain ⟨d, z, ne, e, mA, ⟨od, es, ep, e2, c⟩, r⟩ := x
    exact ⟨ho _ d, z, ne, k _ _ (.inl rfl) e, mA, ⟨od, es, ep, k _ _ (.inr d) e2, c⟩, r⟩
  | own y => obtain ⟨ob, e⟩ := x; exact ⟨ob, k _ _ (.inl rfl) e⟩
  | xd fs => obtain ⟨mA, ⟨od, es, ep, e, c⟩, r⟩ := x; exact ⟨mA, ⟨od, es, ep, k _ _ (.inl rfl) e, c⟩, r⟩
  | rng lo hi => obtain ⟨t, u, v, e⟩ := x; exact ⟨t, u, v, k _ _ (.inl rfl) e⟩
  | frz ob u ih => obtain ⟨e, q⟩ := x; exact ⟨k _ _ (.inl rfl) e, ih q⟩
  | tbl ps =>
    have e : h.get? a = some { cls := .none, data := .fields ps } := x
    show h'.get? a = some { cls := .none, data := .fields ps }
    exact k a _ (.inl rfl) e
  | met f y =>
    have e : h.get? a = some (PySem.W.methodObj (.ref f) (.ref y)) := x
    show h'.get? a = some (PySem.W.methodObj (.ref f) (.ref y))
    exact k a _ (.inl rfl) e
  | ext φ => obtain ⟨p, ⟨o, e⟩, st⟩ := x; exact ⟨st _ _ p fun o q => k _ _ (.inl rfl) q, ⟨o, k _ _ (.inl rfl) e⟩, st⟩
theorem HOk.lt (x : HOk P w H h) (e : H a = some o) : a < h.objs.size := (x a o e).lt
theorem HOk.fresh (x : HOk P w H h) (e : h.objs.size ≤ a) : H a = none := by
  cases q : H a with
  | none => rfl
  | some u => exact absurd (Nat.lt_of_lt_of_le (x.lt q) e) (Nat.lt_irrefl _)
/-- every object of the heap is kept -/
theorem HOk.kept (x : HOk P w H h) (k : ∀ b u, h.get? b = some u → h'.get? b = some u) : HOk P w H h' := fun a o e =>
  (x a o e).stay (fun b u _ q => k b u q) (fun _ q => q) fun _ _ q => q
/-- a new object is laid and tracked -/
theorem HOk.laid (x : HOk P w H h) (k : ∀ b u, h.get? b = some u → h'.get? b = some u) (hp : h.objs.size ≤ a) (new : ObjOk P w (upd H a o) h' a o) : HOk P w (upd H a o) h' := fun b u e => by
  have hn := x.fresh hp
  by_cases hb : b = a
  · subst hb; rw [upd_same] at e; cases e; exact new
  · rw [upd_ne hb] at e
    exact (x b u e).stay (fun c v _ q => k c v q) (fun c q => by rw [upd_ne (ne_of_none q hn)]; exact q) fun c xs q => by rw [upd_ne (ne_of_none q hn)]; exact q
end

/-- what may be read as u: it is u, or a known u -/
def Rd (H : Hp) (a : Addr) (u : HO) : Prop := H a = some u ∨ ∃ o, H a = some (.frz o u)
theorem Rd.ok {P : Program} {w : World} {H : Hp} {h : Heap} {a : Addr} {u : HO} (r : Rd H a u) (x : HOk P w H h) : ObjOk P w H h a u := by
  rcases r with r | ⟨o, r⟩
  · exact x a u r
  · obtain ⟨_, q⟩ := x a _ r
    exact q
/-- what may be written -/
def Mut : Option HO → Prop
  | some (.lst _) => True
  | some (.dK _) => True
  | some (.dT _) => True
  | some (.set _ _) => True
  | some (.ins _ _ _) => True
  | some (.ext _) => True
  | _ => False
section
variable {P : Program} {w : World} {H : Hp} {h h' : Heap} {x e : Addr} {o' : HO}
/-- the object at e is changed: x itself, or the dict of the instance x -/
theorem HOk.write (ok : HOk P w H h) (mu : Mut (H x)) (he : e = x ∨ H e = some (.own x)) (k : ∀ b u, b ≠ e → h.get? b = some u → h'.get? b = some u) (heo : ∃ u, h'.get? e = some u)
    (new : ObjOk P w (upd H x o') h' x o') : HOk P w (upd H x o') h' := fun b u q => by
  have nown : ∀ c y, H c = some (.own y) → c ≠ x := fun c y r z => by subst z; rw [r] at mu; exact mu
  have ntup : ∀ c xs, H c = some (.tup xs) → c ≠ x := fun c xs r z => by subst z; rw [r] at mu; exact mu
  by_cases hb : b = x
  · subst hb; rw [upd_same] at q; cases q; exact new
  · rw [upd_ne hb] at q
    by_cases hbe : b = e
    · have q' : H b = some (.own x) := by
        rcases he with z | z
        · exact absurd (hbe.trans z) hb
        · rw [hbe]; exact z
      rw [q] at q'; cases q'
      obtain ⟨v, hv⟩ := heo
      exact ⟨v, by rw [hbe]; exact hv⟩
    · refine (ok b u q).stay (fun c v hc r => k c v ?_ r) (fun c r => by rw [upd_ne (nown c b r)]; exact r) fun c xs r => by rw [upd_ne (ntup c xs r)]; exact r
      rcases hc with rfl | hc
      · exact hbe
      · rintro rfl
        rcases he with z | z
        · exact nown c b hc z
        · rw [hc] at z; cases z; exact hb rfl
end

/-! ### kept unless tracked; of the frames at fs (the callers') the slots may change (an exception that passes writes there); of the records at ex (iterators) nothing is said -/
structure Un (fs ex : List Addr) (H H' : Hp) (h h' : Heap) : Prop where
  keep : ∀ b o, h.get? b = some o → H b = none → b ∉ fs → b ∉ ex → h'.get? b = some o
  slot : ∀ b o, h.get? b = some o → H b = none → b ∈ fs → b ∉ ex → ∃ sl, h'.get? b = some { o with slots := sl }
  free : ∀ b o, h.get? b = some o → H b = none → b ∉ ex → H' b = none
  there : ∀ b o, h.get? b = some o → b ∉ ex → ∃ o', h'.get? b = some o'
  tups : ∀ b xs, H b = some (.tup xs) → H' b = some (.tup xs)
  frzs : ∀ b o u, H b = some (.frz o u) → H' b = some (.frz o u)
  tbls : ∀ b ps, H b = some (.tbl ps) → ∃ more, H' b = some (.tbl (ps ++ more))
section
variable {fs fs' ex ex' : List Addr} {H H1 H2 : Hp} {h h1 h2 h' : Heap} {a x e : Addr} {o : HO}
theorem Un.any (u : Un fs ex H H1 h h1) {b : Addr} {ob : Obj} (q : h.get? b = some ob) (n : H b = none) (hx : b ∉ ex) : ∃ sl, h1.get? b = some { ob with slots := sl } := by
  by_cases hb : b ∈ fs
  · exact u.slot b ob q n hb hx
  · exact ⟨ob.slots, u.keep b ob q n hb hx⟩
theorem Un.kept (k : ∀ b u, h.get? b = some u → h'.get? b = some u) : Un fs ex H H h h' :=
  ⟨fun b ob q _ _ _ => k b ob q, fun b ob q _ _ _ => ⟨ob.slots, k b ob q⟩, fun _ _ _ n _ => n, fun b ob q _ => ⟨ob, k b ob q⟩, fun _ _ q => q, fun _ _ _ q => q, fun _ ps q => ⟨#[], by rw [q]; simp⟩⟩
theorem Un.refl : Un fs ex H H h h := Un.kept fun _ _ q => q
theorem Un.laid (k : ∀ b u, h.get? b = some u → h'.get? b = some u) (hp : h.objs.size ≤ a) (hn : H a = none) : Un fs ex H (upd H a o) h h' where
  keep := fun b u q _ _ _ => k b u q
  slot := fun b u q _ _ _ => ⟨u.slots, k b u q⟩
  free := fun b u q n _ => by rw [upd_ne (Nat.ne_of_lt (Nat.lt_of_lt_of_le (Heap.lt_size q) hp))]; exact n
  there := fun b u q _ => ⟨u, k b u q⟩
  tups := fun b xs q => by rw [upd_ne (ne_of_none q hn)]; exact q
  frzs := fun b u xs q => by rw [upd_ne (ne_of_none q hn)]; exact q
  tbls := fun b ps q => ⟨#[], by rw [upd_ne (ne_of_none q hn), q]; simp⟩
theorem Un.write (mu : Mut (H x)) (he : e = x ∨ H e = some (.own x)) (k : ∀ b u, b ≠ e → h.get? b = some u → h'.get? b = some u) (heo : ∃ u, h'.get? e = some u) : Un fs ex H (upd H x o) h h' := by
  have hx : ∀ b, H b = none → b ≠ x := fun b n z => by subst z; rw [n] at mu; exact mu
  have hb : ∀ b, H b = none → b ≠ e := fun b n z => by
    subst z
    rcases he with r | r
    · exact hx b n r
    · rw [n] at r; cases r
  have hm : ∀ b u, H b = some u → ¬ Mut (some u) → b ≠ x := fun b u q nm z => by subst z; rw [q] at mu; exact nm mu
  refine ⟨fun b u q n _ _ => k b u (hb b n) q, fun b u q n _ _ => ⟨u.slots, k b u (hb b n) q⟩, fun b u q n _ => by rw [upd_ne (hx b n)]; exact n, fun b u q _ => ?_,
    fun b xs q => by rw [upd_ne (hm b _ q fun z => z)]; exact q, fun b u xs q => by rw [upd_ne (hm b _ q fun z => z)]; exact q, fun b ps q => ⟨#[], by rw [upd_ne (hm b _ q fun z => z), q]; simp⟩⟩
  by_cases hbe : b = e
  · subst hbe; exact heo
  · exact ⟨u, k b u hbe q⟩
end

/-! ### the heap without what is tracked -/
def trk (h : Heap) (H : Hp) : List Addr := (List.range h.objs.size).filter fun a => (H a).isSome
def hidT (h : Heap) (H : Hp) : Heap := PySem.W.hideAll h (trk h H)
theorem hidT_size (h : Heap) (H : Hp) : (hidT h H).objs.size = h.objs.size := PySem.W.hideAll_size _ _
theorem hidT_get {h : Heap} {H : Hp} {b : Addr} {o : Obj} (e : h.get? b = some o) (n : H b = none) : (hidT h H).get? b = some o :=
  PySem.W.hideAll_get _ e fun hm => by
    have q : (H b).isSome = true := (List.mem_filter.mp hm).2
    rw [n] at q; simp at q
theorem of_hidT {h : Heap} {H : Hp} {b : Addr} {o : Obj} (e : (hidT h H).get? b = some o) : h.get? b = some o ∧ H b = none := by
  have e' : h.get? b = some o := PySem.W.of_hideAll (trk h H) e
  refine ⟨e', ?_⟩
  cases q : H b with
  | none => rfl
  | some x =>
    have hm : b ∈ trk h H := List.mem_filter.mpr ⟨List.mem_range.mpr (Heap.lt_size e'), by simp [q]⟩
    have z : (hidT h H).get? b = none := PySem.W.hideAll_none (trk h H) hm
    rw [z] at e; cases e

/-! ### OpenK's ledger, filled with every new object but one -/
def allNews (g h : Heap) (L : Addr) : List (Addr × Obj) := (List.range h.objs.size).filterMap fun a => if a = L ∨ (g.get? a).isSome = true then none else (h.get? a).map fun o => (a, o)
def rest (g h : Heap) (L d : Addr) : List (Addr × Obj) := (allNews g h L).filter fun p => decide (p.1 ≠ d)
end L2

namespace L2
open PySem PySem.Spec PyProof.Rows

/-- the module's facts, over the base: the heap at the law's entry without what is tracked there -/
structure Mod (K : PySem.W.Frag) (mg : Str → Option Value) (base : Heap) : Prop where
  kin : K.In base
  glob : base.Ns mainGlobals mg
  blt : ∃ mb, base.Ns builtinsNs mb ∧ ∀ x : Str, x ≠ "__name__" → mb x = bootBuiltins x
  nolimit : base.NoLimit

/-- the context: a def's body (or a comprehension's block) running. base: fixed through the whole law; s₀, H₀: the entry; outer: the frames whose slots others may change (a def's callers); stack: all frames that run;
   ex: iterators that were made ahead of the entry and are walked here (a comprehension's); fn: the names whose cells were made at the entry (a def: all; a comprehension's block: its own); calm: not within an except suite; pn: pins that every state bears; xe: what is wanted of an exception that leaves the code -/
structure Cx where
  prog : Program
  w : World
  K : PySem.W.Frag
  mg : Str → Option Value
  base : Heap
  A : Around
  N : List Str
  s₀ : Shared
  H₀ : Hp
  env : Env
  outer : List Env
  stack : List Env
  ex : List Addr
  fn : Str → Bool
  calm : Bool
  pn : List (Addr × Obj)
  xe : Value → Shared → Prop
/-- the callers' frames -/
def frs (l : List Env) : List Addr := l.filterMap (·.frame)
abbrev Cx.fs (X : Cx) : List Addr := frs X.outer

def Vis (sc : Scope) (x : Str) : Prop := sc.names.lookup x = some .local ∨ sc.names.lookup x = some .cell ∨ sc.names.lookup x = some .free
def Loc (sc : Scope) (x : Str) : Prop := sc.names.lookup x = some .local ∨ sc.names.lookup x = some .cell
def Look (env : Env) (h : Heap) (m : Str → Option Value) (x : Str) (u : Value) : Prop :=
  (env.kindOf x = some .local ∧ m x = some u) ∨ ((env.kindOf x = some .cell ∨ env.kindOf x = some .free) ∧ ∃ c, env.cells.lookup x = some c ∧ h.IsCell c (some u))

structure Cx.Ok (X : Cx) : Prop where
  mod : Mod X.K X.mg X.base
  kind : X.env.scope.kind = .function
  glob : X.env.globals = mainGlobals
  blt : X.env.builtins = builtinsNs
  above : X.s₀.heap.objs.size ≤ X.env.locals
  inj : ∀ x y c, X.env.cells.lookup x = some c → X.env.cells.lookup y = some c → x = y
  has : ∀ x, (X.env.kindOf x = some .cell ∨ X.env.kindOf x = some .free) → ∃ c, X.env.cells.lookup x = some c
  cab : ∀ x c, X.fn x = true → X.env.cells.lookup x = some c → X.s₀.heap.objs.size ≤ c
  hd : X.calm = true → X.A.handled = none
  frames : X.A.frames = some X.stack
  stk : X.stack = X.outer ∨ (X.stack = X.env :: X.outer ∧ X.env.frame = some X.env.locals)
  exf : ∀ b ∈ X.ex, b ≠ X.env.locals ∧ ∀ x c, X.env.cells.lookup x = some c → c ≠ b
  bs : ∀ b o, X.base.get? b = some o → X.s₀.heap.get? b = some o ∧ X.H₀ b = none
  bsz : X.base.objs.size ≤ X.s₀.heap.objs.size
  noex : ∀ b o, X.base.get? b = some o → b ∉ X.ex
  exfs : ∀ b ∈ X.ex, b ∉ X.fs
  funs : X.s₀.heap.FunFrames X.base X.outer
  frf : ∀ b ∈ X.fs, X.H₀ b = none

structure Inv (X : Cx) (pins : List (Addr × Obj)) (σ : List (Option V)) (H : Hp) (s : Shared) : Prop where
  ok : X.Ok
  os : s.os = X.s₀.os
  bare : AllBare s.gens
  base : Un X.fs X.ex X.H₀ H X.s₀.heap s.heap
  loc : ∃ m, s.heap.Ns X.env.locals m ∧ ∀ (i : Nat) (x : Str) (v : V), X.N[i]? = some x → σ[i]? = some (some v) → Vis X.env.scope x → ∃ u, RelV v u ∧ Look X.env s.heap m x u
  cell : ∀ x c, X.env.cells.lookup x = some c → ∃ v, s.heap.IsCell c v
  free : H X.env.locals = none
  freeC : ∀ x c, X.env.cells.lookup x = some c → H c = none
  pin : ∀ p ∈ X.pn ++ pins, s.heap.get? p.1 = some p.2 ∧ H p.1 = none ∧ p.1 ≠ X.env.locals ∧ p.1 ∉ X.fs ∧ ∀ v, p.2.data ≠ .cell v
  hok : HOk X.prog X.w H s.heap
  len : σ.length = X.N.length

section
variable {X : Cx} {pins : List (Addr × Obj)} {σ : List (Option V)} {H H' : Hp} {s : Shared} {h' : Heap}

theorem Cx.Ok.nofr (ok : X.Ok) {b : Addr} {o : Obj} (e : X.base.get? b = some o) : b ∉ X.fs := fun hb => by
  have := (ok.funs.mem hb).1
  rw [e] at this; cases this
theorem Inv.bs (I : Inv X pins σ H s) : ∀ b o, X.base.get? b = some o → s.heap.get? b = some o ∧ H b = none := fun b o e =>
  ⟨I.base.keep b o (I.ok.bs b o e).1 (I.ok.bs b o e).2 (I.ok.nofr e) (I.ok.noex b o e), I.base.free b o (I.ok.bs b o e).1 (I.ok.bs b o e).2 (I.ok.noex b o e)⟩
theorem Inv.bk (I : Inv X pins σ H s) : ∀ b o, X.base.get? b = some o → s.heap.get? b = some o := fun b o e => (I.bs b o e).1
theorem Inv.mod (I : Inv X pins σ H s) : Mod X.K X.mg X.base := I.ok.mod
theorem Inv.kIn (I : Inv X pins σ H s) : X.K.In s.heap := I.ok.mod.kin.keeps I.bk
theorem Inv.lt (I : Inv X pins σ H s) : X.env.locals < s.heap.objs.size := let ⟨_, hn, _⟩ := I.loc; hn.lt
theorem Inv.sz (I : Inv X pins σ H s) : X.s₀.heap.objs.size ≤ s.heap.objs.size := Nat.le_trans I.ok.above (Nat.le_of_lt I.lt)
theorem Inv.nofs (I : Inv X pins σ H s) {a : Addr} (h : s.heap.objs.size ≤ a) : a ∉ X.fs := fun hb => by
  obtain ⟨_, o, ho, _⟩ := I.ok.funs.mem hb
  exact absurd (Nat.lt_of_lt_of_le (Heap.lt_size ho) (Nat.le_trans I.sz h)) (Nat.lt_irrefl _)
theorem Inv.cne (I : Inv X pins σ H s) : ∀ x c, X.env.cells.lookup x = some c → c ≠ X.env.locals := fun x c e z => by
  obtain ⟨v, o, ho, hd⟩ := I.cell x c e
  obtain ⟨m, ⟨o', es, ep, ho', hd', _⟩, _⟩ := I.loc
  rw [z, ho'] at ho; cases ho; rw [hd'] at hd; cases hd
theorem Inv.funs (I : Inv X pins σ H s) : s.heap.FunFrames X.base X.outer := by
  have all : ∀ (l : List Env), (∀ b ∈ frs l, b ∈ X.fs) → X.s₀.heap.FunFrames X.base l → s.heap.FunFrames X.base l := by
    intro l
    induction l with
    | nil => intro _ _; trivial
    | cons env r ih =>
      intro hs hl
      obtain ⟨hk, ⟨L, o, hf, hn, ho, hd⟩, hr⟩ := hl
      have hL : L ∈ X.fs := hs L (by unfold frs; rw [List.filterMap_cons, hf]; exact List.mem_cons_self)
      obtain ⟨sl, e⟩ := I.base.slot L o ho (I.ok.frf L hL) hL fun z => I.ok.exfs L z hL
      exact ⟨hk, ⟨L, _, hf, hn, e, hd⟩, ih (fun b hb => hs b (by unfold frs; rw [List.filterMap_cons, hf]; exact List.mem_cons_of_mem _ hb)) hr⟩
  exact all X.outer (fun _ hb => hb) I.ok.funs

/-- the frames that run, for a call -/
theorem Inv.stack (I : Inv X pins σ H s) : s.heap.FunFrames X.base X.stack := by
  rcases I.ok.stk with e | ⟨e, hf⟩
  · rw [e]; exact I.funs
  · rw [e]
    obtain ⟨m, hn, _⟩ := I.loc
    refine .cons (by rw [I.ok.kind]; decide) hf hn ?_ I.funs
    exact Heap.get?_none_of_le (Nat.le_trans I.ok.bsz I.ok.above)
theorem Inv.stkSub (I : Inv X pins σ H s) : ∀ b ∈ frs X.stack, b ∈ X.env.locals :: X.fs := fun b hb => by
  rcases I.ok.stk with e | ⟨e, hf⟩
  · rw [e] at hb; exact List.mem_cons_of_mem _ hb
  · rw [e] at hb
    unfold frs at hb
    rw [List.filterMap_cons, hf] at hb
    exact hb
theorem Inv.stkFree (I : Inv X pins σ H s) : ∀ b ∈ frs X.stack, H b = none := fun b hb => by
  rcases List.mem_cons.mp (I.stkSub b hb) with e | hb
  · rw [e]; exact I.free
  · obtain ⟨_, o, ho, _⟩ := I.ok.funs.mem hb
    exact I.base.free b o ho (I.ok.frf b hb) fun z => I.ok.exfs b z hb

/-- THE STEP: the untracked objects but the frame and the records at ch are kept (the callers' frames up to slots), the frame's map is kept, the new abstract heap is held -/
theorem Inv.step {g' : Array GenState} {t' : Nat} {d' : Drawn} {ch : List Addr} (I : Inv X pins σ H s)
    (hch : ∀ b ∈ ch, (b ∈ X.ex ∨ X.s₀.heap.objs.size ≤ b) ∧ b ≠ X.env.locals ∧ (∀ x c, X.env.cells.lookup x = some c → c ≠ b) ∧ ∀ p ∈ X.pn ++ pins, p.1 ≠ b)
    (keep : ∀ b o, b ≠ X.env.locals → b ∉ X.fs → b ∉ ch → s.heap.get? b = some o → H b = none → h'.get? b = some o)
    (slot : ∀ b o, b ≠ X.env.locals → b ∈ X.fs → b ∉ ch → s.heap.get? b = some o → H b = none → ∃ sl, h'.get? b = some { o with slots := sl }) (free : ∀ b o, b ∉ ch → s.heap.get? b = some o → H b = none → H' b = none)
    (there : ∀ b o, b ∉ ch → s.heap.get? b = some o → ∃ o', h'.get? b = some o')
    (tups : ∀ b xs, H b = some (.tup xs) → H' b = some (.tup xs)) (frzs : ∀ b o u, H b = some (.frz o u) → H' b = some (.frz o u)) (tbls : ∀ b ps, H b = some (.tbl ps) → ∃ more, H' b = some (.tbl (ps ++ more)))
    (ns : ∀ m, s.heap.Ns X.env.locals m → h'.Ns X.env.locals m) (hok : HOk X.prog X.w H' h') (hg : AllBare g') :
    Inv X pins σ H' { s with heap := h', gens := g', drawn := d', toks := t' } := by
  have neL : ∀ b o, X.s₀.heap.get? b = some o → b ≠ X.env.locals := fun b o e => Nat.ne_of_lt (Nat.lt_of_lt_of_le (Heap.lt_size e) I.ok.above)
  have neC : ∀ b o, X.s₀.heap.get? b = some o → b ∉ X.ex → b ∉ ch := fun b o e hx hb => by
    rcases (hch b hb).1 with z | z
    · exact hx z
    · exact absurd (Nat.lt_of_lt_of_le (Heap.lt_size e) z) (Nat.lt_irrefl _)
  have cellK : ∀ x c, X.env.cells.lookup x = some c → ∀ v, s.heap.IsCell c v → h'.IsCell c v := fun x c e v ⟨o, ho, hd⟩ => by
    have nch : c ∉ ch := fun z => (hch c z).2.2.1 x c e rfl
    by_cases hc : c ∈ X.fs
    · obtain ⟨sl, q⟩ := slot c o (I.cne x c e) hc nch ho (I.freeC x c e)
      exact ⟨_, q, hd⟩
    · exact ⟨o, keep c o (I.cne x c e) hc nch ho (I.freeC x c e), hd⟩
  refine ⟨I.ok, I.os, hg, ⟨fun b o e n hb hx => ?_, fun b o e n hb hx => ?_, fun b o e n hx => ?_, fun b o e hx => ?_, fun b xs e => tups b xs (I.base.tups b xs e), fun b o xs e => frzs b o xs (I.base.frzs b o xs e), fun b ps e => ?_⟩, ?_, fun x c e => ?_, ?_, fun x c e => ?_, fun p hp => ?_, hok, I.len⟩
  · exact keep b o (neL b o e) hb (neC b o e hx) (I.base.keep b o e n hb hx) (I.base.free b o e n hx)
  · obtain ⟨sl, e1⟩ := I.base.slot b o e n hb hx
    obtain ⟨sl', e2⟩ := slot b _ (neL b o e) hb (neC b o e hx) e1 (I.base.free b o e n hx)
    exact ⟨sl', e2⟩
  · obtain ⟨o', e1⟩ := I.base.there b o e hx
    exact free b o' (neC b o e hx) e1 (I.base.free b o e n hx)
  · obtain ⟨o', e1⟩ := I.base.there b o e hx
    exact there b o' (neC b o e hx) e1
  · obtain ⟨m1, e1⟩ := I.base.tbls b ps e
    obtain ⟨m2, e2⟩ := tbls b _ e1
    exact ⟨m1 ++ m2, by rw [e2, Array.append_assoc]⟩
  · obtain ⟨m, hn, hl⟩ := I.loc
    refine ⟨m, ns m hn, fun i x v e1 e2 e3 => ?_⟩
    obtain ⟨u, r, l⟩ := hl i x v e1 e2 e3
    refine ⟨u, r, ?_⟩
    rcases l with l | ⟨k, c, e, z⟩
    · exact .inl l
    · exact .inr ⟨k, c, e, cellK x c e _ z⟩
  · obtain ⟨v, z⟩ := I.cell x c e
    exact ⟨v, cellK x c e v z⟩
  · obtain ⟨m, ⟨o, _, _, ho, _⟩, _⟩ := I.loc
    exact free _ o (fun z => (hch _ z).2.1 rfl) ho I.free
  · obtain ⟨v, o, ho, hd⟩ := I.cell x c e
    exact free c o (fun z => (hch c z).2.2.1 x c e rfl) ho (I.freeC x c e)
  · obtain ⟨e, n, ne, nf, d⟩ := I.pin p hp
    have nch : p.1 ∉ ch := fun z => (hch p.1 z).2.2.2 p hp rfl
    exact ⟨keep p.1 p.2 ne nf nch e n, free p.1 p.2 nch e n, ne, nf, d⟩
/-- .. where the frame's own object is kept too -/
theorem Inv.un {t' : Nat} (I : Inv X pins σ H s) (u : Un X.fs [] H H' s.heap h') (hok : HOk X.prog X.w H' h') : Inv X pins σ H' { s with heap := h', toks := t' } := by
  obtain ⟨m, ⟨o, es, ep, ho, r⟩, _⟩ := id I.loc
  obtain ⟨sl, hL⟩ := u.any ho I.free (by simp)
  exact I.step (g' := s.gens) (d' := s.drawn) (ch := []) (fun _ z => nomatch z) (fun b o _ hb _ e n => u.keep b o e n hb (by simp)) (fun b o _ hb _ e n => u.slot b o e n hb (by simp)) (fun b o _ e n => u.free b o e n (by simp)) (fun b o _ e => u.there b o e (by simp)) u.tups u.frzs u.tbls (fun m' hm => by
    obtain ⟨o', es', ep', ho', r'⟩ := hm
    rw [ho] at ho'; cases ho'
    exact ⟨_, es', ep', hL, r'⟩) hok I.bare
/-- behind a call (or a comprehension's block): the slots of this frame may have changed too, the records at ch may have turned -/
theorem Inv.call {g' : Array GenState} {t' : Nat} {d' : Drawn} {ch : List Addr} (I : Inv X pins σ H s) (u : Un (frs X.stack) ch H H' s.heap h') (hok : HOk X.prog X.w H' h') (hg : AllBare g')
    (hch : ∀ b ∈ ch, (b ∈ X.ex ∨ X.s₀.heap.objs.size ≤ b) ∧ b ≠ X.env.locals ∧ (∀ x c, X.env.cells.lookup x = some c → c ≠ b) ∧ ∀ p ∈ X.pn ++ pins, p.1 ≠ b) :
    Inv X pins σ H' { s with heap := h', gens := g', drawn := d', toks := t' } := by
  obtain ⟨m, ⟨o, es, ep, ho, r⟩, _⟩ := id I.loc
  obtain ⟨sl, hL⟩ := u.any ho I.free fun z => (hch _ z).2.1 rfl
  exact I.step (ch := ch) hch (fun b o hL hb hc e n => u.keep b o e n (fun z => (List.mem_cons.mp (I.stkSub b z)).elim hL hb) hc) (fun b o _ _ hc e n => u.any e n hc) (fun b o hc e n => u.free b o e n hc) (fun b o hc e => u.there b o e hc) u.tups u.frzs u.tbls (fun m' hm => by
    obtain ⟨o', es', ep', ho', r'⟩ := hm
    rw [ho] at ho'; cases ho'
    exact ⟨_, es', ep', hL, r'⟩) hok hg
/-- an untracked record of ours (an iterator) has turned -/
theorem Inv.turned {t' : Nat} {it : Addr} (I : Inv X pins σ H s) (k : ∀ b o, b ≠ it → s.heap.get? b = some o → h'.get? b = some o) (hn : H it = none) (hL : it ≠ X.env.locals)
    (h1 : it ∈ X.ex ∨ X.s₀.heap.objs.size ≤ it) (h2 : ∀ x c, X.env.cells.lookup x = some c → c ≠ it) (h3 : ∀ p ∈ X.pn ++ pins, p.1 ≠ it) : Inv X pins σ H { s with heap := h', toks := t' } := by
  have nit : ∀ b u, H b = some u → b ≠ it := fun b u e z => by rw [z, hn] at e; cases e
  refine I.step (g' := s.gens) (d' := s.drawn) (ch := [it]) (fun b hb => ?_) (fun b o _ _ hc e _ => k b o (fun z => hc (by simp [z])) e) (fun b o _ _ hc e _ => ⟨o.slots, k b o (fun z => hc (by simp [z])) e⟩) (fun _ _ _ _ n => n)
    (fun b o hc e => ⟨o, k b o (fun z => hc (by simp [z])) e⟩) (fun _ _ e => e) (fun _ _ _ e => e) (fun b ps e => ⟨#[], by rw [e]; simp⟩) (fun m hm => ?_) (fun b u e => ?_) I.bare
  · have e : b = it := by simpa using hb
    subst e
    exact ⟨h1, hL, h2, h3⟩
  · obtain ⟨o, es, ep, ho, r⟩ := hm
    exact ⟨o, es, ep, k _ o (Ne.symm hL) ho, r⟩
  · refine (I.hok b u e).stay (fun c v hc q => k c v ?_ q) (fun _ q => q) fun _ _ q => q
    rcases hc with z | z
    · rw [z]; exact nit b u e
    · exact nit c _ z
theorem Inv.tok (I : Inv X pins σ H s) (t : Nat) : Inv X pins σ H { s with toks := t } := I.un (h' := s.heap) (t' := t) Un.refl I.hok
/-- all objects kept -/
theorem Inv.kept {t' : Nat} (I : Inv X pins σ H s) (k : ∀ b u, s.heap.get? b = some u → h'.get? b = some u) : Inv X pins σ H { s with heap := h', toks := t' } := I.un (Un.kept k) (I.hok.kept k)
/-- a new object laid and tracked -/
theorem Inv.laid {a : Addr} {o : HO} {t' : Nat} (I : Inv X pins σ H s) (k : ∀ b u, s.heap.get? b = some u → h'.get? b = some u) (hp : s.heap.objs.size ≤ a) (new : ObjOk X.prog X.w (upd H a o) h' a o) :
    Inv X pins σ (upd H a o) { s with heap := h', toks := t' } := I.un (Un.laid k hp (I.hok.fresh hp)) (I.hok.laid k hp new)
/-- an object written -/
theorem Inv.write {x e : Addr} {o : HO} {t' : Nat} (I : Inv X pins σ H s) (mu : Mut (H x)) (he : e = x ∨ H e = some (.own x)) (k : ∀ b u, b ≠ e → s.heap.get? b = some u → h'.get? b = some u) (heo : ∃ u, h'.get? e = some u)
    (new : ObjOk X.prog X.w (upd H x o) h' x o) : Inv X pins σ (upd H x o) { s with heap := h', toks := t' } := I.un (Un.write mu he k heo) (I.hok.write mu he k heo new)
/-- forgetting slots, pins -/
theorem Inv.weak {σ' : List (Option V)} (I : Inv X pins σ H s) (hl : σ'.length = σ.length) (w : ∀ (i : Nat) v, σ'[i]? = some (some v) → σ[i]? = some (some v)) : Inv X pins σ' H s :=
  ⟨I.ok, I.os, I.bare, I.base, let ⟨m, hn, hl'⟩ := I.loc; ⟨m, hn, fun i x v e1 e2 e3 => hl' i x v e1 (w i v e2) e3⟩, I.cell, I.free, I.freeC, I.pin, I.hok, hl.trans I.len⟩
theorem Inv.pins_of {pins' : List (Addr × Obj)} (I : Inv X pins σ H s) (h : ∀ p ∈ pins', s.heap.get? p.1 = some p.2 ∧ H p.1 = none ∧ p.1 ≠ X.env.locals ∧ p.1 ∉ X.fs ∧ ∀ v, p.2.data ≠ .cell v) : Inv X pins' σ H s :=
  ⟨I.ok, I.os, I.bare, I.base, I.loc, I.cell, I.free, I.freeC, fun p hp => (List.mem_append.mp hp).elim (fun z => I.pin p (List.mem_append_left _ z)) (h p), I.hok, I.len⟩

theorem nodup_ix {N : List Str} (hN : N.Nodup) {i j : Nat} {x : Str} (a : N[i]? = some x) (b : N[j]? = some x) : i = j := by
  obtain ⟨h1, e1⟩ := List.getElem?_eq_some_iff.mp a
  obtain ⟨h2, e2⟩ := List.getElem?_eq_some_iff.mp b
  exact (List.getElem_inj hN).mp (e1.trans e2.symm)

/-- a name is stored; what changed -/
theorem store_ok2 {M : Model} {A : Around} {E : Value → Shared → Prop} {i : Nat} {x : Str} {v : V} {u : Value} {Q : Unit → Shared → Prop} (I : Inv X pins σ H s) (hN : X.N.Nodup) (hi : X.N[i]? = some x) (hx : Loc X.env.scope x) (r : RelV v u)
    (h : ∀ s', Inv X pins (σ.set i (some v)) H s' → (∃ a, Heap.SameBut a s.heap s'.heap ∧ (a = X.env.locals ∨ X.env.cells.lookup x = some a)) → Q () s') (hf : X.fn x = true ∨ X.env.scope.names.lookup x = some .local := by first | exact .inl rfl | exact .inr rfl | assumption) : wpAny M A (storeName X.env x u) Q E s := by
  obtain ⟨m, hn, hl⟩ := id I.loc
  have hcls : (X.env.scope.kind == .class || (X.env.scope.kind == .module && X.env.locals != X.env.globals)) = false := by rw [I.ok.kind]; rfl
  have hiσ : i < σ.length := by rw [I.len]; exact (List.getElem?_eq_some_iff.mp hi).1
  have cne := I.cne
  have tracked : ∀ {a : Addr} {h' : Heap}, (∃ o, s.heap.get? a = some o ∧ H a = none) → Heap.SameBut a s.heap h' → HOk X.prog X.w H h' := fun {a h'} ha hs b ob e => by
    obtain ⟨_, _, hfree⟩ := ha
    refine (I.hok b ob e).stay (fun c w' hc q => (hs.2 c ?_).trans q) (fun _ q => q) fun _ _ q => q
    rintro rfl
    rcases hc with rfl | hc
    · rw [hfree] at e; cases e
    · rw [hfree] at hc; cases hc
  rcases hx with hk | hk
  · refine wpAny_storeName_local hk hn (fun h' hn' hs => ?_) hcls
    obtain ⟨oL, _, _, hoL, _⟩ := id hn
    refine h _ ⟨I.ok, I.os, I.bare, ⟨fun b o e n hb hx => ?_, fun b o e n hb hx => ?_, I.base.free, fun b o e hx => ?_, I.base.tups, I.base.frzs, I.base.tbls⟩, ⟨_, hn', fun j y v' e1 e2 e3 => ?_⟩, fun y c e => ?_, I.free, I.freeC, fun p hp => ?_, tracked ⟨oL, hoL, I.free⟩ hs, by simpa using I.len⟩ ⟨_, hs, .inl rfl⟩
    · exact (hs.2 b (Nat.ne_of_lt (Nat.lt_of_lt_of_le (Heap.lt_size e) I.ok.above))).trans (I.base.keep b o e n hb hx)
    · obtain ⟨sl, e1⟩ := I.base.slot b o e n hb hx
      exact ⟨sl, (hs.2 b (Nat.ne_of_lt (Nat.lt_of_lt_of_le (Heap.lt_size e) I.ok.above))).trans e1⟩
    · obtain ⟨o', e1⟩ := I.base.there b o e hx
      exact ⟨o', (hs.2 b (Nat.ne_of_lt (Nat.lt_of_lt_of_le (Heap.lt_size e) I.ok.above))).trans e1⟩
    · by_cases hj : j = i
      · subst hj
        rw [hi] at e1; cases e1
        rw [List.getElem?_set_self hiσ] at e2
        cases e2
        exact ⟨u, r, .inl ⟨hk, by simp⟩⟩
      · rw [List.getElem?_set_ne (Ne.symm hj)] at e2
        obtain ⟨u', r', q⟩ := hl j y v' e1 e2 e3
        refine ⟨u', r', ?_⟩
        rcases q with ⟨k, e⟩ | ⟨k, c, e, z⟩
        · refine .inl ⟨k, ?_⟩
          have : y ≠ x := fun e => hj (nodup_ix hN e1 (e ▸ hi))
          simp [this, e]
        · exact .inr ⟨k, c, e, z.sameBut hs (cne y c e)⟩
    · obtain ⟨w', z⟩ := I.cell y c e
      exact ⟨w', z.sameBut hs (cne y c e)⟩
    · obtain ⟨e, n, ne, nf, d⟩ := I.pin p hp
      exact ⟨(hs.2 p.1 ne).trans e, n, ne, nf, d⟩
  · have hfn : X.fn x = true := by
      rcases hf with z | z
      · exact z
      · rw [z] at hk; cases hk
    obtain ⟨c, hc⟩ := I.ok.has x (.inl hk)
    obtain ⟨w', z⟩ := I.cell x c hc
    refine wpAny_storeName_cell I.ok.kind hk hc z (fun h' hc' hs => ?_)
    obtain ⟨oc, hoc, hocd⟩ := id z
    refine h { s with heap := h' } ⟨I.ok, I.os, I.bare, ⟨fun b o e n hb hx => ?_, fun b o e n hb hx => ?_, I.base.free, fun b o e hx => ?_, I.base.tups, I.base.frzs, I.base.tbls⟩, ⟨m, hn.sameBut hs (Ne.symm (cne x c hc)), fun j y v' e1 e2 e3 => ?_⟩, fun y c' e => ?_, I.free, I.freeC, fun p hp => ?_, tracked ⟨oc, hoc, I.freeC x c hc⟩ hs, by simpa using I.len⟩ ⟨c, hs, .inr hc⟩
    · exact (hs.2 b (Nat.ne_of_lt (Nat.lt_of_lt_of_le (Heap.lt_size e) (I.ok.cab x c hfn hc)))).trans (I.base.keep b o e n hb hx)
    · obtain ⟨sl, e1⟩ := I.base.slot b o e n hb hx
      exact ⟨sl, (hs.2 b (Nat.ne_of_lt (Nat.lt_of_lt_of_le (Heap.lt_size e) (I.ok.cab x c hfn hc)))).trans e1⟩
    · obtain ⟨o', e1⟩ := I.base.there b o e hx
      exact ⟨o', (hs.2 b (Nat.ne_of_lt (Nat.lt_of_lt_of_le (Heap.lt_size e) (I.ok.cab x c hfn hc)))).trans e1⟩
    · by_cases hj : j = i
      · subst hj
        rw [hi] at e1; cases e1
        rw [List.getElem?_set_self hiσ] at e2
        cases e2
        exact ⟨u, r, .inr ⟨.inl hk, c, hc, hc'⟩⟩
      · rw [List.getElem?_set_ne (Ne.symm hj)] at e2
        obtain ⟨u', r', q⟩ := hl j y v' e1 e2 e3
        refine ⟨u', r', ?_⟩
        rcases q with q | ⟨k, c', e, z'⟩
        · exact .inl q
        · refine .inr ⟨k, c', e, z'.sameBut hs ?_⟩
          rintro rfl
          exact hj (nodup_ix hN e1 (I.ok.inj _ _ _ e hc ▸ hi))
    · by_cases hcc : c' = c
      · subst hcc; exact ⟨_, hc'⟩
      · obtain ⟨w2, z2⟩ := I.cell y c' e
        exact ⟨w2, z2.sameBut hs hcc⟩
    · obtain ⟨e, n, ne, nf, d⟩ := I.pin p hp
      refine ⟨(hs.2 p.1 ?_).trans e, n, ne, nf, d⟩
      intro q
      rw [q, hoc] at e
      have q' : oc = p.2 := Option.some.inj e
      exact d w' (by rw [← q']; exact hocd)
theorem store_ok {M : Model} {A : Around} {E : Value → Shared → Prop} {i : Nat} {x : Str} {v : V} {u : Value} {Q : Unit → Shared → Prop} (I : Inv X pins σ H s) (hN : X.N.Nodup) (hi : X.N[i]? = some x) (hx : Loc X.env.scope x) (r : RelV v u)
    (h : ∀ s', Inv X pins (σ.set i (some v)) H s' → Q () s') (hf : X.fn x = true ∨ X.env.scope.names.lookup x = some .local := by first | exact .inl rfl | exact .inr rfl | assumption) : wpAny M A (storeName X.env x u) Q E s :=
  store_ok2 I hN hi hx r (fun s' I' _ => h s' I') hf
/-- behind a call or a block, the state as it is -/
theorem Inv.call' {s' : Shared} {ch : List Addr} (I : Inv X pins σ H s) (ho : s'.os = s.os) (u : Un (frs X.stack) ch H H' s.heap s'.heap) (hok : HOk X.prog X.w H' s'.heap) (hg : AllBare s'.gens)
    (hch : ∀ b ∈ ch, (b ∈ X.ex ∨ X.s₀.heap.objs.size ≤ b) ∧ b ≠ X.env.locals ∧ (∀ x c, X.env.cells.lookup x = some c → c ≠ b) ∧ ∀ p ∈ X.pn ++ pins, p.1 ≠ b) : Inv X pins σ H' s' := by
  obtain ⟨h', g', d', t', o'⟩ := s'
  have e : o' = s.os := ho
  subst e
  exact I.call (g' := g') (t' := t') (d' := d') u hok hg hch
end

/-! ### the judgements -/
/-- an exception: its class, its own dict's address (where it has one), the abstract heap behind it -/
abbrev XK := Value → Option Addr → Hp → Prop
abbrev St := List (Option V)
abbrev VK := V → Hp → Prop
/-- an expression's reading; a test's; an argument list's -/
abbrev TE := St → Hp → VK → Prop
abbrev TT := St → Hp → (Bool → Hp → Prop) → Prop
abbrev TA := St → Hp → (List V → Hp → Prop) → Prop
/-- what is wanted behind a statement -/
structure Ends where
  nx : St → Hp → Prop
  rt : VK
  bk : St → Hp → Prop := fun _ _ => False
  ct : St → Hp → Prop := fun _ _ => False
abbrev TS := Ends → St → Hp → Prop

def EP (X : Cx) (pins : List (Addr × Obj)) (σ : St) (Q : VK) (u : Value) (s' : Shared) : Prop := ∃ v H', Inv X pins σ H' s' ∧ RelV v u ∧ Q v H'
def TP (X : Cx) (pins : List (Addr × Obj)) (σ : St) (Q : Bool → Hp → Prop) (b : Bool) (s' : Shared) : Prop := ∃ H', Inv X pins σ H' s' ∧ Q b H'
def AP (X : Cx) (pins : List (Addr × Obj)) (σ : St) (Q : List V → Hp → Prop) (us : List Value) (s' : Shared) : Prop := ∃ vs H', Inv X pins σ H' s' ∧ Vals vs us ∧ Q vs H'
def SP (X : Cx) (pins : List (Addr × Obj)) (D : Ends) (f : Flow) (s' : Shared) : Prop :=
  match f with
  | .next => ∃ σ' H', Inv X pins σ' H' s' ∧ D.nx σ' H'
  | .brk => ∃ σ' H', Inv X pins σ' H' s' ∧ D.bk σ' H'
  | .cont => ∃ σ' H', Inv X pins σ' H' s' ∧ D.ct σ' H'
  | .ret u => ∃ v σ' H', Inv X pins σ' H' s' ∧ RelV v u ∧ D.rt v H'

def PE (X : Cx) (e : Expr) (t : TE) : Prop :=
  ∀ (pins : List (Addr × Obj)) (s : Shared) (σ : St) (H : Hp) (Q : VK), Inv X pins σ H s → t σ H Q → wpAny (model X.prog X.w) X.A (eval e X.env) (EP X pins σ Q) X.xe s
def PT (X : Cx) (e : Expr) (t : TT) : Prop :=
  ∀ (pins : List (Addr × Obj)) (s : Shared) (σ : St) (H : Hp) (Q : Bool → Hp → Prop), Inv X pins σ H s → t σ H Q → wpAny (model X.prog X.w) X.A (isTrue e X.env (eval e X.env)) (TP X pins σ Q) X.xe s
/-- a test whatever its 'whole' is (and, or) -/
def PW (X : Cx) (e : Expr) (t : TT) : Prop :=
  ∀ (whole : Sem Value) (pins : List (Addr × Obj)) (s : Shared) (σ : St) (H : Hp) (Q : Bool → Hp → Prop), Inv X pins σ H s → t σ H Q → wpAny (model X.prog X.w) X.A (isTrue e X.env whole) (TP X pins σ Q) X.xe s
theorem PW.pt {X : Cx} {e : Expr} {t : TT} (h : PW X e t) : PT X e t := h _
/-- an argument list (no star), from the left -/
def PA (X : Cx) (es : List Expr) (t : TA) : Prop :=
  ∀ (pos : Pos) (pins : List (Addr × Obj)) (s : Shared) (σ : St) (H : Hp) (Q : List V → Hp → Prop), Inv X pins σ H s → t σ H Q → wpAny (model X.prog X.w) X.A (spliced (backTo pos (starEach es X.env))) (AP X pins σ Q) X.xe s
def PS (X : Cx) (st : Stmt) (t : TS) : Prop :=
  ∀ (pins : List (Addr × Obj)) (s : Shared) (σ : St) (H : Hp) (D : Ends), Inv X pins σ H s → t D σ H → wpAny (model X.prog X.w) X.A (exec st X.env) (SP X pins D) X.xe s
def PSs (X : Cx) (st : List Stmt) (t : TS) : Prop :=
  ∀ (pins : List (Addr × Obj)) (s : Shared) (σ : St) (H : Hp) (D : Ends), Inv X pins σ H s → t D σ H → wpAny (model X.prog X.w) X.A (execs st X.env) (SP X pins D) X.xe s
/-- weaken the end -/
theorem thn {α : Type} {t : Sem α} {Q Q' : α → Shared → Prop} {M : Model} {A : Around} {E : Value → Shared → Prop} {s : Shared} (h : wpAny M A t Q E s) (hQ : ∀ a s, Q a s → Q' a s) : wpAny M A t Q' E s := wpAny_mono h hQ fun _ _ x => x
end L2

namespace L2
open PySem PySem.Spec PyProof.Rows
section
variable {X : Cx}

/-! ### names and constants -/
def tVar (i : Nat) : TE := fun σ H Q => ∃ v, σ[i]? = some (some v) ∧ Q v H
def tC (v : V) : TE := fun _ H Q => Q v H
theorem pe_var {i : Nat} {x : Str} {pos : Pos} (hN : X.N[i]? = some x) (hv : Vis X.env.scope x) (hd : (x == ("__debug__" : Str)) = false := by decide) (hcd : (x == ("__classdict__" : Str)) = false := by decide) : PE X (.Name x pos) (tVar i) := by
  intro pins s σ H Q I h
  obtain ⟨v, e, h⟩ := h
  obtain ⟨m, hn, hl⟩ := I.loc
  obtain ⟨u, r, l⟩ := hl i x v hN e hv
  have fin : EP X pins σ Q u s := ⟨v, H, I, r, h⟩
  rcases l with ⟨hk, hm⟩ | ⟨hk, c, hc, hcell⟩
  · exact wpAny_Name (wpAny_loadName_local I.ok.kind hk hn hm fin) hd
  · rcases hk with hk | hk
    · exact wpAny_Name (wpAny_loadName_cell I.ok.kind hk hc hcell fin) hd
    · exact wpAny_Name (wpAny_loadName_free I.ok.kind hk hc hcell fin hcd) hd
theorem pe_int {i j pos} : PE X (.Constant (.int i) j pos) (tC (.int i)) := fun _ _ _ H _ I h => wpAny_Constant_int ⟨.int i, H, I.tok _, ⟨_, rfl⟩, h⟩
theorem pe_bl {b j pos} : PE X (.Constant (.bool b) j pos) (tC (.bl b)) := fun _ _ _ H _ I h => Constant_bool ⟨.bl b, H, I, rfl, h⟩
theorem pe_non {j pos} : PE X (.Constant .none j pos) (tC .non) := fun _ _ _ H _ I h => Constant_none ⟨.non, H, I, rfl, h⟩
theorem pe_str {x j pos} : PE X (.Constant (.str x) j pos) (tC (.str x)) := fun _ _ _ H _ I h => Calls.Constant_str ⟨.str x, H, I.tok _, ⟨_, rfl⟩, h⟩

/-- a global name of the def -/
def Gl (X : Cx) (x : Str) : Prop := X.env.kindOf x = some .globalImplicit
theorem ld_glob {E : Value → Shared → Prop} {pins : List (Addr × Obj)} {s : Shared} {σ : St} {H : Hp} {x : Str} {u : Value} {pos : Pos} {Q : Value → Shared → Prop} (I : Inv X pins σ H s) (hg : Gl X x) (hm : X.mg x = some u) (h : Q u s)
    (hd : (x == ("__debug__" : Str)) = false := by decide) : wpAny (model X.prog X.w) X.A (eval (.Name x pos) X.env) Q E s :=
  Calls.Name_function_global I.ok.kind hg (Calls.loadGlobal_global (by rw [I.ok.glob]; exact I.mod.glob.keeps I.bk) hm h) hd
theorem ld_blt {E : Value → Shared → Prop} {pins : List (Addr × Obj)} {s : Shared} {σ : St} {H : Hp} {x : Str} {u : Value} {pos : Pos} {Q : Value → Shared → Prop} (I : Inv X pins σ H s) (hg : Gl X x) (hm : X.mg x = none) (hv : bootBuiltins x = some u) (h : Q u s)
    (hn : x ≠ "__name__" := by decide) (hd : (x == ("__debug__" : Str)) = false := by decide) : wpAny (model X.prog X.w) X.A (eval (.Name x pos) X.env) Q E s := by
  obtain ⟨mb, h1, h2⟩ := I.mod.blt
  exact Calls.Name_function_global I.ok.kind hg (Calls.loadGlobal_builtin (by rw [I.ok.glob]; exact I.mod.glob.keeps I.bk) hm (by rw [I.ok.blt]; exact h1.keeps I.bk) ((h2 x hn).trans hv) h) hd
/-- a module's constant, a class, a function, as a value -/
theorem pe_glob {x : Str} {v : V} {u : Value} {pos : Pos} (hg : Gl X x) (hm : X.mg x = some u) (r : RelV v u) (hd : (x == ("__debug__" : Str)) = false := by decide) : PE X (.Name x pos) (tC v) :=
  fun _ _ _ H _ I h => ld_glob I hg hm ⟨v, H, I, r, h⟩ hd
theorem pe_bltn {x : Str} {v : V} {u : Value} {pos : Pos} (hg : Gl X x) (hm : X.mg x = none) (hv : bootBuiltins x = some u) (r : RelV v u) (hn : x ≠ "__name__" := by decide) (hd : (x == ("__debug__" : Str)) = false := by decide) : PE X (.Name x pos) (tC v) :=
  fun _ _ _ H _ I h => ld_blt I hg hm hv ⟨v, H, I, r, h⟩ hn hd

/-! ### arithmetic -/
/-- two ints -/
def t2I (ta tb : TE) (k : Int → Int → Hp → Prop) : St → Hp → Prop := fun σ H => ta σ H fun x H1 => tb σ H1 fun y H2 => ∃ i j, x = .int i ∧ y = .int j ∧ k i j H2
def tAdd (ta tb : TE) : TE := fun σ H Q => t2I ta tb (fun i j H2 => Q (.int (i + j)) H2) σ H
def tSub (ta tb : TE) : TE := fun σ H Q => t2I ta tb (fun i j H2 => Q (.int (i - j)) H2) σ H
/-- the left factor below 2^64 -/
def tMul (ta tb : TE) : TE := fun σ H Q => t2I ta tb (fun i j H2 => (-(2 ^ 64) < i ∧ i < 2 ^ 64) ∧ Q (.int (i * j)) H2) σ H
variable {a b : Expr} {ta tb : TE} {pos : Pos}
/-! ### comparisons -/
def PC (X : Cx) (op : CmpOp) (a b : Expr) (t : TE) : Prop :=
  ∀ (pins : List (Addr × Obj)) (s : Shared) (σ : St) (H : Hp) (Q : VK), Inv X pins σ H s → t σ H Q →
    wpAny (model X.prog X.w) X.A (eval a X.env) (fun v s₁ => wpAny (model X.prog X.w) X.A (eval b X.env) (fun u s₂ => wpAny (model X.prog X.w) X.A (compareOp op v u) (EP X pins σ Q) X.xe s₂) X.xe s₁) X.xe s
def tCmp (p : Int → Int → Bool) (ta tb : TE) : TE := fun σ H Q => t2I ta tb (fun i j H2 => Q (.bl (p i j)) H2) σ H
abbrev tLt : TE → TE → TE := tCmp fun i j => decide (i < j)
abbrev tLe : TE → TE → TE := tCmp fun i j => decide (i ≤ j)
abbrev tGt : TE → TE → TE := tCmp fun i j => decide (j < i)
abbrev tGe : TE → TE → TE := tCmp fun i j => decide (j ≤ i)
abbrev tEqI : TE → TE → TE := tCmp fun i j => decide (i = j)
abbrev tNeI : TE → TE → TE := tCmp fun i j => !decide (i = j)
/-- is None -/
def tIsN (ta : TE) : TE := fun σ H Q => ta σ H fun x H1 => Q (.bl (decide (x = .non))) H1
def tNotN (ta : TE) : TE := fun σ H Q => ta σ H fun x H1 => Q (.bl (!decide (x = .non))) H1
/-- a comparison as a value, as a test -/
def tB (t : TE) : TT := fun σ H Q => t σ H fun x H1 => ∃ c, x = .bl c ∧ Q c H1
/-- an expression whose value is a bool, as a test -/
theorem pt_val {e : Expr} {t : TE} (h : PE X e t) (he : ∀ whole, isTrue e X.env whole = (do let v ← whole; standAt e.pos; holding [v] (truthy v)) := by intro _; rfl) : PT X e (tB t) := by
  intro pins s σ H Q I hw
  refine isTrue_plain (thn (h pins s σ H _ I hw) fun v s1 ⟨x, H1, I1, r1, q1⟩ => ?_) (he _)
  obtain ⟨d, rfl, q⟩ := q1
  cases r1
  exact wpAny_truthy_bool ⟨H1, I1, q⟩

/-! ### and, or, not -/
variable {tA tB' : TT} {rest : List Expr}
def tAnd (t u : TT) : TT := fun σ H Q => t σ H fun c H1 => if c = true then u σ H1 Q else Q false H1
def tOr (t u : TT) : TT := fun σ H Q => t σ H fun c H1 => if c = true then Q true H1 else u σ H1 Q
def tNot (t : TT) : TT := fun σ H Q => t σ H fun c H1 => Q (!c) H1
theorem pw_and1 (ha : PT X a tA) : PW X (.BoolOp .And [a] pos) tA := by
  intro wh pins s σ H Q I h
  refine isTrue_and (thn (ha pins s σ H Q I h) fun c s1 e => ?_)
  cases c with
  | true => exact isTrue_and_nil e
  | false => exact e
theorem pw_or1 (ha : PT X a tA) : PW X (.BoolOp .Or [a] pos) tA := by
  intro wh pins s σ H Q I h
  refine isTrue_or (thn (ha pins s σ H Q I h) fun c s1 e => ?_)
  cases c with
  | false => exact isTrue_or_nil e
  | true => exact e
theorem pw_and (ha : PT X a tA) (hb : PW X (.BoolOp .And (b :: rest) pos) tB') : PW X (.BoolOp .And (a :: b :: rest) pos) (tAnd tA tB') := by
  intro wh pins s σ H Q I h
  refine isTrue_and (thn (ha pins s σ H _ I h) fun c s1 ⟨H1, I1, q1⟩ => ?_)
  cases c with
  | true => exact hb wh pins s1 σ H1 Q I1 q1
  | false => exact ⟨H1, I1, q1⟩
theorem pw_or (ha : PT X a tA) (hb : PW X (.BoolOp .Or (b :: rest) pos) tB') : PW X (.BoolOp .Or (a :: b :: rest) pos) (tOr tA tB') := by
  intro wh pins s σ H Q I h
  refine isTrue_or (thn (ha pins s σ H _ I h) fun c s1 ⟨H1, I1, q1⟩ => ?_)
  cases c with
  | true => exact ⟨H1, I1, q1⟩
  | false => exact hb wh pins s1 σ H1 Q I1 q1
theorem pt_not (ha : PT X a tA) : PT X (.UnaryOp .Not a pos) (tNot tA) := by
  intro pins s σ H Q I h
  exact isTrue_not (ha pins s σ H (fun c H1 => Q (!c) H1) I h)
/-- .. as values (bools) -/
def tAndV (ta tb : TE) : TE := fun σ H Q => ta σ H fun x H1 => ∃ c, x = .bl c ∧ if c = true then tb σ H1 Q else Q (.bl false) H1
def tOrV (ta tb : TE) : TE := fun σ H Q => ta σ H fun x H1 => ∃ c, x = .bl c ∧ if c = true then Q (.bl true) H1 else tb σ H1 Q
def tNotV (ta : TE) : TE := fun σ H Q => ta σ H fun x H1 => ∃ c, x = .bl c ∧ Q (.bl (!c)) H1
theorem pe_one {op} {t : TE} (h : PE X a t) : PE X (.BoolOp op [a] pos) t := fun pins s σ H Q I hw => BoolOp_one (h pins s σ H Q I hw)
theorem pe_and (ha : PE X a ta) (hb : PE X (.BoolOp .And (b :: rest) pos) tb) : PE X (.BoolOp .And (a :: b :: rest) pos) (tAndV ta tb) := by
  intro pins s σ H Q I h
  refine BoolOp_and (thn (ha pins s σ H _ I h) fun v s1 ⟨x, H1, I1, r1, q1⟩ => ?_)
  obtain ⟨c, rfl, q1⟩ := q1
  cases r1
  refine wpAny_truthy_bool ?_
  cases c with
  | true => exact hb pins s1 σ H1 Q I1 q1
  | false => exact ⟨.bl false, H1, I1, rfl, q1⟩
theorem pe_not (ha : PE X a ta) : PE X (.UnaryOp .Not a pos) (tNotV ta) := by
  intro pins s σ H Q I h
  refine UnaryOp_ (thn (ha pins s σ H _ I h) fun v s1 ⟨x, H1, I1, r1, q1⟩ => ?_)
  obtain ⟨c, rfl, q1⟩ := q1
  cases r1
  exact not_of (wpAny_truthy_bool ⟨.bl (!c), H1, I1, rfl, q1⟩)
/-- a if t else b -/
def tIf (t : TT) (ta tb : TE) : TE := fun σ H Q => t σ H fun c H1 => if c = true then ta σ H1 Q else tb σ H1 Q
end
end L2

namespace L2
open PySem PySem.Spec PyProof.Rows

/-! ### a list, a tuple that is read: tracked, frozen, or an object of the module -/
def SqL (K : PySem.W.Frag) (H : Hp) (a : Addr) (xs : List V) : Prop :=
  Rd H a (.lst xs) ∨
    ∃ (o : Obj) (its : Array Value) (n : Nat), K.lookup a = some o ∧ o.cls = .type "list" ∧ o.dict = none ∧ o.data = .seq its n ∧ its.size ≤ sizeLine ∧ Vals xs its.toList
def SqT (K : PySem.W.Frag) (H : Hp) (a : Addr) (xs : List V) : Prop :=
  Rd H a (.tup xs) ∨
    ∃ (o : Obj) (its : Array Value) (n : Nat), K.lookup a = some o ∧ o.cls = .type "tuple" ∧ o.data = .seq its n ∧ its.size ≤ sizeLine ∧ Vals xs its.toList
def absV : Value → Option V
  | .none => some .non
  | .bool b => some (.bl b)
  | .int i _ => some (.int i)
  | .str x _ => some (.str x)
  | .bytes b _ => some (.byt b)
  | .float b _ => some (.flt b)
  | .ref a => some (.ref a)
  | .type n => some (.ty n)
  | _ => none
theorem RelV.abs {x : V} {u : Value} (r : RelV x u) : absV u = some x := by
  cases x with
  | non => cases r; rfl
  | bl _ => cases r; rfl
  | int _ => obtain ⟨t, rfl⟩ := r; rfl
  | str _ => obtain ⟨t, rfl⟩ := r; rfl
  | byt _ => obtain ⟨t, rfl⟩ := r; rfl
  | flt _ => obtain ⟨t, rfl⟩ := r; rfl
  | ref _ => cases r; rfl
  | ty _ => cases r; rfl
theorem RelV.inj {x y : V} {u : Value} (r : RelV x u) (q : RelV y u) : x = y := Option.some.inj (r.abs.symm.trans q.abs)
theorem Vals.inj : ∀ {xs ys : List V} {us : List Value}, Vals xs us → Vals ys us → xs = ys
  | _, _, _, .nil, .nil => rfl
  | _, _, _, .cons r t, .cons r' t' => by rw [r.inj r', Vals.inj t t']
section
variable {X : Cx} {pins : List (Addr × Obj)} {σ : St} {H : Hp} {s : Shared} {a : Addr} {xs ys : List V}
theorem SqL.of {K : PySem.W.Frag} (h : H a = some (.lst xs)) : SqL K H a xs := .inl (.inl h)
theorem SqT.of {K : PySem.W.Frag} (h : H a = some (.tup xs)) : SqT K H a xs := .inl (.inl h)
theorem Inv.list (I : Inv X pins σ H s) (h : SqL X.K H a xs) : ∃ its : List Value, Vals xs its ∧ PlainL s.heap a its.toArray ∧ xs.length ≤ sizeLine := by
  rcases h with h | ⟨o, its, n, hk, hc, hd, hs, hz, r⟩
  · obtain ⟨z, its, n, r, e⟩ := h.ok I.hok
    exact ⟨its, r, ⟨_, n, e, rfl, rfl, rfl⟩, z⟩
  · refine ⟨its.toList, r, ⟨o, n, I.kIn a o hk, hc, hd, by simpa using hs⟩, ?_⟩
    have e := r.length
    simp only [Array.length_toList] at e
    omega
theorem Inv.tuple (I : Inv X pins σ H s) (h : SqT X.K H a xs) : ∃ its : List Value, Vals xs its ∧ IsTup s.heap a its.toArray ∧ xs.length ≤ sizeLine := by
  rcases h with h | ⟨o, its, n, hk, hc, hs, hz, r⟩
  · obtain ⟨z, its, r, p⟩ := h.ok I.hok
    exact ⟨its, r, p, z⟩
  · refine ⟨its.toList, r, ⟨o, I.kIn a o hk, hc, n, by simpa using hs⟩, ?_⟩
    have e := r.length
    simp only [Array.length_toList] at e
    omega
theorem Inv.list_inj (I : Inv X pins σ H s) (h : SqL X.K H a xs) (h' : SqL X.K H a ys) : xs = ys := by
  obtain ⟨its, r, ⟨o, n, e, _, _, d⟩, _⟩ := I.list h
  obtain ⟨its', r', ⟨o', n', e', _, _, d'⟩, _⟩ := I.list h'
  rw [e] at e'; cases e'
  rw [d] at d'
  injection d' with d1 _
  have : its = its' := by simpa using congrArg Array.toList d1
  subst this
  exact r.inj r'
end

/-! ### another wish about exceptions -/
abbrev Cx.wish (X : Cx) (E : Value → Shared → Prop) : Cx := { X with xe := E }
/-- no exception leaves -/
abbrev Cx.nox (X : Cx) : Cx := X.wish fun _ _ => False
section
variable {X : Cx} {pins : List (Addr × Obj)} {σ : St} {H : Hp} {s : Shared} {E : Value → Shared → Prop}
end

/-! ### blocks and small statements -/
section
variable {X : Cx} {st : Stmt} {rest : List Stmt} {t u : TS} {e : Expr} {te : TE} {pos : Pos}
def tNext : TS := fun D σ H => D.nx σ H
def tSeq (t u : TS) : TS := fun D σ H => t { D with nx := u D } σ H
theorem pss_nil : PSs X [] tNext := fun _ _ σ H _ I h => wpAny_execs_nil ⟨σ, H, I, h⟩
theorem pss_cons (h1 : PS X st t) (h2 : PSs X rest u) : PSs X (st :: rest) (tSeq t u) := by
  intro pins s σ H D I h
  refine wpAny_execs_cons (thn (h1 pins s σ H { D with nx := u D } I h) fun f s1 q => ?_)
  cases f with
  | next =>
    obtain ⟨σ', H', I', q⟩ := q
    exact h2 pins s1 σ' H' D I' q
  | ret v => exact q
  | brk => exact q
  | cont => exact q
theorem pss_one (h1 : PS X st t) : PSs X [st] t := by
  intro pins s σ H D I h
  refine wpAny_execs_cons (thn (h1 pins s σ H D I h) fun f s1 q => ?_)
  cases f with
  | next => exact wpAny_execs_nil q
  | ret v => exact q
  | brk => exact q
  | cont => exact q
def tBreak : TS := fun D σ H => D.bk σ H
def tCont : TS := fun D σ H => D.ct σ H
/-- in a def's body nothing is shown -/
theorem Inv.quiet {pins : List (Addr × Obj)} {σ : St} {H : Hp} {s : Shared} (I : Inv X pins σ H s) : interactive X.env = false := by simp [interactive, I.ok.kind]
/-- an expression whose value is dropped -/
def tDrop (te : TE) : TS := fun D σ H => te σ H fun _ H1 => D.nx σ H1
theorem ps_expr (he : PE X e te) (hs : swapsWith e none pos.line X.env = pure false := by rfl) : PS X (.Expr e pos) (tDrop te) := by
  intro pins s σ H D I h
  exact wpAny_Expr_any (thn (he pins s σ H _ I h) fun v s1 ⟨x, H1, I1, r1, q1⟩ => ⟨σ, H1, I1, q1⟩) I.quiet hs
def tRet (te : TE) : TS := fun D σ H => te σ H D.rt
theorem ps_ret (he : PE X e te) : PS X (.Return (some e) pos) (tRet te) := by
  intro pins s σ H D I h
  exact wpAny_Return_some (thn (he pins s σ H _ I h) fun v s1 ⟨x, H1, I1, r1, q1⟩ => ⟨x, σ, H1, I1, r1, q1⟩)
def tRetN : TS := fun D _ H => D.rt .non H
def tIfS (c : TT) (t u : TS) : TS := fun D σ H => c σ H fun b H1 => if b = true then t D σ H1 else u D σ H1
theorem ps_if {c : Expr} {a b : List Stmt} {tc : TT} (hc : PT X c tc) (ha : PSs X a t) (hb : PSs X b u) : PS X (.If c a b pos) (tIfS tc t u) := by
  intro pins s σ H D I h
  refine wpAny_If (thn (hc pins s σ H _ I h) fun d s1 ⟨H1, I1, q1⟩ => ?_)
  cases d with
  | true => exact ha pins s1 σ H1 D I1 q1
  | false => exact hb pins s1 σ H1 D I1 q1
/-- code that the proof never comes to -/
def tNever : TS := fun _ _ _ => False
theorem ps_never : PS X st tNever := fun _ _ _ _ _ _ h => h.elim
end

/-! ### targets -/
abbrev TG := V → St → Hp → (St → Hp → Prop) → Prop
abbrev TGs := List V → St → Hp → (St → Hp → Prop) → Prop
def PG (X : Cx) (target : Expr) (t : TG) : Prop :=
  ∀ (pins : List (Addr × Obj)) (s : Shared) (σ : St) (H : Hp) (v : V) (u : Value) (Q : St → Hp → Prop), Inv X pins σ H s → RelV v u → t v σ H Q →
    wpAny (model X.prog X.w) X.A (assign target X.env u) (fun _ s' => ∃ σ' H', Inv X pins σ' H' s' ∧ Q σ' H') X.xe s
/-- several targets, one after another -/
def PGs (X : Cx) (ts : List Expr) (t : TGs) : Prop :=
  ∀ (pins : List (Addr × Obj)) (s : Shared) (σ : St) (H : Hp) (vs : List V) (us : List Value) (Q : St → Hp → Prop), Inv X pins σ H s → Vals vs us → t vs σ H Q →
    wpAny (model X.prog X.w) X.A (assignInOrder ((assignEach ts X.env).map (·.2)) us) (fun _ s' => ∃ σ' H', Inv X pins σ' H' s' ∧ Q σ' H') X.xe s
/-- o[i] = v, by values -/
abbrev TSet := V → V → V → Hp → (Hp → Prop) → Prop
def PSet (X : Cx) (t : TSet) : Prop :=
  ∀ (pins : List (Addr × Obj)) (s : Shared) (σ : St) (H : Hp) (o i v : V) (ov iv u : Value) (Q : Hp → Prop), Inv X pins σ H s → RelV o ov → RelV i iv → RelV v u → t o i v H Q →
    wpAny (model X.prog X.w) X.A (setItem ov iv u) (fun _ s' => ∃ H', Inv X pins σ H' s' ∧ Q H') X.xe s
/-- a op= b, by values -/
abbrev TIp := V → V → Hp → VK → Prop
def PIp (X : Cx) (op : Operator) (t : TIp) : Prop :=
  ∀ (pins : List (Addr × Obj)) (s : Shared) (σ : St) (H : Hp) (x y : V) (v u : Value) (Q : VK), Inv X pins σ H s → RelV x v → RelV y u → t x y H Q →
    wpAny (model X.prog X.w) X.A (inplaceOp op v u) (EP X pins σ Q) X.xe s
section
variable {X : Cx} {pos : Pos}
def gName (i : Nat) : TG := fun v σ H Q => Q (σ.set i (some v)) H
theorem pg_name {i : Nat} {x : Str} (hN : X.N.Nodup) (hi : X.N[i]? = some x) (hx : Loc X.env.scope x) (hf : X.fn x = true ∨ X.env.scope.names.lookup x = some .local := by first | exact .inl rfl | exact .inr rfl | assumption) : PG X (.Name x pos) (gName i) := by
  intro pins s σ H v u Q I r h
  exact wpAny_assign_Name (store_ok I hN hi hx r (fun s' I' => ⟨_, H, I', h⟩) hf)
def gNil : TGs := fun vs σ H Q => vs = [] ∧ Q σ H
def gCons (t : TG) (u : TGs) : TGs := fun vs σ H Q => ∃ v r, vs = v :: r ∧ t v σ H fun σ' H' => u r σ' H' Q
theorem pgs_nil : PGs X [] gNil := by
  intro pins s σ H vs us Q I r h
  obtain ⟨e, h⟩ := h
  subst e
  cases r
  exact assignInOrder_nil ⟨σ, H, I, h⟩
theorem pgs_cons {e : Expr} {es : List Expr} {t : TG} {u : TGs} (h1 : PG X e t) (h2 : PGs X es u)
    (hs : (assignEach (e :: es) X.env).map (·.2) = assign e X.env :: (assignEach es X.env).map (·.2) := by rfl) : PGs X (e :: es) (gCons t u) := by
  intro pins s σ H vs us Q I r h
  obtain ⟨v, vr, e1, h⟩ := h
  subst e1
  cases r with
  | cons r rr =>
    rw [hs]
    refine assignInOrder_cons (thn (h1 pins s σ H _ _ _ I r h) fun _ s1 ⟨σ1, H1, I1, q1⟩ => ?_)
    exact h2 pins s1 σ1 H1 _ _ Q I1 rr q1
/-- (a, b, ..) = a tuple of that length -/
def gTup (K : PySem.W.Frag) (n : Nat) (t : TGs) : TG := fun v σ H Q => ∃ a xs, v = .ref a ∧ SqT K H a xs ∧ xs.length = n ∧ t xs σ H Q
theorem pg_tup {es : List Expr} {k : Nat} {t : TGs} {n : Nat} (hc : X.calm = true) (h : PGs X es t)
    (hn : (assignEach es X.env).length = n := by rfl) (hst : (assignEach es X.env).findIdx? (·.1) = none := by rfl) : PG X (.Tuple es k pos) (gTup X.K n t) := by
  intro pins s σ H v u Q I r hw
  obtain ⟨a, xs, e1, hq, hl, hw⟩ := hw
  subst e1
  cases r
  obtain ⟨its, rv, ht, hz⟩ := I.tuple hq
  refine assign_Tuple_tuple (I.ok.hd hc) ht (by simp [hn, ← hl, rv.length]) hst fun h' hx => ?_
  have I1 : Inv X pins σ H { s with heap := h' } := I.kept (t' := s.toks) fun b o e => hx b o (Nat.ne_of_lt (Heap.lt_size e)) e
  exact h pins _ σ H xs _ Q I1 (by simpa using rv) hw
/-- o[i] = .. -/
def gSub (to ti : TE) (t : TSet) : TG := fun v σ H Q => to σ H fun o H1 => ti σ H1 fun i H2 => t o i v H2 fun H3 => Q σ H3
theorem pg_sub {o i : Expr} {to ti : TE} {t : TSet} (ho : PE X o to) (hi : PE X i ti) (hs : PSet X t)
    (ha : ∀ v, assign (.Subscript o i pos) X.env v = (do
      let ov ← holding [v] (eval o X.env)
      let iv ← holding [v, ov] (eval i X.env)
      standAt pos
      holding [v, ov, iv] (setItem ov iv v)
      release [v, ov, iv] []) := by intro _; rfl) : PG X (.Subscript o i pos) (gSub to ti t) := by
  intro pins s σ H v u Q I r h
  rw [ha]
  refine wpAny_bind (wpAny_holding (thn (ho pins s σ H _ I h) fun ov s1 ⟨x, H1, I1, r1, q1⟩ => ?_))
  refine wpAny_bind (wpAny_holding (thn (hi pins s1 σ H1 _ I1 q1) fun iv s2 ⟨y, H2, I2, r2, q2⟩ => ?_))
  refine wpAny_bind (wpAny_standAt (wpAny_bind (wpAny_holding (thn (hs pins s2 σ H2 x y v ov iv u _ I2 r1 r2 r q2) fun _ s3 ⟨H3, I3, q3⟩ => ?_))))
  exact wpAny_release ⟨σ, H3, I3, q3⟩
/-- target = value -/
def tAsg (te : TE) (g : TG) : TS := fun D σ H => te σ H fun x H1 => g x σ H1 D.nx
theorem ps_asg {tg e : Expr} {te : TE} {g : TG} (he : PE X e te) (hg : PG X tg g) (hs : swapsWithSole [tg] e pos.line X.env = pure false := by rfl) (hw : swappedStores [tg] e X.env = pure none := by rfl)
    (h1 : (assignEach [tg] X.env).map (·.2) = [assign tg X.env] := by rfl) : PS X (.Assign [tg] e pos) (tAsg te g) := by
  intro pins s σ H D I h
  refine wpAny_Assign_stores (thn (he pins s σ H _ I h) fun v s1 ⟨x, H1, I1, r1, q1⟩ => ?_) hs hw
  rw [h1]
  exact thn (hg pins s1 σ H1 x v _ I1 r1 q1) fun _ s2 q => q
/-- name = value -/
theorem ps_set {i : Nat} {x : Str} {e : Expr} {te : TE} {pos' : Pos} (hN : X.N.Nodup) (hi : X.N[i]? = some x) (hx : Loc X.env.scope x) (he : PE X e te) (hs : swapsWith e (some (.Name x pos')) pos.line X.env = pure false := by rfl) (hf : X.fn x = true ∨ X.env.scope.names.lookup x = some .local := by first | exact .inl rfl | exact .inr rfl | assumption) :
    PS X (.Assign [.Name x pos'] e pos) (tAsg te (gName i)) := by
  intro pins s σ H D I h
  refine wpAny_Assign_Name (thn (he pins s σ H _ I h) fun v s1 ⟨y, H1, I1, r1, q1⟩ => ?_) hs
  exact store_ok I1 hN hi hx r1 (fun s2 I2 => ⟨_, H1, I2, q1⟩) hf
/-- a, b = x, y with plain local names: stored from the right; the pair itself is not tracked (the opening rows as in PyProof/Rows/TupAssign.lean:23) -/
def tPar (i j : Nat) (ta : TA) : TS := fun D σ H => ta σ H fun vs H1 => ∃ v w, vs = [v, w] ∧ D.nx ((σ.set i (some v)).set j (some w)) H1
/-- name op= e -/
def tAug (i : Nat) (te : TE) (ti : TIp) : TS := fun D σ H => ∃ x, σ[i]? = some (some x) ∧ te σ H fun y H1 => ti x y H1 fun z H2 => D.nx (σ.set i (some z)) H2
/-- o[i] op= e -/
def tAugS (to ti te : TE) (tget : V → V → Hp → VK → Prop) (tip : TIp) (tset : TSet) : TS := fun D σ H => to σ H fun o H1 => ti σ H1 fun i H2 => tget o i H2 fun x H3 => te σ H3 fun y H4 => tip x y H4 fun z H5 => tset o i z H5 fun H6 => D.nx σ H6
/-- o[i], by values -/
def PGet (X : Cx) (t : V → V → Hp → VK → Prop) : Prop :=
  ∀ (pins : List (Addr × Obj)) (s : Shared) (σ : St) (H : Hp) (o i : V) (ov iv : Value) (Q : VK), Inv X pins σ H s → RelV o ov → RelV i iv → t o i H Q →
    wpAny (model X.prog X.w) X.A (getItem ov iv) (EP X pins σ Q) X.xe s
/-- ints -/
def ipI (f : Int → Int → Int) : TIp := fun x y H Q => ∃ i j, x = .int i ∧ y = .int j ∧ Q (.int (f i j)) H
end

/-! ### while -/
section
variable {X : Cx} {pos : Pos}
/-- the invariant W with its measure -/
def tWhile (c : TT) (tb : TS) : TS := fun D σ H => ∃ W : Nat → St → Hp → Prop, (∃ m, W m σ H) ∧ ∀ m σ H, W m σ H →
  c σ H fun b H1 => if b = true then ∃ N : St → Hp → Prop, (∀ σ' H', N σ' H' → ∃ m', m' < m ∧ W m' σ' H') ∧ tb { D with nx := N, ct := N, bk := D.nx } σ H1 else D.nx σ H1
theorem ps_while {c : Expr} {body : List Stmt} {tc : TT} {tb : TS} (hp : PassesOwn (model X.prog X.w) X.A X.env X.xe) (hc : PT X c tc) (hb : PSs X body tb) : PS X (.While c body [] pos) (tWhile tc tb) := by
  intro pins s σ H D I h
  obtain ⟨W, ⟨m0, w0⟩, turn⟩ := h
  refine wpAny_While (codeAny_whileLoop (fun n s' => ∃ σ' H', Inv X pins σ' H' s' ∧ W n σ' H') ?_ m0 ⟨σ, H, I, w0⟩)
  rintro n s1 ⟨σ1, H1, I1, w1⟩
  refine wpAny_passesOwn hp (thn (hc pins s1 σ1 H1 _ I1 (turn n σ1 H1 w1)) fun b s2 ⟨H2, I2, q2⟩ => ?_)
  cases b with
  | true =>
    obtain ⟨N, hN, q2⟩ := q2
    rw [if_pos rfl]
    refine wpAny_passesOwn hp (thn (hb pins s2 σ1 H2 _ I2 q2) fun f s3 q3 => ?_)
    cases f with
    | next =>
      obtain ⟨σ3, H3, I3, n3⟩ := q3
      obtain ⟨m', hm, w3⟩ := hN σ3 H3 n3
      exact ⟨m', hm, σ3, H3, I3, w3⟩
    | cont =>
      obtain ⟨σ3, H3, I3, n3⟩ := q3
      obtain ⟨m', hm, w3⟩ := hN σ3 H3 n3
      exact ⟨m', hm, σ3, H3, I3, w3⟩
    | brk => exact q3
    | ret v => exact q3
  | false =>
    rw [if_neg Bool.false_ne_true]
    exact wpAny_execs_nil ⟨σ1, H2, I2, q2⟩
end

/-! ### what a loop or a comprehension walks -/
/-- at turn i: it yields x (the heap may grow), or it stops -/
structure It where
  go : Nat → Hp → Prop
  yld : Nat → Hp → V → Hp → Prop
  stop : Nat → Hp → Prop
/-- the iterator's own objects may turn: they are not the frame's, not pinned, younger than the entry (or a comprehension's own) -/
def FpOk (X : Cx) (pins : List (Addr × Obj)) (H : Hp) (b : Addr) : Prop :=
  H b = none ∧ b ≠ X.env.locals ∧ b ∉ X.fs ∧ (b ∈ X.ex ∨ X.s₀.heap.objs.size ≤ b) ∧ (∀ x c, X.env.cells.lookup x = some c → c ≠ b) ∧ ∀ p ∈ X.pn ++ pins, p.1 ≠ b
theorem Inv.fpOk {X : Cx} {pins : List (Addr × Obj)} {σ : St} {H H' : Hp} {s : Shared} {b : Addr} (I : Inv X pins σ H s) (hb : s.heap.objs.size ≤ b) (hn : H' b = none) : FpOk X pins H' b := by
  refine ⟨hn, Nat.ne_of_gt (Nat.lt_of_lt_of_le I.lt hb), I.nofs hb, .inr (Nat.le_trans I.sz hb), fun x c e z => ?_, fun p hp z => ?_⟩
  · obtain ⟨v, q⟩ := I.cell x c e
    exact absurd (Nat.lt_of_lt_of_le q.lt (by rw [z]; exact hb)) (Nat.lt_irrefl _)
  · exact absurd (Nat.lt_of_lt_of_le (Heap.lt_size (I.pin p hp).1) (by rw [z]; exact hb)) (Nat.lt_irrefl _)
structure Turn (P : Program) (w : World) (K : PySem.W.Frag) (tg : Expr) (J : It) (fp : List Addr) (it : Addr) (tn : Nat → Heap → Prop) : Prop where
  mem : it ∈ fp
  obj : ∀ i h, tn i h → ∀ b ∈ fp, ∃ o, h.get? b = some o ∧ ∀ v, o.data ≠ .cell v
  keep : ∀ i h h', tn i h → (∀ b ∈ fp, ∀ o, h.get? b = some o → h'.get? b = some o) → tn i h'
  item : ∀ (X : Cx), X.prog = P → X.w = w → X.K = K → X.calm = true → ∀ (i : Nat) (pins : List (Addr × Obj)) (s : Shared) (σ : St) (H : Hp) (E : Value → Shared → Prop), Inv X pins σ H s → (∀ b ∈ fp, FpOk X pins H b) → tn i s.heap → J.go i H →
    wpAny (model P w) X.A (pyNext (.ref it)) (fun r s1 => ∃ u, r = some u ∧
      wpAny (model P w) X.A (letOwnedTupleGo tg (.ref it) u) (fun _ s2 => ∃ x H', Inv X pins σ H' s2 ∧ RelV x u ∧ J.yld i H x H' ∧ tn (i + 1) s2.heap ∧ ∀ b ∈ fp, H' b = none) E s1) E s
  done : ∀ (X : Cx), X.prog = P → X.w = w → X.K = K → X.calm = true → ∀ (i : Nat) (pins : List (Addr × Obj)) (s : Shared) (σ : St) (H : Hp) (E : Value → Shared → Prop), Inv X pins σ H s → (∀ b ∈ fp, FpOk X pins H b) → tn i s.heap → J.stop i H →
    wpAny (model P w) X.A (pyNext (.ref it)) (fun r s1 => r = none ∧ Inv X pins σ H s1) E s
  self : ∀ (A : Around) (i : Nat) (s : Shared) (Q : Value → Shared → Prop) (E : Value → Shared → Prop), tn i s.heap → Q (.ref it) s → wpAny (model P w) A (pyIter (.ref it)) Q E s
abbrev TI := St → Hp → (It → Hp → Prop) → Prop
/-- an iterator has come -/
def PIE (X : Cx) (pins : List (Addr × Obj)) (σ : St) (tg : Expr) (R : It → Hp → Prop) (itv : Value) (s2 : Shared) : Prop :=
  ∃ (it : Addr) (fp : List Addr) (tn : Nat → Heap → Prop) (J : It) (H' : Hp), itv = .ref it ∧ Inv X pins σ H' s2 ∧ Turn X.prog X.w X.K tg J fp it tn ∧ tn 0 s2.heap ∧ (∀ b ∈ fp, FpOk X pins H' b) ∧ R J H'
def PI (X : Cx) (tg iter : Expr) (wi : TI) : Prop :=
  ∀ (pins : List (Addr × Obj)) (s : Shared) (σ : St) (H : Hp) (R : It → Hp → Prop), Inv X pins σ H s → wi σ H R →
    wpAny (model X.prog X.w) X.A (eval iter X.env) (fun v s1 => wpAny (model X.prog X.w) X.A (pyIter v) (PIE X pins σ tg R) X.xe s1) X.xe s

/-- the step ahead of the store is nothing for an iterator that keeps no tuple -/
theorem go_of {M : Model} {A : Around} {E : Value → Shared → Prop} {s : Shared} {tg : Expr} {it : Addr} {u : Value} {o : Obj} {n : String} {vs : Array Value} {Q : Unit → Shared → Prop} (ho : s.heap.get? it = some o) (hc : o.cls = .type n) (hd : o.data = .fields vs)
    (hn : ["enumerate", "zip", "dict_itemiterator", "dict_reverseitemiterator", "odict_iterator", "itertools.zip_longest", "itertools.pairwise"].contains n = false) (hQ : Q () s) : wpAny M A (letOwnedTupleGo tg (.ref it) u) Q E s := by
  unfold letOwnedTupleGo
  cases tg <;> first
    | exact wpAny_pure hQ
    | (cases u <;> first
        | exact wpAny_pure hQ
        | (refine wpAny_bind (wpAny_load ho ?_)
           rw [hc, hd]
           show wpAny M A (if (["enumerate", "zip", "dict_itemiterator", "dict_reverseitemiterator", "odict_iterator", "itertools.zip_longest", "itertools.pairwise"].contains n && vs[0]? == some (rawInt _)) = true then _ else _) Q E s
           rw [if_neg (by intro h; rw [hn, Bool.false_and] at h; cases h)]
           exact wpAny_pure hQ))

/-- the list at a, as it stands at each turn (a loop may append to it) -/
def Itl (K : PySem.W.Frag) (a : Addr) : It :=
  ⟨fun i H => ∃ xs x, SqL K H a xs ∧ xs[i]? = some x, fun i H x H' => H' = H ∧ ∀ xs, SqL K H a xs → xs[i]? = some x, fun i H => ∃ xs, SqL K H a xs ∧ xs.length ≤ i⟩
def Itt (K : PySem.W.Frag) (a : Addr) : It :=
  ⟨fun i H => ∃ xs x, SqT K H a xs ∧ xs[i]? = some x, fun i H x H' => H' = H ∧ ∀ xs, SqT K H a xs → xs[i]? = some x, fun i H => ∃ xs, SqT K H a xs ∧ xs.length ≤ i⟩
/-- lo, lo + 1, .. (n of them) -/
def Itr (lo : Int) (n : Nat) : It := ⟨fun i _ => i < n, fun i H x H' => H' = H ∧ x = .int (lo + i), fun i _ => n ≤ i⟩
theorem turn_list {P : Program} {w : World} {K : PySem.W.Frag} {tg : Expr} (a it : Addr) : Turn P w K tg (Itl K a) [it] it (fun i h => h.IsListIter it a i) where
  mem := by simp
  obj := fun i h st b hb => by
    have e : b = it := by simpa using hb
    subst e
    obtain ⟨o, e, c, d⟩ := st
    exact ⟨o, e, fun v z => by rw [d] at z; cases z⟩
  keep := fun i h h' st k => st.at fun o e => k it (by simp) o e
  item := by
    intro X hP hw hK hc i pins s σ H E I hf st hg
    subst hP hw hK
    obtain ⟨xs, x, hq, hx⟩ := hg
    obtain ⟨its, rv, p, hz⟩ := I.list hq
    obtain ⟨u, hu, ru⟩ := rv.get hx
    obtain ⟨f0, f1, f2, f3, f4, f5⟩ := hf it (by simp)
    refine wpAny_pyNext_list_item st p.isList (x := u) (by simpa using hu) fun h' st' sb => ?_
    have I1 : Inv X pins σ H { s with heap := h' } := I.turned (t' := s.toks) (fun b o hb e => (sb.2 b hb).trans e) f0 f1 f3 f4 f5
    obtain ⟨o, e, c, d⟩ := id st'
    exact ⟨u, rfl, go_of (s := { s with heap := h' }) e c d (by decide) ⟨x, H, I1, ru, ⟨rfl, fun ys hy => by rw [I.list_inj hy hq]; exact hx⟩, st', fun b hb => (hf b hb).1⟩⟩
  done := by
    intro X hP hw hK hc i pins s σ H E I hf st hg
    subst hP hw hK
    obtain ⟨xs, hq, hx⟩ := hg
    obtain ⟨its, rv, p, hz⟩ := I.list hq
    obtain ⟨f0, f1, f2, f3, f4, f5⟩ := hf it (by simp)
    have hl := rv.length
    exact wpAny_pyNext_list_end (I.ok.hd hc) st p.isList (by simp; omega) fun h' eb => ⟨rfl, I.turned (t' := s.toks) (fun b o hb e => eb b o hb e) f0 f1 f3 f4 f5⟩
  self := fun _ _ _ _ _ st h => wpAny_pyIter_listiter st h
theorem turn_range {P : Program} {w : World} {K : PySem.W.Frag} {tg : Expr} (it : Addr) (lo : Int) (n : Nat) : Turn P w K tg (Itr lo n) [it] it (fun i h => IsRangeIter h it (lo + (i : Nat) * 1) ((n : Int) - (i : Nat)) 1) where
  mem := by simp
  obj := fun i h st b hb => by
    have e : b = it := by simpa using hb
    subst e
    exact ⟨_, st, fun v z => by
      have z' : Data.fields _ = Data.cell v := z
      cases z'⟩
  keep := fun i h h' st k => k it (by simp) _ st
  item := by
    intro X hP hw hK hc i pins s σ H E I hf st hg
    subst hP hw hK
    obtain ⟨f0, f1, f2, f3, f4, f5⟩ := hf it (by simp)
    have W := Walks.range (prog := X.prog) (w := X.w) (I.ok.hd hc) it lo 1 n
    refine W.item i s _ _ hg st fun v h' tk hv st' kk => ?_
    obtain ⟨t, rfl⟩ := hv
    have I1 : Inv X pins σ H { s with heap := h', toks := tk } := I.turned (fun b o hb e => kk b o (by simpa using hb) e) f0 f1 f3 f4 f5
    refine ⟨_, rfl, go_of (s := { s with heap := h', toks := tk }) (n := "range_iterator") st' rfl rfl (by decide) ⟨.int (lo + i), H, I1, ⟨t, ?_⟩, ⟨rfl, rfl⟩, st', fun b hb => (hf b hb).1⟩⟩
    rw [Int.mul_one]
  done := by
    intro X hP hw hK hc i pins s σ H E I hf st hg
    subst hP hw hK
    obtain ⟨f0, f1, f2, f3, f4, f5⟩ := hf it (by simp)
    exact wpAny_pyNext_range_end (I.ok.hd hc) st (by have : n ≤ i := hg; omega) fun h' eb => ⟨rfl, I.turned (t' := s.toks) (fun b o hb e => eb b o hb e) f0 f1 f3 f4 f5⟩
  self := fun _ _ _ _ _ st h => wpAny_pyIter_rangeiter st h
end L2

namespace L2
open PySem PySem.Spec PyProof.Rows
section
variable {X : Cx} {tg : Expr}
def iList (K : PySem.W.Frag) (tl : TE) : TI := fun σ H R => tl σ H fun x H1 => ∃ a, x = .ref a ∧ (∃ xs, SqL K H1 a xs) ∧ R (Itl K a) H1
def iTup (K : PySem.W.Frag) (tl : TE) : TI := fun σ H R => tl σ H fun x H1 => ∃ a, x = .ref a ∧ (∃ xs, SqT K H1 a xs) ∧ R (Itt K a) H1
theorem pi_list {l : Expr} {tl : TE} (hl : PE X l tl) : PI X tg l (iList X.K tl) := by
  intro pins s σ H R I h
  refine thn (hl pins s σ H _ I h) fun v s1 ⟨x, H1, I1, r1, q1⟩ => ?_
  obtain ⟨a, e, ⟨xs, hq⟩, q⟩ := q1
  subst e
  cases r1
  obtain ⟨its, rv, p, hz⟩ := I1.list hq
  refine wpAny_pyIter_list p.isList ?_
  refine ⟨s1.heap.objs.size, [s1.heap.objs.size], _, _, H1, rfl, I1.kept (t' := s1.toks) fun b o e => Heap.get?_push_of_some _ e, turn_list a _, ⟨_, Heap.get?_push_size _ rfl, rfl, rfl⟩, fun b hb => ?_, q⟩
  have e : b = s1.heap.objs.size := by simpa using hb
  subst e
  exact I1.fpOk (Nat.le_refl _) (I1.hok.fresh (Nat.le_refl _))
/-- a range object just made, walked -/
theorem range_it {pins : List (Addr × Obj)} {σ : St} {H : Hp} {s : Shared} {R : It → Hp → Prop} {E : Value → Shared → Prop} {lo hi : Int} {t u v : Tok} {tk : Nat} (I : Inv X pins σ H s) (h1 : -(2 ^ 62) ≤ lo) (h2 : lo < 2 ^ 62) (h3 : -(2 ^ 62) ≤ hi) (h4 : hi < 2 ^ 62)
    (q : R (Itr lo (hi - lo).toNat) H) : wpAny (model X.prog X.w) X.A (pyIter (.ref s.heap.objs.size)) (PIE X pins σ tg R) E { s with heap := s.heap.push { cls := .type "range", data := .fields #[.int lo t, .int hi u, .int 1 v] }, toks := tk } := by
  refine wpAny_pyIter_range (IsRange.new ..) (small_one h1 h2 h3 h4) ?_
  have I1 : Inv X pins σ H { s with heap := s.heap.push { cls := .type "range", data := .fields #[.int lo t, .int hi u, .int 1 v] }, toks := tk } := I.kept fun b o e => Heap.get?_push_of_some _ e
  refine ⟨(s.heap.push { cls := .type "range", data := .fields #[.int lo t, .int hi u, .int 1 v] }).objs.size, [(s.heap.push { cls := .type "range", data := .fields #[.int lo t, .int hi u, .int 1 v] }).objs.size], _, _, H, rfl,
    I1.kept (t' := tk) fun b o e => Heap.get?_push_of_some _ e, turn_range _ lo (hi - lo).toNat, ?_, fun b hb => ?_, q⟩
  · have e1 : lo + ((0 : Nat) : Int) * 1 = lo := by simp
    have e2 : (((hi - lo).toNat : Nat) : Int) - ((0 : Nat) : Int) = Builtin.Range.rangeSize lo hi 1 := by rw [rangeSize_one]; split <;> omega
    show IsRangeIter _ _ (lo + ((0 : Nat) : Int) * 1) ((((hi - lo).toNat : Nat) : Int) - ((0 : Nat) : Int)) 1
    rw [e1, e2]
    exact Heap.get?_push_size _ rfl
  · have e : b = (s.heap.push { cls := .type "range", data := .fields #[.int lo t, .int hi u, .int 1 v] }).objs.size := by simpa using hb
    subst e
    exact I1.fpOk (Nat.le_refl _) (I1.hok.fresh (Nat.le_refl _))
def iRng1 (ta : TA) : TI := fun σ H R => ta σ H fun vs H1 => ∃ j : Int, vs = [.int j] ∧ -(2 ^ 62) ≤ j ∧ j < 2 ^ 62 ∧ R (Itr 0 j.toNat) H1
def iRng2 (ta : TA) : TI := fun σ H R => ta σ H fun vs H1 => ∃ i j : Int, vs = [.int i, .int j] ∧ (-(2 ^ 62) ≤ i ∧ i < 2 ^ 62 ∧ -(2 ^ 62) ≤ j ∧ j < 2 ^ 62) ∧ R (Itr i (j - i).toNat) H1
theorem pi_range1 {a : Expr} {ta : TA} {p pos : Pos} (hg : Gl X "range") (hm : X.mg "range" = none) (ha : PA X [a] ta) (hs : starEach [a] X.env = [(false, eval a X.env)] := by rfl) : PI X tg (.Call (.Name "range" p) [a] [] pos) (iRng1 ta) := by
  intro pins s σ H R I h
  refine Call_ (ld_blt I hg hm boot_range (PyProof.Rows.callWith_type1 (thn (ha pos pins s σ H _ I h) fun us s1 ⟨vs, H1, I1, r1, q1⟩ => ?_) hs rfl))
  obtain ⟨j, e, q1, q2, q⟩ := q1
  subst e
  cases r1 with
  | cons r rr =>
    cases rr
    obtain ⟨t, rfl⟩ := r
    exact call_range_1 (range_it I1 (by omega) (by omega) q1 q2 (by simpa using q))
theorem pi_range2 {a b : Expr} {ta : TA} {p pos : Pos} (hg : Gl X "range") (hm : X.mg "range" = none) (ha : PA X [a, b] ta) (hs : starEach [a, b] X.env = [(false, eval a X.env), (false, eval b X.env)] := by rfl) (hs2 : starEach [b] X.env = [(false, eval b X.env)] := by rfl) :
    PI X tg (.Call (.Name "range" p) [a, b] [] pos) (iRng2 ta) := by
  intro pins s σ H R I h
  refine Call_ (ld_blt I hg hm boot_range (PyProof.Rows.callWith_type1 (thn (ha pos pins s σ H _ I h) fun us s1 ⟨vs, H1, I1, r1, q1⟩ => ?_) (by rw [hs, hs2]) (by rw [hs2]; rfl)))
  obtain ⟨i, j, e, ⟨q1, q2, q3, q4⟩, q⟩ := q1
  subst e
  cases r1 with
  | cons r rr =>
    cases rr with
    | cons r' rr =>
      cases rr
      obtain ⟨t, rfl⟩ := r
      obtain ⟨t', rfl⟩ := r'
      exact call_range_2 (range_it I1 q1 q2 q3 q4 q)

/-! ### for -/
/-- W: the invariant by the turn and a measure; N: what the body is to reach -/
def tFor (wi : TI) (g : TG) (tb : TS) : TS := fun D σ H => wi σ H fun J H1 => ∃ W : Nat → Nat → St → Hp → Prop, (∃ m, W 0 m σ H1) ∧ ∀ i m σ H, W i m σ H →
  (J.stop i H ∧ D.nx σ H) ∨ (J.go i H ∧ ∃ N : St → Hp → Prop, (∀ σ' H', N σ' H' → ∃ m', m' < m ∧ W (i + 1) m' σ' H') ∧ ∀ x H', J.yld i H x H' → g x σ H' fun σ2 H2 => tb { D with nx := N, ct := N, bk := D.nx } σ2 H2)
/-- the records at fp as they stand -/
def pinsAt (fp : List Addr) (h : Heap) : List (Addr × Obj) := fp.filterMap fun b => (h.get? b).map fun o => (b, o)
theorem mem_pinsAt {fp : List Addr} {h : Heap} {b : Addr} {o : Obj} (hb : b ∈ fp) (e : h.get? b = some o) : (b, o) ∈ pinsAt fp h := List.mem_filterMap.mpr ⟨b, hb, by rw [e]; rfl⟩
theorem of_pinsAt {fp : List Addr} {h : Heap} {p : Addr × Obj} (hp : p ∈ pinsAt fp h) : p.1 ∈ fp ∧ h.get? p.1 = some p.2 := by
  obtain ⟨b, hb, e⟩ := List.mem_filterMap.mp hp
  cases q : h.get? b with
  | none => rw [q] at e; cases e
  | some o =>
    rw [q] at e
    have e' : (b, o) = p := Option.some.inj e
    subst e'
    exact ⟨hb, q⟩
theorem Inv.pinned {pins : List (Addr × Obj)} {σ : St} {H : Hp} {s : Shared} {fp : List Addr} (I : Inv X pins σ H s) (hf : ∀ b ∈ fp, FpOk X pins H b) (ho : ∀ b ∈ fp, ∃ o, s.heap.get? b = some o ∧ ∀ v, o.data ≠ .cell v) : Inv X (pins ++ pinsAt fp s.heap) σ H s :=
  I.pins_of fun p hp => (List.mem_append.mp hp).elim (fun z => I.pin p (List.mem_append_right _ z)) fun z => by
    obtain ⟨hb, e⟩ := of_pinsAt z
    obtain ⟨f0, f1, f2, _⟩ := hf p.1 hb
    obtain ⟨o, e', d⟩ := ho p.1 hb
    rw [e] at e'; cases e'
    exact ⟨e, f0, f1, f2, d⟩
theorem Inv.unpinned {pins pl : List (Addr × Obj)} {σ : St} {H : Hp} {s : Shared} (I : Inv X (pins ++ pl) σ H s) : Inv X pins σ H s := I.pins_of fun p hp => I.pin p (List.mem_append_right _ (List.mem_append_left _ hp))
theorem ps_for {iter : Expr} {body : List Stmt} {wi : TI} {g : TG} {tb : TS} {pos : Pos} (hp : PassesOwn (model X.prog X.w) X.A X.env X.xe) (hc : X.calm = true) (hi : PI X tg iter wi) (hg : PG X tg g) (hb : PSs X body tb)
    (hs : ∀ x, foldedSetIterable iter X.env x = pure x := by intro _; rfl) : PS X (.For tg iter body [] pos) (tFor wi g tb) := by
  intro pins s σ H D I h
  refine wpAny_For (thn (hi pins s σ H _ I h) fun v s1 h1 => thn h1 fun itv s2 h2 => ?_) hs
  obtain ⟨it, fp, tn, J, H2, e, I2, T, st2, f2, W, ⟨m0, w0⟩, turn⟩ := h2
  subst e
  -- what stays true of the iterator's objects through the loop
  have stat : ∀ {H' : Hp}, (∀ b ∈ fp, H' b = none) → ∀ b ∈ fp, FpOk X pins H' b := fun hn b hb => ⟨hn b hb, (f2 b hb).2⟩
  refine codeAny_forLoop_any (fun n s' => ∃ i σ' H', Inv X pins σ' H' s' ∧ tn i s'.heap ∧ (∀ b ∈ fp, H' b = none) ∧ W i n σ' H') ?_ m0 ⟨0, σ, H2, I2, st2, fun b hb => (f2 b hb).1, w0⟩
  rintro n s3 ⟨i, σ3, H3, I3, st3, fr3, w3⟩
  rcases turn i n σ3 H3 w3 with ⟨stop, qn⟩ | ⟨go, N, hN, step⟩
  · refine wpAny_passesOwn hp (thn (T.done X rfl rfl rfl hc i pins s3 σ3 H3 X.xe I3 (stat fr3) st3 stop) fun r s4 ⟨hr, I4⟩ => ?_)
    subst hr
    exact wpAny_execs_nil ⟨σ3, H3, I4, qn⟩
  · refine wpAny_passesOwn hp (thn (T.item X rfl rfl rfl hc i pins s3 σ3 H3 X.xe I3 (stat fr3) st3 go) fun r s4 ⟨u, hr, h4⟩ => ?_)
    subst hr
    refine wpAny_passesOwn hp (thn h4 fun _ s5 ⟨x, H5, I5, r5, y5, st5, fr5⟩ => ?_)
    have I5' := I5.pinned (stat fr5) (T.obj _ _ st5)
    refine wpAny_passesOwn hp (thn (hg _ s5 σ3 H5 x u _ I5' r5 (step x H5 y5)) fun _ s6 ⟨σ6, H6, I6, q6⟩ => ?_)
    refine wpAny_passesOwn hp (thn (hb _ s6 σ6 H6 _ I6 q6) fun f s7 q7 => ?_)
    have again : ∀ {σ7 : St} {H7 : Hp}, Inv X (pins ++ pinsAt fp s5.heap) σ7 H7 s7 → N σ7 H7 → ∃ m, m < n ∧ ∃ i σ' H', Inv X pins σ' H' s7 ∧ tn i s7.heap ∧ (∀ b ∈ fp, H' b = none) ∧ W i m σ' H' := fun {σ7 H7} I7 n7 => by
      obtain ⟨m', hm, w7⟩ := hN σ7 H7 n7
      refine ⟨m', hm, i + 1, σ7, H7, I7.unpinned, T.keep _ _ _ st5 fun b hb o e => (I7.pin (b, o) (List.mem_append_right _ (List.mem_append_right _ (mem_pinsAt hb e)))).1, fun b hb => ?_, w7⟩
      obtain ⟨o, e, d⟩ := T.obj _ _ st5 b hb
      exact (I7.pin (b, o) (List.mem_append_right _ (List.mem_append_right _ (mem_pinsAt hb e)))).2.1
    cases f with
    | next => obtain ⟨σ7, H7, I7, n7⟩ := q7; exact again I7 n7
    | cont => obtain ⟨σ7, H7, I7, n7⟩ := q7; exact again I7 n7
    | brk => obtain ⟨σ7, H7, I7, q7⟩ := q7; exact ⟨σ7, H7, I7.unpinned, q7⟩
    | ret v => obtain ⟨x7, σ7, H7, I7, r7, q7⟩ := q7; exact ⟨x7, σ7, H7, I7.unpinned, r7, q7⟩
end

/-! ### the forms one uses -/
/-- over a list that the body leaves as it is -/
theorem for_list {K : PySem.W.Frag} {a : Addr} {xs : List V} {g : TG} {tb : TS} {D : Ends} {σ : St} {H : Hp} (Pv : Nat → St → Hp → Prop) (h0 : Pv 0 σ H) (hl : ∀ i σ H, i ≤ xs.length → Pv i σ H → SqL K H a xs)
    (hs : ∀ i x σ H, xs[i]? = some x → Pv i σ H → g x σ H fun σ2 H2 => tb { D with nx := Pv (i + 1), ct := Pv (i + 1), bk := D.nx } σ2 H2) (hd : ∀ σ H, Pv xs.length σ H → D.nx σ H) :
    ∃ W : Nat → Nat → St → Hp → Prop, (∃ m, W 0 m σ H) ∧ ∀ i m σ H, W i m σ H →
      ((Itl K a).stop i H ∧ D.nx σ H) ∨ ((Itl K a).go i H ∧ ∃ N : St → Hp → Prop, (∀ σ' H', N σ' H' → ∃ m', m' < m ∧ W (i + 1) m' σ' H') ∧ ∀ x H', (Itl K a).yld i H x H' → g x σ H' fun σ2 H2 => tb { D with nx := N, ct := N, bk := D.nx } σ2 H2) := by
  refine ⟨fun i m σ H => m = xs.length - i ∧ i ≤ xs.length ∧ Pv i σ H, ⟨xs.length, by simp, Nat.zero_le _, h0⟩, ?_⟩
  rintro i m σ H ⟨rfl, hi, p⟩
  have q := hl i σ H hi p
  by_cases hlt : i < xs.length
  · refine .inr ⟨⟨xs, xs[i], q, by simp [hlt]⟩, Pv (i + 1), fun σ' H' p' => ⟨xs.length - (i + 1), by omega, rfl, hlt, p'⟩, fun x H' y => ?_⟩
    obtain ⟨e, y⟩ := y
    subst e
    exact hs i x σ _ (y xs q) p
  · have e : i = xs.length := by omega
    subst e
    exact .inl ⟨⟨xs, q, Nat.le_refl _⟩, hd σ H p⟩
theorem for_range {lo : Int} {n : Nat} {g : TG} {tb : TS} {D : Ends} {σ : St} {H : Hp} (Pv : Nat → St → Hp → Prop) (h0 : Pv 0 σ H)
    (hs : ∀ i σ H, i < n → Pv i σ H → g (.int (lo + i)) σ H fun σ2 H2 => tb { D with nx := Pv (i + 1), ct := Pv (i + 1), bk := D.nx } σ2 H2) (hd : ∀ σ H, Pv n σ H → D.nx σ H) :
    ∃ W : Nat → Nat → St → Hp → Prop, (∃ m, W 0 m σ H) ∧ ∀ i m σ H, W i m σ H →
      ((Itr lo n).stop i H ∧ D.nx σ H) ∨ ((Itr lo n).go i H ∧ ∃ N : St → Hp → Prop, (∀ σ' H', N σ' H' → ∃ m', m' < m ∧ W (i + 1) m' σ' H') ∧ ∀ x H', (Itr lo n).yld i H x H' → g x σ H' fun σ2 H2 => tb { D with nx := N, ct := N, bk := D.nx } σ2 H2) := by
  refine ⟨fun i m σ H => m = n - i ∧ i ≤ n ∧ Pv i σ H, ⟨n, by simp, Nat.zero_le _, h0⟩, ?_⟩
  rintro i m σ H ⟨rfl, hi, p⟩
  by_cases hlt : i < n
  · refine .inr ⟨hlt, Pv (i + 1), fun σ' H' p' => ⟨n - (i + 1), by omega, rfl, hlt, p'⟩, fun x H' y => ?_⟩
    obtain ⟨e, y⟩ := y
    subst e y
    exact hs i σ _ hlt p
  · have e : i = n := by omega
    subst e
    exact .inl ⟨Nat.le_refl _, hd σ H p⟩
end L2

namespace L2
open PySem PySem.Spec PyProof.Rows

abbrev R2 := V → V → Hp → VK → Prop
/-- a two-place operation on values: f is binaryOp op, inplaceOp op or compareOp op -/
def OpR (X : Cx) (f : Value → Value → Sem Value) (r : R2) : Prop :=
  ∀ (pins : List (Addr × Obj)) (s : Shared) (σ : St) (H : Hp) (x y : V) (v u : Value) (Q : VK), Inv X pins σ H s → RelV x v → RelV y u → r x y H Q →
    wpAny (model X.prog X.w) X.A (f v u) (EP X pins σ Q) X.xe s
/-- a one-place operation -/
def UnR (X : Cx) (f : Value → Sem Value) (r : V → Hp → VK → Prop) : Prop :=
  ∀ (pins : List (Addr × Obj)) (s : Shared) (σ : St) (H : Hp) (x : V) (v : Value) (Q : VK), Inv X pins σ H s → RelV x v → r x H Q →
    wpAny (model X.prog X.w) X.A (f v) (EP X pins σ Q) X.xe s
/-- a call of a value that is known (a builtin, a type) with values -/
def CallR (X : Cx) (f : Value) (r : List V → Hp → VK → Prop) : Prop :=
  ∀ (pins : List (Addr × Obj)) (s : Shared) (σ : St) (H : Hp) (xs : List V) (us : List Value) (Q : VK), Inv X pins σ H s → Vals xs us → r xs H Q →
    wpAny (model X.prog X.w) X.A (call f us) (EP X pins σ Q) X.xe s
/-- a value's truth -/
def TruR (X : Cx) (r : V → Hp → (Bool → Hp → Prop) → Prop) : Prop :=
  ∀ (pins : List (Addr × Obj)) (s : Shared) (σ : St) (H : Hp) (x : V) (v : Value) (Q : Bool → Hp → Prop), Inv X pins σ H s → RelV x v → r x H Q →
    wpAny (model X.prog X.w) X.A (truthy v) (TP X pins σ Q) X.xe s

def tOp (r : R2) (ta tb : TE) : TE := fun σ H Q => ta σ H fun x H1 => tb σ H1 fun y H2 => r x y H2 Q
def tUn (r : V → Hp → VK → Prop) (ta : TE) : TE := fun σ H Q => ta σ H fun x H1 => r x H1 Q
/-- ints in, under C, and a value out -/
def rI (C : Int → Int → Prop) (g : Int → Int → V) : R2 := fun x y H Q => ∃ i j, x = .int i ∧ y = .int j ∧ C i j ∧ Q (g i j) H
def rI0 (g : Int → Int → V) : R2 := fun x y H Q => ∃ i j, x = .int i ∧ y = .int j ∧ Q (g i j) H
def rU (g : Int → V) : V → Hp → VK → Prop := fun x H Q => ∃ i, x = .int i ∧ Q (g i) H

section
variable {X : Cx} {a b c : Expr} {ta tb tc : TE} {pos : Pos}

theorem binT (ha : PE X a ta) (hb : PE X b tb) {pins : List (Addr × Obj)} {s : Shared} {σ : St} {H : Hp} {R : V → V → Hp → Prop} (I : Inv X pins σ H s)
    (h : ta σ H fun x H1 => tb σ H1 fun y H2 => R x y H2) {Q : Value → Shared → Prop} {f : Value → Value → Sem Value}
    (hf : ∀ v u s2 x y H2, Inv X pins σ H2 s2 → RelV x v → RelV y u → R x y H2 → wpAny (model X.prog X.w) X.A (f v u) Q X.xe s2) :
    wpAny (model X.prog X.w) X.A (eval a X.env) (fun v s₁ => wpAny (model X.prog X.w) X.A (eval b X.env) (fun u s₂ => wpAny (model X.prog X.w) X.A (f v u) Q X.xe s₂) X.xe s₁) X.xe s := by
  refine thn (ha pins s σ H _ I h) fun v s1 ⟨x, H1, I1, r1, q1⟩ => ?_
  refine thn (hb pins s1 σ H1 _ I1 q1) fun u s2 ⟨y, H2, I2, r2, q2⟩ => ?_
  exact hf v u s2 x y H2 I2 r1 r2 q2

theorem pe_op {op : Operator} {r : R2} (ho : OpR X (binaryOp op) r) (ha : PE X a ta) (hb : PE X b tb) : PE X (.BinOp a op b pos) (tOp r ta tb) := by
  intro pins s σ H Q I h
  exact wpAny_BinOp (binT ha hb I h fun v u s2 x y H2 I2 rx ry q => ho pins s2 σ H2 x y v u Q I2 rx ry q)
theorem pe_un {op : UnaryOp} {r : V → Hp → VK → Prop} (ho : UnR X (unaryOp op) r) (ha : PE X a ta) : PE X (.UnaryOp op a pos) (tUn r ta) := by
  intro pins s σ H Q I h
  exact UnaryOp_ (thn (ha pins s σ H _ I h) fun v s1 ⟨x, H1, I1, r1, q1⟩ => ho pins s1 σ H1 x v Q I1 r1 q1)
/-! ### ints -/
theorem opI {f : Value → Value → Sem Value} {C : Int → Int → Prop} {g : Int → Int → Int}
    (rule : ∀ (i j : Int) (t u : Tok) (s : Shared) (Q : Value → Shared → Prop) (E : Value → Shared → Prop), C i j → Q (.int (g i j) s.toks) { s with toks := s.toks + 1 } → wpAny (model X.prog X.w) X.A (f (.int i t) (.int j u)) Q E s) :
    OpR X f (rI C fun i j => .int (g i j)) := by
  intro pins s σ H x y v u Q I rx ry h
  obtain ⟨i, j, rfl, rfl, hc, q⟩ := h
  obtain ⟨t, rfl⟩ := rx
  obtain ⟨t', rfl⟩ := ry
  exact rule i j t t' s _ _ hc ⟨.int (g i j), H, I.tok _, ⟨_, rfl⟩, q⟩
theorem opI0 {f : Value → Value → Sem Value} {g : Int → Int → Int}
    (rule : ∀ (i j : Int) (t u : Tok) (s : Shared) (Q : Value → Shared → Prop) (E : Value → Shared → Prop), Q (.int (g i j) s.toks) { s with toks := s.toks + 1 } → wpAny (model X.prog X.w) X.A (f (.int i t) (.int j u)) Q E s) :
    OpR X f (rI0 fun i j => .int (g i j)) := by
  intro pins s σ H x y v u Q I rx ry h
  obtain ⟨i, j, rfl, rfl, q⟩ := h
  obtain ⟨t, rfl⟩ := rx
  obtain ⟨t', rfl⟩ := ry
  exact rule i j t t' s _ _ ⟨.int (g i j), H, I.tok _, ⟨_, rfl⟩, q⟩
theorem opB0 {f : Value → Value → Sem Value} {g : Int → Int → Bool}
    (rule : ∀ (i j : Int) (t u : Tok) (s : Shared) (Q : Value → Shared → Prop) (E : Value → Shared → Prop), Q (.bool (g i j)) s → wpAny (model X.prog X.w) X.A (f (.int i t) (.int j u)) Q E s) :
    OpR X f (rI0 fun i j => .bl (g i j)) := by
  intro pins s σ H x y v u Q I rx ry h
  obtain ⟨i, j, rfl, rfl, q⟩ := h
  obtain ⟨t, rfl⟩ := rx
  obtain ⟨t', rfl⟩ := ry
  exact rule i j t t' s _ _ ⟨.bl (g i j), H, I, rfl, q⟩

def CDiv (i j : Int) : Prop := 0 < j ∧ j < 1073741824
def CDivN (i j : Int) : Prop := j ≠ 0 ∧ j.natAbs < 1073741824
def CPow (i j : Int) : Prop := 0 ≤ j ∧ j ≤ 1000000 ∧ i.natAbs < 2 ^ 64
def CMul (i j : Int) : Prop := (-(2 ^ 64) < i ∧ i < 2 ^ 64) ∨ (-(2 ^ 64) < j ∧ j < 2 ^ 64)
theorem op_add : OpR X (binaryOp .Add) (rI0 fun i j => .int (i + j)) := opI0 fun _ _ _ _ _ _ _ q => add_int q
theorem op_sub : OpR X (binaryOp .Sub) (rI0 fun i j => .int (i - j)) := opI0 fun _ _ _ _ _ _ _ q => sub_int q
/-- % by a positive divisor of any size -/
theorem op_mod : OpR X (binaryOp .Mod) (rI (fun _ j => 0 < j) fun i j => .int (i % j)) := opI fun i j _ _ _ _ _ hc q => by
  have h1 : (0 : Int) < j := hc
  exact mod_int' (by omega) (by rw [Int.fmod_eq_emod_of_nonneg i (by omega)]; exact q)
theorem op_pow : OpR X (binaryOp .Pow) (rI CPow fun i j => .int (i ^ j.toNat)) := opI fun _ _ _ _ _ _ _ hc q => pow_int_small hc.1 hc.2.1 hc.2.2 q
theorem unI {f : Value → Sem Value} {g : Int → Int}
    (rule : ∀ (i : Int) (t : Tok) (s : Shared) (Q : Value → Shared → Prop) (E : Value → Shared → Prop), Q (.int (g i) s.toks) { s with toks := s.toks + 1 } → wpAny (model X.prog X.w) X.A (f (.int i t)) Q E s) :
    UnR X f (rU fun i => .int (g i)) := by
  intro pins s σ H x v Q I rx h
  obtain ⟨i, rfl, q⟩ := h
  obtain ⟨t, rfl⟩ := rx
  exact rule i t s _ _ ⟨.int (g i), H, I.tok _, ⟨_, rfl⟩, q⟩
theorem un_neg : UnR X (unaryOp .USub) (rU fun i => .int (-i)) := unI fun _ _ _ _ _ q => neg_int q
/-! ### bools among ints: n += (a < b) -/
end

/-! ### comparisons -/
/-- the scalars that == tells apart as data does -/
def scal : V → V → Bool
  | .non, .non => true | .non, .int _ => true | .int _, .non => true | .non, .bl _ => true | .bl _, .non => true | .non, .str _ => true | .str _, .non => true
  | .int _, .int _ => true | .bl _, .bl _ => true | .str _, .str _ => true | .byt _, .byt _ => true
  | .int _, .str _ => true | .str _, .int _ => true | .bl _, .str _ => true | .str _, .bl _ => true
  | _, _ => false
def rEq : R2 := fun x y H Q => scal x y = true ∧ Q (.bl (decide (x = y))) H
def rNe : R2 := fun x y H Q => scal x y = true ∧ Q (.bl (!decide (x = y))) H

theorem dec_int {i j : Int} : decide (V.int i = V.int j) = (i == j) := by
  rw [Bool.eq_iff_iff]
  simp
theorem dec_bl {i j : Bool} : decide (V.bl i = V.bl j) = (i == j) := by
  rw [Bool.eq_iff_iff]
  simp
theorem dec_str {i j : Str} : decide (V.str i = V.str j) = (i == j) := by
  rw [Bool.eq_iff_iff]
  simp
theorem dec_byt {i j : Array UInt8} : decide (V.byt i = V.byt j) = (i.toList == j.toList) := by
  rw [Bool.eq_iff_iff]
  cases i
  cases j
  simp

section
variable {X : Cx} {a b c : Expr} {ta tb tc : TE} {pos : Pos}
theorem fin_bl {pins : List (Addr × Obj)} {σ : St} {H : Hp} {s : Shared} {Q : VK} {k k' : Bool} (I : Inv X pins σ H s) (q : Q (.bl k) H) (e : k = k') : EP X pins σ Q (.bool k') s := by
  subst e
  exact ⟨.bl k, H, I, rfl, q⟩
theorem op_eq : OpR X (compareOp .Eq) rEq := by
  intro pins s σ H x y v u Q I rx ry h
  obtain ⟨hs, q⟩ := h
  cases x with
  | non =>
    cases rx
    cases y with
    | non => cases ry; exact PySem.EqNone.eq_none_none (fin_bl I q (by simp))
    | bl j => cases ry; exact PySem.EqNone.eq_none_bool (fin_bl I q (by simp))
    | int j => obtain ⟨t', rfl⟩ := ry; exact PySem.EqNone.eq_none_int (fin_bl I q (by simp))
    | str j => obtain ⟨t', rfl⟩ := ry; exact PySem.EqNone.eq_none_str (fin_bl I q (by simp))
    | _ => exact absurd (show false = true from hs) Bool.false_ne_true
  | bl i =>
    cases rx
    cases y with
    | non => cases ry; exact PySem.EqNone.eq_bool_none (fin_bl I q (by simp))
    | bl j => cases ry; exact eq_bool (fin_bl I q dec_bl)
    | str j => obtain ⟨t', rfl⟩ := ry; exact PySem.EqMixed.eq_bool_str (fin_bl I q (by simp))
    | _ => exact absurd (show false = true from hs) Bool.false_ne_true
  | int i =>
    obtain ⟨t, rfl⟩ := rx
    cases y with
    | non => cases ry; exact PySem.EqNone.eq_int_none (fin_bl I q (by simp))
    | int j => obtain ⟨t', rfl⟩ := ry; exact eq_int (fin_bl I q dec_int)
    | str j => obtain ⟨t', rfl⟩ := ry; exact PySem.EqMixed.eq_int_str (fin_bl I q (by simp))
    | _ => exact absurd (show false = true from hs) Bool.false_ne_true
  | str i =>
    obtain ⟨t, rfl⟩ := rx
    cases y with
    | non => cases ry; exact PySem.EqNone.eq_str_none (fin_bl I q (by simp))
    | bl j => cases ry; exact PySem.EqMixed.eq_str_bool (fin_bl I q (by simp))
    | int j => obtain ⟨t', rfl⟩ := ry; exact PySem.EqMixed.eq_str_int (fin_bl I q (by simp))
    | str j => obtain ⟨t', rfl⟩ := ry; exact eq_str (fin_bl I q dec_str)
    | _ => exact absurd (show false = true from hs) Bool.false_ne_true
  | byt i =>
    obtain ⟨t, rfl⟩ := rx
    cases y with
    | byt j => obtain ⟨t', rfl⟩ := ry; exact PySem.W.eq_bytes (fin_bl I q dec_byt)
    | _ => exact absurd (show false = true from hs) Bool.false_ne_true
  | _ => cases y <;> exact absurd (show false = true from hs) Bool.false_ne_true
theorem op_ne : OpR X (compareOp .NotEq) rNe := by
  intro pins s σ H x y v u Q I rx ry h
  obtain ⟨hs, q⟩ := h
  cases x with
  | non =>
    cases rx
    cases y with
    | non => cases ry; exact PySem.EqNone.ne_none_none (fin_bl I q (by simp))
    | bl j => cases ry; exact PySem.EqNone.ne_none_bool (fin_bl I q (by simp))
    | int j => obtain ⟨t', rfl⟩ := ry; exact PySem.EqNone.ne_none_int (fin_bl I q (by simp))
    | str j => obtain ⟨t', rfl⟩ := ry; exact PySem.EqNone.ne_none_str (fin_bl I q (by simp))
    | _ => exact absurd (show false = true from hs) Bool.false_ne_true
  | bl i =>
    cases rx
    cases y with
    | non => cases ry; exact PySem.EqNone.ne_bool_none (fin_bl I q (by simp))
    | bl j => cases ry; exact ne_bool (fin_bl I q (congrArg not dec_bl))
    | str j => obtain ⟨t', rfl⟩ := ry; exact PySem.EqMixed.ne_bool_str (fin_bl I q (by simp))
    | _ => exact absurd (show false = true from hs) Bool.false_ne_true
  | int i =>
    obtain ⟨t, rfl⟩ := rx
    cases y with
    | non => cases ry; exact PySem.EqNone.ne_int_none (fin_bl I q (by simp))
    | int j => obtain ⟨t', rfl⟩ := ry; exact ne_int (fin_bl I q (congrArg not dec_int))
    | str j => obtain ⟨t', rfl⟩ := ry; exact PySem.EqMixed.ne_int_str (fin_bl I q (by simp))
    | _ => exact absurd (show false = true from hs) Bool.false_ne_true
  | str i =>
    obtain ⟨t, rfl⟩ := rx
    cases y with
    | non => cases ry; exact PySem.EqNone.ne_str_none (fin_bl I q (by simp))
    | bl j => cases ry; exact PySem.EqMixed.ne_str_bool (fin_bl I q (by simp))
    | int j => obtain ⟨t', rfl⟩ := ry; exact PySem.EqMixed.ne_str_int (fin_bl I q (by simp))
    | str j => obtain ⟨t', rfl⟩ := ry; exact ne_str (fin_bl I q (congrArg not dec_str))
    | _ => exact absurd (show false = true from hs) Bool.false_ne_true
  | byt i =>
    obtain ⟨t, rfl⟩ := rx
    cases y with
    | byt j => obtain ⟨t', rfl⟩ := ry; exact PySem.W.ne_bytes (fin_bl I q (congrArg not dec_byt))
    | _ => exact absurd (show false = true from hs) Bool.false_ne_true
  | _ => cases y <;> exact absurd (show false = true from hs) Bool.false_ne_true

theorem op_lt : OpR X (compareOp .Lt) (rI0 fun i j => .bl (decide (i < j))) := opB0 fun _ _ _ _ _ _ _ q => lt_int q
theorem op_gt : OpR X (compareOp .Gt) (rI0 fun i j => .bl (decide (j < i))) := opB0 fun _ _ _ _ _ _ _ q => gt_int q
/-- is None, is not None: the right side a value none -/
theorem op_isN : OpR X (compareOp .Is) (fun x y H Q => y = .non ∧ Q (.bl (decide (x = .non))) H) := by
  intro pins s σ H x y v u Q I rx ry h
  obtain ⟨rfl, q⟩ := h
  cases ry
  refine is_none_gen (fin_bl I q ?_)
  cases x <;> first
    | (cases rx; rfl)
    | (obtain ⟨t, rfl⟩ := rx; rfl)
/-- is, is not of two objects that are tracked lists or instances -/
def isObj : HO → Bool
  | .lst _ => true
  | .ins _ _ _ => true
  | _ => false
theorem nomark (b : Expr) {op : CmpOp} (h : op ≠ .In := by decide) (h2 : op ≠ .NotIn := by decide) : behindInMarks op b = false := by
  have e1 : (op == CmpOp.In) = false := by cases op <;> first | rfl | exact absurd rfl h
  have e2 : (op == CmpOp.NotIn) = false := by cases op <;> first | rfl | exact absurd rfl h2
  cases b <;> simp [behindInMarks, e1, e2]
/-- a comparison as a value; hm: nomark b, or (for in, not in) by with_unfolding_all rfl -/
theorem pe_cmpR {op : CmpOp} {r : R2} (ho : OpR X (compareOp op) r) (ha : PE X a ta) (hb : PE X b tb) (hm : behindInMarks op b = false) : PE X (.Compare a [op] [b] pos) (tOp r ta tb) := by
  intro pins s σ H Q I h
  exact wpAny_Compare1 (binT ha hb I h fun v u s2 x y H2 I2 rx ry q => ho pins s2 σ H2 x y v u Q I2 rx ry q) hm
/-- a reading of a value as a test -/
def tTest (t : TE) : TT := fun σ H Q => t σ H fun x H' => ∃ k, x = .bl k ∧ Q k H'
theorem pt_cmpR {op : CmpOp} {r : R2} (ho : OpR X (compareOp op) r) (ha : PE X a ta) (hb : PE X b tb) (hm : behindInMarks op b = false) : PT X (.Compare a [op] [b] pos) (tTest (tOp r ta tb)) := by
  intro pins s σ H Q I h
  refine wpAny_isTrue_Compare1 (thn (ha pins s σ H _ I h) fun v s1 ⟨x, H1, I1, r1, q1⟩ => thn (hb pins s1 σ H1 _ I1 q1) fun u s2 ⟨y, H2, I2, r2, q2⟩ =>
    thn (ho pins s2 σ H2 x y v u _ I2 r1 r2 q2) fun c s3 ⟨z, H3, I3, r3, k, e, q3⟩ => ?_) hm
  subst e
  cases r3
  exact wpAny_truthy_bool ⟨H3, I3, q3⟩
/-- a op1 b op2 c -/
def tChain (r r' : R2) (ta tb tc : TE) : TE := fun σ H Q => ta σ H fun x H1 => tb σ H1 fun y H2 => r x y H2 fun z H3 => ∃ k, z = .bl k ∧
  (if k = true then tc σ H3 fun w' H4 => r' y w' H4 Q else Q (.bl false) H3)
/-! ### truth -/
/-- a value's truth by the abstract heap -/
def TruV (K : PySem.W.Frag) (x : V) (H : Hp) (k : Bool) : Prop :=
  match x with
  | .non => k = false
  | .bl b => k = b
  | .int i => k = (i != 0)
  | .str y => y.length ≤ sizeLine ∧ k = ((y.length : Int) != 0)
  | .byt y => y.size ≤ sizeLine ∧ k = ((y.size : Int) != 0)
  | .ref p => (∃ xs, SqL K H p xs ∧ k = !xs.isEmpty) ∨ (∃ xs, SqT K H p xs ∧ k = !xs.isEmpty) ∨ ∃ kvs, H p = some (.dK kvs) ∧ k = !kvs.isEmpty
  | _ => False
theorem line63 : (sizeLine : Nat) < 2 ^ 63 := by rw [sizeLine_eq]; decide
/-! ### strs and bytes -/
theorem op_add_str : OpR X (binaryOp .Add) (fun x y H Q => ∃ i j, x = .str i ∧ y = .str j ∧ i.length + j.length ≤ sizeLine ∧ Q (.str (i ++ j)) H) := by
  intro pins s σ H x y v u Q I rx ry h
  obtain ⟨i, j, rfl, rfl, hz, q⟩ := h
  obtain ⟨t, rfl⟩ := rx
  obtain ⟨t', rfl⟩ := ry
  exact add_str (fun t' tk => ⟨.str (i ++ j), H, I.tok _, ⟨_, rfl⟩, q⟩) hz
def PlainIxT (b : Expr) : Prop := ∀ o i, subscripted b false o i = operate [o, i] (getItem o i)
/-! ### scalar builtins, by CallR -/
theorem vals1 {x : V} {us : List Value} (r : Vals [x] us) : ∃ u, us = [u] ∧ RelV x u := by
  cases r with
  | cons r1 r2 => cases r2; exact ⟨_, rfl, r1⟩
theorem vals2 {x y : V} {us : List Value} (r : Vals [x, y] us) : ∃ u w', us = [u, w'] ∧ RelV x u ∧ RelV y w' := by
  cases r with
  | cons r1 r2 =>
    cases r2 with
    | cons r3 r4 => cases r4; exact ⟨_, _, rfl, r1, r3⟩
theorem call_max2 (hc : X.calm = true) : CallR X (.builtin "max") (fun xs H Q => ∃ i j, xs = [.int i, .int j] ∧ Q (.int (if j > i then j else i)) H) := by
  intro pins s σ H xs us Q I r h
  obtain ⟨i, j, rfl, q⟩ := h
  obtain ⟨u, w', rfl, ⟨t, rfl⟩, ⟨t', rfl⟩⟩ := vals2 r
  refine max_two_ints (I.ok.hd hc) fun h' tk k => ⟨_, H, I.kept k, ?_, q⟩
  by_cases hj : j > i
  · rw [if_pos hj, if_pos hj]; exact ⟨_, rfl⟩
  · rw [if_neg hj, if_neg hj]; exact ⟨_, rfl⟩
/-- len of a str, a bytes, a list, a tuple -/
def LenV (K : PySem.W.Frag) (x : V) (H : Hp) (n : Nat) : Prop :=
  match x with
  | .str y => y.length ≤ sizeLine ∧ n = y.length
  | .byt y => y.size ≤ sizeLine ∧ n = y.size
  | .ref p => (∃ xs, SqL K H p xs ∧ n = xs.length) ∨ ∃ xs, SqT K H p xs ∧ n = xs.length
  | _ => False
end
end L2

namespace L2
open PySem PySem.Spec PyProof.Rows

/-! ### an instance, its attributes a map -/
structure ObjM (h : Heap) (x dx C : Addr) (mA : Str → Option Value) : Prop where
  obj : h.get? x = some (PySem.W.instObj C dx)
  ns : h.Ns1 dx mA
  ne : dx ≠ x

theorem lookIn_ns {h : Heap} {dx : Addr} {mA : Str → Option Value} (n : h.Ns1 dx mA) : ∃ od, h.get? dx = some od ∧ ∀ name, PySem.W.lookIn name od = some (mA name) := by
  obtain ⟨o, es, ep, ho, hd, hk, _, hm⟩ := n
  refine ⟨o, ho, fun name => ?_⟩
  have e := hm name
  unfold nsFind findBy at e
  rw [← Array.find?_toList] at e
  unfold PySem.W.lookIn
  rw [hd]
  dsimp only
  split
  · rename_i y q
    rw [q] at e
    exact congrArg some e
  · rename_i q
    rw [q] at e
    have a : es.toList.any (·.refKey) = false := by
      rw [List.any_eq_false]
      intro y hy
      obtain ⟨z, t, hkey⟩ := hk y (Array.mem_toList_iff.mp hy)
      simp [DictEntry.refKey, hkey]
    have a' : ¬ es.toList.any (·.refKey) = true := by rw [a]; exact Bool.false_ne_true
    rw [if_neg a']
    exact congrArg some e

theorem ObjM.look {h : Heap} {x dx C : Addr} {mA : Str → Option Value} (I : ObjM h x dx C mA) : ∃ od, PySem.W.InstAt h x (PySem.W.instObj C dx) C (some od) ∧ ∀ name, PySem.W.lookIn name od = some (mA name) :=
  let ⟨od, ho, hl⟩ := lookIn_ns I.ns
  ⟨od, ⟨I.obj, rfl, rfl, ho⟩, hl⟩

section
variable {prog : Program} {w : World} {A : Around} {E : Value → Shared → Prop} {s : Shared} {K : PySem.W.Frag} {x dx C f : Addr} {mA : Str → Option Value} {name : Str} {v : Value}

theorem get_map {expr : Bool} {Q : Value → Shared → Prop} (X : K.In s.heap) (I : ObjM s.heap x dx C mA) (hg : PySem.W.plainGet K C name = true) (hh : PySem.W.hasDictIn K C = true)
    (ha : PySem.W.findIn K (.ref C) name = some none) (hv : mA name = some v) (hv' : PySem.W.handedIn v = true) (h : Q v { s with toks := s.toks + 1 }) :
    wpAny (model prog w) A (getAttr (.ref x) name expr) Q E s := by
  obtain ⟨od, J, hl⟩ := I.look
  exact PySem.W.get_value X J (PySem.W.plainGet_of hg).1 (PySem.W.findObj_own hh ha rfl (by rw [hl, hv])) hv' h

theorem get_meth {pl : Sem Bool} {Q : Value × List Value → Shared → Prop} (X : K.In s.heap) (I : ObjM s.heap x dx C mA) (hg : PySem.W.plainGet K C name = true)
    (hf : PySem.W.findIn K (.ref C) name = some (some (.ref f))) (ht : PySem.W.isFn K (.ref f) = true) (hv : mA name = none) (h : Q (.ref f, [.ref x]) s) :
    wpAny (model prog w) A (getMethod (.ref x) name pl) Q E s := by
  obtain ⟨od, J, hl⟩ := I.look
  exact PySem.W.method_fn X J (PySem.W.plainGet_of hg).1 (PySem.W.plainGet_of hg).2 hf (beq_iff_eq.mp ht) (by show (PySem.W.lookIn name od).map (·.isSome) = some false; rw [hl, hv]; rfl) h

theorem set_map {ns : List Str} {Q : Unit → Shared → Prop} (X : K.In s.heap) (I : ObjM s.heap x dx C mA)
    (hs : PySem.W.findIn K (.ref C) "__setattr__" = some (some (.builtin "object.__setattr__"))) (hp : PySem.W.plainOver K C = true) (ht : PySem.W.takerIn K C name = some none) (hh : PySem.W.hasDictIn K C = true)
    (hw : PySem.Within mA ns) (hsz : ns.length ≤ sizeLine)
    (h : ∀ h', ObjM h' x dx C (fun y => if y = name then some v else mA y) → Heap.SameBut dx s.heap h' → Q () { s with heap := h', toks := s.toks + 2 }) :
    wpAny (model prog w) A (setAttr (.ref x) name v) Q E s := by
  obtain ⟨od, J, hl⟩ := I.look
  refine PySem.W.set_plain X J hs (PySem.W.osa_open (s := { s with toks := s.toks + 1 }) (r := none) X J hp ht fun b => ?_)
  obtain ⟨cd, hc, hd'⟩ := PySem.W.any_some hh
  have hx : s.heap.get? x = some ⟨.ref C, some dx, .plain, #[]⟩ := I.obj
  refine wpAny_bind (wpAny_pure (wpAny_bind (wpAny_bind (wpAny_loadPart hx (wpAny_bind (PySem.W.Looks.here (s := { s with toks := s.toks + 1 }) (PySem.W.looks_clsIn X hc) ?_))))))
  rw [hd']
  refine wpAny_pure (a := some dx) (wpAny_bind (wpAny_pure (wpAny_bind ?_)))
  refine wpAny_nsSet1 (s := { s with toks := s.toks + 1 }) I.ns fun h' hn2 hs2 => ?_
  obtain ⟨oD, esD, epD, hoD, hdD, hcD⟩ := hn2.count (PySem.Within.cons name v hw)
  refine wpAny_bind (wpAny_lookBehind hoD (by rw [hdD]; exact pastItsLine_dict (Nat.le_trans hcD (by rw [List.length_cons]; omega))) ?_)
  exact wpAny_pure (h _ ⟨(hs2.2 _ (Ne.symm I.ne)).trans I.obj, hn2, I.ne⟩ hs2)

/-- C(..): the dict at the heap's end, the instance behind it; then its __init__ -/
theorem make_map {R : Result → Shared → Prop} {vs : List Value} {kw : List (Str × Value)} (X : K.In s.heap) (hm : PySem.W.makesIn K C = true)
    (hi : PySem.W.findIn K (.ref C) "__init__" = some (some (.ref f))) (hf : PySem.W.typeIn K (.ref f) = some (.type "function"))
    (h : codeAny (model prog w) (A.under (.builtin "type.__call__" ⟨.ref C :: vs, kw⟩)) (.call (.ref f) ⟨.ref (s.heap.objs.size + 1) :: vs, kw⟩) (PySem.W.InitBack (s.heap.objs.size + 1) R)
      { s with heap := (s.heap.push PySem.W.emptyDict).push (PySem.W.instObj C s.heap.objs.size) }) :
    codeAny (model prog w) A (.call (.ref C) ⟨vs, kw⟩) R s := by
  obtain ⟨hh, g, d, t, os⟩ := s
  exact PySem.W.make_core (PySem.W.makes_of X hm) (PySem.W.looks_findIn X hi) (fun self => PySem.W.bind_fn X self hf) (.inl rfl) h
end

/-! ### the attributes as a list of pairs -/
def putF (f : Str) (v : V) : List (Str × V) → List (Str × V)
  | [] => [(f, v)]
  | (g, x) :: r => if g = f then (g, v) :: r else (g, x) :: putF f v r
theorem lookup_putF (f g : Str) (v : V) : ∀ fs : List (Str × V), (putF f v fs).lookup g = if g = f then some v else fs.lookup g
  | [] => by
    show List.lookup g [(f, v)] = _
    by_cases h : g = f
    · have hb : (g == f) = true := beq_iff_eq.mpr h
      simp only [List.lookup, hb, if_pos h]
    · have hb : (g == f) = false := beq_eq_false_iff_ne.mpr h
      simp only [List.lookup, hb, if_neg h]
  | (k, x) :: r => by
    have ih := lookup_putF f g v r
    rw [show putF f v ((k, x) :: r) = (if k = f then (k, v) :: r else (k, x) :: putF f v r) from rfl]
    by_cases hk : k = f
    · rw [if_pos hk]
      by_cases h : g = k
      · have hb : (g == k) = true := beq_iff_eq.mpr h
        simp only [List.lookup, hb, if_pos (h.trans hk)]
      · have hb : (g == k) = false := beq_eq_false_iff_ne.mpr h
        simp only [List.lookup, hb, if_neg (fun e : g = f => h (e.trans hk.symm))]
    · rw [if_neg hk]
      by_cases h : g = k
      · have hb : (g == k) = true := beq_iff_eq.mpr h
        simp only [List.lookup, hb, if_neg (fun e : g = f => hk (h.symm.trans e))]
      · have hb : (g == k) = false := beq_eq_false_iff_ne.mpr h
        simp only [List.lookup, hb]
        exact ih
theorem keys_putF (f : Str) (v : V) : ∀ fs : List (Str × V), f ∈ (putF f v fs).map (·.1) ∧ ∀ g, g ∈ fs.map (·.1) → g ∈ (putF f v fs).map (·.1)
  | [] => ⟨by simp [putF], fun g h => by simp at h⟩
  | (k, x) :: r => by
    obtain ⟨i1, i2⟩ := keys_putF f v r
    rw [show putF f v ((k, x) :: r) = (if k = f then (k, v) :: r else (k, x) :: putF f v r) from rfl]
    by_cases hk : k = f
    · rw [if_pos hk]
      subst hk
      exact ⟨by simp, fun g h => by simpa using h⟩
    · rw [if_neg hk]
      refine ⟨?_, fun g h => ?_⟩
      · rw [List.map_cons]
        exact List.mem_cons_of_mem _ i1
      · rw [List.map_cons] at h ⊢
        rcases List.mem_cons.mp h with e | e
        · exact List.mem_cons.mpr (.inl e)
        · exact List.mem_cons_of_mem _ (i2 g e)
theorem length_putF (f : Str) (v : V) : ∀ fs : List (Str × V), (putF f v fs).length ≤ fs.length + 1
  | [] => by simp [putF]
  | (k, x) :: r => by
    have ih := length_putF f v r
    rw [show putF f v ((k, x) :: r) = (if k = f then (k, v) :: r else (k, x) :: putF f v r) from rfl]
    by_cases hk : k = f
    · rw [if_pos hk, List.length_cons, List.length_cons]; omega
    · rw [if_neg hk, List.length_cons, List.length_cons]; omega

theorem RelO.some_of {v : V} {o : Option Value} (r : RelO (some v) o) : ∃ u, o = some u ∧ RelV v u := by
  cases o with
  | none => exact (show False from r).elim
  | some u => exact ⟨u, rfl, r⟩
theorem RelO.none_of {o : Option Value} (r : RelO none o) : o = none := by
  cases o with
  | none => rfl
  | some u => exact (show False from r).elim
theorem handed_of {v : V} {u : Value} (r : RelV v u) : PySem.W.handedIn u = true := by
  cases v with
  | non => cases (show u = Value.none from r); rfl
  | bl b => cases (show u = Value.bool b from r); rfl
  | int i => obtain ⟨t, e⟩ := (show ∃ t, u = Value.int i t from r); cases e; rfl
  | str x => obtain ⟨t, e⟩ := (show ∃ t, u = Value.str x t from r); cases e; rfl
  | byt b => obtain ⟨t, e⟩ := (show ∃ t, u = Value.bytes b t from r); cases e; rfl
  | flt b => obtain ⟨t, e⟩ := (show ∃ t, u = Value.float b t from r); cases e; rfl
  | ref a => cases (show u = Value.ref a from r); rfl
  | ty n => cases (show u = Value.type n from r); rfl

section
variable {P : Program} {w : World} {H H' : Hp} {h h' : Heap} {a C dx : Addr} {fs fs' : List (Str × V)}
theorem ins_get (hok : HOk P w H h) (e : H a = some (.ins C dx fs)) : ∃ mA, ObjM h a dx C mA ∧ (∀ f, RelO (fs.lookup f) (mA f)) ∧ PySem.Within mA (fs.map (·.1)) ∧ fs.length ≤ 1000 ∧ H dx = some (.own a) := by
  obtain ⟨d, z, ne, ob, mA, n, r, q⟩ := (show ObjOk P w H h a (.ins C dx fs) from hok a _ e)
  exact ⟨mA, ⟨ob, n, ne⟩, r, q, z, d⟩
end

/-! ### what of the text a class must have -/
structure Cls (K : PySem.W.Frag) (C : Addr) : Prop where
  pg : PySem.W.plainGet K C Str.empty = true
  hd : PySem.W.hasDictIn K C = true
  po : PySem.W.plainOver K C = true
  sa : PySem.W.findIn K (.ref C) "__setattr__" = some (some (.builtin "object.__setattr__"))
theorem Cls.get {K : PySem.W.Frag} {C : Addr} (c : Cls K C) (f : Str) : PySem.W.plainGet K C f = true := c.pg
/-- no class of it has the name -/
def NoAttr (K : PySem.W.Frag) (C : Addr) (f : Str) : Prop := PySem.W.findIn K (.ref C) f = some none
theorem NoAttr.taker {K : PySem.W.Frag} {C : Addr} {f : Str} (n : NoAttr K C f) : PySem.W.takerIn K C f = some none := by
  unfold PySem.W.takerIn
  rw [show PySem.W.findIn K (.ref C) f = some none from n]
  rfl
/-- a constant of the class -/
structure Con (K : PySem.W.Frag) (C : Addr) (f : Str) (v : V) (u : Value) : Prop where
  at_ : PySem.W.findIn K (.ref C) f = some (some u)
  rel : RelV v u
  get : PySem.W.specialIn K u "__get__" = some none
  cp : PySem.W.copiedNames.contains f = false
/-- a method: a plain def of the class or of one above it -/
structure Meth (K : PySem.W.Frag) (C : Addr) (m : Str) (f : Addr) : Prop where
  at_ : PySem.W.findIn K (.ref C) m = some (some (.ref f))
  fn : PySem.W.isFn K (.ref f) = true
  kp : PySem.W.keepIn K (.ref f) = true

section
variable {X : Cx} {pins : List (Addr × Obj)} {σ : St} {H : Hp} {s : Shared} {a C dx : Addr} {fs : List (Str × V)} {f : Str} {v : V} {A : Around} {E : Value → Shared → Prop}

theorem getattr_ok {b : Bool} {Q : Value → Shared → Prop} (I : Inv X pins σ H s) (e : H a = some (.ins C dx fs)) (c : Cls X.K C) (n : NoAttr X.K C f) (l : fs.lookup f = some v)
    (h : ∀ u s', Inv X pins σ H s' → RelV v u → Q u s') : wpAny (model X.prog X.w) A (getAttr (.ref a) f b) Q E s := by
  obtain ⟨mA, O, r, _, _, _⟩ := ins_get I.hok e
  obtain ⟨u, hu, ru⟩ := RelO.some_of (v := v) (o := mA f) (by rw [← l]; exact r f)
  exact get_map I.kIn O (c.get f) c.hd n hu (handed_of ru) (h u _ (I.tok _) ru)

theorem getmeth_ok {m : Str} {g : Addr} {pl : Sem Bool} {Q : Value × List Value → Shared → Prop} (I : Inv X pins σ H s) (e : H a = some (.ins C dx fs)) (c : Cls X.K C) (k : Meth X.K C m g) (l : fs.lookup m = none)
    (h : Q (.ref g, [.ref a]) s) : wpAny (model X.prog X.w) A (getMethod (.ref a) m pl) Q E s := by
  obtain ⟨mA, O, r, _, _, _⟩ := ins_get I.hok e
  have hn : mA m = none := RelO.none_of (by rw [← l]; exact r m)
  exact get_meth I.kIn O (c.get m) k.at_ k.fn hn h

theorem setattr_ok {y : V} {u : Value} {Q : Unit → Shared → Prop} (I : Inv X pins σ H s) (e : H a = some (.ins C dx fs)) (c : Cls X.K C) (n : NoAttr X.K C f) (hl : fs.length < 1000) (ry : RelV y u)
    (h : ∀ s', Inv X pins σ (upd H a (.ins C dx (putF f y fs))) s' → Q () s') : wpAny (model X.prog X.w) A (setAttr (.ref a) f u) Q E s := by
  obtain ⟨mA, O, r, wi, _, ho⟩ := ins_get I.hok e
  have hz : (fs.map (·.1)).length ≤ sizeLine := by rw [List.length_map, sizeLine_eq]; omega
  refine set_map I.kIn O c.sa c.po n.taker c.hd wi hz fun h' O' sb => h _ ?_
  have hd : ∃ o, h'.get? dx = some o := let ⟨o, _, _, e', _⟩ := O'.ns; ⟨o, e'⟩
  refine I.write (x := a) (e := dx) (by rw [e]; exact True.intro) (.inr ho) (fun b q hb z => (sb.2 b hb).trans z) hd ?_
  refine ⟨by rw [upd_ne O.ne]; exact ho, ?_, O.ne, O'.obj, _, O'.ns, fun g => ?_, fun g hg => ?_⟩
  · have := length_putF f y fs; omega
  · show RelO ((putF f y fs).lookup g) (if g = f then some u else mA g)
    rw [lookup_putF]
    by_cases q : g = f
    · rw [if_pos q, if_pos q]; exact ry
    · rw [if_neg q, if_neg q]; exact r g
  · by_cases q : g = f
    · rw [q]; exact (keys_putF f y fs).1
    · refine (keys_putF f y fs).2 g (wi g fun z => hg ?_)
      show (if g = f then some u else mA g) = none
      rw [if_neg q]; exact z

/-- a new instance, tracked, without attributes -/
theorem Inv.made (I : Inv X pins σ H s) : Inv X pins σ (upd (upd H s.heap.objs.size (.own (s.heap.objs.size + 1))) (s.heap.objs.size + 1) (.ins C s.heap.objs.size []))
    { s with heap := (s.heap.push PySem.W.emptyDict).push (PySem.W.instObj C s.heap.objs.size) } := by
  have e1 : (s.heap.push PySem.W.emptyDict).get? s.heap.objs.size = some PySem.W.emptyDict := Heap.get?_push_size s.heap rfl
  have e2 : ((s.heap.push PySem.W.emptyDict).push (PySem.W.instObj C s.heap.objs.size)).get? (s.heap.objs.size + 1) = some (PySem.W.instObj C s.heap.objs.size) := by
    have := Heap.get?_push_size (s.heap.push PySem.W.emptyDict) (o := PySem.W.instObj C s.heap.objs.size) rfl
    rwa [Heap.size_push] at this
  have e3 : (s.heap.push PySem.W.emptyDict).Ns s.heap.objs.size (fun _ => none) := ⟨PySem.W.emptyDict, #[], _, e1, rfl, (fun e he => absurd he (by simp)), fun _ => rfl⟩
  have I1 := I.laid (a := s.heap.objs.size) (o := .own (s.heap.objs.size + 1)) (h' := s.heap.push PySem.W.emptyDict) (t' := s.toks) (fun b u q => Heap.get?_push_of_some _ q) (Nat.le_refl _) ⟨_, e1⟩
  refine I1.laid (a := s.heap.objs.size + 1) (o := .ins C s.heap.objs.size []) (t' := s.toks) (fun b u q => Heap.get?_push_of_some _ q) (Nat.le_of_eq (Heap.size_push _ _)) ?_
  have ne : s.heap.objs.size ≠ s.heap.objs.size + 1 := Nat.ne_of_lt (Nat.lt_succ_self _)
  refine ⟨by rw [upd_ne ne, upd_same], Nat.zero_le _, ne, e2, fun _ => none, (Heap.Ns1.of_empty e3).at fun o q => Heap.get?_push_of_some _ q, fun _ => True.intro, fun y hy => absurd rfl hy⟩

/-- e.f where nothing but the object is asked: through attributeBase (super) and the last hold -/
theorem attr_of {prog : Program} {w : World} {env : Env} {e : Expr} {f : Str} {pos : Pos} {s : Shared} {Q : Value → Shared → Prop} (hb : attributeBase e f env (eval e env) = eval e env)
    (h : wpAny (model prog w) A (eval e env) (fun o s₁ => wpAny (model prog w) A (getAttr o f true) Q E s₁) E s) : wpAny (model prog w) A (eval (.Attribute e f pos) env) Q E s :=
  Attribute_any_ h (by rw [arm_eval_Attribute, hb])
end

/-! ### readings and rules -/
/-- e.f, an attribute of the instance -/
def tFld (K : PySem.W.Frag) (ta : TE) (f : Str) : TE := fun σ H Q => ta σ H fun x H1 => ∃ a C dx fs v, x = .ref a ∧ H1 a = some (.ins C dx fs) ∧ Cls K C ∧ NoAttr K C f ∧ fs.lookup f = some v ∧ Q v H1
/-- e.f, a constant of the class -/
def tCon (K : PySem.W.Frag) (ta : TE) (f : Str) : TE := fun σ H Q => ta σ H fun x H1 => ∃ a C dx fs v u, x = .ref a ∧ H1 a = some (.ins C dx fs) ∧ Cls K C ∧ Con K C f v u ∧ fs.lookup f = none ∧ Q v H1
/-- e.f = value -/
def sFld (K : PySem.W.Frag) (ta tv : TE) (f : Str) : TS := fun D σ H => tv σ H fun y H1 => ta σ H1 fun x H2 => ∃ a C dx fs, x = .ref a ∧ H2 a = some (.ins C dx fs) ∧ Cls K C ∧ NoAttr K C f ∧ fs.length < 1000 ∧
  D.nx σ (upd H2 a (.ins C dx (putF f y fs)))
/-- an augmented operator on two values -/
def InOp (X : Cx) (op : Operator) (rd : V → V → Hp → VK → Prop) : Prop :=
  ∀ (pins : List (Addr × Obj)) (s : Shared) (σ : St) (H : Hp) (x y : V) (u v : Value) (Q : VK), Inv X pins σ H s → RelV x u → RelV y v → rd x y H Q → wpAny (model X.prog X.w) X.A (inplaceOp op u v) (EP X pins σ Q) X.xe s
/-- e.f op= value -/
def sFldAug (K : PySem.W.Frag) (ta tv : TE) (rd : V → V → Hp → VK → Prop) (f : Str) : TS := fun D σ H => ta σ H fun x H1 => ∃ a C dx fs v, x = .ref a ∧ H1 a = some (.ins C dx fs) ∧ Cls K C ∧ NoAttr K C f ∧ fs.lookup f = some v ∧
  tv σ H1 fun y H2 => rd v y H2 fun z H3 => ∃ dx' fs', H3 a = some (.ins C dx' fs') ∧ fs'.length < 1000 ∧ D.nx σ (upd H3 a (.ins C dx' (putF f z fs')))

section
variable {X : Cx} {o e value : Expr} {f : Str} {pos pos' tpos : Pos} {ta tv : TE}
theorem pe_fld (he : PE X e ta) (hb : attributeBase e f X.env (eval e X.env) = eval e X.env) : PE X (.Attribute e f pos) (tFld X.K ta f) := by
  intro pins s σ H Q I h
  refine attr_of hb (thn (he pins s σ H _ I h) fun u s1 ⟨x, H1, I1, rx, a, C, dx, fs, v, ex, ea, c, n, l, q⟩ => ?_)
  subst ex
  obtain rfl : u = Value.ref a := rx
  exact getattr_ok I1 ea c n l fun u' s2 I2 ru => ⟨v, H1, I2, ru, q⟩
theorem ps_fld (ha : PE X o ta) (hv : PE X value tv) (hs : swapsWith value (some (.Attribute o f pos')) pos.line X.env = pure false) : PS X (.Assign [.Attribute o f pos'] value pos) (sFld X.K ta tv f) := by
  intro pins s σ H D I h
  refine plainObj_wpAny_Assign_Attribute (thn (hv pins s σ H _ I h) fun u s1 ⟨y, H1, I1, ry, q⟩ => thn (ha pins s1 σ H1 _ I1 q) fun ov s2 ⟨x, H2, I2, rx, a, C, dx, fs, ex, ea, c, n, l, q2⟩ => ?_) hs
  subst ex
  obtain rfl : ov = Value.ref a := rx
  exact setattr_ok I2 ea c n l ry fun s3 I3 => ⟨σ, _, I3, q2⟩
def rAdd : V → V → Hp → VK → Prop := fun x y H Q => ∃ i j, x = .int i ∧ y = .int j ∧ Q (.int (i + j)) H
def rSub : V → V → Hp → VK → Prop := fun x y H Q => ∃ i j, x = .int i ∧ y = .int j ∧ Q (.int (i - j)) H
end

/-! ### isinstance -/
section
variable {X : Cx} {pins : List (Addr × Obj)} {σ : St} {H : Hp} {s : Shared} {A : Around} {E : Value → Shared → Prop} {Q : Value → Shared → Prop} {c : Value} {b : Bool}
/-- the type of a value, as the fragment's deciders take it; for an instance its class -/
inductive TyOf (K : PySem.W.Frag) (H : Hp) : V → Value → Prop where
  | non : TyOf K H .non (.type "NoneType")
  | bl (x : Bool) : TyOf K H (.bl x) (.type "bool")
  | int (i : Int) : TyOf K H (.int i) (.type "int")
  | str (x : Str) : TyOf K H (.str x) (.type "str")
  | flt (x : UInt64) : TyOf K H (.flt x) (.type "float")
  | lst {a : Addr} {xs : List V} (e : H a = some (.lst xs)) : TyOf K H (.ref a) (.type "list")
  | frz {a : Addr} {o : Obj} {xs : List V} (e : H a = some (.frz o (.lst xs))) : TyOf K H (.ref a) (.type "list")
  | tup {a : Addr} {xs : List V} (e : H a = some (.tup xs)) : TyOf K H (.ref a) (.type "tuple")
  | dK {a : Addr} {kvs : List (Key × V)} (e : H a = some (.dK kvs)) : TyOf K H (.ref a) (.type "dict")
  | dT {a : Addr} {kvs : List (List Key × V)} (e : H a = some (.dT kvs)) : TyOf K H (.ref a) (.type "dict")
  | ins {a C dx : Addr} {fs : List (Str × V)} (e : H a = some (.ins C dx fs)) (cl : Cls K C) (ha : PySem.W.findIn K (.ref C) "__class__" = some (some (.builtin "object.__class__")))
      (hn : PySem.W.specialIn K (.builtin "object.__class__") "__get__" = some (some (.builtin "getset_descriptor.__get__"))) (htk : PySem.W.takesIn K (.builtin "object.__class__") = some true)
      (hm : PySem.W.mroIn K C (.type "object") = some true) : TyOf K H (.ref a) (.ref C)
/-- isinstance(x, c) for one class c, a built-in or an own one: kitOne's answer -/
theorem isinst_ok {x : V} {u t : Value} (I : Inv X pins σ H s) (rx : RelV x u) (ty : TyOf X.K H x t) (e : PySem.W.kitOne X.K t c = some b) (h : ∀ tk, Q (.bool b) { s with toks := tk }) :
    wpAny (model X.prog X.w) A (call (.builtin "isinstance") [u, c]) Q E s := by
  cases ty with
  | non => cases (show u = Value.none from rx); exact PySem.W.kia_one PySem.W.kitx_none I.kIn True.intro e (fun z => nomatch z) h
  | bl y => cases (show u = Value.bool y from rx); exact PySem.W.kia_one PySem.W.kitx_bool I.kIn True.intro e (fun z => nomatch z) h
  | int i => obtain ⟨t, q⟩ := (show ∃ t, u = Value.int i t from rx); cases q; exact PySem.W.kia_one PySem.W.kitx_int I.kIn True.intro e (fun z => nomatch z) h
  | str y => obtain ⟨t, q⟩ := (show ∃ t, u = Value.str y t from rx); cases q; exact PySem.W.kia_one PySem.W.kitx_str I.kIn True.intro e (fun z => nomatch z) h
  | flt y => obtain ⟨t, q⟩ := (show ∃ t, u = Value.float y t from rx); cases q; exact PySem.W.kia_one PySem.W.kitx_float I.kIn True.intro e (fun z => nomatch z) h
  | @lst a xs ea =>
    cases (show u = Value.ref a from rx)
    obtain ⟨_, _, n, _, h1⟩ := (show ObjOk X.prog X.w H s.heap a (.lst xs) from I.hok a _ ea)
    exact PySem.W.kia_one PySem.W.kitx_list I.kIn ⟨_, h1, rfl⟩ e (fun z => nomatch z) h
  | @frz a ob xs ea =>
    cases (show u = Value.ref a from rx)
    obtain ⟨_, _, _, n, _, h1⟩ := (show ObjOk X.prog X.w H s.heap a (.frz ob (.lst xs)) from I.hok a _ ea)
    exact PySem.W.kia_one PySem.W.kitx_list I.kIn ⟨_, h1, rfl⟩ e (fun z => nomatch z) h
  | @tup a xs ea =>
    cases (show u = Value.ref a from rx)
    obtain ⟨_, _, _, p⟩ := (show ObjOk X.prog X.w H s.heap a (.tup xs) from I.hok a _ ea)
    obtain ⟨o, h1, h2, _⟩ := p
    exact PySem.W.kia_one PySem.W.kitx_tuple I.kIn ⟨o, h1, h2⟩ e (fun z => nomatch z) h
  | @dK a kvs ea =>
    cases (show u = Value.ref a from rx)
    obtain ⟨_, _, vs, _, p⟩ := (show ObjOk X.prog X.w H s.heap a (.dK kvs) from I.hok a _ ea)
    obtain ⟨o, es, ep, h1, h2, _⟩ := p
    exact PySem.W.kia_one PySem.W.kitx_dict I.kIn ⟨o, h1, h2.1⟩ e (fun z => nomatch z) h
  | @dT a kvs ea =>
    cases (show u = Value.ref a from rx)
    obtain ⟨_, _, xs, _, o, es, ep, h1, h2, _⟩ := (show ObjOk X.prog X.w H s.heap a (.dT kvs) from I.hok a _ ea)
    exact PySem.W.kia_one PySem.W.kitx_dict I.kIn ⟨o, h1, h2.1⟩ e (fun z => nomatch z) h
  | @ins a C dx fs ea cl ha hn htk hm =>
    cases (show u = Value.ref a from rx)
    obtain ⟨mA, O, _⟩ := ins_get I.hok ea
    obtain ⟨od, J, _⟩ := O.look
    exact PySem.W.kia_one (PySem.W.kitx_own (cl.get _) cl.hd ha hn htk hm) I.kIn J e (fun z => nomatch z) h
end
end L2

namespace L2
open PySem PySem.Spec PyProof.Rows

/-! ### room -/
structure Room (k : Nat) (A : Around) : Prop where
  hd : A.handled = none
  dp : A.depth + 3 * k + 5 < recursionLimit
  un : A.units + 16 * k + 200 < cLine
  gd : A.guards = some []
theorem Room.mono {j k : Nat} {A : Around} (r : Room k A) (h : j ≤ k) : Room j A := ⟨r.hd, by have := r.dp; omega, by have := r.un; omega, r.gd⟩
theorem Room.deeper {k : Nat} {A : Around} (r : Room (k + 1) A) (env : Env) : Room k (A.deeper env) :=
  ⟨r.hd, by have := r.dp; show A.depth + 1 + 3 * k + 5 < _; omega, by have := r.un; show A.units + 3 + 16 * k + 200 < _; omega, r.gd⟩
theorem make_depth {A : Around} {C : Addr} {us : List Value} {kw : List (Str × Value)} : (A.under (.builtin "type.__call__" ⟨.ref C :: us, kw⟩)).depth = A.depth + 1 := by
  first | rfl | simp [Around.under, Code.weight, Code.isCreation, Code.isGuard, Code.isCaller, Code.frames, Code.isFrame, guardIds]
theorem make_units {A : Around} {C : Addr} {us : List Value} {kw : List (Str × Value)} : (A.under (.builtin "type.__call__" ⟨.ref C :: us, kw⟩)).units = A.units + 1 := by
  first | rfl | simp [Around.under, Code.cUnits, Code.frames, Code.isFrame]
theorem Room.make {k : Nat} {A : Around} (r : Room (k + 1) A) (C : Addr) (us : List Value) (kw : List (Str × Value)) : Room k (A.under (.builtin "type.__call__" ⟨.ref C :: us, kw⟩)) :=
  ⟨r.hd, by have := r.dp; rw [make_depth]; omega, by have := r.un; rw [make_units]; omega, by have := r.gd; first | exact this | simpa [Around.under, Code.isGuard, guardIds] using this⟩
theorem Room.depth {k : Nat} {A : Around} (r : Room k A) : A.depth < recursionLimit := by have := r.dp; omega
theorem Room.units {k : Nat} {A : Around} (r : Room k A) : A.units + 64 < cLine := by have := r.un; omega
theorem Room.units0 {k : Nat} {A : Around} (r : Room k A) : A.units < cLine := by have := r.un; omega

/-! ### argument lists and displays -/
def tNil : TA := fun _ H Q => Q [] H
def tCons (ta : TE) (tr : TA) : TA := fun σ H Q => ta σ H fun x H1 => tr σ H1 fun xs H2 => Q (x :: xs) H2
section
variable {X : Cx} {e : Expr} {es : List Expr} {te : TE} {t : TA} {pos : Pos}
theorem pa_nil : PA X [] tNil := fun _ _ _ _ H Q I h => Calls.spliced_nil ⟨[], H, I, .nil, h⟩
theorem pa_cons (ha : PE X e te) (hr : PA X es t) (hs : starEach (e :: es) X.env = (false, eval e X.env) :: starEach es X.env := by rfl) : PA X (e :: es) (tCons te t) := by
  intro pos pins s σ H Q I h
  rw [hs]
  show wpAny _ _ (spliced ((false, eval e X.env) :: backTo pos (starEach es X.env))) _ _ s
  refine Calls.spliced_cons (thn (ha pins s σ H _ I h) fun u s1 ⟨x, H1, I1, r1, q1⟩ => ?_)
  exact thn (hr pos pins s1 σ H1 _ I1 q1) fun us s2 ⟨xs, H2, I2, r2, q2⟩ => ⟨x :: xs, H2, I2, .cons r1 r2, q2⟩

/-- a tuple, a list of written items -/
def tTup (t : TA) : TE := fun σ H Q => t σ H fun xs H1 => xs.length ≤ sizeLine ∧ ∀ p, H1 p = none → Q (.ref p) (upd H1 p (.tup xs))
def tLst (t : TA) : TE := fun σ H Q => t σ H fun xs H1 => xs.length ≤ sizeLine ∧ ∀ p, H1 p = none → Q (.ref p) (upd H1 p (.lst xs))
theorem pe_tup {x1} (h : PA X es t) : PE X (.Tuple es x1 pos) (tTup t) := by
  intro pins s σ H Q I hq
  refine wpAny_Tuple_spliced (thn (h pos pins s σ H _ I hq) fun us s1 ⟨xs, H1, I1, r, z, q⟩ => ⟨by rw [← r.length]; exact z, ?_⟩)
  have hf : H1 s1.heap.objs.size = none := I1.hok.fresh (Nat.le_refl _)
  refine ⟨.ref s1.heap.objs.size, upd H1 s1.heap.objs.size (.tup xs), I1.laid (t' := s1.toks) (fun b u e => Heap.get?_push_of_some _ e) (Nat.le_refl _) ?_, rfl, q _ hf⟩
  exact ⟨z, us, r, ⟨_, Heap.get?_push_size _ rfl, rfl, _, rfl⟩⟩
theorem pe_lst (h : PA X es t) : PE X (.List es pos) (tLst t) := by
  intro pins s σ H Q I hq
  refine wpAny_List_spliced (thn (h pos pins s σ H _ I hq) fun us s1 ⟨xs, H1, I1, r, z, q⟩ => ⟨by rw [← r.length]; exact z, ?_⟩)
  have hf : H1 s1.heap.objs.size = none := I1.hok.fresh (Nat.le_refl _)
  refine ⟨.ref s1.heap.objs.size, upd H1 s1.heap.objs.size (.lst xs), I1.laid (t' := s1.toks) (fun b u e => Heap.get?_push_of_some _ e) (Nat.le_refl _) ?_, rfl, q _ hf⟩
  exact ⟨z, us, 0, r, Heap.get?_push_size _ rfl⟩
end

/-! ### what a def promises -/
/-- a def's promise: the bound arguments in the parameters' order, the heap, the wanted end, the wanted exception -/
abbrev Sp := List V → Hp → VK → XK → Prop
/-- how an exception lies behind a call (file 08 gives it): the callers' frames, abstract heap and state ahead of the call, the wish, the exception, the state -/
abbrev CXT := List Env → Hp → Shared → XK → Value → Shared → Prop

/-- the state at a call -/
structure Env0 (P : Program) (w : World) (K : PySem.W.Frag) (mg : Str → Option Value) (base : Heap) (A : Around) (outer : List Env) (s : Shared) (H : Hp) : Prop where
  frames : A.frames = some outer
  mod : Mod K mg base
  bs : ∀ b o, base.get? b = some o → s.heap.get? b = some o ∧ H b = none
  bsz : base.objs.size ≤ s.heap.objs.size
  funs : s.heap.FunFrames base outer
  frf : ∀ b ∈ frs outer, H b = none
  hok : HOk P w H s.heap
  bare : AllBare s.gens
/-- a call's end -/
def CE (outer : List Env) (P : Program) (w : World) (H : Hp) (s : Shared) (Q : VK) (u : Value) (s' : Shared) : Prop :=
  ∃ v H', s'.os = s.os ∧ AllBare s'.gens ∧ Un (frs outer) [] H H' s.heap s'.heap ∧ HOk P w H' s'.heap ∧ RelV v u ∧ Q v H'
def CR (CX : CXT) (outer : List Env) (P : Program) (w : World) (H : Hp) (s : Shared) (Q : VK) (E : XK) (r : Result) (s' : Shared) : Prop :=
  match r with
  | .ok (.ret u) => CE outer P w H s Q u s'
  | .ok _ => False
  | .error e => CX outer H s E e s'
structure FnOk (P : Program) (w : World) (K : PySem.W.Frag) (mg : Str → Option Value) (base : Heap) (CX : CXT) (k : Nat) (f : Addr) (fd : FuncData) (ps : List Str) (sp : Sp) : Prop where
  len : ∀ vs H Q E, sp vs H Q E → vs.length = ps.length
  run : ∀ (A : Around) (outer : List Env) (s : Shared) (H : Hp) (args : Args) (us : List Value) (vs : List V) (Q : VK) (E : XK), Room k A → Env0 P w K mg base A outer s H → BindsTo s fd args (ps.zip us) → Vals vs us → sp vs H Q E →
    codeAny (model P w) A (.call (.ref f) args) (CR CX outer P w H s Q E) s
theorem Env0.make {P : Program} {w : World} {K : PySem.W.Frag} {mg : Str → Option Value} {base : Heap} {A : Around} {outer : List Env} {s : Shared} {H : Hp} (e : Env0 P w K mg base A outer s H) (C : Addr) (us : List Value) (kw : List (Str × Value)) :
    Env0 P w K mg base (A.under (.builtin "type.__call__" ⟨.ref C :: us, kw⟩)) outer s H := ⟨by first | exact e.frames | (simpa [Around.under, Code.envs, Code.isFrame, pushEnvs] using e.frames), e.mod, e.bs, e.bsz, e.funs, e.frf, e.hok, e.bare⟩
section
variable {X : Cx} {pins : List (Addr × Obj)} {σ : St} {H : Hp} {s s' : Shared}
/-- from a body: what a callee wants -/
theorem Inv.env0 (I : Inv X pins σ H s) : Env0 X.prog X.w X.K X.mg X.base X.A X.stack s H :=
  ⟨I.ok.frames, I.ok.mod, I.bs, Nat.le_trans I.ok.bsz I.sz, I.stack, I.stkFree, I.hok, I.bare⟩
/-- behind a call -/
theorem Inv.after {Q : VK} {u : Value} (I : Inv X pins σ H s) (h : CE X.stack X.prog X.w H s Q u s') : EP X pins σ Q u s' := by
  obtain ⟨v, H', os, bare, un, hok, r, q⟩ := h
  obtain ⟨hh, g, d, t, os'⟩ := s'
  obtain rfl : os' = s.os := os
  exact ⟨v, H', I.call (h' := hh) (g' := g) (d' := d) (t' := t) (ch := []) un hok bare (fun b z => absurd z (by simp)), r, q⟩
end

/-! ### calls -/
/-- f(..): the written arguments, then the defaults dvs; E: what is wanted of an exception -/
def tCall (sp : Sp) (dvs : List V) (E : XK) (t : TA) : TE := fun σ H Q => t σ H fun vs H1 => sp (vs ++ dvs) H1 Q E
/-- o.m(..) of an instance of the class at C -/
def tMeth (C : Addr) (m : Str) (sp : Sp) (dvs : List V) (E : XK) (ta : TE) (t : TA) : TE := fun σ H Q => ta σ H fun x H1 => ∃ a dx fs, x = .ref a ∧ H1 a = some (.ins C dx fs) ∧ fs.lookup m = none ∧
  t σ H1 fun vs H2 => sp (x :: (vs ++ dvs)) H2 Q E
/-- C(..): a new instance and its dict, then __init__ -/
def tMake (C : Addr) (sp : Sp) (dvs : List V) (E : XK) (t : TA) : TE := fun σ H Q => t σ H fun vs H1 => ∀ x dx, H1 x = none → H1 dx = none → dx ≠ x →
  sp (.ref x :: (vs ++ dvs)) (upd (upd H1 dx (.own x)) x (.ins C dx [])) (fun v H2 => v = .non ∧ Q (.ref x) H2) E

/-- how the parameters are bound: us the positional arguments, kw the keywords' values by name, ds the defaults that fill up -/
def Binds (K : PySem.W.Frag) (fd : FuncData) (ps : List Str) (ds : List Value) : Prop :=
  ∀ (s : Shared) (us : List Value), K.In s.heap → (us ++ ds).length = ps.length → BindsTo s fd ⟨us, []⟩ (ps.zip (us ++ ds))
/-- every parameter is given -/
theorem Binds.all {K : PySem.W.Frag} {fd : FuncData} {ps : List Str} (h : ∀ us : List Value, us.length = ps.length → bindArgs fd ⟨us, []⟩ = pure (ps.zip us)) : Binds K fd ps [] := fun s us _ hl => by
  rw [List.append_nil] at hl ⊢
  exact .of_eq (h us hl)

/-- an exception of a callee reaches what this body wants of exceptions -/
def Passes (CX : CXT) (X : Cx) (E : XK) : Prop := ∀ (pins : List (Addr × Obj)) (σ : St) (H : Hp) (s : Shared) (e : Value) (s' : Shared), Inv X pins σ H s → CX X.stack H s E e s' → X.xe e s'

section
variable {X : Cx} {CX : CXT} {k : Nat} {f C : Addr} {fd : FuncData} {ps : List Str} {sp : Sp} {dvs : List V} {ds : List Value} {E : XK} {x m : Str} {p pos apos : Pos} {e o : Expr} {es : List Expr} {ta : TE} {t : TA}

/-- the callee runs -/
theorem run_fn {pins : List (Addr × Obj)} {σ : St} {H : Hp} {s : Shared} {Q : VK} {us : List Value} {vs : List V} (F : FnOk X.prog X.w X.K X.mg X.base CX k f fd ps sp) (hr : Room k X.A) (hb : Binds X.K fd ps ds) (hd : Vals dvs ds) (hx : Passes CX X E)
    (I : Inv X pins σ H s) (r : Vals vs us) (h : sp (vs ++ dvs) H Q E) : wpAny (model X.prog X.w) X.A (call (.ref f) us) (EP X pins σ Q) X.xe s := by
  have r2 : Vals (vs ++ dvs) (us ++ ds) := r.append hd
  have hl : (us ++ ds).length = ps.length := by rw [← r2.length]; exact F.len _ _ _ _ h
  refine wpAny_call (codeAny_mono (F.run X.A X.stack s H ⟨us, []⟩ (us ++ ds) (vs ++ dvs) Q E hr I.env0 (hb s us I.kIn hl) r2 h) fun r s' hq => ?_)
  cases r with
  | error e => exact hx pins σ H s e s' I hq
  | ok fl =>
    cases fl with
    | ret u => exact I.after hq
    | next => exact False.elim hq
    | brk => exact False.elim hq
    | cont => exact False.elim hq

theorem pe_call (F : FnOk X.prog X.w X.K X.mg X.base CX k f fd ps sp) (hr : Room k X.A) (hg : Gl X x) (hm : X.mg x = some (.ref f)) (hk : PySem.W.keepIn X.K (.ref f) = true) (hb : Binds X.K fd ps ds) (hd : Vals dvs ds) (hx : Passes CX X E)
    (ha : PA X (e :: es) t) (hdb : (x == ("__debug__" : Str)) = false := by decide) (he : starEach (e :: es) X.env = (false, eval e X.env) :: starEach es X.env := by rfl) (hpl : (backTo pos (starEach es X.env)).any (·.1) = false := by rfl) :
    PE X (.Call (.Name x p) (e :: es) [] pos) (tCall sp dvs E t) := by
  intro pins s σ H Q I h
  refine wpAny_Call_Name_kw (ld_glob I hg hm ?_ hdb)
  refine PySem.W.callWith_K (h₀ := X.base) I.ok.mod.kin hk (thn (ha pos pins s σ H _ I h) fun us s1 ⟨vs, H1, I1, r, q⟩ => ⟨I1.kIn, ?_⟩) he hpl
  exact run_fn F hr hb hd hx I1 r q
/-- what a class must have to be made -/
structure Mk (K : PySem.W.Frag) (C f : Addr) : Prop where
  makes : PySem.W.makesIn K C = true
  init : PySem.W.findIn K (.ref C) "__init__" = some (some (.ref f))
  fn : PySem.W.isFn K (.ref f) = true
  kp : PySem.W.keepIn K (.ref C) = true

theorem run_make {pins : List (Addr × Obj)} {σ : St} {H : Hp} {s : Shared} {Q : VK} {us : List Value} {vs : List V} (M : Mk X.K C f) (F : FnOk X.prog X.w X.K X.mg X.base CX k f fd ps sp) (hr : Room (k + 1) X.A) (hb : Binds X.K fd ps ds) (hd : Vals dvs ds)
    (hx : Passes CX X E) (I : Inv X pins σ H s) (r : Vals vs us)
    (h : ∀ x dx, H x = none → H dx = none → dx ≠ x → sp (.ref x :: (vs ++ dvs)) (upd (upd H dx (.own x)) x (.ins C dx [])) (fun v H2 => v = .non ∧ Q (.ref x) H2) E) :
    wpAny (model X.prog X.w) X.A (call (.ref C) us) (EP X pins σ Q) X.xe s := by
  have hq := h (s.heap.objs.size + 1) s.heap.objs.size (I.hok.fresh (Nat.le_succ _)) (I.hok.fresh (Nat.le_refl _)) (Nat.ne_of_lt (Nat.lt_succ_self _))
  have I2 := Inv.made (C := C) I
  have r2 : Vals (V.ref (s.heap.objs.size + 1) :: (vs ++ dvs)) (Value.ref (s.heap.objs.size + 1) :: (us ++ ds)) := .cons rfl (r.append hd)
  have hl : (Value.ref (s.heap.objs.size + 1) :: us ++ ds).length = ps.length := by
    have e := r2.length
    rw [F.len _ _ _ _ hq] at e
    exact e.symm
  refine wpAny_call (make_map (f := f) I.kIn M.makes M.init (beq_iff_eq.mp M.fn) (codeAny_mono (F.run _ X.stack _ _ ⟨Value.ref (s.heap.objs.size + 1) :: us, []⟩ (Value.ref (s.heap.objs.size + 1) :: (us ++ ds)) _ _ E (hr.make C us [])
    (I2.env0.make C us []) (hb _ (Value.ref (s.heap.objs.size + 1) :: us) I2.kIn hl) r2 hq) fun r s' hq' => ?_))
  cases r with
  | error e => exact hx pins σ _ _ e s' I2 hq'
  | ok fl =>
    cases fl with
    | ret u =>
      obtain ⟨v, H', I3, rv, ev, q3⟩ := I2.after hq'
      subst ev
      exact ⟨rv, ⟨V.ref (s.heap.objs.size + 1), H', I3, rfl, q3⟩⟩
    | next => exact False.elim hq'
    | brk => exact False.elim hq'
    | cont => exact False.elim hq'
theorem pe_make (M : Mk X.K C f) (F : FnOk X.prog X.w X.K X.mg X.base CX k f fd ps sp) (hr : Room (k + 1) X.A) (hg : Gl X x) (hm : X.mg x = some (.ref C)) (hb : Binds X.K fd ps ds) (hd : Vals dvs ds) (hx : Passes CX X E)
    (ha : PA X (e :: es) t) (hdb : (x == ("__debug__" : Str)) = false := by decide) (he : starEach (e :: es) X.env = (false, eval e X.env) :: starEach es X.env := by rfl) (hpl : (backTo pos (starEach es X.env)).any (·.1) = false := by rfl) :
    PE X (.Call (.Name x p) (e :: es) [] pos) (tMake C sp dvs E t) := by
  intro pins s σ H Q I h
  refine wpAny_Call_Name_kw (ld_glob I hg hm ?_ hdb)
  refine PySem.W.callWith_K (h₀ := X.base) I.ok.mod.kin M.kp (thn (ha pos pins s σ H _ I h) fun us s1 ⟨vs, H1, I1, r, q⟩ => ⟨I1.kIn, ?_⟩) he hpl
  exact run_make M F hr hb hd hx I1 r q
end

/-! ### keywords -/
/-- the values of the keywords, from the left -/
def PK (X : Cx) (kws : List Keyword) (t : TA) : Prop :=
  ∀ (pos : Pos) (pins : List (Addr × Obj)) (s : Shared) (σ : St) (H : Hp) (Q : List V → Hp → Prop), Inv X pins σ H s → t σ H Q → wpAny (model X.prog X.w) X.A (evalAll ((backToKw pos (keywordEach kws X.env)).map (·.2))) (AP X pins σ Q) X.xe s
section
variable {X : Cx} {CX : CXT} {k : Nat} {f C : Addr} {fd : FuncData} {ps ks : List Str} {sp : Sp} {E : XK} {x m : Str} {p pos apos kpos : Pos} {e o : Expr} {es : List Expr} {kws : List Keyword} {te ta : TE} {t tk : TA} {nm : Option Str}
/-- how a call with keywords binds: g puts the positional values us and the keywords' values ws (names ks) in the parameters' order, defaults among them -/
structure KBinds (K : PySem.W.Frag) (fd : FuncData) (ps ks : List Str) (g : List Value → List Value → List Value) (gV : List V → List V → List V) : Prop where
  to : ∀ (s : Shared) (us ws : List Value), K.In s.heap → (g us ws).length = ps.length → BindsTo s fd ⟨us, ks.zip ws⟩ (ps.zip (g us ws))
  rel : ∀ {vs : List V} {us : List Value} {zs : List V} {ws : List Value}, Vals vs us → Vals zs ws → Vals (gV vs zs) (g us ws)
def tCallK (sp : Sp) (gV : List V → List V → List V) (E : XK) (t tk : TA) : TE := fun σ H Q => t σ H fun vs H1 => tk σ H1 fun zs H2 => sp (gV vs zs) H2 Q E
variable {g : List Value → List Value → List Value} {gV : List V → List V → List V}
end

/-! ### a def's body keeps its promise -/
/-- names: the parameters first -/
structure FnScope (N P : List Str) (sc : Scope) : Prop where
  kind : sc.kind = .function
  co : sc.isCoroutine = false
  gen : sc.isGenerator = false
  nd : N.Nodup
  pre : N.take P.length = P
  par : ∀ x ∈ P, sc.names.lookup x = some .local ∨ sc.names.lookup x = some .cell
  nofree : ∀ y ∈ sc.names, y.2 ≠ .free

theorem bindL_out {kindOf : Str → Option NameKind} {x : Str} : ∀ {binds : List (Str × Value)} {m : Str → Option Value}, (∀ v, (x, v) ∉ binds) → bindL kindOf binds m x = m x
  | [], _, _ => rfl
  | (n, v) :: r, m, h => by
    unfold bindL
    rw [bindL_out fun w hw => h w (List.mem_cons_of_mem _ hw)]
    split
    · have : x ≠ n := by rintro rfl; exact h v List.mem_cons_self
      simp [this]
    · rfl
theorem bindC_out {kindOf : Str → Option NameKind} {x : Str} : ∀ {binds : List (Str × Value)} {m : Str → Option Value}, (∀ v, (x, v) ∉ binds) → bindC kindOf binds m x = m x
  | [], _, _ => rfl
  | (n, v) :: r, m, h => by
    unfold bindC
    rw [bindC_out fun w hw => h w (List.mem_cons_of_mem _ hw)]
    split
    · rfl
    · have : x ≠ n := by rintro rfl; exact h v List.mem_cons_self
      simp [this]
theorem bindL_get {kindOf : Str → Option NameKind} {x : Str} {v : Value} : ∀ {P : List Str} {vs : List Value} {i : Nat} {m : Str → Option Value}, P.Nodup → P[i]? = some x → vs[i]? = some v → kindOf x = some .local →
    bindL kindOf (P.zip vs) m x = some v
  | [], _, _, _, _, h, _, _ => by simp at h
  | _ :: _, [], _, _, _, _, h, _ => by simp at h
  | p :: P, w :: vs, 0, m, nd, h1, h2, hk => by
    simp at h1 h2; subst h1; subst h2
    show bindL kindOf ((p, w) :: P.zip vs) m p = _
    unfold bindL
    rw [bindL_out fun v hv => (List.nodup_cons.mp nd).1 (List.of_mem_zip hv).1, if_pos hk]
    simp
  | p :: P, w :: vs, i + 1, m, nd, h1, h2, hk => by
    show bindL kindOf ((p, w) :: P.zip vs) m x = _
    unfold bindL
    exact bindL_get (i := i) (List.nodup_cons.mp nd).2 (by simpa using h1) (by simpa using h2) hk
theorem bindC_get {kindOf : Str → Option NameKind} {x : Str} {v : Value} : ∀ {P : List Str} {vs : List Value} {i : Nat} {m : Str → Option Value}, P.Nodup → P[i]? = some x → vs[i]? = some v → kindOf x ≠ some .local →
    bindC kindOf (P.zip vs) m x = some v
  | [], _, _, _, _, h, _, _ => by simp at h
  | _ :: _, [], _, _, _, _, h, _ => by simp at h
  | p :: P, w :: vs, 0, m, nd, h1, h2, hk => by
    simp at h1 h2; subst h1; subst h2
    show bindC kindOf ((p, w) :: P.zip vs) m p = _
    unfold bindC
    rw [bindC_out fun v hv => (List.nodup_cons.mp nd).1 (List.of_mem_zip hv).1, if_neg hk]
    simp
  | p :: P, w :: vs, i + 1, m, nd, h1, h2, hk => by
    show bindC kindOf ((p, w) :: P.zip vs) m x = _
    unfold bindC
    exact bindC_get (i := i) (List.nodup_cons.mp nd).2 (by simpa using h1) (by simpa using h2) hk

/-- the names' values at the entry -/
def start (N : List Str) (vs : List V) : St := vs.map some ++ List.replicate (N.length - vs.length) none

/-- the context of a def's body, at its entry; an exception leaves the frame, then lies as CX says -/
def cxOf (CX : CXT) (P : Program) (w : World) (K : PySem.W.Frag) (mg : Str → Option Value) (base : Heap) (N : List Str) (qual : Str) (scope : Scope) (f : Addr) (cd : Value) (A : Around) (outer : List Env) (s : Shared) (H : Hp) (E : XK) : Cx where
  prog := P
  w := w
  K := K
  mg := mg
  base := base
  A := A.deeper (envOfC qual scope s.heap.objs.size f cd)
  N := N
  s₀ := s
  H₀ := H
  env := envOfC qual scope s.heap.objs.size f cd
  outer := outer
  stack := envOfC qual scope s.heap.objs.size f cd :: outer
  ex := []
  calm := true
  fn := fun _ => true
  pn := []
  xe := fun e s' => wpAny (model P w) (A.deeper (envOfC qual scope s.heap.objs.size f cd)) (leaving (envOfC qual scope s.heap.objs.size f cd) e) (fun _ s'' => CX outer H s E e s'') (fun e' s'' => CX outer H s E e' s'') s'

theorem cell_has {sc : Scope} {n : Nat} {x : Str} (h : sc.names.lookup x = some .cell) : ∃ c, (cellsFrom n sc.names []).lookup x = some c := by
  have q := PySem.W.cellsFrom_some sc.names n [] (.inl h)
  exact Option.isSome_iff_exists.mp q

theorem inv_start {CX : CXT} {P : Program} {w : World} {K : PySem.W.Frag} {mg : Str → Option Value} {base : Heap} {N ps : List Str} {qual : Str} {scope : Scope} {f : Addr} {cd : Value} {A : Around} {outer : List Env} {s s1 : Shared} {H : Hp} {E : XK} {us : List Value} {vs : List V}
    (S : FnScope N ps scope) (hd : A.handled = none) (e0 : Env0 P w K mg base A outer s H) (hl : vs.length = ps.length) (r : Vals vs us)
    (x : InCallC s s.heap.objs.size (bindL (envOfC qual scope s.heap.objs.size f cd).kindOf (ps.zip us) fun _ => none) (cellsFrom (s.heap.objs.size + 1) scope.names []) (bindC (envOfC qual scope s.heap.objs.size f cd).kindOf (ps.zip us) fun _ => none) s1) :
    Inv (cxOf CX P w K mg base N qual scope f cd A outer s H E) [] (start N vs) H s1 := by
  have hpl : ps.length ≤ N.length := by have := congrArg List.length S.pre; rw [List.length_take] at this; omega
  obtain ⟨h1, tk, rfl, hk⟩ := x.done
  have noA : ∀ b : Addr, b ∉ (cxOf CX P w K mg base N qual scope f cd A outer s H E).ex := fun b z => absurd (show b ∈ ([] : List Addr) from z) (by simp)
  refine ⟨⟨e0.mod, S.kind, rfl, rfl, Nat.le_refl _, fun y z c h1 h2 => ?_, fun y hy => ?_, fun y c _ h => ?_, fun _ => hd, Around.frames_deeper e0.frames, .inr ⟨rfl, rfl⟩, fun b z => absurd z (noA b), e0.bs, e0.bsz, fun b _ _ => noA b, fun b z => absurd z (noA b), e0.funs, e0.frf⟩,
    rfl, e0.bare, Un.kept hk, ⟨_, x.toInCall.ns, fun i y v h1 h2 h3 => ?_⟩, fun y c h => ⟨_, x.cell y c h⟩, e0.hok.fresh (Nat.le_refl _), fun y c h => ?_, fun p hp => absurd (show p ∈ ([] : List (Addr × Obj)) from hp) (by simp), e0.hok.kept hk, ?_⟩
  · exact name_of_addr x.apart (PySem.mem_of_lookup h1) (PySem.mem_of_lookup h2)
  · have hy : scope.names.lookup y = some .cell ∨ scope.names.lookup y = some .free := hy
    rcases hy with hy | hy
    · exact cell_has hy
    · exact absurd rfl (S.nofree _ (PySem.mem_of_lookup hy))
  · exact Nat.le_of_lt (x.above y c (PySem.mem_of_lookup h))
  · have hi : i < vs.length := by
      unfold start at h2
      by_cases hi : i < vs.length
      · exact hi
      · rw [List.getElem?_append_right (by simpa using hi)] at h2
        rw [List.getElem?_replicate] at h2
        split at h2 <;> cases h2
    have ha : vs[i]? = some v := by
      unfold start at h2
      rw [List.getElem?_append_left (by simpa using hi), List.getElem?_map] at h2
      cases e : vs[i]? with
      | none => rw [e] at h2; cases h2
      | some a => rw [e] at h2; cases h2; rfl
    obtain ⟨u, hu, rv⟩ := r.get ha
    have hp : ps[i]? = some y := by
      rw [← S.pre, List.getElem?_take_of_lt (by omega)]; exact h1
    have ndP : ps.Nodup := by rw [← S.pre]; exact S.nd.sublist (List.take_sublist _ _)
    refine ⟨u, rv, ?_⟩
    rcases S.par y (List.mem_of_getElem? hp) with k | k
    · exact .inl ⟨k, bindL_get ndP hp hu k⟩
    · obtain ⟨c, e⟩ := cell_has (n := s.heap.objs.size + 1) k
      refine .inr ⟨.inl k, c, e, ?_⟩
      have q := x.cell y c e
      rw [bindC_get ndP hp hu (by show scope.names.lookup y ≠ _; rw [k]; decide)] at q
      exact q
  · exact e0.hok.fresh (Nat.le_of_lt (x.above y c (PySem.mem_of_lookup h)))
  · unfold start
    show _ = N.length
    rw [List.length_append, List.length_map, List.length_replicate]
    omega

/-- THE RULE: a def (or a method) of the text, by its body. The body's reading t is chosen for each entry; it is run at the parameters' values -/
theorem fn_of {CX : CXT} {P : Program} {w : World} {K : PySem.W.Frag} {mg : Str → Option Value} {base : Heap} {k : Nat} {f : Addr} {name qual : Str} {params : Arguments} {body : List Stmt} {scope : Scope} {dV kV doc pm cdv ct oc : Value} {an od : Option Addr}
    {osl : Array (Option Value)} {N ps : List Str} {sp : Sp} (lk : K.lookup f = some ⟨oc, od, .func (PySem.W.fnOf name qual params body scope dV kV doc pm an cdv ct), osl⟩) (hcd : PySem.W.codeIn K cdv qual = true) (S : FnScope N ps scope)
    (len : ∀ vs H Q E, sp vs H Q E → vs.length = ps.length)
    (hbody : ∀ (A : Around) (outer : List Env) (s : Shared) (H : Hp) (vs : List V) (Q : VK) (E : XK), Room k (A.deeper (envOfC qual scope s.heap.objs.size f cdv)) → sp vs H Q E →
      ∃ t, PSs (cxOf CX P w K mg base N qual scope f cdv A outer s H E) body t ∧ t { nx := fun _ H' => Q .non H', rt := Q } (start N vs) H) :
    FnOk P w K mg base CX (k + 1) f (PySem.W.fnOf name qual params body scope dV kV doc pm an cdv ct) ps sp := by
  refine ⟨len, fun A outer s H args us vs Q E hr e0 hb r hsp => ?_⟩
  have hl := len _ _ _ _ hsp
  have KX : K.In s.heap := e0.mod.kin.keeps fun b o e => (e0.bs b o e).1
  have lim : s.heap.NoLimit := e0.mod.nolimit.keeps fun b o e => (e0.bs b o e).1
  have hkind : ∀ y ∈ ps.zip us, scope.names.lookup y.1 = some .local ∨ (scope.names.lookup y.1 = some .cell ∧ ((cellsFrom (s.heap.objs.size + 1) scope.names []).lookup y.1).isSome = true) := fun ⟨n, v⟩ hy => by
    rcases S.par n (List.of_mem_zip hy).1 with q | q
    · exact .inl q
    · exact .inr ⟨q, PySem.W.cellsFrom_some _ _ _ (.inl q)⟩
  refine codeAny_call_function hr.depth (KX _ _ lk) rfl S.co S.gen rfl (PySem.W.codeRec_of KX hcd) (hb _ _ _ _ ?_)
  refine wpAny_newFunctionEnv_cells S.kind hkind fun env he s1 x => ?_
  subst he
  refine ⟨lim.keeps x.toInCall.keep, codeAny_func ?_⟩
  obtain ⟨t, ht, hq⟩ := hbody A outer s H vs Q E (hr.deeper _) hsp
  have I : Inv (cxOf CX P w K mg base N qual scope f cdv A outer s H E) [] (start N vs) H s1 := inv_start S hr.hd e0 hl r x
  refine wpAny_mono (ht [] s1 (start N vs) H _ I hq) (fun fl s' hs => ?_) fun e s' hs => hs
  have fin : ∀ {σ' : St} {H' : Hp} {v : V} {u : Value}, Inv (cxOf CX P w K mg base N qual scope f cdv A outer s H E) [] σ' H' s' → RelV v u → Q v H' → CE outer P w H s Q u s' :=
    fun {σ' H' v u} J rv q => ⟨v, H', J.os, J.bare, J.base, J.hok, rv, q⟩
  cases fl with
  | ret u =>
    obtain ⟨v, σ', H', J, rv, q⟩ := hs
    exact fin J rv q
  | next =>
    obtain ⟨σ', H', J, q⟩ := hs
    exact fin (v := V.non) (u := Value.none) J rfl q
  | brk =>
    obtain ⟨_, _, _, q⟩ := hs
    exact False.elim q
  | cont =>
    obtain ⟨_, _, _, q⟩ := hs
    exact False.elim q
end L2

namespace L2
open PySem PySem.Spec PyProof.Rows
section
variable {X : Cx} {x : Str} {p pos : Pos} {e : Expr} {es : List Expr} {t : TA} {id T : String} {r : List V → Hp → VK → Prop}

def tCB (r : List V → Hp → VK → Prop) (t : TA) : TE := fun σ H Q => t σ H fun vs H1 => r vs H1 Q
/-- f(e, ..), f a built-in function -/
theorem pe_callB (hc : CallR X (.builtin id) r) (hg : Gl X x) (hm : X.mg x = none) (hv : bootBuiltins x = some (.builtin id)) (ha : PA X (e :: es) t) (hn : x ≠ "__name__" := by decide) (hdb : (x == ("__debug__" : Str)) = false := by decide)
    (he : starEach (e :: es) X.env = (false, eval e X.env) :: starEach es X.env := by rfl) (hpl : (backTo pos (starEach es X.env)).any (·.1) = false := by rfl) : PE X (.Call (.Name x p) (e :: es) [] pos) (tCB r t) := by
  intro pins s σ H Q I h
  refine wpAny_Call_Name_kw (ld_blt I hg hm hv ?_ hn hdb)
  exact PyProof.Rows.callWith_builtin1 (thn (ha pos pins s σ H _ I h) fun us s1 ⟨vs, H1, I1, r1, q1⟩ => hc pins s1 σ H1 vs us Q I1 r1 q1) he hpl
/-- T(e, ..), T a built-in type -/
theorem pe_callTy (hc : CallR X (.type T) r) (hg : Gl X x) (hm : X.mg x = none) (hv : bootBuiltins x = some (.type T)) (ha : PA X (e :: es) t) (hn : x ≠ "__name__" := by decide) (hdb : (x == ("__debug__" : Str)) = false := by decide)
    (he : starEach (e :: es) X.env = (false, eval e X.env) :: starEach es X.env := by rfl) (hpl : (backTo pos (starEach es X.env)).any (·.1) = false := by rfl) : PE X (.Call (.Name x p) (e :: es) [] pos) (tCB r t) := by
  intro pins s σ H Q I h
  refine wpAny_Call_Name_kw (ld_blt I hg hm hv ?_ hn hdb)
  exact PyProof.Rows.callWith_type1 (thn (ha pos pins s σ H _ I h) fun us s1 ⟨vs, H1, I1, r1, q1⟩ => hc pins s1 σ H1 vs us Q I1 r1 q1) he hpl
end
end L2

namespace HT
open PySem PyProof.Rows

/-- t < u of tuples of ints -/
def lexLt : List Int → List Int → Bool
  | [], [] => false
  | [], _ :: _ => true
  | _ :: _, [] => false
  | x :: xs, y :: ys => if x = y then lexLt xs ys else decide (x < y)
section
open PySem.SeqAt
open PySem.AutoSeq1 (wpAny_loadPart')
open PySem.MeetsSeq PySem.MeetsSeq2 PySem.MeetsSeq3

end

section
variable {prog : Program} {w : World} {A : Around} {E : Value → Shared → Prop} {s : Shared}

/-! ### t[a:b], not the whole -/
/-- a slice's bound as a place among n (d where it is left out) -/
def sIx (n d : Nat) : Option Int → Nat
  | none => d
  | some v => if v < 0 then (v + (n : Int)).toNat else min v.toNat n
theorem sIx_none (n d : Nat) : sIx n d none = d := rfl
theorem sIx_nat (n d k : Nat) : sIx n d (some (k : Int)) = min k n := by
  show (if (k : Int) < 0 then ((k : Int) + (n : Int)).toNat else min (k : Int).toNat n) = min k n
  rw [if_neg (by omega), Int.toNat_natCast]
end
end HT

namespace L2
open PySem PySem.Spec PyProof.Rows

/-! ### the parts of a slice -/
abbrev TO := St → Hp → (Option Int → Hp → Prop) → Prop
/-- a slice's part (left out, or an int) -/
def PO (X : Cx) (e : Option Expr) (t : TO) : Prop :=
  ∀ (pins : List (Addr × Obj)) (s : Shared) (σ : St) (H : Hp) (Q : Option Int → Hp → Prop), Inv X pins σ H s → t σ H Q →
    wpAny (model X.prog X.w) X.A (evalPart e X.env) (fun u s' => ∃ o H', Inv X pins σ H' s' ∧ IsPart u o ∧ Q o H') X.xe s
def tNoPart : TO := fun _ H Q => Q none H
def tPart (t : TE) : TO := fun σ H Q => t σ H fun x H1 => ∃ i, x = .int i ∧ Q (some i) H1

section
variable {X : Cx} {e : Expr} {te : TE} {lo hi : Option Expr} {tl th : TO} {pos p2 : Pos}

theorem po_none : PO X none tNoPart := by
  intro pins s σ H Q I h
  rw [evalPart_none]
  exact wpAny_pure ⟨none, H, I, .none, h⟩
theorem po_some (h : PE X e te) : PO X (some e) (tPart te) := by
  intro pins s σ H Q I hw
  rw [evalPart_some]
  refine thn (h pins s σ H _ I hw) fun u s1 ⟨x, H1, I1, r1, q1⟩ => ?_
  obtain ⟨i, rfl, q⟩ := q1
  obtain ⟨t, rfl⟩ := r1
  exact ⟨some i, H1, I1, .int i t, q⟩

/-- what a slice of a value is, by values: the slice object stands at sl -/
def SlR (X : Cx) (r : V → Option Int → Option Int → Hp → VK → Prop) : Prop :=
  ∀ (pins : List (Addr × Obj)) (s : Shared) (σ : St) (H : Hp) (x : V) (v vl vu : Value) (lo hi : Option Int) (sl : Addr) (Q : VK), Inv X pins σ H s → RelV x v → s.heap.IsSliceOf sl vl vu .none → IsPart vl lo → IsPart vu hi → r x lo hi H Q →
    ∃ T id, typeLookup (.type T) "__getitem__" = pure (some (.builtin id)) ∧ s.TypeIs v T ∧ wpAny (model X.prog X.w) X.A (getItem v (.ref sl)) (EP X pins σ Q) X.xe s
def tSl (r : V → Option Int → Option Int → Hp → VK → Prop) (te : TE) (tl th : TO) : TE := fun σ H Q => te σ H fun x H1 => tl σ H1 fun l H2 => th σ H2 fun u H3 => r x l u H3 Q
/-- a[lo:hi], any a -/
theorem pe_slice {r : V → Option Int → Option Int → Hp → VK → Prop} (hr : SlR X r) (he : PE X e te) (hl : PO X lo tl) (hu : PO X hi th) : PE X (.Subscript e (.Slice lo hi none p2) pos) (tSl r te tl th) := by
  intro pins s σ H Q I h
  refine Subscript_ (thn (he pins s σ H _ I h) fun v s1 ⟨x, H1, I1, r1, q1⟩ => ?_)
  refine wpAny_Slice (thn (hl pins s1 σ H1 _ I1 q1) fun vl s2 ⟨l, H2, I2, pl, q2⟩ => thn (hu pins s2 σ H2 _ I2 q2) fun vu s3 ⟨u, H3, I3, pu, q3⟩ => ?_)
  rw [evalPart_none]
  refine wpAny_pure ?_
  have I4 : Inv X pins σ H3 { s3 with heap := s3.heap.push { cls := .type "slice", data := .fields #[vl, vu, .none] } } := I3.kept (t' := s3.toks) fun b ob q => Heap.get?_push_of_some _ q
  obtain ⟨T, id, hT, ht, hg⟩ := hr pins { s3 with heap := s3.heap.push { cls := .type "slice", data := .fields #[vl, vu, .none] } } σ H3 x v vl vu l u s3.heap.objs.size Q I4 r1 (Heap.IsSliceOf.new ..) pl pu q3
  show wpAny (model X.prog X.w) X.A (subscriptTail e (.Slice lo hi none p2) v (.ref s3.heap.objs.size)) (EP X pins σ Q) X.xe { s3 with heap := s3.heap.push { cls := .type "slice", data := .fields #[vl, vu, .none] } }
  exact tail_any (ops := [.ref s3.heap.objs.size, v]) ht hT hg (by with_unfolding_all rfl)

/-- the items of xs[lo:hi] -/
def cutV (xs : List V) (lo hi : Option Int) : List V := (xs.drop (HT.sIx xs.length 0 lo)).take (HT.sIx xs.length xs.length hi - HT.sIx xs.length 0 lo)
theorem cutV_length (xs : List V) (lo hi : Option Int) : (cutV xs lo hi).length ≤ xs.length := by
  unfold cutV
  rw [List.length_take, List.length_drop]
  omega
/-- t[lo:hi], not the whole of it (the whole would be t itself) -/
def rSlT (K : PySem.W.Frag) : V → Option Int → Option Int → Hp → VK → Prop := fun x lo hi H Q => ∃ a xs, x = .ref a ∧ SqT K H a xs ∧
  ¬ (HT.sIx xs.length 0 lo = 0 ∧ HT.sIx xs.length xs.length hi = xs.length) ∧ ∀ p, H p = none → Q (.ref p) (upd H p (.tup (cutV xs lo hi)))
/-! ### t < u, t + u -/
def rLtT (K : PySem.W.Frag) : R2 := fun x y H Q => ∃ a b ns ms, x = .ref a ∧ y = .ref b ∧ SqT K H a (ns.map V.int) ∧ SqT K H b (ms.map V.int) ∧ Q (.bl (HT.lexLt ns ms)) H
/-- t + u, t not empty: u empty gives t itself -/
def rCatT (K : PySem.W.Frag) : R2 := fun x y H Q => ∃ a b xs ys, x = .ref a ∧ y = .ref b ∧ SqT K H a xs ∧ SqT K H b ys ∧ xs ≠ [] ∧ xs.length + ys.length ≤ sizeLine ∧
  (ys = [] → Q (.ref a) H) ∧ (ys ≠ [] → ∀ p, H p = none → Q (.ref p) (upd H p (.tup (xs ++ ys))))
end
end L2

namespace L2
open PySem PySem.Spec PyProof.Rows

/-! ### places -/
/-- the place that an index of any sign means -/
def ixN (n : Nat) (i : Int) : Option Nat := if 0 ≤ i then (if i < n then some i.toNat else none) else if -(n : Int) ≤ i then some (i + n).toNat else none
def atI {α : Type} (xs : List α) (i : Int) : Option α := (ixN xs.length i).bind fun j => xs[j]?
theorem ixN_seq {n : Nat} {i : Int} {j : Nat} (h : ixN n i = some j) : seqIndex? i n = some j ∧ j < n ∧ -(n : Int) ≤ i ∧ i < n := by
  unfold ixN at h
  by_cases h0 : 0 ≤ i
  · rw [if_pos h0] at h
    by_cases h1 : i < n
    · rw [if_pos h1] at h
      have e : i.toNat = j := Option.some.inj h
      exact ⟨by rw [seqIndex_of h0 h1, e], by omega, by omega, h1⟩
    · rw [if_neg h1] at h; cases h
  · rw [if_neg h0] at h
    by_cases h1 : -(n : Int) ≤ i
    · rw [if_pos h1] at h
      have e : (i + n).toNat = j := Option.some.inj h
      exact ⟨by rw [seqIndex_neg (by omega) h1, e], by omega, h1, by omega⟩
    · rw [if_neg h1] at h; cases h
theorem atI_get {α : Type} {xs : List α} {i : Int} {v : α} (h : atI xs i = some v) : ∃ j, seqIndex? i xs.length = some j ∧ xs[j]? = some v ∧ j < xs.length ∧ -(xs.length : Int) ≤ i ∧ i < xs.length := by
  unfold atI at h
  cases e : ixN xs.length i with
  | none => rw [e] at h; cases h
  | some j =>
    rw [e] at h
    obtain ⟨h1, h2, h3, h4⟩ := ixN_seq e
    exact ⟨j, h1, h, h2, h3, h4⟩
theorem atI_nat {α : Type} {xs : List α} {j : Nat} {v : α} (h : xs[j]? = some v) : atI xs (j : Int) = some v := by
  have hj : j < xs.length := (List.getElem?_eq_some_iff.mp h).1
  have e : ixN xs.length (j : Int) = some j := by
    unfold ixN
    rw [if_pos (by omega), if_pos (by omega)]; simp
  unfold atI; rw [e]; exact h
/-! ### what may be subscripted -/
/-- what stands as an index of a plain subscript -/
def PlainIx (b : Expr) : Prop := ∀ o i, subscripted b false o i = operate [o, i] (getItem o i)
/-- a subscript by values -/
def IxR (X : Cx) (r : R2) : Prop :=
  ∀ (value slice : Expr) (pins : List (Addr × Obj)) (s : Shared) (σ : St) (H : Hp) (x y : V) (v u : Value) (Q : VK), Inv X pins σ H s → RelV x v → RelV y u → r x y H Q →
    subscripted slice false v u = operate [v, u] (getItem v u) → wpAny (model X.prog X.w) X.A (subscriptTail value slice v u) (EP X pins σ Q) X.xe s
/-- a call of a builtin's method by values: the receiver, the arguments -/
def MtR (X : Cx) (id : String) (r : V → List V → Hp → VK → Prop) : Prop :=
  ∀ (pins : List (Addr × Obj)) (s : Shared) (σ : St) (H : Hp) (x : V) (xs : List V) (v : Value) (us : List Value) (Q : VK), Inv X pins σ H s → RelV x v → Vals xs us → r x xs H Q →
    wpAny (model X.prog X.w) X.A (call (.builtin id) (v :: us)) (EP X pins σ Q) X.xe s
section
variable {X : Cx} {a b : Expr} {ta tb : TE} {pos : Pos}
/-- a[b] -/
theorem pe_ix {r : R2} (hr : IxR X r) (ha : PE X a ta) (hb : PE X b tb) (hs : PlainIx b) : PE X (.Subscript a b pos) (tOp r ta tb) := by
  intro pins s σ H Q I h
  exact Subscript_ (binT ha hb I h fun v u s2 x y H2 I2 rx ry q => hr a b pins s2 σ H2 x y v u Q I2 rx ry q (hs _ _))

def rIxL (K : PySem.W.Frag) : R2 := fun x y H Q => ∃ p xs i v, x = .ref p ∧ y = .int i ∧ SqL K H p xs ∧ atI xs i = some v ∧ Q v H
def rIxT (K : PySem.W.Frag) : R2 := fun x y H Q => ∃ p xs i v, x = .ref p ∧ y = .int i ∧ SqT K H p xs ∧ atI xs i = some v ∧ Q v H
def rIxS : R2 := fun x y H Q => ∃ z i c, x = .str z ∧ y = .int i ∧ z.length ≤ sizeLine ∧ atI z.cps.toList i = some c ∧ Q (.str ⟨#[c]⟩) H
theorem ix_list : IxR X (rIxL X.K) := by
  intro value slice pins s σ H x y v u Q I rx ry h hs
  obtain ⟨p, xs, i, z, rfl, rfl, hq, he, q⟩ := h
  cases rx
  obtain ⟨t, rfl⟩ := ry
  obtain ⟨its, r, pl, hz⟩ := I.list hq
  obtain ⟨j, h1, h2, h3, h4, h5⟩ := atI_get he
  obtain ⟨w, ew, rw'⟩ := r.get h2
  have hl := r.length
  have hn := line63
  have fin : EP X pins σ Q w s := ⟨z, H, I, rw', q⟩
  by_cases h0 : 0 ≤ i
  · have hj : i.toNat = j := by
      rw [seqIndex_of h0 h5] at h1
      exact Option.some.inj h1
    exact item_listR pl.isList h0 (by omega) (by rw [hj]; simpa using ew) fin hs
  · have hj : (i + (its.toArray.size : Int)).toNat = j := by
      rw [seqIndex_neg (by omega) h4] at h1
      rw [List.size_toArray, ← hl]
      exact Option.some.inj h1
    exact subscriptTail_builtinR (x := w) pl.isList.typeIs slot_list_getitem.lookup
      (wpAny_getItem_list_neg (Q := fun r s' => r = w ∧ EP X pins σ Q r s') pl.isList (by omega) (by rw [List.size_toArray] <;> omega) (by omega) (by rw [hj]; simpa using ew) ⟨rfl, fin⟩) hs
theorem ix_tup : IxR X (rIxT X.K) := by
  intro value slice pins s σ H x y v u Q I rx ry h hs
  obtain ⟨p, xs, i, z, rfl, rfl, hq, he, q⟩ := h
  cases rx
  obtain ⟨t, rfl⟩ := ry
  obtain ⟨its, r, pl, hz⟩ := I.tuple hq
  obtain ⟨j, h1, h2, h3, h4, h5⟩ := atI_get he
  obtain ⟨w, ew, rw'⟩ := r.get h2
  have hl := r.length
  have hn := line63
  have fin : EP X pins σ Q w s := ⟨z, H, I, rw', q⟩
  exact subscriptTail_builtinR (x := w) pl.typeIs slot_tuple_getitem.lookup
    (getItem_tuple (j := j) (Q := fun r s' => r = w ∧ EP X pins σ Q r s') pl (by omega) (by omega) (by rw [List.size_toArray, ← hl]; exact h1) (by simpa using ew) ⟨rfl, fin⟩) hs
theorem ix_str : IxR X rIxS := by
  intro value slice pins s σ H x y v u Q I rx ry h hs
  obtain ⟨z, i, c, rfl, rfl, hz, he, q⟩ := h
  obtain ⟨t, rfl⟩ := rx
  obtain ⟨t', rfl⟩ := ry
  obtain ⟨j, h1, h2, h3, h4, h5⟩ := atI_get he
  have hl : z.cps.toList.length = z.length := by simp [Str.length]
  rw [hl] at h1 h4 h5
  have hn := line63
  exact tail_any (typeIs_str s z t) slot_str_getitem.lookup (getItem_str (c := c) (by
    have e1 : decide (i < -(2 ^ 63 : Int)) = false := decide_eq_false (by omega)
    have e2 : decide (i ≥ 2 ^ 63) = false := decide_eq_false (by omega)
    rw [e1, e2, Bool.or_false]) (by rw [h1]; simpa using h2) ⟨.str ⟨#[c]⟩, H, I.tok _, ⟨_, rfl⟩, q⟩) hs
/-- list, tuple or str -/
def rIx (K : PySem.W.Frag) : R2 := fun x y H Q => rIxL K x y H Q ∨ rIxT K x y H Q ∨ rIxS x y H Q
/-! ### xs[i] = v, any sign -/
/-- the list's object behind a store -/
theorem mapSeq_set (its : List Value) (n j : Nat) (u : Value) : Obj.mapSeq (·.setIfInBounds j u) { cls := .type "list", data := .seq its.toArray n } = { cls := .type "list", data := .seq (its.set j u).toArray n } := by
  simp [Obj.mapSeq]
theorem Inv.lst {pins : List (Addr × Obj)} {σ : St} {H : Hp} {s : Shared} {p : Addr} {xs : List V} (I : Inv X pins σ H s) (h : H p = some (.lst xs)) :
    ∃ (its : List Value) (n : Nat), Vals xs its ∧ s.heap.get? p = some { cls := .type "list", data := .seq its.toArray n } ∧ xs.length ≤ sizeLine := by
  obtain ⟨z, its, n, r, e⟩ := I.hok p _ h
  exact ⟨its, n, r, e, z⟩
/-- the list at p is written by an update of its object -/
theorem Inv.lstUpd {pins : List (Addr × Obj)} {σ : St} {H : Hp} {s : Shared} {p : Addr} {xs ys : List V} {its its' : List Value} {n n' : Nat} {f : Obj → Obj} (I : Inv X pins σ H s) (h : H p = some (.lst xs))
    (ho : s.heap.get? p = some { cls := .type "list", data := .seq its.toArray n }) (hf : f { cls := .type "list", data := .seq its.toArray n } = { cls := .type "list", data := .seq its'.toArray n' }) (r : Vals ys its') (hz : ys.length ≤ sizeLine) (t : Nat) :
    Inv X pins σ (upd H p (.lst ys)) { s with heap := s.heap.update p f, toks := t } := by
  have e : (s.heap.update p f).get? p = some { cls := .type "list", data := .seq its'.toArray n' } := by
    rw [Heap.get?_update_self f ho (by rw [hf] <;> rfl), hf]
  refine I.write (x := p) (e := p) (by rw [h]; trivial) (.inl rfl) (fun b u hb q => (Heap.get?_update_other _ _ (Ne.symm hb)).trans q) ⟨_, e⟩ ?_
  exact ⟨hz, its', n', r, e⟩
def rSetL : V → V → V → Hp → (Hp → Prop) → Prop := fun o i v H Q => ∃ p xs k j, o = .ref p ∧ i = .int k ∧ H p = some (.lst xs) ∧ ixN xs.length k = some j ∧ Q (upd H p (.lst (xs.set j v)))
theorem set_list : PSet X rSetL := by
  intro pins s σ H o i v ov iv u Q I ro ri rv h
  obtain ⟨p, xs, k, j, rfl, rfl, hp, hj, q⟩ := h
  cases ro
  obtain ⟨t, rfl⟩ := ri
  obtain ⟨its, n, r, ho, hz⟩ := I.lst hp
  obtain ⟨h1, h2, h3, h4⟩ := ixN_seq hj
  have hl := r.length
  have hn := line63
  have I' : Inv X pins σ (upd H p (.lst (xs.set j v))) { s with heap := s.heap.update p (Obj.mapSeq (·.setIfInBounds j u)) } :=
    I.lstUpd hp ho (mapSeq_set its n j u) (r.set rv j) (by rw [List.length_set]; exact hz) s.toks
  by_cases h0 : 0 ≤ k
  · have hk : k.toNat = j := by
      rw [seqIndex_of h0 h4] at h1
      exact Option.some.inj h1
    exact PySem.W.ki_setAt ho h0 (by omega) (by rw [List.size_toArray, ← hl]; exact h4) (by rw [hk]; exact ⟨_, I', q⟩)
  · have hk : (k + (its.toArray.size : Int)).toNat = j := by
      rw [seqIndex_neg (by omega) h3] at h1
      rw [List.size_toArray, ← hl]
      exact Option.some.inj h1
    exact PySem.W.ki_setBack ho (by omega) (by rw [List.size_toArray, ← hl]; exact h3) (by omega) (by rw [hk]; exact ⟨_, I', q⟩)

/-! ### slices -/
theorem slice_bounds (lo hi : Option Int) (n : Nat) : (sliceBounds lo hi none n).1 = ((HT.sIx n 0 lo : Nat) : Int) ∧ (sliceBounds lo hi none n).2.1 = ((HT.sIx n n hi : Nat) : Int) ∧ (sliceBounds lo hi none n).2.2 = 1 := by
  refine ⟨?_, ?_, rfl⟩
  · cases lo with
    | none => simp [sliceBounds, HT.sIx]
    | some i =>
      simp only [sliceBounds, HT.sIx, Option.getD_none, show (1 : Int) > 0 by decide, if_true]
      by_cases h : i < 0
      · simp only [h, if_true] <;> omega
      · simp only [h, if_false] <;> omega
  · cases hi with
    | none => simp [sliceBounds, HT.sIx]
    | some i =>
      simp only [sliceBounds, HT.sIx, Option.getD_none, show (1 : Int) > 0 by decide, if_true]
      by_cases h : i < 0
      · simp only [h, if_true] <;> omega
      · simp only [h, if_false] <;> omega
theorem slicePick_cut (its : List Value) (lo hi : Option Int) : slicePick its.toArray lo hi none = ((its.drop (HT.sIx its.length 0 lo)).take (HT.sIx its.length its.length hi - HT.sIx its.length 0 lo)).toArray := by
  obtain ⟨h1, h2, h3⟩ := slice_bounds lo hi its.toArray.size
  unfold slicePick
  rw [h1, h2, h3]
  simp only [sliceRange_one, pick_run, List.size_toArray] <;> rfl
/-- xs[lo:hi] of a list: a new list -/
def rSlL (K : PySem.W.Frag) : V → Option Int → Option Int → Hp → VK → Prop := fun x lo hi H Q => ∃ a xs, x = .ref a ∧ SqL K H a xs ∧ ∀ p, H p = none → Q (.ref p) (upd H p (.lst (cutV xs lo hi)))
theorem sl_list : SlR X (rSlL X.K) := by
  intro pins s σ H x v vl vu lo hi sl Q I rx hs pl pu h
  obtain ⟨a, xs, rfl, hx, q⟩ := h
  cases rx
  obtain ⟨its, r, ht, hz⟩ := I.list hx
  have hlen := r.length
  refine ⟨"list", _, slot_list_getitem.lookup, ht.isList.typeIs, ?_⟩
  refine wpAny_getItem_list_slice ht.isList hs pl pu .none (by simp) ?_ (by rw [List.size_toArray] <;> omega)
  rw [slicePick_cut, ← hlen]
  refine ⟨.ref s.heap.objs.size, _, I.laid (t' := s.toks) (o := .lst (cutV xs lo hi)) (fun b ob q => Heap.get?_push_of_some _ q) (Nat.le_refl _) ?_, rfl, q _ (I.hok.fresh (Nat.le_refl _))⟩
  exact ⟨Nat.le_trans (cutV_length xs lo hi) hz, _, 0, (r.drop (HT.sIx xs.length 0 lo)).take (HT.sIx xs.length xs.length hi - HT.sIx xs.length 0 lo), Heap.get?_push_size _ rfl⟩

/-! ### in, not in: flat items -/
def flatV : V → Bool
  | .non => true
  | .bl _ => true
  | .int _ => true
  | .str _ => true
  | _ => false
/-- == of flat values -/
def eqV : V → V → Bool
  | .non, .non => true
  | .bl a, .bl b => a == b
  | .bl a, .int b => (if a then 1 else 0) == b
  | .int a, .bl b => a == (if b then 1 else 0)
  | .int a, .int b => a == b
  | .str a, .str b => a == b
  | _, _ => false
theorem eqAt_V {A : Around} {s : Shared} {y x : V} {u v : Value} (ry : RelV y u) (rx : RelV x v) (fy : flatV y = true) (fx : flatV x = true) : SeqAt.EqAt A s u v (eqV y x) := by
  cases y with
  | non =>
    cases ry
    cases x with
    | non => cases rx; exact SeqAt.EqAt.same _
    | bl b => cases rx; exact SeqAt.EqAt.none_bool b
    | int b => obtain ⟨t, rfl⟩ := rx; exact SeqAt.EqAt.none_int b t
    | str b => obtain ⟨t, rfl⟩ := rx; exact SeqAt.EqAt.none_str b t
    | _ => exact absurd (show false = true from fx) Bool.false_ne_true
  | bl a =>
    cases ry
    cases x with
    | non => cases rx; exact SeqAt.EqAt.bool_none a
    | bl b => cases rx; exact SeqAt.EqAt.bool_bool a b
    | int b => obtain ⟨t, rfl⟩ := rx; exact SeqAt.EqAt.bool_int a b t
    | str b => obtain ⟨t, rfl⟩ := rx; exact SeqAt.EqAt.bool_str a b t
    | _ => exact absurd (show false = true from fx) Bool.false_ne_true
  | int a =>
    obtain ⟨t', rfl⟩ := ry
    cases x with
    | non => cases rx; exact SeqAt.EqAt.int_none a t'
    | bl b => cases rx; exact SeqAt.EqAt.int_bool a t' b
    | int b => obtain ⟨t, rfl⟩ := rx; exact SeqAt.EqAt.int_int a t' b t
    | str b => obtain ⟨t, rfl⟩ := rx; exact SeqAt.EqAt.int_str a t' b t
    | _ => exact absurd (show false = true from fx) Bool.false_ne_true
  | str a =>
    obtain ⟨t', rfl⟩ := ry
    cases x with
    | non => cases rx; exact SeqAt.EqAt.str_none a t'
    | bl b => cases rx; exact SeqAt.EqAt.str_bool a t' b
    | int b => obtain ⟨t, rfl⟩ := rx; exact SeqAt.EqAt.str_int a t' b t
    | str b => obtain ⟨t, rfl⟩ := rx; exact SeqAt.EqAt.str_str a t' b t
    | _ => exact absurd (show false = true from fx) Bool.false_ne_true
  | _ => exact absurd (show false = true from fy) Bool.false_ne_true
/-- the items' answers, read off the values (a value's own answer does not lean on its token) -/
def eqU (x : V) (u : Value) : Bool := match u with
  | .none => eqV .non x
  | .bool b => eqV (.bl b) x
  | .int i _ => eqV (.int i) x
  | .str z _ => eqV (.str z) x
  | _ => false
theorem eqU_of {x y : V} {u : Value} (r : RelV y u) (f : flatV y = true) : eqU x u = eqV y x := by
  cases y with
  | non => cases r; rfl
  | bl b => cases r; rfl
  | int i => obtain ⟨t, rfl⟩ := r; rfl
  | str z => obtain ⟨t, rfl⟩ := r; rfl
  | _ => exact absurd (show false = true from f) Bool.false_ne_true
theorem any_eqU {x : V} : ∀ {xs : List V} {us : List Value}, Vals xs us → xs.all flatV = true → us.any (eqU x) = xs.any fun y => eqV y x
  | _, _, .nil, _ => rfl
  | y :: xs, u :: us, .cons r t, f => by
    rw [List.all_cons, Bool.and_eq_true] at f
    rw [List.any_cons, List.any_cons, eqU_of r f.1, any_eqU t f.2]
theorem mem_eqAt {A : Around} {s : Shared} {x : V} {v : Value} (rx : RelV x v) (fx : flatV x = true) : ∀ {xs : List V} {us : List Value}, Vals xs us → xs.all flatV = true → ∀ u ∈ us, SeqAt.EqAt A s u v (eqU x u)
  | _, _, .nil, _ => fun u hu => by cases hu
  | y :: xs, u :: us, .cons r t, f => fun u' hu => by
    rw [List.all_cons, Bool.and_eq_true] at f
    rcases List.mem_cons.mp hu with rfl | hu
    · rw [eqU_of r f.1]; exact eqAt_V r rx f.1 fx
    · exact mem_eqAt rx fx t f.2 u' hu
def inV (x : V) (xs : List V) : Bool := xs.any fun y => eqV y x
/-- x in a list or tuple of flat items -/
def rIn (K : PySem.W.Frag) (neg : Bool) : R2 := fun x y H Q => ∃ p xs, y = .ref p ∧ (SqL K H p xs ∨ SqT K H p xs) ∧ flatV x = true ∧ xs.all flatV = true ∧ Q (.bl (if neg then !inV x xs else inV x xs)) H
theorem op_notIn_seq : OpR X (compareOp .NotIn) (rIn X.K true) := by
  intro pins s σ H x y v u Q I rx ry h
  obtain ⟨p, xs, rfl, hq, fx, fs, q⟩ := h
  cases ry
  rcases hq with hq | hq
  · obtain ⟨its, r, pl, hz⟩ := I.list hq
    refine SeqAt.notIn_listAt (eqU x) pl.isList (fun w hw => mem_eqAt rx fx r fs w (by simpa using hw)) ⟨.bl _, H, I, rfl, ?_⟩
    rw [show its.toArray.any (eqU x) = its.any (eqU x) by simp, any_eqU r fs]
    exact q
  · obtain ⟨its, r, pl, hz⟩ := I.tuple hq
    refine SeqAt.notIn_tupleAt (eqU x) pl (fun w hw => mem_eqAt rx fx r fs w (by simpa using hw)) ⟨.bl _, H, I, rfl, ?_⟩
    rw [show its.toArray.any (eqU x) = its.any (eqU x) by simp, any_eqU r fs]
    exact q
/-! ### len, list(x), tuple(x) of any list or tuple that is read -/
theorem call_len_seq : CallR X (.builtin "len") (fun xs H Q => ∃ p ys, xs = [.ref p] ∧ (SqL X.K H p ys ∨ SqT X.K H p ys) ∧ Q (.int ys.length) H) := by
  intro pins s σ H xs us Q I r h
  obtain ⟨p, ys, rfl, hq, q⟩ := h
  obtain ⟨u, rfl, rx⟩ := vals1 r
  cases rx
  have hn := line63
  rcases hq with hq | hq
  · obtain ⟨its, r', pl, hz⟩ := I.list hq
    have hlen := r'.length
    exact Calls.call_len_list pl.isList (by simp only [List.size_toArray] <;> omega) ⟨.int ys.length, H, I.tok _, ⟨s.toks + 1, by rw [List.size_toArray, hlen]⟩, q⟩
  · obtain ⟨its, r', pl, hz⟩ := I.tuple hq
    have hlen := r'.length
    exact len_tuple pl (by simp only [List.size_toArray] <;> omega) ⟨.int ys.length, H, I.tok _, ⟨s.toks + 1, by rw [List.size_toArray, hlen]⟩, q⟩
theorem call_len_str : CallR X (.builtin "len") (fun xs H Q => ∃ z, xs = [.str z] ∧ z.length ≤ sizeLine ∧ Q (.int z.length) H) := by
  intro pins s σ H xs us Q I r h
  obtain ⟨z, rfl, hz, q⟩ := h
  obtain ⟨u, rfl, t, rfl⟩ := vals1 r
  have hn := line63
  exact len_str (by omega) ⟨.int z.length, H, I.tok _, ⟨_, rfl⟩, q⟩
theorem call_list_of : CallR X (.type "list") (fun xs H Q => ∃ p ys, xs = [.ref p] ∧ (SqL X.K H p ys ∨ SqT X.K H p ys) ∧ ∀ l, H l = none → Q (.ref l) (upd H l (.lst ys))) := by
  intro pins s σ H xs us Q I r h
  obtain ⟨p, ys, rfl, hq, q⟩ := h
  obtain ⟨u, rfl, rx⟩ := vals1 r
  cases rx
  have fin : ∀ (its : List Value), Vals ys its → ys.length ≤ sizeLine → ∀ (h' : Heap) (c' : Nat), (∀ b o', s.heap.get? b = some o' → h'.get? b = some o') →
      h'.get? s.heap.objs.size = some { cls := .type "list", dict := none, data := .seq its.toArray c', slots := #[] } → EP X pins σ Q (.ref s.heap.objs.size) { s with heap := h' } := fun its r' hz h' c' kp e =>
    ⟨.ref s.heap.objs.size, _, I.laid (t' := s.toks) kp (Nat.le_refl _) (show ObjOk X.prog X.w _ h' _ (.lst ys) from ⟨hz, its, c', r', e⟩), rfl, q _ (I.hok.fresh (Nat.le_refl _))⟩
  rcases hq with hq | hq
  · obtain ⟨its, r', pl, hz⟩ := I.list hq
    have hlen := r'.length
    obtain ⟨o, ho, hc, n, hd⟩ := pl.isList
    exact call_list_seq p (.inl rfl) ho hc hd (fun h' c' kp e => fin its r' hz h' c' kp e) (by simp only [List.size_toArray] <;> omega)
  · obtain ⟨its, r', pl, hz⟩ := I.tuple hq
    have hlen := r'.length
    obtain ⟨o, ho, hc, n, hd⟩ := pl
    exact call_list_seq p (.inr rfl) ho hc hd (fun h' c' kp e => fin its r' hz h' c' kp e) (by simp only [List.size_toArray] <;> omega)
/-! ### the call of a builtin's method: o.m(..) -/
/-- the value is of that builtin type -/
def tyV (K : PySem.W.Frag) (T : String) (x : V) (H : Hp) : Prop := match x with
  | .str _ => T = "str"
  | .int _ => T = "int"
  | .ref p => (T = "list" ∧ ∃ xs, SqL K H p xs) ∨ (T = "tuple" ∧ ∃ o, K.lookup p = some o ∧ o.cls = .type "tuple" ∧ o.dict = none) ∨
      (T = "dict" ∧ ((∃ kvs, H p = some (.dK kvs)) ∨ ∃ kvs, H p = some (.dT kvs))) ∨ (T = "set" ∧ ∃ S n, H p = some (.set S n))
  | _ => False
theorem tyV_is {pins : List (Addr × Obj)} {σ : St} {H : Hp} {s : Shared} {T : String} {x : V} {v : Value} (I : Inv X pins σ H s) (r : RelV x v) (ty : tyV X.K T x H) :
    s.TypeIs v T ∧ ∀ a, v = .ref a → ∃ ob, s.heap.get? a = some ob ∧ ob.dict = none := by
  cases x with
  | str z =>
    obtain ⟨t, rfl⟩ := r
    cases (show T = "str" from ty)
    exact ⟨typeIs_str s z t, fun _ e => nomatch e⟩
  | int i =>
    obtain ⟨t, rfl⟩ := r
    cases (show T = "int" from ty)
    exact ⟨typeIs_int s i t, fun _ e => nomatch e⟩
  | ref p =>
    cases r
    rcases ty with ⟨rfl, xs, hq⟩ | ⟨rfl, o, hk, hc, hd⟩ | ⟨rfl, hk⟩ | ⟨rfl, S, n, hk⟩
    · obtain ⟨its, _, pl, _⟩ := I.list hq
      refine ⟨pl.isList.typeIs, fun a e => ?_⟩
      cases e
      obtain ⟨o, n, e, c, hd, _⟩ := pl
      exact ⟨o, e, hd⟩
    · refine ⟨⟨o, I.kIn p o hk, hc⟩, fun a e => ?_⟩
      cases e
      exact ⟨o, I.kIn _ o hk, hd⟩
    · have z : ∃ o, s.heap.get? p = some o ∧ o.ExactDict := by
        rcases hk with ⟨kvs, hk⟩ | ⟨kvs, hk⟩
        · obtain ⟨_, _, _, _, o, _, _, e, ex, _⟩ := I.hok p _ hk
          exact ⟨o, e, ex⟩
        · obtain ⟨_, _, _, _, o, _, _, e, ex, _⟩ := I.hok p _ hk
          exact ⟨o, e, ex⟩
      obtain ⟨o, e, ex⟩ := z
      refine ⟨⟨o, e, ex.1⟩, fun a e2 => ?_⟩
      cases e2
      exact ⟨o, e, ex.2.1⟩
    · obtain ⟨o, _, _, _, e, ex, _⟩ := I.hok p _ hk
      refine ⟨⟨o, e, ex.1⟩, fun a e2 => ?_⟩
      cases e2
      exact ⟨o, e, ex.2.1⟩
  | _ => exact False.elim ty
def tBM0 (K : PySem.W.Frag) (T : String) (r : V → List V → Hp → VK → Prop) (to : TE) : TE := fun σ H Q => to σ H fun x H1 => tyV K T x H1 ∧ r x [] H1 Q
def tBM (K : PySem.W.Frag) (T : String) (r : V → List V → Hp → VK → Prop) (to : TE) (t : TA) : TE := fun σ H Q => to σ H fun x H1 => tyV K T x H1 ∧ t σ H1 fun xs H2 => r x xs H2 Q
variable {o e : Expr} {es : List Expr} {to : TE} {t : TA} {name : Str} {apos cpos : Pos} {T id : String} {r : V → List V → Hp → VK → Prop}
theorem pe_bm0 (pa : PlainAttrs T) (slot : Slot T name id) (hty : typeOf (.builtin id) = pure (.type "method_descriptor")) (hm : MtR X id r) (ho : PE X o to)
    (hbase : attributeBase o name X.env (eval o X.env) = eval o X.env := by rfl) (hline : (apos.endLine == cpos.line) = true := by rfl) : PE X (.Call (.Attribute o name apos) [] [] cpos) (tBM0 X.K T r to) := by
  intro pins s σ H Q I h
  refine wpAny_Call_method0_late hbase hline (thn (ho pins s σ H _ I h) fun v s1 ⟨x, H1, I1, r1, ty, q1⟩ => ?_)
  obtain ⟨h1, h2⟩ := tyV_is I1 r1 ty
  exact ⟨T, id, pa, slot, hty, h1, h2, Calls.callWith_builtin rfl (PySem.evalArgs_none (hm pins s1 σ H1 x [] v [] Q I1 r1 .nil q1))⟩
theorem pe_bm (pa : PlainAttrs T) (slot : Slot T name id) (hty : typeOf (.builtin id) = pure (.type "method_descriptor")) (hm : MtR X id r) (ho : PE X o to) (ha : PA X (e :: es) t)
    (hbase : attributeBase o name X.env (eval o X.env) = eval o X.env := by rfl)
    (hfew : ((backTo cpos (starEach (e :: es) X.env)).all (fun x => !x.1) && (backToKw cpos (keywordEach [] X.env)).all (fun x => x.1.isSome)
      && decide ((e :: es).length + ([] : List Keyword).length + (if ([] : List Keyword).isEmpty then 0 else 1) < 30)) = true := by rfl)
    (hline : (apos.endLine == cpos.line) = true := by rfl) (hs : starEach (e :: es) X.env = (false, eval e X.env) :: starEach es X.env := by rfl) (hplain : (backTo cpos (starEach es X.env)).any (·.1) = false := by rfl) :
    PE X (.Call (.Attribute o name apos) (e :: es) [] cpos) (tBM X.K T r to t) := by
  intro pins s σ H Q I h
  refine wpAny_Call_method_late hbase hfew hline rfl (thn (ho pins s σ H _ I h) fun v s1 ⟨x, H1, I1, r1, ty, q1⟩ => ?_)
  obtain ⟨h1, h2⟩ := tyV_is I1 r1 ty
  refine ⟨T, id, pa, slot, hty, h1, h2, ?_⟩
  have hA := ha cpos pins s1 σ H1 _ I1 q1
  rw [hs] at hA ⊢
  refine Calls.callWith_builtin (by show (false || (backTo cpos (starEach es X.env)).any (·.1)) = false; rw [hplain] <;> rfl) (Calls.evalArgs_plain ?_)
  exact thn hA fun us s2 ⟨vs, H2, I2, r2, q2⟩ => hm pins s2 σ H2 x vs v us Q I2 r1 r2 q2
/- xs.append(e), list.index on a module's tuple .. are MtR facts of 06m -/
end
end L2

namespace L2
open PySem PySem.Spec PyProof.Rows

def MtM (X : Cx) (id : String) (r : V → List V → Hp → VK → Prop) : Prop :=
  ∀ (pins : List (Addr × Obj)) (s : Shared) (σ : St) (H : Hp) (x : V) (xs : List V) (v : Value) (us : List Value) (Q : VK), Inv X pins σ H s → RelV x v → Vals xs us → r x xs H Q →
    wpAny (model X.prog X.w) X.A (call (.builtin id) (v :: us)) (EP X pins σ Q) X.xe s

/-! ### lists of values -/
theorem Vals.one : ∀ {x : V} {us : List Value}, Vals [x] us → ∃ u, us = [u] ∧ RelV x u
  | _, _, .cons r .nil => ⟨_, rfl, r⟩
theorem Vals.zero : ∀ {us : List Value}, Vals [] us → us = []
  | _, .nil => rfl
theorem Vals.dropLast {xs : List V} {us : List Value} (h : Vals xs us) : Vals xs.dropLast us.dropLast := by
  induction h with
  | nil => exact .nil
  | cons r t ih =>
    cases t with
    | nil => exact .nil
    | cons q t' => exact .cons r ih
theorem erase_last {α : Type} (l : List α) : l.eraseIdx (l.length - 1) = l.dropLast := by
  induction l with
  | nil => rfl
  | cons a r ih =>
    cases r with
    | nil => rfl
    | cons b r =>
      have e : (a :: b :: r).length - 1 = ((b :: r).length - 1) + 1 := by
        have h1 : (a :: b :: r).length = r.length + 2 := rfl
        have h2 : (b :: r).length = r.length + 1 := rfl
        omega
      rw [e, List.eraseIdx_cons_succ, ih]
      all_goals rfl
section
variable {X : Cx} {pins : List (Addr × Obj)} {σ : St} {H : Hp} {s : Shared} {l b : Addr} {xs ys zs : List V}

/-! ### the two steps: a tracked list is rewritten, a new list is laid -/
theorem Inv.lset {its its' : List Value} {n : Nat} {f : Array Value → Array Value} {t' : Nat} (I : Inv X pins σ H s) (hH : H l = some (.lst xs))
    (e : s.heap.get? l = some { cls := .type "list", data := .seq its.toArray n }) (hf : f its.toArray = its'.toArray) (hv : Vals ys its') (hz : ys.length ≤ sizeLine) :
    Inv X pins σ (upd H l (.lst ys)) { s with heap := s.heap.update l (Obj.mapSeq f), toks := t' } := by
  have q := PySem.IsL.update e f
  rw [hf] at q
  refine I.write (x := l) (e := l) (by rw [hH]; exact trivial) (.inl rfl) (fun b' u hb hu => (Heap.get?_update_other s.heap (Obj.mapSeq f) (Ne.symm hb)).trans hu) ⟨_, q⟩ ?_
  exact ⟨hz, its', _, hv, q⟩
theorem Inv.lnew {its : List Value} {t' : Nat} (I : Inv X pins σ H s) (hv : Vals ys its) (hz : ys.length ≤ sizeLine) :
    Inv X pins σ (upd H s.heap.objs.size (.lst ys)) { s with heap := s.heap.push { cls := .type "list", data := .seq its.toArray }, toks := t' } :=
  I.laid (fun _ _ q => Heap.get?_push_of_some _ q) (Nat.le_refl _) ⟨hz, its, 0, hv, Heap.get?_push_size _ rfl⟩
theorem Inv.fresh (I : Inv X pins σ H s) : H s.heap.objs.size = none := I.hok.fresh (Nat.le_refl _)
theorem Inv.lstM (I : Inv X pins σ H s) (hH : H l = some (.lst xs)) : xs.length ≤ sizeLine ∧ ∃ (its : List Value) (n : Nat), Vals xs its ∧ xs.length = its.length ∧ s.heap.get? l = some { cls := .type "list", data := .seq its.toArray n } := by
  obtain ⟨z, its, n, r, e⟩ := I.hok l _ hH
  exact ⟨z, its, n, r, r.length, e⟩

end

section
variable {X : Cx}

/-! ### methods -/
def rAppend : V → List V → Hp → VK → Prop := fun x vs H Q => ∃ l xs y, x = .ref l ∧ vs = [y] ∧ H l = some (.lst xs) ∧ xs.length < sizeLine ∧ Q .non (upd H l (.lst (xs ++ [y])))
theorem mt_append : MtM X "list.append" rAppend := by
  intro pins s σ H x vs v us Q I rx rv h
  obtain ⟨l, xs, y, rfl, rfl, hH, hz, q⟩ := h
  cases rx
  obtain ⟨u, rfl, ru⟩ := rv.one
  obtain ⟨z, its, n, r, hl, e⟩ := I.lstM hH
  refine call_meets F.slot_list_append ⟨_, e, rfl⟩ F.entry_list_append (F.args_list_append_2 _ _) (PySem.list_append l its.toArray n u (by rw [List.size_toArray]; omega)) ⟨e, ?_⟩
  refine ⟨.non, _, I.lset (its' := its ++ [u]) hH e (by simp) (r.append (.cons ru .nil)) ?_, rfl, q⟩
  rw [List.length_append, List.length_singleton]
  omega

def rExtend : V → List V → Hp → VK → Prop := fun x vs H Q => ∃ l b xs zs, x = .ref l ∧ vs = [.ref b] ∧ H l = some (.lst xs) ∧ H b = some (.lst zs) ∧ xs.length + zs.length ≤ sizeLine ∧ Q .non (upd H l (.lst (xs ++ zs)))
def rPop : V → List V → Hp → VK → Prop := fun x vs H Q => ∃ l xs y, x = .ref l ∧ vs = [] ∧ H l = some (.lst xs) ∧ xs[xs.length - 1]? = some y ∧ Q y (upd H l (.lst xs.dropLast))
theorem mt_pop : MtM X "list.pop" rPop := by
  intro pins s σ H x vs v us Q I rx rv h
  obtain ⟨l, xs, y, rfl, rfl, hH, hy, q⟩ := h
  cases rx
  have hus := rv.zero
  subst hus
  obtain ⟨z, its, n, r, hl, e⟩ := I.lstM hH
  obtain ⟨u, hu, ru⟩ := r.get hy
  have hy' : its.toArray[its.toArray.size - 1]? = some u := by
    show its.toArray[its.length - 1]? = some u
    rw [← Array.getElem?_toList, ← hl]
    exact hu
  refine call_meets F.slot_list_pop ⟨_, e, rfl⟩ F.entry_list_pop (F.args_list_pop_1 _) (MeetsSeq.list_pop_last l its.toArray n u hy' (by rw [List.size_toArray]; omega)) ⟨e, ?_⟩
  refine ⟨y, _, I.lset (its' := its.dropLast) hH e ?_ r.dropLast ?_, ru, q⟩
  · show its.toArray.eraseIdxIfInBounds (its.toArray.size - 1) = its.dropLast.toArray
    rw [List.size_toArray, List.eraseIdxIfInBounds_toArray, erase_last]
  · rw [List.length_dropLast]
    omega

def rPopAt : V → List V → Hp → VK → Prop := fun x vs H Q => ∃ l xs i k y, x = .ref l ∧ vs = [.int i] ∧ H l = some (.lst xs) ∧ -(2 ^ 63) ≤ i ∧ i < 2 ^ 63 ∧ seqIndex? i xs.length = some k ∧ xs[k]? = some y ∧ Q y (upd H l (.lst (xs.eraseIdx k)))
def rReverse : V → List V → Hp → VK → Prop := fun x vs H Q => ∃ l xs, x = .ref l ∧ vs = [] ∧ H l = some (.lst xs) ∧ Q .non (upd H l (.lst xs.reverse))
def rClear : V → List V → Hp → VK → Prop := fun x vs H Q => ∃ l xs, x = .ref l ∧ vs = [] ∧ H l = some (.lst xs) ∧ Q .non (upd H l (.lst []))
theorem mt_clear : MtM X "list.clear" rClear := by
  intro pins s σ H x vs v us Q I rx rv h
  obtain ⟨l, xs, rfl, rfl, hH, q⟩ := h
  cases rx
  have hus := rv.zero
  subst hus
  obtain ⟨z, its, n, r, hl, e⟩ := I.lstM hH
  refine call_meets F.slot_list_clear ⟨_, e, rfl⟩ F.entry_list_clear (F.args_list_clear_1 _) (AutoSeq1.list_clear_list_0 l its.toArray n (by rw [List.size_toArray]; omega)) ⟨e, ?_⟩
  exact ⟨.non, _, I.lset (its' := []) (ys := []) hH e rfl .nil (Nat.zero_le _), rfl, q⟩

/-! ### list + list, list += list, list * int -/
def rCat : R2 := fun x y H Q => ∃ l b xs zs, x = .ref l ∧ y = .ref b ∧ H l = some (.lst xs) ∧ H b = some (.lst zs) ∧ xs.length + zs.length ≤ sizeLine ∧ ∀ p, H p = none → Q (.ref p) (upd H p (.lst (xs ++ zs)))
theorem op_cat : OpR X (binaryOp .Add) rCat := by
  intro pins s σ H x y v u Q I rx ry h
  obtain ⟨l, b, xs, zs, rfl, rfl, hH, hB, hz, q⟩ := h
  cases rx
  cases ry
  obtain ⟨z, its, n, r, hl, e⟩ := I.lstM hH
  obtain ⟨z2, its2, n2, r2, hl2, e2⟩ := I.lstM hB
  refine PySem.P.add_list e e2 ?_ (by rw [List.size_toArray, List.size_toArray]; omega)
  have ea : its.toArray ++ its2.toArray = (its ++ its2).toArray := by simp
  rw [ea]
  exact ⟨.ref _, _, I.lnew (t' := s.toks) (r.append r2) (by rw [List.length_append]; omega), rfl, q _ I.fresh⟩
/-- a list times an int (a negative one is nothing) -/
def rRep : R2 := fun x y H Q => ∃ l k xs, x = .ref l ∧ y = .int k ∧ H l = some (.lst xs) ∧ -(2 ^ 63) ≤ k ∧ k < 2 ^ 63 ∧ xs.length * k.toNat ≤ sizeLine ∧
  ∀ p, H p = none → Q (.ref p) (upd H p (.lst (List.replicate k.toNat xs).flatten))
/-! ### del xs[i] -/
end

/-! ### xs[a:b] = ys -/
section
variable {prog : Program} {w : World} {A : Around} {E : Value → Shared → Prop} {s : Shared}
end

section
variable {X : Cx}
end
end L2

namespace Att
open PySem PySem.W PySem.Calls PyProof.Rows

/-! ### the script -/
theorem ints_of_wellAll {P : Params} {h : Heap} : ∀ (ns : List Int) (vs : List Value), WellAll P h vs (ns.map WData.int) → IntsAre vs ns := by
  intro ns
  induction ns with
  | nil =>
    intro vs w
    rw [List.map_nil] at w
    cases w
    exact .nil
  | cons n ns ih =>
    intro vs w
    rw [List.map_cons] at w
    cases w with
    | cons a b =>
      cases a
      exact .cons _ _ (ih _ b)

theorem script_of {l : OpenLaw} {n : Nat} (hn : l.most = some n) {P : Params} {h : Heap} {args : List WData} {vals : List Value}
    (hpre : l.row.toRowW.claim.pre args = true) (hwl : WellAll P h vals args) :
    ∃ a vs ns, vals = [Value.ref a] ∧ args = [WData.list (ns.map WData.int)] ∧ h.get? a = some { cls := .type "list", data := .seq vs.toArray } ∧ IntsAre vs ns ∧ ns.length ≤ n := by
  have hsh : WShape.hasAll [] args [.list .int] = true := (pre_splitW hpre).1
  have hc : l.pre.holds [] { args := args } = true := (pre_splitW hpre).2
  obtain ⟨d, r, rfl, h1, h2⟩ := hasAllW_cons hsh
  obtain rfl := hasAllW_nil h2
  obtain ⟨xs, rfl, h3⟩ := hasW_list h1
  obtain ⟨ns, rfl⟩ := items_int h3
  have hlen : ns.length ≤ n := by
    unfold OpenLaw.pre at hc
    have h4 : (WTm.not (.lt (.lit (.int (n : Int))) (.len (.arg 0)))).holds [] { args := [.list (ns.map .int)] } = true := by
      have h4 := (holds_andW hc).1
      rw [hn] at h4
      exact h4
    have h5 := condW_of h4 (w_not (w_lt w_lit (w_len_list (w_arg rfl))))
    rw [List.length_map] at h5
    refine Nat.le_of_not_lt fun q => ?_
    have q' : (n : Int) < ((ns.length : Nat) : Int) := by omega
    first
      | (rw [decide_eq_true q'] at h5; exact absurd h5 (by decide))
      | (simp at h5; omega)
  cases hwl with
  | cons w1 w2 =>
    cases w2
    cases w1 with
    | list ho hall => exact ⟨_, _, ns, rfl, rfl, ho, ints_of_wellAll ns _ hall, hlen⟩

theorem post_true (l : OpenLaw) (args : List WData) : l.row.toRowW.claim.post args (.bool true) args = true :=
  postW_of (r := l.row.toRowW) (X := (true == true))
    (show WShape.has [] (.bool true) .bool = true by first | rfl | decide | simp [WShape.has, WShape.arms, WShape.armsAll])
    (show (WTm.eq .res (.lit (.bool true))).value [] { args := args, res := some (.bool true), after := args } = some (.bool (true == true)) from w_eq_bool (w_res rfl) w_lit) rfl

/-! ### the attachment: holds_open's last premise (the goal 'hc' behind k_head) from a wpAny of the law's body -/
/-- the same from a codeAny of the CALL (for a layer whose function contracts speak of calls) -/
theorem attach_call {l : OpenLaw} {n : Nat} {q : Program} {loose : List Str} {XP : (Str → Option Value) → Heap → Prop} {YP : World → Heap → Prop} {d : DefRec}
    (hn : l.most = some n) (hdf : d.params.defaults = [])
    (call : ∀ (w : World) (s₀ s₁ : Shared) (mg mb : Str → Option Value) (fa : Addr) (o : Obj) (pm cd doc : Value) (a : Addr) (vs : List Value) (ns : List Int),
      Ground q loose [] XP w s₀ mg mb s₁.heap → YP w s₁.heap →
      s₁.heap.get? fa = some o → o.data = .func (docDef d.name d.params d.body d.scope pm cd doc) → s₁.heap.CodeRec cd d.name → mg d.name = some (.ref fa) →
      s₁.heap.get? a = some { cls := .type "list", data := .seq vs.toArray } → IntsAre vs ns → ns.length ≤ n → s₁.gens = #[] →
      codeAny (model l.prog w) callerA (.call (.ref fa) ⟨[.ref a], []⟩) (fun r s' => r = .ok (.ret (.bool true)) ∧ OldK s₁.heap s'.heap ∧ s'.os = s₁.os ∧ AllBare s'.gens) s₁) :
    WalkO q loose XP YP l.row.toRowW d [] (fun f vs => PySem.call f vs) := by
  intro w s₀ s₁ mg mb G Y fa o pm cd doc dV kV ho hd hcd hD hmg hg args vals as hpre hlay hrd hwl hlo
  obtain rfl : dV = .none := Dflts.none hD hdf
  obtain rfl : kV = .none := Dflts.noKw hD
  obtain ⟨a, vs, ns, rfl, rfl, hobj, hints, hlen⟩ := script_of hn hpre hwl
  refine enter_call (codeAny_mono (call w s₀ s₁ mg mb fa o pm cd doc a vs ns G Y ho (fd_plain hd) hcd hmg hobj hints hlen hg) fun r s' hq => ?_)
  obtain ⟨rfl, h2, h3, h4⟩ := hq
  exact ⟨.inl ⟨.bool true, .bool true, [], rfl, fun _ => rfl, .bool true, post_true l _, fun _ => ⟨List.Pairwise.nil, fun _ hm => (nomatch hm)⟩⟩, h2, h3, h4⟩

/-! ### rules over ANY heap (no ledger) from facts about the written part K: the library's own take a ledger (News) for what they write -/
section
variable {prog : Program} {w : World} {A : Around} {E : Value → Shared → Prop} {s : Shared} {K : Frag}

/-! the whole heap as the ledger: makes every rule that writes through a ledger a rule over any heap -/
def noObjs (h : Heap) : Heap := { h with objs := #[] }
def ledger (h : Heap) (L d : Addr) : List (Addr × Obj) := (List.range h.objs.size).filterMap fun a => if a = L ∨ a = d then none else (h.get? a).map fun o => (a, o)
end
end Att

namespace L2
open PySem PySem.Spec PyProof.Rows

theorem vals_ints : ∀ {vs : List Value} {ns : List Int}, IntsAre vs ns → Vals (ns.map V.int) vs
  | _, _, .nil => .nil
  | _, _, .cons n t h => .cons ⟨t, rfl⟩ (vals_ints h)

/-- nothing is tracked but the script, known to the object (or it is an object of the module) -/
def Only (H : Hp) : Prop := ∀ b, H b = none ∨ ∃ o xs, H b = some (.frz o (.lst xs))

/-- THE HEAD: the law's promise, at the heap behind the top. F, the promise of the law's def, may use that base is part of the heap (so K.In base, base.Ns mainGlobals mg stand in Mod) -/
theorem law_call {P : Program} {w : World} {K : PySem.W.Frag} {mg mb : Str → Option Value} {CX : CXT} {k : Nat} {fa a : Addr} {fd : FuncData} {x : Str} {sp : Sp} {s₁ : Shared} {vs : List Value} {ns : List Int}
    (KX : K.In s₁.heap) (hns : s₁.heap.Ns mainGlobals mg) (hb : s₁.heap.Ns builtinsNs mb) (hbb : ∀ x : Str, x ≠ "__name__" → mb x = bootBuiltins x) (hlim : s₁.heap.NoLimit) (hg : s₁.gens = #[])
    (ha : s₁.heap.get? a = some { cls := .type "list", data := .seq vs.toArray }) (hi : IntsAre vs ns) (hl : ns.length ≤ sizeLine) (hr : Room k callerA)
    (F : ∀ base : Heap, K.In base → base.Ns mainGlobals mg → FnOk P w K mg base CX k fa fd [x] sp) (hbind : ∀ (s : Shared) (u : Value), BindsTo s fd ⟨[u], []⟩ [(x, u)])
    (hsp : ∀ H : Hp, Only H → SqL K H a (ns.map V.int) → sp [.ref a] H (fun v _ => v = .bl true) fun _ _ _ => False)
    (hCX : ∀ H e s', CX [] H s₁ (fun _ _ _ => False) e s' → False) :
    codeAny (model P w) callerA (.call (.ref fa) ⟨[.ref a], []⟩) (fun r s' => r = .ok (.ret (.bool true)) ∧ OldK s₁.heap s'.heap ∧ s'.os = s₁.os ∧ AllBare s'.gens) s₁ := by
  have rv := vals_ints hi
  have lenV := hi.length
  -- from an abstract heap in which nothing but the script may be tracked
  have core : ∀ H : Hp, Only H → SqL K H a (ns.map V.int) → HOk P w H s₁.heap → (∀ b, H b ≠ none → b = a) → (H a ≠ none → K.lookup a = none) →
      codeAny (model P w) callerA (.call (.ref fa) ⟨[.ref a], []⟩) (fun r s' => r = .ok (.ret (.bool true)) ∧ OldK s₁.heap s'.heap ∧ s'.os = s₁.os ∧ AllBare s'.gens) s₁ := by
    intro H hO hS hok hA hK
    have base_of : ∀ {b : Addr} {o : Obj}, s₁.heap.get? b = some o → H b = none → (hidT s₁.heap H).get? b = some o := fun e n => hidT_get e n
    have noA : ∀ {b : Addr} {o : Obj} {es : Array DictEntry} {ep : Nat}, s₁.heap.get? b = some o → o.data = .dict es ep → H b = none := fun {b o es ep} e d => by
      cases q : H b with
      | none => rfl
      | some u =>
        have e' : b = a := hA b (by rw [q]; simp)
        subst e'
        rw [ha] at e; cases e
        have d' : Data.seq vs.toArray _ = Data.dict es ep := d
        cases d'
    have nsK : ∀ {b : Addr} {m : Str → Option Value}, s₁.heap.Ns b m → (hidT s₁.heap H).Ns b m := fun {b m} ⟨o, es, ep, e, d, r⟩ => ⟨o, es, ep, base_of e (noA e d), d, r⟩
    have hKb : K.In (hidT s₁.heap H) := fun b o e => base_of (KX b o e) (by
      cases q : H b with
      | none => rfl
      | some u =>
        have e' : b = a := hA b (by rw [q]; simp)
        subst e'
        rw [hK (by rw [q]; simp)] at e; cases e)
    have hM : Mod K mg (hidT s₁.heap H) := ⟨hKb, nsK hns, ⟨mb, nsK hb, hbb⟩, let ⟨mc, h1, h2⟩ := hlim; ⟨mc, nsK h1, h2⟩⟩
    have e0 : Env0 P w K mg (hidT s₁.heap H) callerA [] s₁ H := ⟨rfl, hM, fun b o e => of_hidT e, Nat.le_of_eq (hidT_size _ _), trivial, fun b hb => absurd (show b ∈ ([] : List Addr) from hb) (by simp), hok, .of_eq hg⟩
    refine codeAny_mono ((F _ hKb (nsK hns)).run callerA [] s₁ H ⟨[.ref a], []⟩ [.ref a] [.ref a] _ _ hr e0 (hbind s₁ (.ref a)) (.cons rfl .nil) (hsp H hO hS)) fun r s' h => ?_
    cases r with
    | error e => exact (hCX H e s' h).elim
    | ok fl =>
      cases fl with
      | next => exact False.elim h
      | brk => exact False.elim h
      | cont => exact False.elim h
      | ret u =>
        obtain ⟨v, H', os, bare, un, hok', r', q⟩ := h
        have q' : v = .bl true := q
        subst q'
        obtain rfl : u = Value.bool true := r'
        refine ⟨rfl, OldK.of_keep fun b o e => ?_, os, bare⟩
        cases q : H b with
        | none => exact un.keep b o e q (by intro z; exact absurd (show b ∈ ([] : List Addr) from z) (by simp)) (by simp)
        | some u =>
          rcases hO b with z | ⟨ob, xs, z⟩
          · rw [q] at z; cases z
          · have z2 := un.frzs b ob _ z
            obtain ⟨e1, _⟩ := hok b _ z
            obtain ⟨e2, _⟩ := hok' b _ z2
            rw [e] at e1; cases e1
            exact e2
  cases hk : K.lookup a with
  | some o =>
    -- the script is one of the module's own objects
    have e := KX a o hk
    rw [ha] at e
    cases e
    refine core (fun _ => none) (fun _ => .inl rfl) (.inr ⟨_, vs.toArray, _, hk, rfl, rfl, rfl, by rw [List.size_toArray, lenV]; exact hl, by simpa using rv⟩) (fun b u z => by have z' : (none : Option HO) = some u := z; cases z') (fun b z => absurd rfl z) fun z => absurd rfl z
  | none =>
    refine core (fun b => if b = a then some (.frz { cls := .type "list", data := .seq vs.toArray } (.lst (ns.map V.int))) else none) (fun b => ?_) (.inl (.inr ⟨{ cls := .type "list", data := .seq vs.toArray }, if_pos rfl⟩)) (fun b u z => ?_) (fun b z => ?_) fun _ => hk
    · by_cases hb : b = a
      · exact .inr ⟨_, _, if_pos hb⟩
      · exact .inl (if_neg hb)
    · by_cases hb : b = a
      · have z' := (if_pos hb).symm.trans z
        cases z'
        subst hb
        exact ⟨ha, by rw [List.length_map]; exact hl, vs, _, rv, ha⟩
      · have z' := (if_neg hb).symm.trans z
        cases z'
    · by_cases hb : b = a
      · exact hb
      · exact absurd (if_neg hb) z
end L2

namespace L2
open PySem PySem.Spec PyProof.Rows

abbrev KOf {K : PySem.W.Frag} {h : Heap} (_ : K.In h) : PySem.W.Frag := K

/-- the goal that k_head leaves (case hc), from the law's promise. F gives the function object fd (K's own) once, then the promise over every base -/
theorem walk_of {l : PySem.W.OpenLaw} {n k : Nat} {q : Program} {loose : List Str} {XP : (Str → Option Value) → Heap → Prop} {YP : World → Heap → Prop} {d : DefRec} {K : Params → PySem.W.Frag} {CX : World → CXT} {sp : World → Sp} {x : Str}
    (hn : l.most = some n) (hn2 : n ≤ sizeLine) (hdf : d.params.defaults = []) (hr : Room k callerA)
    (hY : ∀ (w : World) (h : Heap), YP w h → (K w.params).In h)
    (F : ∀ (w : World) (mg : Str → Option Value) (fa : Addr) (h : Heap), (K w.params).In h → h.Ns mainGlobals mg → mg d.name = some (.ref fa) →
      ∃ fd : FuncData, (∀ (s : Shared) (u : Value), BindsTo s fd ⟨[u], []⟩ [(x, u)]) ∧
        ∀ base : Heap, (K w.params).In base → base.Ns mainGlobals mg → FnOk l.prog w (K w.params) mg base (CX w) k fa fd [x] (sp w))
    (hsp : ∀ (w : World) (H : Hp) (a : Addr) (ns : List Int), ns.length ≤ n → Only H → SqL (K w.params) H a (ns.map V.int) → sp w [.ref a] H (fun v _ => v = .bl true) fun _ _ _ => False)
    (hCX : ∀ (w : World) (H : Hp) (s : Shared) (e : Value) (s' : Shared), CX w [] H s (fun _ _ _ => False) e s' → False) :
    PySem.W.WalkO q loose XP YP l.row.toRowW d [] (fun f vs => PySem.call f vs) := by
  refine Att.attach_call hn hdf fun w s₀ s₁ mg mb fa o pm cd doc a vs ns G Y ho hd hcd hmg hobj hints hlen hg => ?_
  have KX := hY w _ Y
  obtain ⟨fd, hb, hF⟩ := F w mg fa _ KX G.T.g hmg
  exact law_call KX G.T.g G.T.b G.T.builtins G.T.nolimit hg hobj hints (Nat.le_trans hlen hn2) hr hF hb (fun H hO hS => hsp w H a ns hlen hO hS) fun H e s' => hCX w H s₁ e s'
end L2

/- THE LAST THEOREM (shape; LID, My.* are yours):
   My.Adr: a structure of the addresses that your layer names (classes, functions); My.Txt K t: a structure (Prop) of the equations over K;
   My.txt_mk : {K} {implicit addresses ..} (e1 : nsIn K mainGlobals "law" = some (some (.ref f))) (e2 : K.lookup f = some ⟨oc, od, .func (fnOf "law" "law" params body scope dV kV doc pm an cdv ct), sl⟩) (e3 : codeIn K cdv "law" = true) .. : ∃ t, My.Txt K t

set_option maxRecDepth 100000 in
set_option maxHeartbeats 0 in
theorem PySem.Challenge.cw_LID_holds : PySem.Challenge.rw_LID.Holds := by
  w_on; o_law; k_head; (case hw => w_witness2)
  k_fill
  refine L2.walk_of (l := PySem.Challenge.rw_LID) (n := 63) (k := 40) (x := "script") (CX := fun w => ..) (sp := fun _ => My.sp_law) rfl (by decide) rfl ⟨rfl, by decide, by decide⟩ (fun w h Y => PySem.W.kIn_of Y) ?F ?S ?C
  case F =>
    intro w mg fa h KX G hmg
    have T : ∃ t, My.Txt (L2.KOf KX) t := by
      dsimp only [L2.KOf]                          -- K must stand as «<heap const> w.params» for k_is
      refine' My.txt_mk ?e1 ?e2 ?e3 ..
      (case e1 => PySem.W.k_is)                    -- in the order: a name -> its address -> its object -> its parts
      (case e2 => PySem.W.k_is)
      ..
    obtain ⟨t, T⟩ := T
    have e0 := hmg.symm.trans (PySem.W.mg_of KX G T.law)
    cases e0                                       -- fa is the law's own address
    exact ⟨_, fun s u => .of_eq rfl, fun base kb nb => My.law_fn T kb nb⟩     -- if «.of_eq rfl» comes too early: refine' ⟨_, ?b, fun base kb nb => My.law_fn T kb nb⟩; exact fun s u => .of_eq rfl
  case S => exact fun w H a ns hl hO hS => ..
  case C => exact ..
(the tactic k_is has no namespace: write k_is) -/

/-! SHORT WORDS over the layer: a def of the text, its body, what a loop and a test want. -/
namespace L2
open PySem PySem.Spec PyProof.Rows

/-! ### the text by places -/
/-- the j-th statement of a class's body -/
def inClass (s : Stmt) (j : Nat) : Stmt := match s with
  | .ClassDef _ _ _ body _ _ _ _ _ _ _ => body.getD j (.Pass ⟨0, 0, 0, 0⟩)
  | _ => .Pass ⟨0, 0, 0, 0⟩
def defArgs (s : Stmt) : Arguments := match s with
  | .FunctionDef _ a _ _ _ _ _ _ _ _ => a
  | _ => { posonlyargs := [], args := [], vararg := none, kwonlyargs := [], kw_defaults := [], kwarg := none, defaults := [] }
def defBody (s : Stmt) : List Stmt := match s with
  | .FunctionDef _ _ b _ _ _ _ _ _ _ => b
  | _ => []
def defScope (s : Stmt) : Scope := match s with
  | .FunctionDef _ _ _ _ _ _ sc _ _ _ => sc
  | _ => { kind := .function, names := [], isGenerator := false, isCoroutine := false }

/-! ### no exception leaves a def -/
abbrev CX0 : CXT := fun _ _ _ _ _ _ => False
abbrev E0 : XK := fun _ _ _ => False
/-! ### a def (or method) of the text as it stands behind the top -/
structure Fun (K : PySem.W.Frag) (x qual : Str) (st : Stmt) (f : Addr) (fd : FuncData) : Prop where
  ex : ∃ (oc : Value) (od : Option Addr) (kV doc pm : Value) (an : Option Addr) (cdv ct : Value) (osl : Array (Option Value)),
    fd = PySem.W.fnOf x qual (defArgs st) (defBody st) (defScope st) .none kV doc pm an cdv ct ∧ K.lookup f = some ⟨oc, od, .func fd, osl⟩ ∧ PySem.W.codeIn K cdv qual = true
  kp : PySem.W.keepIn K (.ref f) = true
section
variable {P : Program} {w : World} {K : PySem.W.Frag} {mg : Str → Option Value} {base : Heap}
/-- how its arguments bind (no defaults): h is «fun _ _ _ _ _ _ us hl => match us, hl with | [_, _], _ => rfl», one _ a parameter -/
theorem Fun.binds {x qual : Str} {st : Stmt} {f : Addr} {fd : FuncData} {ps : List Str} (F : Fun K x qual st f fd)
    (h : ∀ (kV doc pm : Value) (an : Option Addr) (cdv ct : Value) (us : List Value), us.length = ps.length → bindArgs (PySem.W.fnOf x qual (defArgs st) (defBody st) (defScope st) .none kV doc pm an cdv ct) ⟨us, []⟩ = pure (ps.zip us)) : Binds K fd ps [] := by
  obtain ⟨oc, od, kV, doc, pm, an, cdv, ct, osl, rfl, lk, hcd⟩ := F.ex
  exact .all (h kV doc pm an cdv ct)
theorem fun_mk {x qual : Str} {st : Stmt} {f : Addr} {oc : Value} {od an : Option Addr} {osl : Array (Option Value)} {kV doc pm cdv ct : Value} (l : K.lookup f = some ⟨oc, od, .func (PySem.W.fnOf x qual (defArgs st) (defBody st) (defScope st) .none kV doc pm an cdv ct), osl⟩)
    (c : PySem.W.codeIn K cdv qual = true) (k : PySem.W.keepIn K (.ref f) = true) : Fun K x qual st f (PySem.W.fnOf x qual (defArgs st) (defBody st) (defScope st) .none kV doc pm an cdv ct) := ⟨⟨oc, od, kV, doc, pm, an, cdv, ct, osl, rfl, l, c⟩, k⟩
end
theorem small1000 {n : Nat} (h : n ≤ 1000) : n < sizeLine := Nat.lt_of_le_of_lt h (by decide)

/-! ### expressions in short: the name that stands in the i-th slot -/
section
variable {X : Cx}
theorem pv (i : Nat) {x : Str} {pos : Pos} (hN : X.N[i]? = some x := by rfl) (hv : Vis X.env.scope x := by first | exact Or.inl rfl | exact Or.inr (Or.inl rfl) | exact Or.inr (Or.inr rfl)) (hd : (x == ("__debug__" : Str)) = false := by decide)
    (hcd : (x == ("__classdict__" : Str)) = false := by decide) : PE X (.Name x pos) (tVar i) := pe_var hN hv hd hcd
end

/-! ### tests -/
theorem iteF {A B : Prop} (h : B) : if false = true then A else B := by
  rw [if_neg Bool.false_ne_true]
  exact h
theorem iteT {A B : Prop} (h : A) : if true = true then A else B := by
  rw [if_pos rfl]
  exact h
theorem iteNS {c A B : Prop} [Decidable c] (hc : c) (h : B) : if (!decide c) = true then A else B := by
  rw [decide_eq_true hc]
  exact iteF h

/-! ### heaps -/
/-- all that was tracked is as it was -/
def Same (H H' : Hp) : Prop := ∀ b o, H b = some o → H' b = some o
theorem Same.refl (H : Hp) : Same H H := fun _ _ h => h
theorem Same.trans {H H1 H2 : Hp} (a : Same H H1) (b : Same H1 H2) : Same H H2 := fun c o h => b c o (a c o h)
theorem Same.free {H H' : Hp} (e : Same H H') {l : Addr} (h : H' l = Option.none) : H l = Option.none := by
  cases q : H l with
  | none => rfl
  | some o =>
    rw [e l o q] at h
    cases h
end L2

set_option maxHeartbeats 4000000

/-! ### more rules: wide numbers, isinstance, == of tuples -/
namespace L2
open PySem PySem.Spec PyProof.Rows
/-- fewer than n bits -/
def Bz (n : Nat) (x : Int) : Prop := x.natAbs < 2 ^ n
theorem Bz.bits {n : Nat} {x : Int} (h : Bz n x) : Builtin.Int.intBits x ≤ n := PySem.intBits_le_iff.mpr h
theorem Bz.mulOk {m n : Nat} {x y : Int} (hx : Bz m x) (hy : Bz n y) (h : m + n ≤ 134217728 := by decide) : IntMulOk x y := PySem.IntMulOk.of_le hx.bits hy.bits h
theorem Bz.w {x : Int} (h1 : -340282366920938463463374607431768211456 < x) (h2 : x < 340282366920938463463374607431768211456) : Bz 128 x := by
  show x.natAbs < 340282366920938463463374607431768211456
  omega
theorem Bz.log2 {n : Nat} {x : Int} (h : Bz n x) (hn : n ≤ 9000 := by decide) : x.natAbs.log2 < 9000 := by
  by_cases h0 : x.natAbs = 0
  · rw [h0]; decide +kernel
  · exact (Nat.log2_lt h0).mpr (Nat.lt_of_lt_of_le h (Nat.pow_le_pow_right (by decide) hn))
def CDivB (_ j : Int) : Prop := 0 < j ∧ j.natAbs.log2 < 9000
def CDivM (_ j : Int) : Prop := j ≠ 0 ∧ j.natAbs.log2 < 9000
section
variable {X : Cx}
theorem op_mulB : OpR X (binaryOp .Mult) (rI IntMulOk fun i j => .int (i * j)) := opI fun _ _ _ _ _ _ _ hc q => mul_int q hc
theorem op_fdivB : OpR X (binaryOp .FloorDiv) (rI CDivB fun i j => .int (i / j)) := opI fun i j _ _ _ _ _ hc q => by
  have h1 : (0 : Int) < j := hc.1
  exact floordiv_int (by omega) (by rw [Int.fdiv_eq_ediv_of_nonneg i (by omega)]; exact q) (.inl (PyProof.noPylong_of_log2 hc.2))
/-- a statement, by what holds between it and the rest -/
theorem ps_mid {st : Stmt} {t : TS} (h : PS X st t) : PS X st (fun D σ H => ∃ P : St → Hp → Prop, t { D with nx := P } σ H ∧ ∀ σ' H', P σ' H' → D.nx σ' H') := by
  intro pins s σ H D I hw
  obtain ⟨P', hp, hk⟩ := hw
  refine thn (h pins s σ H _ I hp) fun f s1 q => ?_
  cases f with
  | next => obtain ⟨σ', H', I', p⟩ := q; exact ⟨σ', H', I', hk _ _ p⟩
  | ret v => exact q
  | brk => exact q
  | cont => exact q
/-- isinstance(x, T), T a built-in type -/
theorem call_isi : CallR X (.builtin "isinstance") (fun xs H Q => ∃ x n t b, xs = [x, .ty n] ∧ TyOf X.K H x t ∧ PySem.W.kitOne X.K t (.type n) = some b ∧ Q (.bl b) H) := by
  intro pins s σ H xs us Q I r h
  obtain ⟨x, n, t, b, rfl, ty, e, q⟩ := h
  obtain ⟨u, w', rfl, r1, r2⟩ := vals2 r
  cases r2
  exact isinst_ok I r1 ty e fun tk => ⟨.bl b, H, I.tok tk, rfl, q⟩
/-- == of two tuples of flat items -/
def eqLV (xs ys : List V) : Bool := (List.range (min xs.length ys.length)).all (fun j => eqV (xs.getD j .non) (ys.getD j .non)) && xs.length == ys.length
def rEqT (K : PySem.W.Frag) : R2 := fun x y H Q => ∃ a b xs ys, x = .ref a ∧ y = .ref b ∧ SqT K H a xs ∧ SqT K H b ys ∧ xs.all flatV = true ∧ ys.all flatV = true ∧ Q (.bl (eqLV xs ys)) H
end
theorem kp {H : Hp} {a p : Addr} {o u : HO} (h : H a = some o) (hp : H p = none) : upd H p u a = some o := by rw [upd_ne (ne_of_none h hp)]; exact h
theorem iteN {c A B : Prop} [Decidable c] (hc : ¬ c) (h : B) : if decide c = true then A else B := by
  rw [if_neg (fun z => hc (of_decide_eq_true z))]
  exact h
theorem iteY {c A B : Prop} [Decidable c] (hc : c) (h : A) : if decide c = true then A else B := by
  rw [if_pos (decide_eq_true hc)]
  exact h
theorem ite3 {c A B : Prop} [Decidable c] (h1 : c → A) (h2 : ¬ c → B) : if decide c = true then A else B := by
  by_cases h : c
  · exact iteY h (h1 h)
  · exact iteN h (h2 h)
theorem iteNo {c A B : Prop} [Decidable c] (h1 : ¬ c → A) (h2 : c → B) : if (!decide c) = true then A else B := by
  by_cases h : c
  · rw [decide_eq_true h]; exact iteF (h2 h)
  · rw [decide_eq_false h]; exact iteT (h1 h)
theorem sz {n : Nat} (h : n ≤ 1000 := by first | decide | (simp; done) | omega) : n ≤ sizeLine := Nat.le_of_lt (small1000 h)
theorem at_ints {ns : List Int} {k : Int} (h0 : 0 ≤ k) (h : k < (ns.length : Int)) : ∃ v : Int, atI (ns.map V.int) k = some (.int v) := by
  have hk : k.toNat < ns.length := by omega
  have ek : k = ((k.toNat : Nat) : Int) := by omega
  have q : atI (ns.map V.int) ((k.toNat : Nat) : Int) = some (.int ns[k.toNat]) := atI_nat (by rw [List.getElem?_map, List.getElem?_eq_getElem hk]; rfl)
  rw [← ek] at q
  exact ⟨_, q⟩
end L2

/-! ### values as data: deep == and != -/
namespace L2
open PySem PySem.Spec PyProof.Rows
mutual
inductive DV (K : PySem.W.Frag) (H : Hp) : V → PyData → Prop
  | non : DV K H .non .none
  | bl (b : Bool) : DV K H (.bl b) (.bool b)
  | int (i : Int) : DV K H (.int i) (.int i)
  | str (x : Str) : DV K H (.str x) (.str x)
  | lst {a : Addr} {xs : List V} {ds : List PyData} : SqL K H a xs → DVs K H xs ds → DV K H (.ref a) (.list ds)
  | tup {a : Addr} {xs : List V} {ds : List PyData} : SqT K H a xs → DVs K H xs ds → DV K H (.ref a) (.tuple ds)
inductive DVs (K : PySem.W.Frag) (H : Hp) : List V → List PyData → Prop
  | nil : DVs K H [] []
  | cons {x : V} {xs : List V} {d : PyData} {ds : List PyData} : DV K H x d → DVs K H xs ds → DVs K H (x :: xs) (d :: ds)
end
section
variable {X : Cx} {pins : List (Addr × Obj)} {σ : St} {H : Hp} {s : Shared}
mutual
theorem DV.reads (I : Inv X pins σ H s) : ∀ {x : V} {d : PyData} {u : Value}, DV X.K H x d → RelV x u → ∃ as, Reads s.heap u d as
  | _, _, _, .non, r => by cases r; exact ⟨_, .none⟩
  | _, _, _, .bl b, r => by cases r; exact ⟨_, .bool b⟩
  | _, _, _, .int i, r => by obtain ⟨t, rfl⟩ := r; exact ⟨_, .int i t⟩
  | _, _, _, .str x, r => by obtain ⟨t, rfl⟩ := r; exact ⟨_, .str x t⟩
  | _, _, _, .lst h hs, r => by
    cases r
    obtain ⟨its, rv, ⟨o, n, e, c, _, dd⟩, _⟩ := I.list h
    obtain ⟨as, q⟩ := DVs.reads I hs rv
    exact ⟨_, .list e c dd (by simpa using q)⟩
  | _, _, _, .tup h hs, r => by
    cases r
    obtain ⟨its, rv, ⟨o, e, c, n, dd⟩, _⟩ := I.tuple h
    obtain ⟨as, q⟩ := DVs.reads I hs rv
    exact ⟨_, .tuple e c dd (by simpa using q)⟩
theorem DVs.reads (I : Inv X pins σ H s) : ∀ {xs : List V} {ds : List PyData} {us : List Value}, DVs X.K H xs ds → Vals xs us → ∃ as, ReadsAll s.heap us ds as
  | _, _, _, .nil, r => by cases r; exact ⟨_, .nil⟩
  | _, _, _, .cons h hs, r => by
    cases r with
    | cons r rr =>
      obtain ⟨as, q⟩ := DV.reads I h r
      obtain ⟨bs, q'⟩ := DVs.reads I hs rr
      exact ⟨_, .cons q q'⟩
end
end
def rEqD (K : PySem.W.Frag) : R2 := fun x y H Q => ∃ dx dy, DV K H x dx ∧ DV K H y dy ∧ SeqAt.shaped dx = true ∧ SeqAt.shaped dy = true ∧ Q (.bl (PyData.eqv dx dy)) H
def rNeD (K : PySem.W.Frag) : R2 := fun x y H Q => ∃ dx dy, DV K H x dx ∧ DV K H y dy ∧ SeqAt.shaped dx = true ∧ SeqAt.shaped dy = true ∧ Q (.bl (!PyData.eqv dx dy)) H
section
variable {X : Cx} {e se : Expr} {te ts : TE} {pos p2 : Pos}
theorem op_eqD (hu : X.A.units + 64 < cLine) : OpR X (compareOp .Eq) (rEqD X.K) := by
  intro pins s σ H x y v u Q I rx ry h
  obtain ⟨dx, dy, hx, hy, sx, sy, q⟩ := h
  obtain ⟨as, r1⟩ := hx.reads I rx
  obtain ⟨bs, r2⟩ := hy.reads I ry
  exact eq_dataH r1 r2 sx sy hu ⟨.bl _, H, I, rfl, q⟩
theorem op_neD (hu : X.A.units + 64 < cLine) : OpR X (compareOp .NotEq) (rNeD X.K) := by
  intro pins s σ H x y v u Q I rx ry h
  obtain ⟨dx, dy, hx, hy, sx, sy, q⟩ := h
  obtain ⟨as, r1⟩ := hx.reads I rx
  obtain ⟨bs, r2⟩ := hy.reads I ry
  exact ne_dataH r1 r2 sx sy hu ⟨.bl _, H, I, rfl, q⟩
end
/-- the script, known to the object: it is never written -/
def SqF (K : PySem.W.Frag) (H : Hp) (a : Addr) (xs : List V) : Prop :=
  (∃ o, H a = some (.frz o (.lst xs))) ∨ ∃ (o : Obj) (its : Array Value) (n : Nat), K.lookup a = some o ∧ o.cls = .type "list" ∧ o.dict = none ∧ o.data = .seq its n ∧ its.size ≤ sizeLine ∧ Vals xs its.toList
theorem SqF.sq {K : PySem.W.Frag} {H : Hp} {a : Addr} {xs : List V} (h : SqF K H a xs) : SqL K H a xs := by
  rcases h with ⟨o, h⟩ | h
  · exact .inl (.inr ⟨o, h⟩)
  · exact .inr h
theorem SqF.upd {K : PySem.W.Frag} {H : Hp} {a p : Addr} {xs : List V} {u : HO} (h : SqF K H a xs) (hp : ∀ o w, H p ≠ some (.frz o w)) : SqF K (L2.upd H p u) a xs := by
  rcases h with ⟨o, h⟩ | h
  · refine .inl ⟨o, ?_⟩
    rw [upd_ne (fun e => hp o _ (by rw [← e]; exact h))]
    exact h
  · exact .inr h
theorem SqF.new {K : PySem.W.Frag} {H : Hp} {a p : Addr} {xs : List V} {u : HO} (h : SqF K H a xs) (hp : H p = none) : SqF K (L2.upd H p u) a xs := h.upd fun o w e => by rw [hp] at e; cases e
theorem SqF.of_only {K : PySem.W.Frag} {H : Hp} {a : Addr} {xs : List V} (hO : Only H) (h : SqL K H a xs) : SqF K H a xs := by
  rcases h with (h | ⟨o, h⟩) | h
  · rcases hO a with z | ⟨o, ys, z⟩
    · rw [z] at h; cases h
    · rw [z] at h; cases h
  · exact .inl ⟨o, h⟩
  · exact .inr h
theorem same_new {H : Hp} {p : Addr} (h : H p = none) (o : HO) : Same H (L2.upd H p o) := fun b u q => by rw [upd_ne (ne_of_none q h)]; exact q
theorem SqF.same {K : PySem.W.Frag} {H H' : Hp} {a : Addr} {xs : List V} (h : SqF K H a xs) (s : Same H H') : SqF K H' a xs := by
  rcases h with ⟨o, h⟩ | h
  · exact .inl ⟨o, s _ _ h⟩
  · exact .inr h
theorem cut_take (xs : List V) (m : Nat) : cutV xs none (some (m : Int)) = xs.take m := by
  unfold cutV
  rw [HT.sIx_none, HT.sIx_nat]
  simp
end L2
namespace L2
open PySem
theorem bt_isinstance : bootBuiltins "isinstance" = some (.builtin "isinstance") := by decide +kernel
theorem bt_int : bootBuiltins "int" = some (.type "int") := by decide +kernel
theorem bt_bool : bootBuiltins "bool" = some (.type "bool") := by decide +kernel
theorem bt_list : bootBuiltins "list" = some (.type "list") := by decide +kernel
theorem bt_max : bootBuiltins "max" = some (.builtin "max") := by decide +kernel
theorem bt_len : bootBuiltins "len" = some (.builtin "len") := by decide +kernel
theorem bt_sorted : bootBuiltins "sorted" = some (.builtin "sorted") := by decide +kernel
end L2

namespace L2
open PySem PySem.Spec PyProof.Rows
section
variable {X : Cx} {e se : Expr} {te ts : TE} {pos p2 : Pos}
/-- xs[::-1] -/
def tRev (K : PySem.W.Frag) (te ts : TE) : TE := fun σ H Q => te σ H fun x H1 => ts σ H1 fun y H2 => ∃ a xs, x = .ref a ∧ y = .int (-1) ∧ SqL K H2 a xs ∧ ∀ p, H2 p = none → Q (.ref p) (upd H2 p (.lst xs.reverse))
end
end L2

/-! ### the greatest divisor -/
namespace M
def G (a b : Int) : Int := if Nat.gcd a.natAbs b.natAbs = 0 then 1 else (Nat.gcd a.natAbs b.natAbs : Nat)
structure Inv (a b x y : Int) : Prop where
  x0 : 0 ≤ x
  y0 : 0 ≤ y
  e : Nat.gcd x.natAbs y.natAbs = Nat.gcd a.natAbs b.natAbs
end M

namespace M
end M

namespace M
def sumR : List Rat → Rat
  | [] => 0
  | r :: rs => r + sumR rs
abbrev D0 : Int := 5342931457063200
/-- a ratio over D0 whose top is not too great -/
def Item (r : Rat) : Prop := ∃ c : Int, r = Rat.divInt c D0 ∧ -(100000000000 * D0) ≤ c ∧ c ≤ 100000000000 * D0
def All (rs : List Rat) : Prop := ∀ r ∈ rs, Item r
end M

namespace M
end M

/-! ### exceptions of own classes: raised in a def, passed on, caught around a call -/
namespace L2
open PySem PySem.Spec PyProof.Rows
/-- an exception ea of the class cls is in flight above the frames of outer, begun at (H, s); B: what it leaves as it is -/
structure Fly (P : Program) (w : World) (outer : List Env) (H : Hp) (s : Shared) (cls : Value) (H' : Hp) (ea : Addr) (B : Heap) (a0 : Value) (s' : Shared) : Prop where
  os : s'.os = s.os
  bare : AllBare s'.gens
  new : s.heap.get? ea = none
  un : Un (frs outer) [] H H' s.heap s'.heap
  hok : HOk P w H' s'.heap
  keepB : ∀ b o, s.heap.get? b = some o → H b = none → b ∉ frs outer → B.get? b = some o
  tracked : ∀ b u, H' b = some u → ∃ o, s'.heap.get? b = some o ∧ B.get? b = some o
  thB : ∀ b o, s.heap.get? b = some o → b ∉ frs outer → ∃ o', B.get? b = some o'
  fly : Heap.FlyingW B outer ea cls a0 s'.heap
def CXe (P : Program) (w : World) : CXT := fun outer H s E e s' => ∃ (ea : Addr) (cls : Value) (H' : Hp) (B : Heap) (a0 : Value), e = .ref ea ∧ Fly P w outer H s cls H' ea B a0 s' ∧ E cls none H'

section
variable {P : Program} {w : World} {outer : List Env} {H H' : Hp} {s s' : Shared} {cls a0 : Value} {ea : Addr} {B h' : Heap}
end

section
variable {X : Cx} {pins : List (Addr × Obj)} {σ : St} {H : Hp} {s s' : Shared} {M : Model} {E : Value → Shared → Prop} {Q : Unit → Shared → Prop}
theorem Inv.notStk (I : Inv X pins σ H s) {b : Addr} {o : Obj} (e : X.s₀.heap.get? b = some o) (hb : b ∉ X.fs) : b ∉ frs X.stack := fun z =>
  (List.mem_cons.mp (I.stkSub b z)).elim (fun q => absurd q (Nat.ne_of_lt (Nat.lt_of_lt_of_le (Heap.lt_size e) I.ok.above))) hb
/-- it comes from a callee and leaves this frame too -/
theorem fly_on (I : Inv X pins σ H s) (hst : X.stack = X.env :: X.outer) (hf : X.env.frame = some X.env.locals) (hex : X.ex = []) {H' : Hp} {ea : Addr} {cls a0 : Value} {B : Heap} (F : Fly X.prog X.w X.stack H s cls H' ea B a0 s')
    (k : ∀ h', Fly X.prog X.w X.outer X.H₀ X.s₀ cls H' ea B a0 { s' with heap := h' } → Q () { s' with heap := h' }) : wpAny M X.A (leaving X.env (.ref ea)) Q E s' := by
  have noex : ∀ b : Addr, b ∉ X.ex := fun b z => by rw [hex] at z; cases z
  have sub : ∀ b ∈ X.fs, b ∈ frs X.stack := fun b hb => by
    rw [hst]
    obtain ⟨env, he, hf'⟩ := List.mem_filterMap.mp hb
    exact List.mem_filterMap.mpr ⟨env, List.mem_cons_of_mem _ he, hf'⟩
  refine wpAny_leaves_onW (by rw [I.ok.frames, hst]) hf (by have z := F.fly; rw [hst] at z; exact z) fun h' x1 x2 => k h' ?_
  have st := x1.1
  have ff := F.fly.2.2.1
  refine ⟨F.os.trans I.os, F.bare, ?_, ⟨fun b o e n hb _ => ?_, fun b o e n hb _ => ?_, fun b o e n _ => ?_, fun b o e _ => ?_, fun b xs e => F.un.tups b xs (I.base.tups b xs e), fun b o u e => F.un.frzs b o u (I.base.frzs b o u e), fun b ps e => ?_⟩, fun a u e => ?_, fun b o e n hb => ?_, fun b u e => ?_, fun b o e hb => ?_, x1⟩
  · cases q : X.s₀.heap.get? ea with
    | none => rfl
    | some o =>
      obtain ⟨o', e⟩ := I.base.there ea o q (noex ea)
      rw [F.new] at e
      cases e
  · exact st b o (F.keepB b o (I.base.keep b o e n hb (noex b)) (I.base.free b o e n (noex b)) (I.notStk e hb))
  · obtain ⟨sl, e1⟩ := I.base.slot b o e n hb (noex b)
    obtain ⟨sl2, e2⟩ := F.un.slot b _ e1 (I.base.free b o e n (noex b)) (sub b hb) (by simp)
    obtain ⟨_, o2, ho2, nf⟩ := ff.mem (sub b hb)
    rw [e2] at ho2
    cases ho2
    obtain ⟨sl', e3⟩ := x2 b _ e2 nf
    exact ⟨sl', e3⟩
  · obtain ⟨o', e'⟩ := I.base.there b o e (noex b)
    exact F.un.free b o' e' (I.base.free b o e n (noex b)) (by simp)
  · by_cases hb : b ∈ X.fs
    · obtain ⟨_, o2, ho2, nf⟩ := ff.mem (sub b hb)
      obtain ⟨sl', e3⟩ := x2 b _ ho2 nf
      exact ⟨_, e3⟩
    · obtain ⟨o', e'⟩ := I.base.there b o e (noex b)
      obtain ⟨o2, e2⟩ := F.thB b o' e' (I.notStk e hb)
      exact ⟨o2, st b o2 e2⟩
  · obtain ⟨m1, e1⟩ := I.base.tbls b ps e
    obtain ⟨m2, e2⟩ := F.un.tbls b _ e1
    exact ⟨m1 ++ m2, by rw [e2, Array.append_assoc]⟩
  · refine (F.hok a u e).stay (fun b v hb q => ?_) (fun _ q => q) fun _ _ q => q
    have z : ∃ u', H' b = some u' := by
      rcases hb with z | z
      · rw [z]; exact ⟨u, e⟩
      · exact ⟨_, z⟩
    obtain ⟨u', e'⟩ := z
    obtain ⟨o, e1, e2⟩ := F.tracked b u' e'
    rw [q] at e1
    cases e1
    exact st b v e2
  · exact F.keepB b o (I.base.keep b o e n hb (noex b)) (I.base.free b o e n (noex b)) (I.notStk e hb)
  · obtain ⟨o, _, e2⟩ := F.tracked b u e
    exact ⟨o, st b o e2, e2⟩
  · obtain ⟨o', e'⟩ := I.base.there b o e (noex b)
    exact F.thB b o' e' (I.notStk e hb)
end

section
variable {P : Program} {w : World} {K : PySem.W.Frag} {mg : Str → Option Value} {base : Heap}
/-- what a callee raises passes through this def -/
theorem pass_e {N : List Str} {qual : Str} {scope : Scope} {f : Addr} {cd : Value} {A : Around} {outer : List Env} {s : Shared} {H : Hp} {E E' : XK} (hE : ∀ cls H', E' cls none H' → E cls none H') :
    Passes (CXe P w) (cxOf (CXe P w) P w K mg base N qual scope f cd A outer s H E) E' := fun pins σ H1 s1 e s' I h => by
  obtain ⟨ea, cls, H', B, a0, rfl, F, q⟩ := h
  exact fly_on I rfl rfl rfl F fun h' F' => ⟨ea, cls, H', B, a0, rfl, F', hE _ _ q⟩
/-- a def that may raise -/
theorem Fun.okx {x qual : Str} {st : Stmt} {f : Addr} {fd : FuncData} {N ps : List Str} {k : Nat} {sp : Sp} (F : Fun K x qual st f fd) (S : FnScope N ps (defScope st)) (len : ∀ vs H Q E, sp vs H Q E → vs.length = ps.length)
    (hbody : ∀ (cdv : Value) (A : Around) (outer : List Env) (s : Shared) (H : Hp) (vs : List V) (Q : VK) (E : XK), Room k (A.deeper (envOfC qual (defScope st) s.heap.objs.size f cdv)) → sp vs H Q E →
      ∃ t, PSs (cxOf (CXe P w) P w K mg base N qual (defScope st) f cdv A outer s H E) (defBody st) t ∧ t { nx := fun _ H' => Q .non H', rt := Q } (start N vs) H) : FnOk P w K mg base (CXe P w) (k + 1) f fd ps sp := by
  obtain ⟨oc, od, kV, doc, pm, an, cdv, ct, osl, rfl, lk, hcd⟩ := F.ex
  refine fn_of lk hcd S len fun A outer s H vs Q E hr hsp => ?_
  exact hbody cdv A outer s H vs Q E hr hsp
end
/-- an own class of exceptions, its built-in base B -/
structure Exc (K : PySem.W.Frag) (mg : Str → Option Value) (x : Str) (C : Addr) : Prop where
  at' : mg x = some (.ref C)
  ex : PySem.W.excIn K C [.type "ValueError", .type "Exception", .type "BaseException", .type "object"] "ValueError.__new__" = true
/-- raise C(e, ..) -/
def tRaise (t : TA) (C : Addr) (E : XK) : TS := fun _ σ H => t σ H fun vs H1 => vs.length ≤ sizeLine ∧ E (.ref C) none H1
section
variable {P : Program} {w : World} {K : PySem.W.Frag} {mg : Str → Option Value} {base : Heap} {N : List Str} {qual : Str} {scope : Scope} {f C : Addr} {cd : Value} {A : Around} {outer : List Env} {s₀ : Shared} {H₀ : Hp} {E : XK} {x : Str} {e : Expr} {es : List Expr} {t : TA} {np cpos pos : Pos}
end

/-! ### try: f(..) except C as n: .. -/
/-- an expression that may raise, by what is wanted then -/
def PEx (X : Cx) (e : Expr) (tx : St → Hp → VK → (Value → Hp → Prop) → Prop) : Prop :=
  ∀ (pins : List (Addr × Obj)) (s : Shared) (σ : St) (H : Hp) (Q : VK) (Ex : Value → Hp → Prop), Inv X pins σ H s → tx σ H Q Ex →
    wpAny (model X.prog X.w) X.A (eval e X.env) (EP X pins σ Q) (fun ev s' => ∃ H1 s1, Inv X pins σ H1 s1 ∧ CXe X.prog X.w X.stack H1 s1 (fun cls _ H' => Ex cls H') ev s') s
section
variable {X : Cx} {k : Nat} {f C : Addr} {fd : FuncData} {ps : List Str} {sp : Sp} {dvs : List V} {ds : List Value} {x m : Str} {p pos apos : Pos} {e o : Expr} {es : List Expr} {ta : TE} {t : TA}
end
/-- the context of an except suite -/
abbrev Cx.inExc (X : Cx) (ea : Addr) : Cx := { X with A := X.A.mark (some (.ref ea)), calm := false }
/-- an exception that is held -/
abbrev exO (ea : Addr) (cls : Value) : HO := .ext fun h => ∃ (o : Obj) (vs : Array Value), h.get? ea = some o ∧ o.cls = cls ∧ o.data = .fields vs
def tTryAs (K : PySem.W.Frag) (tx : St → Hp → VK → (Value → Hp → Prop) → Prop) (C : Addr) (i : Nat) (tb : Addr → TS) : TS := fun D σ H => tx σ H (fun _ H1 => D.nx σ H1) fun cls H1 =>
  PySem.W.exmOne K cls (.ref C) = some true ∧ ∀ ea, H1 ea = none → tb ea { nx := fun _ _ => False, rt := D.rt } (σ.set i (some (.ref ea))) (upd H1 ea (exO ea cls))
end L2

/-! ### isinstance of an exception that is held -/
namespace L2
open PySem PySem.Spec PyProof.Rows
/-- what the top says of a class of exceptions, for its instances -/
structure ExcI (K : PySem.W.Frag) (C : Addr) : Prop where
  ga : PySem.W.findIn K (.ref C) "__getattribute__" = some (some (.builtin "BaseException.__getattribute__"))
  gt : PySem.W.findIn K (.ref C) "__getattr__" = some none
  cl : PySem.W.findIn K (.ref C) "__class__" = some (some (.builtin "object.__class__"))
  mb : PySem.W.mroIn K C (.type "BaseException") = some true
  mo : PySem.W.mroIn K C (.type "object") = some true
section
variable {prog : Program} {w : World} {A : Around} {E : Value → Shared → Prop} {h : Heap} {g : Array GenState} {d : Drawn} {t : Nat} {os : OsState} {a C : Addr} {o : Obj} {vs : Array Value} {K : PySem.W.Frag}
end
section
variable {X : Cx}
end
end L2

/-! ### a list comprehension -/
namespace L2
open PySem PySem.Spec PyProof.Rows
/-- the closure's cells -/
def clOf (cells : List (Str × Addr)) : List (Str × NameKind) → List (Str × Addr) → List (Str × Addr)
  | [], acc => acc
  | (n, k) :: r, acc => if k == .free then (match cells.lookup n with | some c => clOf cells r ((n, c) :: acc) | none => clOf cells r acc) else clOf cells r acc
theorem clOf_sub {cells : List (Str × Addr)} : ∀ {names : List (Str × NameKind)} {acc : List (Str × Addr)}, (∀ x c, acc.lookup x = some c → cells.lookup x = some c) → ∀ x c, (clOf cells names acc).lookup x = some c → cells.lookup x = some c
  | [], _, h => h
  | (n, k) :: r, acc, h => by
    intro x c
    unfold clOf
    split
    · split
      · rename_i c' hc
        refine clOf_sub (names := r) (fun y d hy => ?_) x c
        rw [List.lookup_cons] at hy
        by_cases e : y == n
        · rw [e] at hy
          cases hy
          rw [beq_iff_eq.mp e]
          exact hc
        · rw [Bool.eq_false_iff.mpr e] at hy
          exact h y d hy
      · exact clOf_sub (names := r) h x c
    · exact clOf_sub (names := r) h x c
theorem clOf_mono {cells : List (Str × Addr)} : ∀ {names : List (Str × NameKind)} {acc : List (Str × Addr)} {x : Str}, (∃ c, acc.lookup x = some c) → ∃ c, (clOf cells names acc).lookup x = some c
  | [], _, _, h => h
  | (n, k) :: r, acc, x, h => by
    unfold clOf
    split
    · split
      · refine clOf_mono (names := r) ?_
        rw [List.lookup_cons]
        by_cases e : x == n
        · rw [e]; exact ⟨_, rfl⟩
        · rw [Bool.eq_false_iff.mpr e]; exact h
      · exact clOf_mono (names := r) h
    · exact clOf_mono (names := r) h
theorem clOf_has {cells : List (Str × Addr)} : ∀ {names : List (Str × NameKind)} {acc : List (Str × Addr)} {x : Str}, (x, NameKind.free) ∈ names → (∃ c, cells.lookup x = some c) → ∃ c, (clOf cells names acc).lookup x = some c
  | [], _, _, h, _ => by cases h
  | (n, k) :: r, acc, x, h, hc => by
    unfold clOf
    rcases List.mem_cons.mp h with e | e
    · cases e
      obtain ⟨c, hc⟩ := hc
      rw [hc]
      refine clOf_mono (names := r) ⟨c, ?_⟩
      rw [List.lookup_cons, beq_self_eq_true]
    · split
      · split
        · exact clOf_has (names := r) e hc
        · exact clOf_has (names := r) e hc
      · exact clOf_has (names := r) e hc
theorem closureFor_eq {scope : Scope} {env : Env} (h : ∀ y ∈ scope.names, y.2 = .free → ∃ c, env.cells.lookup y.1 = some c) : closureFor scope env = pure (clOf env.cells scope.names []) := by
  have gen : ∀ (names : List (Str × NameKind)) (acc : List (Str × Addr)), (∀ y ∈ names, y.2 = .free → ∃ c, env.cells.lookup y.1 = some c) →
      (forIn names acc fun (x : Str × NameKind) r => (if x.2 == NameKind.free then do let c ← cellOf env x.1; pure (ForInStep.yield ((x.1, c) :: r)) else pure (ForInStep.yield r) : Sem (ForInStep (List (Str × Addr))))) = pure (clOf env.cells names acc) := by
    intro names
    induction names with
    | nil => intro acc _; rfl
    | cons y r ih =>
      intro acc h
      obtain ⟨n, k⟩ := y
      have hr : ∀ y ∈ r, y.2 = .free → ∃ c, env.cells.lookup y.1 = some c := fun y hy => h y (List.mem_cons_of_mem _ hy)
      rw [List.forIn_cons]
      unfold clOf
      by_cases e : (k == NameKind.free) = true
      · obtain ⟨c, hc⟩ := h (n, k) List.mem_cons_self (by simpa using e)
        rw [if_pos e, hc]
        have hcell : cellOf env n = pure c := by
          unfold cellOf
          rw [show env.cells.lookup n = some c from hc]
        simp only [if_pos e, hcell, pure_bind]
        exact ih _ hr
      · rw [if_neg e]
        simp only [if_neg e, pure_bind]
        exact ih _ hr
  unfold closureFor
  have g := gen scope.names [] h
  simp only [bind_pure]
  exact g
end L2

namespace L2
open PySem PySem.Spec PyProof.Rows
def rlb (env : Env) (names : List (Str × NameKind)) : List (Str × NameKind) := names.map fun (n, k) => if (k == NameKind.free && env.scope.kind == .function && env.kindOf n == some .cell) then (n, NameKind.cell) else (n, k)
theorem rlb_lookup {env : Env} : ∀ {names : List (Str × NameKind)} {x : Str}, (rlb env names).lookup x = (names.lookup x).map fun k => if (k == NameKind.free && env.scope.kind == .function && env.kindOf x == some .cell) then NameKind.cell else k
  | [], _ => rfl
  | (n, k) :: r, x => by
    have ih := @rlb_lookup env r x
    show List.lookup x ((if (k == NameKind.free && env.scope.kind == .function && env.kindOf n == some .cell) = true then (n, NameKind.cell) else (n, k)) :: rlb env r) = _
    rw [List.lookup_cons]
    cases hx : x == n with
    | true =>
      have e := beq_iff_eq.mp hx
      subst e
      by_cases hc : (k == NameKind.free && env.scope.kind == .function && env.kindOf x == some .cell) = true
      · rw [if_pos hc, List.lookup_cons, beq_self_eq_true]
        show _ = some (if (k == NameKind.free && env.scope.kind == .function && env.kindOf x == some .cell) = true then NameKind.cell else k)
        rw [if_pos hc]
      · rw [if_neg hc, List.lookup_cons, beq_self_eq_true]
        show _ = some (if (k == NameKind.free && env.scope.kind == .function && env.kindOf x == some .cell) = true then NameKind.cell else k)
        rw [if_neg hc]
    | false =>
      by_cases hcond : (k == NameKind.free && env.scope.kind == .function && env.kindOf n == some .cell) = true
      · rw [if_pos hcond, List.lookup_cons, hx]; exact ih
      · rw [if_neg hcond, List.lookup_cons, hx]; exact ih
theorem mem_of_look {names : List (Str × NameKind)} {x : Str} {k : NameKind} (h : names.lookup x = some k) : (x, k) ∈ names := PySem.mem_of_lookup h
/-- the names and the state of a comprehension's block: the targets, then the captured names -/
def lcN (X : Cx) (ts : List Str) (js : List Nat) : List Str := ts ++ js.map fun j => X.N.getD j ""
def lcS (ts : List Str) (js : List Nat) (σ : St) : St := ts.map (fun _ => none) ++ js.map fun j => (σ[j]?).join
abbrev Cx.lc (X : Cx) (scope : Scope) (ts : List Str) (js : List Nat) (C : Addr) (s2 : Shared) (H2 : Hp) (fp : List Addr) : Cx :=
  { X with N := lcN X ts js, s₀ := s2, H₀ := H2, env := compEnvC scope (clOf X.env.cells scope.names []) C X.env, outer := X.stack, ex := fp, fn := fun _ => false, pn := [], xe := fun _ _ => False }
/-- what is asked of a comprehension's scope -/
structure LcOk (X : Cx) (scope : Scope) (js : List Nat) : Prop where
  kind : scope.kind = .function
  cell : ∀ y ∈ scope.names, y.2 ≠ .cell
  names : ∀ y ∈ scope.names, y.2 = .local → scope.names.lookup y.1 = some .local
  free : ∀ y ∈ scope.names, y.2 = .free → X.env.kindOf y.1 = some .cell ∨ X.env.kindOf y.1 = some .free
  cap : ∀ j ∈ js, scope.names.lookup (X.N.getD j "") = some .free
section
variable {X : Cx} {scope : Scope} {ts : List Str} {js : List Nat} {pins : List (Addr × Obj)} {σ : St} {H H' : Hp} {s : Shared} {h' : Heap}
theorem lc_start {C : Addr} {fp : List Addr} {t' : Nat} (L : LcOk X scope js) (I : Inv X pins σ H s) (hC : s.heap.objs.size ≤ C) (hns : h'.Ns C fun _ => none) (kept : ∀ b o, s.heap.get? b = some o → h'.get? b = some o)
    (hfp : ∀ b ∈ fp, FpOk X pins H b) (hob : ∀ b ∈ fp, ∃ o, s.heap.get? b = some o) : Inv (X.lc scope ts js C s H fp) [] (lcS ts js σ) H { s with heap := h', toks := t' } := by
  have sub : ∀ x c, (clOf X.env.cells scope.names []).lookup x = some c → X.env.cells.lookup x = some c := clOf_sub (names := scope.names) (acc := []) (fun _ _ z => by cases z)
  have hasc : ∀ x, scope.names.lookup x = some .free → ∃ c, (clOf X.env.cells scope.names []).lookup x = some c := fun x hx =>
    clOf_has (mem_of_look hx) (I.ok.has x (L.free _ (mem_of_look hx) rfl))
  have kinds : ∀ x, (compEnvC scope (clOf X.env.cells scope.names []) C X.env).kindOf x = (scope.names.lookup x).map fun k => if (k == NameKind.free && X.env.scope.kind == .function && X.env.kindOf x == some .cell) then NameKind.cell else k := fun x => rlb_lookup
  have ltC : ∀ b o, s.heap.get? b = some o → b ≠ C := fun b o e => Nat.ne_of_lt (Nat.lt_of_lt_of_le (Heap.lt_size e) hC)
  have fromFree : ∀ x, ((compEnvC scope (clOf X.env.cells scope.names []) C X.env).kindOf x = some .cell ∨ (compEnvC scope (clOf X.env.cells scope.names []) C X.env).kindOf x = some .free) → scope.names.lookup x = some .free := fun x hx => by
    rw [kinds] at hx
    cases q : scope.names.lookup x with
    | none => rw [q] at hx; rcases hx with z | z <;> cases z
    | some k =>
      rw [q] at hx
      have hk : k ≠ .cell := L.cell _ (mem_of_look q)
      cases k with
      | free => rfl
      | cell => exact absurd rfl hk
      | _ => rcases hx with z | z <;> cases z
  refine ⟨⟨I.ok.mod, L.kind, I.ok.glob, I.ok.blt, hC, fun x y c h1 h2 => I.ok.inj x y c (sub x c h1) (sub y c h2), fun x hx => hasc x (fromFree x hx), fun _ _ z => Bool.noConfusion z, I.ok.hd, I.ok.frames, .inl rfl, fun b hb => ?_, I.bs, Nat.le_trans I.ok.bsz I.sz, fun b o e hb => ?_, fun b hb z => ?_, I.stack, I.stkFree⟩,
    rfl, I.bare, Un.kept kept, ⟨_, hns, fun i x v h1 h2 h3 => ?_⟩, fun x c e => ?_, I.hok.fresh hC, fun x c e => I.freeC x c (sub x c e), fun p hp => absurd (show p ∈ ([] : List (Addr × Obj)) from hp) (by simp), I.hok.kept kept, ?_⟩
  · obtain ⟨o, e⟩ := hob b hb
    exact ⟨ltC b o e, fun x c q => (hfp b hb).2.2.2.2.1 x c (sub x c q)⟩
  · rcases (hfp b hb).2.2.2.1 with z | z
    · exact I.ok.noex b o e z
    · exact absurd (Nat.lt_of_lt_of_le (Heap.lt_size e) (Nat.le_trans I.ok.bsz z)) (Nat.lt_irrefl _)
  · exact (List.mem_cons.mp (I.stkSub b z)).elim (hfp b hb).2.1 (hfp b hb).2.2.1
  · have hi : ¬ i < ts.length := fun hi => by
      have h2' : (lcS ts js σ)[i]? = some (some v) := h2
      unfold lcS at h2'
      rw [List.getElem?_append_left (by simpa using hi), List.getElem?_map, List.getElem?_eq_getElem hi] at h2'
      cases h2'
    have h2' : (lcS ts js σ)[i]? = some (some v) := h2
    have h1' : (lcN X ts js)[i]? = some x := h1
    unfold lcS at h2'
    unfold lcN at h1'
    rw [List.getElem?_append_right (by simpa using hi), List.getElem?_map, List.length_map] at h2'
    rw [List.getElem?_append_right (by omega), List.getElem?_map] at h1'
    cases q : js[i - ts.length]? with
    | none => rw [q] at h1'; cases h1'
    | some j =>
      rw [q] at h1' h2'
      have e1 : X.N.getD j "" = x := Option.some.inj h1'
      have e2 : (σ[j]?).join = some v := Option.some.inj h2'
      have e3 : σ[j]? = some (some v) := by
        cases z : σ[j]? with
        | none => rw [z] at e2; cases e2
        | some o => rw [z] at e2; exact congrArg some e2
      have hj : j < X.N.length := by rw [← I.len]; exact (List.getElem?_eq_some_iff.mp e3).1
      have e4 : X.N[j]? = some x := by
        rw [List.getElem?_eq_getElem hj, ← e1, List.getD_eq_getElem?_getD, List.getElem?_eq_getElem hj]; rfl
      have hf := L.cap j (List.mem_of_getElem? q)
      rw [e1] at hf
      have hk := L.free _ (mem_of_look hf) rfl
      obtain ⟨m, hn, hl⟩ := I.loc
      have vis : Vis X.env.scope x := by
        rcases hk with z | z
        · exact .inr (.inl z)
        · exact .inr (.inr z)
      obtain ⟨u, r, l⟩ := hl j x v e4 e3 vis
      refine ⟨u, r, ?_⟩
      rcases l with ⟨z, _⟩ | ⟨_, c, hc, hcell⟩
      · have z' : X.env.kindOf x = some .local := z
        rcases hk with k | k
        · rw [z'] at k; cases k
        · rw [z'] at k; cases k
      · obtain ⟨c', hc'⟩ := hasc x hf
        have e5 := sub x c' hc'
        rw [hc] at e5
        cases e5
        refine .inr ⟨?_, c, hc', ?_⟩
        · rw [kinds, hf]
          by_cases z : ((NameKind.free == NameKind.free) && X.env.scope.kind == .function && X.env.kindOf x == some .cell) = true
          · left; simp only [Option.map_some, if_pos z]
          · right; simp only [Option.map_some, if_neg z]
        · obtain ⟨o, ho, hd⟩ := hcell
          exact ⟨o, kept c o ho, hd⟩
  · obtain ⟨v, o, ho, hd⟩ := I.cell x c (sub x c e)
    exact ⟨v, o, kept c o ho, hd⟩
  · show (lcS ts js σ).length = (lcN X ts js).length
    unfold lcS lcN
    simp
end
end L2

namespace L2
open PySem PySem.Spec PyProof.Rows
/-- what is wanted of one turn of a comprehension's loop, the exceptions left out -/
def LcTurn (Mo : Model) (A : Around) (tgt elt : Expr) (tests : List Expr) (it lst : Value) (env : Env) (Fin : Shared → Prop) (Again : Shared → Prop) (s0 : Shared) : Prop :=
  wpAny Mo A (pyNext it) (fun nx s1 => match nx with
    | none => Fin s1
    | some v => wpAny Mo A (letOwnedTupleGo tgt it v) (fun _ s2 => wpAny Mo A (assign tgt env v) (fun _ s3 =>
        wpAny Mo A (forIn tests true fun c ok => if ok = true then (do let b ← isTrue c env (eval c env); pure (ForInStep.yield b)) else pure (ForInStep.yield ok)) (fun b s4 =>
          if b = true then wpAny Mo A (eval elt env) (fun y s5 => wpAny Mo A (call (.builtin "list.append") [lst, y]) (fun _ s6 => Again s6) (fun _ _ => False) s5) (fun _ _ => False) s4
          else Again s4) (fun _ _ => False) s3) (fun _ _ => False) s2) (fun _ _ => False) s1) (fun _ _ => False) s0
theorem compLoop_by {P : Program} {w : World} {A : Around} {R : Result → Shared → Prop} {s0 : Shared} {elt tgt iter : Expr} {tests : List Expr} {scope : Scope} {pos : Pos} {it lst : Value} {env : Env} (Iv : Nat → Shared → Prop)
    (turn : ∀ k sk, Iv k sk → LcTurn (model P w) A tgt elt tests it lst env (R (.ok .next)) (fun s' => ∃ j, j < k ∧ Iv j s') sk) (k0 : Nat) (h0 : Iv k0 s0) :
    codeAny (model P w) A (.compLoop (.ListComp elt [⟨tgt, iter, tests, 0⟩] scope pos) 0 it lst env) R s0 := by
  refine codeAny_loop rfl Iv (fun k sk hk => ?_) k0 h0
  show wpAny (model P w) A ((compTurn (.ListComp elt [⟨tgt, iter, tests, 0⟩] scope pos) 0 it lst env).onRaise fun ex => do noteFrame ex env; theTreesLotGoes ex) _ _ sk
  refine wpAny_noted (wpAny_noRaise ?_)
  rw [compTurn_list]
  refine wpAny_bind (wpAny_standAt (wpAny_bind (thn (turn k sk hk) fun nx s1 q1 => ?_)))
  cases nx with
  | none => exact wpAny_pure q1
  | some v =>
    refine wpAny_bind (thn q1 fun _ s2 q2 => wpAny_bind (thn q2 fun _ s3 q3 => wpAny_bind (thn q3 fun b s4 q4 => ?_)))
    cases b with
    | true => exact wpAny_bind (wpAny_bind (thn q4 fun y s5 q5 => wpAny_bind (thn q5 fun _ s6 q6 => wpAny_pure (wpAny_pure ⟨rfl, q6⟩))))
    | false => exact wpAny_pure ⟨rfl, q4⟩
/-- what a state still says -/
def SubS : St → St → Prop
  | [], [] => True
  | none :: a, _ :: b => SubS a b
  | some v :: a, w :: b => w = some v ∧ SubS a b
  | [], _ :: _ => False
  | _ :: _, [] => False
theorem SubS.ok : ∀ {a b : St}, SubS a b → a.length = b.length ∧ ∀ (i : Nat) v, a[i]? = some (some v) → b[i]? = some (some v)
  | [], [], _ => ⟨rfl, fun i v h => by simp at h⟩
  | none :: a, _ :: b, h => by
    obtain ⟨h1, h2⟩ := SubS.ok (a := a) (b := b) h
    refine ⟨by simp [h1], fun i v hv => ?_⟩
    cases i with
    | zero => simp at hv
    | succ i => simpa using h2 i v (by simpa using hv)
  | some u :: a, w :: b, h => by
    obtain ⟨h1, h2⟩ := SubS.ok (a := a) (b := b) h.2
    refine ⟨by simp [h1], fun i v hv => ?_⟩
    cases i with
    | zero => simpa [h.1] using hv
    | succ i => simpa using h2 i v (by simpa using hv)
  | [], _ :: _, h => False.elim h
  | none :: _, [], h => False.elim h
  | some _ :: _, [], h => False.elim h
/-- the tests of a comprehension -/
def PIfs (X : Cx) (ifs : List Expr) (t : TT) : Prop :=
  ∀ (pins : List (Addr × Obj)) (s : Shared) (σ : St) (H : Hp) (Q : Bool → Hp → Prop), Inv X pins σ H s → t σ H Q →
    wpAny (model X.prog X.w) X.A (forIn ifs true fun c r => if r = true then do let ok ← isTrue c X.env (eval c X.env); pure (ForInStep.yield ok) else pure (ForInStep.yield r)) (TP X pins σ Q) X.xe s
def tYes : TT := fun _ H Q => Q true H
theorem pf_nil {X : Cx} : PIfs X [] tYes := fun _ _ _ H _ I h => wpAny_pure ⟨H, I, h⟩
theorem pf_one {X : Cx} {c : Expr} {t : TT} (h : PT X c t) : PIfs X [c] t := fun pins s σ H Q I hq => by
  simp only [List.forIn_nil, List.forIn_cons, if_true]
  exact wpAny_bind (wpAny_bind (thn (h pins s σ H Q I hq) fun b s' hb => wpAny_pure (wpAny_pure hb)))
/-- [te for g in wi if tc]: W, the invariant by the turn, a measure, the items so far -/
def LcW (J : It) (ts : List Str) (js : List Nat) (g : TG) (tc : TT) (te : TE) (σ : St) (H1 : Hp) (Q : VK) : Prop := ∃ (W : Nat → List V → Hp → Prop) (n : Nat), W 0 [] H1 ∧ ∀ i ys H, W i ys H →
  (J.stop i H ∧ ∀ p, H p = none → Q (.ref p) (upd H p (.lst ys))) ∨
  (i < n ∧ J.go i H ∧ ys.length < sizeLine ∧ ∀ x H', J.yld i H x H' → g x (lcS ts js σ) H' fun σ2 H2 => SubS (lcS ts js σ) σ2 ∧ tc σ2 H2 fun b H3 => if b = true then te σ2 H3 fun y H4 => W (i + 1) (ys ++ [y]) H4 else W (i + 1) ys H3)
abbrev Dp (α : Type) := Addr → Shared → Hp → List Addr → α
def tLc (wi : TI) (ts : List Str) (js : List Nat) (g : Dp TG) (tc : Dp TT) (te : Dp TE) : TE := fun σ H Q => wi σ H fun J H1 => ∀ C s2 H2 fp, LcW J ts js (g C s2 H2 fp) (tc C s2 H2 fp) (te C s2 H2 fp) σ H1 Q
section
variable {X : Cx} {scope : Scope} {ts : List Str} {js : List Nat} {pins : List (Addr × Obj)} {σ : St} {H H' : Hp} {s : Shared} {tg elt iter : Expr} {ifs : List Expr} {g : Dp TG} {tc : Dp TT} {te : Dp TE} {pos : Pos} {E : Value → Shared → Prop}
/-- an object that stood untracked is tracked -/
theorem Inv.track {D : Addr} {o : HO} (I : Inv X pins σ H s) (f : FpOk X pins H D) (hD : X.s₀.heap.objs.size ≤ D) (new : ObjOk X.prog X.w (upd H D o) s.heap D o) : Inv X pins σ (upd H D o) s := by
  obtain ⟨f0, f1, f2, f3, f4, f5⟩ := f
  have ne : ∀ b u, H b = some u → b ≠ D := fun b u e z => by rw [z, f0] at e; cases e
  have ne0 : ∀ b ob, X.s₀.heap.get? b = some ob → b ≠ D := fun b ob e => Nat.ne_of_lt (Nat.lt_of_lt_of_le (Heap.lt_size e) hD)
  refine ⟨I.ok, I.os, I.bare, ⟨I.base.keep, I.base.slot, fun b ob e n hx => ?_, I.base.there, fun b xs e => ?_, fun b ob u e => ?_, fun b ps e => ?_⟩, I.loc, I.cell, ?_, fun x c e => ?_, fun p hp => ?_, fun a u e => ?_, I.len⟩
  · rw [upd_ne (ne0 b ob e)]; exact I.base.free b ob e n hx
  · have q := I.base.tups b xs e
    rw [upd_ne (ne b _ q)]; exact q
  · have q := I.base.frzs b ob u e
    rw [upd_ne (ne b _ q)]; exact q
  · obtain ⟨m, q⟩ := I.base.tbls b ps e
    exact ⟨m, by rw [upd_ne (ne b _ q)]; exact q⟩
  · rw [upd_ne (Ne.symm f1)]; exact I.free
  · rw [upd_ne (f4 x c e)]; exact I.freeC x c e
  · obtain ⟨a1, a2, a3⟩ := I.pin p hp
    exact ⟨a1, by rw [upd_ne (f5 p hp)]; exact a2, a3⟩
  · by_cases ha : a = D
    · subst ha
      rw [upd_same] at e
      cases e
      exact new
    · rw [upd_ne ha] at e
      refine (I.hok a u e).stay (fun _ _ _ q => q) (fun b q => ?_) fun b xs q => ?_
      · rw [upd_ne (ne b _ q)]; exact q
      · rw [upd_ne (ne b _ q)]; exact q
theorem lc_block {it : Addr} {fp : List Addr} {tn : Nat → Heap → Prop} {J : It} {Q : VK} {RR : Value → Addr → Result → Shared → Prop} (L : LcOk X scope js) (hc : X.calm = true) (I : Inv X pins σ H s) (T : Turn X.prog X.w X.K tg J fp it tn) (st : tn 0 s.heap)
    (hf : ∀ b ∈ fp, FpOk X pins H b) (hg : ∀ C s H fp, PG (X.lc scope ts js C s H fp) tg (g C s H fp)) (hcs : ∀ C s H fp, PIfs (X.lc scope ts js C s H fp) ifs (tc C s H fp)) (he : ∀ C s H fp, PE (X.lc scope ts js C s H fp) elt (te C s H fp)) (hw : ∀ C s2 H2 fp, LcW J ts js (g C s2 H2 fp) (tc C s2 H2 fp) (te C s2 H2 fp) σ H Q)
    (hRR : ∀ D C s' H' ys m', Inv X pins σ (upd H' D (.lst ys)) s' → FpOk X pins (upd H' D (.lst ys)) C → s'.heap.Ns C m' → Q (.ref D) (upd H' D (.lst ys)) → RR (.ref D) C (.ok .next) s') :
    wpAny (model X.prog X.w) X.A (newList []) (fun acc s₃ => wpAny (model X.prog X.w) X.A (newFunctionEnv scope X.env.globals (clOf X.env.cells scope.names []) [] X.env.qual none .none (some X.env)) (fun cenv s₄ =>
      codeAny (model X.prog X.w) X.A (.compStart (.ListComp elt [⟨tg, iter, ifs, 0⟩] scope pos) 0 (.ref it) acc { cenv with scope := relabel scope X.env }) (RR acc cenv.locals) s₄) E s₃) E s := by
  refine wpAny_newObj_type (wpAny_newFunctionEnv L.cell (by intro y hy; simp at hy) (fun h₁ hns₁ hsb₁ => ?_) L.kind)
  dsimp only at hns₁ hsb₁ ⊢
  generalize hH2 : s.heap.push { cls := .type "list", dict := none, data := .seq ([] : List Value).toArray } = G2 at hns₁ hsb₁ ⊢
  have hC : G2.objs.size = s.heap.objs.size + 1 := by rw [← hH2, Heap.size_push]
  generalize hCd : G2.objs.size = C at hns₁ hsb₁ hC ⊢
  obtain ⟨W, nn, w0, turn⟩ := hw C s H fp
  have hDC : s.heap.objs.size ≠ C := by rw [hC]; exact Nat.ne_of_lt (Nat.lt_succ_self _)
  have hCle : s.heap.objs.size ≤ C := by rw [hC]; exact Nat.le_succ _
  have below : ∀ b, b < s.heap.objs.size → b ≠ C ∧ b ≠ s.heap.objs.size := fun b hb => ⟨by rw [hC]; exact Nat.ne_of_lt (Nat.lt_succ_of_lt hb), Nat.ne_of_lt hb⟩
  have old : ∀ b o, s.heap.get? b = some o → h₁.get? b = some o := fun b o e => hsb₁.extBut b o (below b (Heap.lt_size e)).1 (Heap.get?_push_of_some _ (hH2 ▸ Heap.get?_push_of_some _ e))
  have hacc : h₁.PlainList s.heap.objs.size #[] := ⟨_, hsb₁.extBut _ _ hDC (Heap.get?_push_of_some _ (hH2 ▸ Heap.get?_push_size _ rfl))⟩
  have hob : ∀ b ∈ fp, ∃ o, s.heap.get? b = some o := fun b hb => by obtain ⟨o, e, _⟩ := T.obj 0 _ st b hb; exact ⟨o, e⟩
  have st₁ : tn 0 h₁ := T.keep 0 _ _ st fun b _ o e => old b o e
  generalize hD : s.heap.objs.size = D at hacc hDC hCle below ⊢
  have I1 : Inv (X.lc scope ts js C s H fp) [] (lcS ts js σ) H { s with heap := h₁, toks := s.toks + ([] : List (Str × Value)).length } := lc_start L I (by rw [hD]; exact hCle) hns₁ old hf hob
  have stk : ∀ b ∈ frs X.stack, b < s.heap.objs.size := fun b hb => by obtain ⟨_, o, e, _⟩ := I.stack.mem hb; exact Heap.lt_size e
  have cells : ∀ x c, (clOf X.env.cells scope.names []).lookup x = some c → X.env.cells.lookup x = some c := clOf_sub (names := scope.names) (acc := []) (fun _ _ z => by cases z)
  have stat : ∀ {K : Hp}, (∀ b ∈ D :: fp, K b = none) → ∀ b ∈ D :: fp, FpOk (X.lc scope ts js C s H fp) [] K b := fun {K} hn b hb => by
    refine ⟨hn b hb, ?_, ?_, ?_, ?_, fun p hp => absurd (show p ∈ ([] : List (Addr × Obj)) from hp) (by simp)⟩
    · rcases List.mem_cons.mp hb with z | z
      · rw [z]; exact hDC
      · obtain ⟨o, e⟩ := hob b z
        exact (below b (by rw [← hD]; exact Heap.lt_size e)).1
    · intro z
      rcases List.mem_cons.mp hb with q | q
      · have := stk b z
        rw [q, hD] at this
        exact Nat.lt_irrefl _ this
      · exact (List.mem_cons.mp (I.stkSub b z)).elim (hf b q).2.1 (hf b q).2.2.1
    · rcases List.mem_cons.mp hb with q | q
      · right; rw [q]; exact Nat.le_of_eq hD
      · exact .inl q
    · intro x c e z
      rcases List.mem_cons.mp hb with q | q
      · obtain ⟨v, qc⟩ := I.cell x c (cells x c e)
        have := qc.lt
        rw [z, q, hD] at this
        exact Nat.lt_irrefl _ this
      · exact (hf b q).2.2.2.2.1 x c (cells x c e) z
  have fr1 : ∀ b ∈ D :: fp, H b = none := fun b hb => by
    rcases List.mem_cons.mp hb with q | q
    · rw [q]; exact I.hok.fresh (by rw [hD]; exact Nat.le_refl _)
    · exact (hf b q).1
  have objs : ∀ i (h : Heap) (its : Array Value), tn i h → h.PlainList D its → ∀ b ∈ D :: fp, ∃ o, h.get? b = some o ∧ ∀ v, o.data ≠ .cell v := fun i h its t p b hb => by
    rcases List.mem_cons.mp hb with q | q
    · subst q
      obtain ⟨n, e⟩ := p
      exact ⟨_, e, fun v z => by cases z⟩
    · exact T.obj i h t b q
  have loop : ∀ s₃ : Shared, s₃ = { s with heap := h₁, toks := s.toks + ([] : List (Str × Value)).length } →
      codeAny (model X.prog X.w) X.A (.compLoop (.ListComp elt [⟨tg, iter, ifs, 0⟩] scope pos) 0 (.ref it) (.ref D) (compEnvC scope (clOf X.env.cells scope.names []) C X.env)) (RR (.ref D) C) s₃ := by
    rintro s₃ rfl
    refine compLoop_by (fun k s' => ∃ i ys its H', Inv (X.lc scope ts js C s H fp) [] (lcS ts js σ) H' s' ∧ tn i s'.heap ∧ (∀ b ∈ D :: fp, H' b = none) ∧ s'.heap.PlainList D its ∧ Vals ys its.toList ∧ ys.length ≤ sizeLine ∧ k = nn - i ∧ W i ys H') ?_ nn ⟨0, [], #[], H, I1, st₁, fr1, hacc, .nil, Nat.zero_le _, rfl, w0⟩
    rintro n s3 ⟨i, ys, its, H3, I3, st3, fr3, p3, v3, z3, rfl, w3⟩
    have I3' := I3.pinned (fp := [D]) (fun b hb => stat fr3 b (by rw [List.mem_singleton.mp hb]; exact List.mem_cons_self)) (fun b hb => objs i _ its st3 p3 b (by rw [List.mem_singleton.mp hb]; exact List.mem_cons_self))
    have sp : ∀ b ∈ fp, FpOk (X.lc scope ts js C s H fp) ([] ++ pinsAt [D] s3.heap) H3 b := fun b hb => by
      obtain ⟨a0, a1, a2, a3, a4, a5⟩ := stat fr3 b (List.mem_cons_of_mem _ hb)
      refine ⟨a0, a1, a2, a3, a4, fun p hp z => ?_⟩
      obtain ⟨q, _⟩ := of_pinsAt (show p ∈ pinsAt [D] s3.heap from hp)
      have e := List.mem_singleton.mp q
      obtain ⟨o, eo⟩ := hob b hb
      exact (below b (by rw [← hD]; exact Heap.lt_size eo)).2 (by rw [← z]; exact e)
    rcases turn i ys H3 w3 with ⟨stop, qn⟩ | ⟨hin, go, hz, step⟩
    · refine thn (T.done (X.lc scope ts js C s H fp) rfl rfl rfl hc i _ s3 _ H3 _ I3' sp st3 stop) fun r s4 ⟨hr, I4⟩ => ?_
      subst hr
      obtain ⟨n3, e3⟩ := p3
      have e4 : s4.heap.get? D = some { cls := .type "list", data := .seq its n3 } := (I4.pin (D, _) (List.mem_append_right _ (mem_pinsAt (List.mem_singleton.mpr rfl) e3))).1
      have I4' : Inv (X.lc scope ts js C s H fp) [] (lcS ts js σ) H3 s4 := Inv.unpinned (pins := []) I4
      have hlen := v3.length
      have back : Inv X pins σ H3 s4 := I.call' (ch := fp) I4'.os I4'.base I4'.hok I4'.bare fun b hb => ⟨(hf b hb).2.2.2.1, (hf b hb).2.1, (hf b hb).2.2.2.2.1, (hf b hb).2.2.2.2.2⟩
      have fD : FpOk X pins H3 D := I.fpOk (Nat.le_of_eq hD) (fr3 D List.mem_cons_self)
      have ob : ObjOk X.prog X.w (upd H3 D (.lst ys)) s4.heap D (.lst ys) := ⟨z3, its.toList, n3, v3, by simpa using e4⟩
      have tr := back.track fD (by rw [← hD]; exact I.sz) ob
      obtain ⟨m4, n4, _⟩ := I4'.loc
      refine hRR D C s4 H3 ys m4 tr ?_ n4 (qn D (fr3 D List.mem_cons_self))
      refine I.fpOk (by rw [hD]; exact hCle) ?_
      rw [upd_ne (Ne.symm hDC)]
      exact I4'.free
    · refine thn (T.item (X.lc scope ts js C s H fp) rfl rfl rfl hc i _ s3 _ H3 _ I3' sp st3 go) fun r s4 ⟨u, hr, h4⟩ => ?_
      subst hr
      refine thn h4 fun _ s5 ⟨x, H5, I5, r5, y5, st5, fr5⟩ => ?_
      obtain ⟨n3, e3⟩ := p3
      have e5 := I5.pin (D, _) (List.mem_append_right _ (mem_pinsAt (List.mem_singleton.mpr rfl) e3))
      have fr5' : ∀ b ∈ D :: fp, H5 b = none := fun b hb => by
        rcases List.mem_cons.mp hb with q | q
        · rw [q]; exact e5.2.1
        · exact fr5 b q
      have p5 : s5.heap.PlainList D its := ⟨n3, e5.1⟩
      have I5b : Inv (X.lc scope ts js C s H fp) [] (lcS ts js σ) H5 s5 := Inv.unpinned (pins := []) I5
      have I5' := I5b.pinned (fp := D :: fp) (stat fr5') (objs _ _ its st5 p5)
      refine thn (hg C s H fp _ s5 _ H5 x u _ I5' r5 (step x H5 y5)) fun _ s6 ⟨σ6, H6, I6, sub6, q6⟩ => ?_
      refine thn (hcs C s H fp _ s6 σ6 H6 _ I6 q6) fun b s7 ⟨H7, I7, q7⟩ => ?_
      have wk : ∀ {H' : Hp} {s' : Shared}, Inv (X.lc scope ts js C s H fp) ([] ++ pinsAt (D :: fp) s5.heap) σ6 H' s' → Inv (X.lc scope ts js C s H fp) ([] ++ pinsAt (D :: fp) s5.heap) (lcS ts js σ) H' s' := fun I' => I'.weak sub6.ok.1 sub6.ok.2
      have rec' : ∀ {H' : Hp} {s' : Shared}, Inv (X.lc scope ts js C s H fp) ([] ++ pinsAt (D :: fp) s5.heap) σ6 H' s' → Inv (X.lc scope ts js C s H fp) [] (lcS ts js σ) H' s' ∧ tn (i + 1) s'.heap ∧ (∀ b ∈ D :: fp, H' b = none) ∧ s'.heap.PlainList D its := fun {H' s'} I' => by
        have pin : ∀ b ∈ D :: fp, ∀ o, s5.heap.get? b = some o → s'.heap.get? b = some o ∧ H' b = none := fun b hb o e => by
          have z := I'.pin (b, o) (List.mem_append_right _ (List.mem_append_right _ (mem_pinsAt hb e)))
          exact ⟨z.1, z.2.1⟩
        refine ⟨Inv.unpinned (pins := []) (wk I'), T.keep _ _ _ st5 fun b hb o e => (pin b (List.mem_cons_of_mem _ hb) o e).1, fun b hb => ?_, ⟨n3, (pin D List.mem_cons_self _ e5.1).1⟩⟩
        obtain ⟨o, e, _⟩ := objs _ _ its st5 p5 b hb
        exact (pin b hb o e).2
      cases b with
      | false =>
        obtain ⟨j1, j2, j3, j4⟩ := rec' I7
        exact ⟨nn - (i + 1), by omega, i + 1, ys, its, H7, j1, j2, j3, j4, v3, z3, rfl, q7⟩
      | true =>
        refine thn (he C s H fp _ s7 σ6 H7 _ I7 q7) fun yv s8 ⟨y, H8, I8, r8, w8⟩ => ?_
        obtain ⟨j1, j2, j3, j4⟩ := rec' I8
        have hlen : its.size = ys.length := by have := v3.length; simp at this; omega
        refine wpAny_list_append_plain (hsz := by rw [hlen]; exact z3) j4 fun h9 p9 sb9 => ?_
        obtain ⟨f0, f1, f2, f3, f4, f5⟩ := stat j3 D List.mem_cons_self
        refine ⟨nn - (i + 1), by omega, i + 1, ys ++ [y], its.push yv, H8, j1.turned (t' := s8.toks) (fun b o hb e => (sb9.2 b hb).trans e) f0 f1 f3 f4 f5, T.keep _ _ _ j2 fun b hb o e => (sb9.2 b ?_).trans e, j3, p9, ?_, ?_, rfl, w8⟩
        · obtain ⟨o, eo⟩ := hob b hb
          exact (below b (by rw [← hD]; exact Heap.lt_size eo)).2
        · rw [Array.toList_push]
          exact v3.append (.cons r8 .nil)
        · rw [List.length_append, List.length_singleton]; exact hz
  exact codeAny_compStart_list (loop _ rfl) (T.self _ 0 _ _ _ st₁ (loop _ rfl))
end
end L2

namespace L2
open PySem PySem.Spec PyProof.Rows
section
variable {X : Cx} {scope : Scope} {ts : List Str} {js : List Nat} {tg elt iter : Expr} {ifs : List Expr} {wi : TI} {g : Dp TG} {tc : Dp TT} {te : Dp TE} {pos : Pos}
theorem pe_lc (L : LcOk X scope js) (hc : X.calm = true) (hi : PI X tg iter wi) (hg : ∀ C s H fp, PG (X.lc scope ts js C s H fp) tg (g C s H fp)) (hcs : ∀ C s H fp, PIfs (X.lc scope ts js C s H fp) ifs (tc C s H fp)) (he : ∀ C s H fp, PE (X.lc scope ts js C s H fp) elt (te C s H fp))
    (hs : ∀ x, foldedSetIterable iter X.env x = pure x := by intro _; rfl) : PE X (.ListComp elt [⟨tg, iter, ifs, 0⟩] scope pos) (tLc wi ts js g tc te) := by
  intro pins s σ H Q I h
  rw [eval_ListComp]
  refine wpAny_comprehension_free (use := none) rfl hs (closureFor_eq fun y hy hf => I.ok.has y.1 (L.free y hy hf)) L.kind L.names (thn (hi pins s σ H _ I h) fun v s1 h1 => thn h1 fun itv s2 h2 => ?_)
  obtain ⟨it, fp, tn, J, H2, rfl, I2, T, st2, f2, hw⟩ := h2
  refine lc_block (RR := fun acc C => compPost (model X.prog X.w) X.A X.xe none (EP X pins σ Q) acc C) L hc I2 T st2 f2 hg hcs he hw ?_
  intro D C s' H' ys m' I' fC hn hq
  obtain ⟨f0, f1, f2, f3, f4, f5⟩ := fC
  exact ⟨m', hn, fun h' hs' => ⟨.ref D, _, I'.turned (t' := s'.toks) (fun b o hb e => (hs'.2 b hb).trans e) f0 f1 f3 f4 f5, rfl, hq⟩⟩
end
end L2

/-! ### names for the generator -/
namespace L2
open PySem PySem.Spec PyProof.Rows
def lcOkB (scope : Scope) (ek : List (Str × NameKind)) (N : List Str) (js : List Nat) : Bool :=
  scope.kind == .function && scope.names.all (fun y => y.2 != .cell) && scope.names.all (fun y => y.2 != .local || scope.names.lookup y.1 == some .local) &&
  scope.names.all (fun y => y.2 != .free || ek.lookup y.1 == some .cell || ek.lookup y.1 == some .free) && js.all (fun j => scope.names.lookup (N.getD j "") == some .free)
theorem LcOk.of {X : Cx} {scope : Scope} {js : List Nat} (h : lcOkB scope X.env.scope.names X.N js = true) : LcOk X scope js := by
  unfold lcOkB at h
  simp only [Bool.and_eq_true, List.all_eq_true, Bool.or_eq_true, bne_iff_ne, beq_iff_eq] at h
  obtain ⟨⟨⟨⟨h1, h2⟩, h3⟩, h4⟩, h5⟩ := h
  refine ⟨h1, h2, fun y hy e => ?_, fun y hy e => ?_, h5⟩
  · exact (h3 y hy).resolve_left fun z => z e
  · rcases h4 y hy with (z | z) | z
    · exact absurd e z
    · exact .inl z
    · exact .inr z
theorem nodup_of {l : List Str} (h : decide l.Nodup = true) : l.Nodup := of_decide_eq_true h
theorem passN {X : Cx} : Passes (CXe X.prog X.w) X E0 := fun _ _ _ _ _ _ _ h => by
  obtain ⟨_, _, _, _, _, _, _, z⟩ := h
  exact z.elim
theorem powx {P : Program} {w : World} {K : PySem.W.Frag} {mg : Str → Option Value} {base : Heap} {N : List Str} {qual : Str} {scope : Scope} {f : Addr} {cd : Value} {A : Around} {outer : List Env} {s : Shared} {H : Hp} {E : XK} :
    PassesOwn (model P w) (cxOf (CXe P w) P w K mg base N qual scope f cd A outer s H E).A (cxOf (CXe P w) P w K mg base N qual scope f cd A outer s H E).env (cxOf (CXe P w) P w K mg base N qual scope f cd A outer s H E).xe := PassesOwn.leaving
theorem walk_ofX {l : PySem.W.OpenLaw} {n k : Nat} {q : Program} {loose : List Str} {XP : (Str → Option Value) → Heap → Prop} {YP : World → Heap → Prop} {d : DefRec} {K : Params → PySem.W.Frag} {sp : PySem.W.Frag → Sp} {x : Str}
    (hn : l.most = some n) (hn2 : n ≤ sizeLine) (hdf : d.params.defaults = []) (hr : Room k callerA)
    (hY : ∀ (w : World) (h : Heap), YP w h → (K w.params).In h)
    (F : ∀ (w : World) (mg : Str → Option Value) (fa : Addr) (h : Heap), (K w.params).In h → h.Ns mainGlobals mg → mg d.name = some (.ref fa) →
      ∃ fd : FuncData, (∀ (s : Shared) (u : Value), BindsTo s fd ⟨[u], []⟩ [(x, u)]) ∧
        ∀ base : Heap, (K w.params).In base → base.Ns mainGlobals mg → FnOk l.prog w (K w.params) mg base (CXe l.prog w) k fa fd [x] (sp (K w.params)))
    (hsp : ∀ (K : PySem.W.Frag) (H : Hp) (a : Addr) (ns : List Int), ns.length ≤ n → Only H → SqL K H a (ns.map V.int) → sp K [.ref a] H (fun v _ => v = .bl true) fun _ _ _ => False) :
    PySem.W.WalkO q loose XP YP l.row.toRowW d [] (fun f vs => PySem.call f vs) :=
  walk_of (K := K) (CX := fun w => CXe l.prog w) (sp := fun w => sp (K w.params)) hn hn2 hdf hr hY F (fun w H a ns h1 h2 h3 => hsp (K w.params) H a ns h1 h2 h3) fun _ H s e s' h => by
    obtain ⟨_, _, _, _, _, _, _, z⟩ := h
    exact z
end L2

namespace L2
open PySem PySem.Spec PyProof.Rows
section
variable {X : Cx}
theorem OpR.imp {f : Value → Value → Sem Value} {r r' : R2} (h : OpR X f r) (i : ∀ x y H Q, r' x y H Q → r x y H Q) : OpR X f r' := fun pins s σ H x y v u Q I rx ry hq => h pins s σ H x y v u Q I rx ry (i _ _ _ _ hq)
theorem op_eqI : OpR X (compareOp .Eq) (rI0 fun i j => .bl (decide (i = j))) := op_eq.imp fun x y H Q h => by
  obtain ⟨i, j, rfl, rfl, q⟩ := h
  refine ⟨rfl, ?_⟩
  have e : decide (V.int i = V.int j) = decide (i = j) := decide_eq_decide.mpr ⟨fun z => V.int.inj z, fun z => congrArg V.int z⟩
  rw [e]; exact q
def rS0 (g : Str → Str → V) : R2 := fun x y H Q => ∃ i j, x = .str i ∧ y = .str j ∧ Q (g i j) H
theorem op_eqS : OpR X (compareOp .Eq) (rS0 fun i j => .bl (decide (i = j))) := op_eq.imp fun x y H Q h => by
  obtain ⟨i, j, rfl, rfl, q⟩ := h
  refine ⟨rfl, ?_⟩
  have e : decide (V.str i = V.str j) = decide (i = j) := decide_eq_decide.mpr ⟨fun z => V.str.inj z, fun z => congrArg V.str z⟩
  rw [e]; exact q
end
theorem ite3n {c A B : Prop} [Decidable c] (h1 : ¬ c → A) (h2 : c → B) : if (!decide c) = true then A else B := iteNo h1 h2
/-- as it was, but at b -/
def SameB (b : Addr) (H H' : Hp) : Prop := ∀ a o, a ≠ b → H a = some o → H' a = some o
theorem SameB.refl (b : Addr) (H : Hp) : SameB b H H := fun _ _ _ h => h
theorem Same.upd {H H' : Hp} {p : Addr} (s : Same H H') (h : H p = none) (o : HO) : Same H (upd H' p o) := fun b u q => by rw [upd_ne (ne_of_none q h)]; exact s b u q
theorem Same.new {H H' : Hp} {p : Addr} (s : Same H H') (h : H' p = none) (o : HO) : Same H (L2.upd H' p o) := s.upd (s.free h) o
theorem SameB.new {b : Addr} {H H' : Hp} {p : Addr} (s : SameB b H H') (h : H' p = none) (o : HO) : SameB b H (L2.upd H' p o) := fun a u n q => by rw [upd_ne (ne_of_none (s a u n q) h)]; exact s a u n q
theorem SameB.at {b : Addr} {H H' : Hp} (s : SameB b H H') (o : HO) : SameB b H (L2.upd H' b o) := fun a u n q => by rw [upd_ne n]; exact s a u n q
end L2
namespace L2
open PySem PySem.Spec PyProof.Rows
/-- an expression of written numbers -/
theorem pe_fold {X : Cx} {e : Expr} {t : TE} (v : V) (h : PE X e t) (c : ∀ σ H Q, Q v H → t σ H Q) : PE X e (tC v) := fun pins s σ H Q I hq => h pins s σ H Q I (c σ H Q hq)
theorem bzl {x : Int} (h : x.natAbs < 2 ^ 512) : Bz 512 x := h
end L2
namespace L2
open PySem PySem.Spec PyProof.Rows
end L2
/-- an invariant, closed to the walk -/
structure Iv (p : Prop) : Prop where
  o : p

/-! ### try: f(..) except C: .. (no name), the suite goes on -/
namespace L2
open PySem PySem.Spec PyProof.Rows
/-- the kinds of an exception that come here, and what is wanted then -/
def tTry (K : PySem.W.Frag) (tx : St → Hp → VK → (Value → Hp → Prop) → Prop) (C : Addr) (tb : Addr → TS) : TS := fun D σ H => tx σ H (fun _ H1 => D.nx σ H1) fun cls H1 =>
  PySem.W.exmOne K cls (.ref C) = some true ∧ ∀ ea, tb ea D σ H1
end L2

/-! ### the signs of a text; all, any -/
namespace L2
open PySem PySem.Spec PyProof.Rows
/-- the signs of x -/
def Its (x : Str) : It := ⟨fun i _ => i < x.cps.size, fun i H v H' => H' = H ∧ ∃ c, x.cps[i]? = some c ∧ v = .str ⟨#[c]⟩, fun i _ => x.cps.size ≤ i⟩
theorem turn_str {P : Program} {w : World} {K : PySem.W.Frag} {tg : Expr} {it : Addr} {x : Str} {St : Nat → Heap → Prop}
    (W : ∀ A' : Around, A'.handled = none → Walks P w A' it [it] [it] x.cps.size (SignAt x) St)
    (ob : ∀ i h, St i h → ∃ (o : Obj) (n : String) (vs : Array Value), h.get? it = some o ∧ o.cls = .type n ∧ o.data = .fields vs ∧ ["enumerate", "zip", "dict_itemiterator", "dict_reverseitemiterator", "odict_iterator", "itertools.zip_longest", "itertools.pairwise"].contains n = false)
    (sf : ∀ (A : Around) (i : Nat) (s : Shared) (Q : Value → Shared → Prop) (E : Value → Shared → Prop), St i s.heap → Q (.ref it) s → wpAny (model P w) A (pyIter (.ref it)) Q E s) :
    Turn P w K tg (Its x) [it] it (fun i h => St i h ∧ i ≤ x.cps.size) where
  mem := by simp
  obj := fun i h st b hb => by
    have e : b = it := by simpa using hb
    subst e
    obtain ⟨o, n, vs, e, _, d, _⟩ := ob i h st.1
    exact ⟨o, e, fun v z => by rw [d] at z; cases z⟩
  keep := fun i h h' st k => ⟨(W {} rfl).frame i h h' st.1 k, st.2⟩
  item := by
    intro X hP hw hK hc i pins s σ H E I hf st hg
    subst hP hw hK
    obtain ⟨f0, f1, f2, f3, f4, f5⟩ := hf it (by simp)
    refine (W X.A (I.ok.hd hc)).item i s _ _ hg st.1 fun v h' tk hv st' kk => ?_
    obtain ⟨c, u, hcx, rfl⟩ := hv
    have I1 : Inv X pins σ H { s with heap := h', toks := tk } := I.turned (fun b o hb e => kk b o (by simpa using hb) e) f0 f1 f3 f4 f5
    obtain ⟨o, n, vs, e, hcl, hd, hn⟩ := ob _ _ st'
    have hi : i < x.cps.size := hg
    exact ⟨_, rfl, go_of (s := { s with heap := h', toks := tk }) e hcl hd hn ⟨.str ⟨#[c]⟩, H, I1, ⟨u, rfl⟩, ⟨rfl, c, hcx, rfl⟩, ⟨st', hi⟩, fun b hb => (hf b hb).1⟩⟩
  done := by
    intro X hP hw hK hc i pins s σ H E I hf st hg
    subst hP hw hK
    obtain ⟨f0, f1, f2, f3, f4, f5⟩ := hf it (by simp)
    have e : i = x.cps.size := Nat.le_antisymm st.2 hg
    subst e
    exact (W X.A (I.ok.hd hc)).done s _ _ st.1 fun h' tk kk => ⟨rfl, I.turned (fun b o hb e => kk b o (by simpa using hb) e) f0 f1 f3 f4 f5⟩
  self := fun A i s Q E st h => sf A i s Q E st.1 h
section
variable {X : Cx} {tg : Expr}
def iStr (tl : TE) : TI := fun σ H R => tl σ H fun x H1 => ∃ z, x = .str z ∧ R (Its z) H1
theorem pi_str {l : Expr} {tl : TE} (hl : PE X l tl) : PI X tg l (iStr tl) := by
  intro pins s σ H R I h
  refine thn (hl pins s σ H _ I h) fun v s1 ⟨x, H1, I1, r1, q1⟩ => ?_
  obtain ⟨z, e, q⟩ := q1
  subst e
  obtain ⟨t, rfl⟩ := r1
  have fp : ∀ b ∈ [s1.heap.objs.size], FpOk X pins H1 b := fun b hb => by
    have e : b = s1.heap.objs.size := by simpa using hb
    subst e
    exact I1.fpOk (Nat.le_refl _) (I1.hok.fresh (Nat.le_refl _))
  cases ha : z.cps.all (· < 128)
  · refine wpAny_pyIter_wide ha ?_
    refine ⟨s1.heap.objs.size, [s1.heap.objs.size], _, _, H1, rfl, I1.kept (t' := s1.toks) fun b o e => Heap.get?_push_of_some _ e,
      turn_str (St := fun i h => h.IsStrIter s1.heap.objs.size "str_iterator" z t i) (fun A' hA => Walks.strWide hA _ z t) (fun i h st => ?_) (fun A i s Q E st h => wpAny_pyIter_striter_wide st h), ⟨⟨_, Heap.get?_push_size _ rfl, rfl, rfl⟩, Nat.zero_le _⟩, fp, q⟩
    obtain ⟨o, e, c, d⟩ := st
    exact ⟨o, _, _, e, c, d, by decide⟩
  · refine wpAny_pyIter_ascii ha ?_
    refine ⟨s1.heap.objs.size, [s1.heap.objs.size], _, _, H1, rfl, I1.kept (t' := s1.toks) fun b o e => Heap.get?_push_of_some _ e,
      turn_str (St := fun i h => h.IsStrIter s1.heap.objs.size "str_ascii_iterator" z t i) (fun A' hA => Walks.strAscii hA _ z t) (fun i h st => ?_) (fun A i s Q E st h => wpAny_pyIter_striter_ascii st h), ⟨⟨_, Heap.get?_push_size _ rfl, rfl, rfl⟩, Nat.zero_le _⟩, fp, q⟩
    obtain ⟨o, e, c, d⟩ := st
    exact ⟨o, _, _, e, c, d, by decide⟩
end
/-- one sign -/
abbrev sg (c : Nat) : V := .str ⟨#[c]⟩
theorem for_str {x : Str} {g : TG} {tb : TS} {D : Ends} {σ : St} {H : Hp} (Pv : Nat → St → Hp → Prop) (h0 : Pv 0 σ H)
    (hs : ∀ i c σ H, x.cps[i]? = some c → Pv i σ H → g (sg c) σ H fun σ2 H2 => tb { D with nx := Pv (i + 1), ct := Pv (i + 1), bk := D.nx } σ2 H2) (hd : ∀ σ H, Pv x.cps.size σ H → D.nx σ H) :
    ∃ W : Nat → Nat → St → Hp → Prop, (∃ m, W 0 m σ H) ∧ ∀ i m σ H, W i m σ H →
      ((Its x).stop i H ∧ D.nx σ H) ∨ ((Its x).go i H ∧ ∃ N : St → Hp → Prop, (∀ σ' H', N σ' H' → ∃ m', m' < m ∧ W (i + 1) m' σ' H') ∧ ∀ v H', (Its x).yld i H v H' → g v σ H' fun σ2 H2 => tb { D with nx := N, ct := N, bk := D.nx } σ2 H2) := by
  refine ⟨fun i m σ H => m = x.cps.size - i ∧ i ≤ x.cps.size ∧ Pv i σ H, ⟨x.cps.size, by simp, Nat.zero_le _, h0⟩, ?_⟩
  rintro i m σ H ⟨rfl, hi, p⟩
  by_cases hlt : i < x.cps.size
  · refine .inr ⟨hlt, Pv (i + 1), fun σ' H' p' => ⟨x.cps.size - (i + 1), by omega, rfl, hlt, p'⟩, fun v H' y => ?_⟩
    obtain ⟨e, c, hc, ev⟩ := y
    subst e ev
    exact hs i c σ _ hc p
  · have e : i = x.cps.size := by omega
    subst e
    exact .inl ⟨Nat.le_refl _, hd σ H p⟩
/-! comprehensions, by their items -/
section
variable {K : PySem.W.Frag} {ts : List Str} {js : List Nat} {g : TG} {tc : TT} {te : TE} {σ : St} {H : Hp} {Q : VK}
theorem lc_list {a : Addr} {xs : List V} (Pv : Nat → List V → Hp → Prop) (h0 : Pv 0 [] H) (hl : ∀ i ys H, i ≤ xs.length → Pv i ys H → SqL K H a xs ∧ ys.length < sizeLine)
    (hs : ∀ i x ys H, xs[i]? = some x → Pv i ys H → g x (lcS ts js σ) H fun σ2 H2 => SubS (lcS ts js σ) σ2 ∧ tc σ2 H2 fun b H3 => if b = true then te σ2 H3 fun y H4 => i + 1 ≤ xs.length ∧ Pv (i + 1) (ys ++ [y]) H4 else i + 1 ≤ xs.length ∧ Pv (i + 1) ys H3)
    (hd : ∀ ys H, Pv xs.length ys H → ∀ p, H p = none → Q (.ref p) (upd H p (.lst ys))) : LcW (Itl K a) ts js g tc te σ H Q := by
  refine ⟨fun i ys H => i ≤ xs.length ∧ Pv i ys H, xs.length, ⟨Nat.zero_le _, h0⟩, ?_⟩
  rintro i ys H ⟨hi, p⟩
  obtain ⟨q, hz⟩ := hl i ys H hi p
  by_cases hlt : i < xs.length
  · refine .inr ⟨hlt, ⟨xs, xs[i], q, by simp [hlt]⟩, hz, fun x H' y => ?_⟩
    obtain ⟨e, y⟩ := y
    subst e
    exact hs i x ys _ (y xs q) p
  · have e : i = xs.length := by omega
    subst e
    exact .inl ⟨⟨xs, q, Nat.le_refl _⟩, hd ys H p⟩
theorem lc_range {lo : Int} {n : Nat} (Pv : Nat → List V → Hp → Prop) (h0 : Pv 0 [] H) (hl : ∀ i ys H, i ≤ n → Pv i ys H → ys.length < sizeLine)
    (hs : ∀ i ys H, i < n → Pv i ys H → g (.int (lo + i)) (lcS ts js σ) H fun σ2 H2 => SubS (lcS ts js σ) σ2 ∧ tc σ2 H2 fun b H3 => if b = true then te σ2 H3 fun y H4 => i + 1 ≤ n ∧ Pv (i + 1) (ys ++ [y]) H4 else i + 1 ≤ n ∧ Pv (i + 1) ys H3)
    (hd : ∀ ys H, Pv n ys H → ∀ p, H p = none → Q (.ref p) (upd H p (.lst ys))) : LcW (Itr lo n) ts js g tc te σ H Q := by
  refine ⟨fun i ys H => i ≤ n ∧ Pv i ys H, n, ⟨Nat.zero_le _, h0⟩, ?_⟩
  rintro i ys H ⟨hi, p⟩
  have hz := hl i ys H hi p
  by_cases hlt : i < n
  · refine .inr ⟨hlt, hlt, hz, fun x H' y => ?_⟩
    obtain ⟨e, y⟩ := y
    subst e y
    exact hs i ys _ hlt p
  · have e : i = n := by omega
    subst e
    exact .inl ⟨Nat.le_refl _, hd ys H p⟩
end
end L2

namespace L2
open PySem PySem.Spec PyProof.Rows
section
variable {X : Cx}
end
end L2

/-! ### for a, b in zip(xs, ys) -/
namespace L2
open PySem PySem.Spec PyProof.Rows
section
variable {X : Cx} {pins : List (Addr × Obj)} {σ : St} {H : Hp} {s : Shared} {h' : Heap}
end
/-- two lists side by side -/
def Itz (K : PySem.W.Frag) (a b : Addr) : It :=
  ⟨fun i H => ∃ xs ys x y, SqL K H a xs ∧ SqL K H b ys ∧ xs[i]? = some x ∧ ys[i]? = some y,
   fun i H v H' => ∃ T x y, H T = none ∧ v = .ref T ∧ H' = upd H T (.tup [x, y]) ∧ (∀ xs, SqL K H a xs → xs[i]? = some x) ∧ ∀ ys, SqL K H b ys → ys[i]? = some y,
   fun i H => ∃ xs ys, SqL K H a xs ∧ SqL K H b ys ∧ (xs.length ≤ i ∨ ys.length ≤ i)⟩
section
variable {X : Cx}
def iZip (K : PySem.W.Frag) (ta : TA) : TI := fun σ H R => ta σ H fun vs H1 => ∃ a b, vs = [.ref a, .ref b] ∧ (∃ xs, SqL K H1 a xs) ∧ (∃ ys, SqL K H1 b ys) ∧ R (Itz K a b) H1
end
end L2

/-! ### set(xs) of ints and texts, len of it -/
namespace L2
open PySem PySem.Spec PyProof.Rows
def memK (acc : List Key) (k : Key) : Bool := acc.any fun x => decide (x = k)
def addK (acc : List Key) (k : Key) : List Key := if memK acc k = true then acc else acc ++ [k]
/-- each once, in the order of their first coming -/
def dd (ks : List Key) : List Key := ks.foldl addK []
/-- a set of ints and texts -/
abbrev SetO (P : Program) (w : World) (a : Addr) (S : List Key) : HO := .ext fun h => h.SetOf (mixKind P w) a (memK S) S.length
section
variable {P : Program} {w : World} {A : Around} {E : Value → Shared → Prop} {s : Shared} {R : Result → Shared → Prop}
end
/-- an empty set's object -/
abbrev fr (led : Bool) : Obj := { cls := .type "set", dict := none, data := .set #[] 0 (.fresh 0 0 led) }
section
variable {P : Program} {w : World} {A : Around} {E : Value → Shared → Prop} {s : Shared}
end
end L2

namespace L2
open PySem PySem.Spec PyProof.Rows
section
variable {X : Cx}
end
end L2

/-! ### texts -/
namespace L2
open PySem PySem.Spec PyProof.Rows
/-- the codes of a text -/
abbrev cds (x : Str) : List Nat := x.cps.toList
abbrev tx (l : List Nat) : Str := ⟨l.toArray⟩
theorem tx_cds (x : Str) : tx (cds x) = x := by cases x; rfl
theorem cds_len (x : Str) : (cds x).length = x.length := by show x.cps.toList.length = x.cps.size; simp
theorem cds_app (x y : Str) : cds (x ++ y) = cds x ++ cds y := by
  show (x.cps ++ y.cps).toList = _
  simp
theorem str_ext {x y : Str} (h : cds x = cds y) : x = y := by rw [← tx_cds x, ← tx_cds y, h]
theorem cut_to {x : Str} {j : Int} (h0 : 0 ≤ j) (h1 : j ≤ x.length) : Txt.slice x none (some j) = tx ((cds x).take j.toNat) := by
  have e := StrLaws.sliceText_to (x := x) (j := j) ⟨h0, by rw [show x.cps.toList.length = x.length from cds_len x]; exact h1⟩
  have e2 : (j - 0).toNat = j.toNat := by omega
  rw [List.drop_zero, e2] at e
  exact e
theorem cut_from {x : Str} {i : Int} (h0 : 0 ≤ i) (h1 : i ≤ x.length) : Txt.slice x (some i) none = tx ((cds x).drop i.toNat) := by
  have hl : x.cps.toList.length = x.length := cds_len x
  have e := StrLaws.sliceText_from (x := x) (i := i) ⟨h0, by rw [hl]; exact h1⟩
  rw [List.take_of_length_le (by rw [List.length_drop]; omega)] at e
  exact e
section
variable {X : Cx}
def rSlS : V → Option Int → Option Int → Hp → VK → Prop := fun x lo hi H Q => ∃ z, x = .str z ∧ z.length ≤ sizeLine ∧ Q (.str (Txt.slice z lo hi)) H
theorem sl_str : SlR X rSlS := by
  intro pins s σ H x v vl vu lo hi sl Q I rx hs pl pu h
  obtain ⟨z, rfl, hz, q⟩ := h
  obtain ⟨t, rfl⟩ := rx
  refine ⟨"str", _, PySem.F.slot_str_getitem.lookup, typeIs_str _ _ _, ?_⟩
  obtain ⟨o, ho, hc, hd⟩ := hs
  have fin : ∀ t' k, EP X pins σ Q (.str (Txt.slice z lo hi) t') { s with toks := k } := fun t' k => ⟨.str _, H, I.tok k, ⟨t', rfl⟩, q⟩
  cases pl with
  | none =>
    cases pu with
    | none => exact wpAny_getItem_str_slice (l := none) (u := none) (st := none) ⟨o, ho, hc, hd⟩ rfl (post_val_or_str ⟨Nat.le_trans (Txt.slice_le z _ _) hz, fin⟩)
    | int j tj => exact wpAny_getItem_str_slice (l := none) (u := some (j, tj)) (st := none) ⟨o, ho, hc, hd⟩ rfl (post_val_or_str ⟨Nat.le_trans (Txt.slice_le z _ _) hz, fin⟩)
  | int i ti =>
    cases pu with
    | none => exact wpAny_getItem_str_slice (l := some (i, ti)) (u := none) (st := none) ⟨o, ho, hc, hd⟩ rfl (post_val_or_str ⟨Nat.le_trans (Txt.slice_le z _ _) hz, fin⟩)
    | int j tj => exact wpAny_getItem_str_slice (l := some (i, ti)) (u := some (j, tj)) (st := none) ⟨o, ho, hc, hd⟩ rfl (post_val_or_str ⟨Nat.le_trans (Txt.slice_le z _ _) hz, fin⟩)
/-- z.join(xs) of a list of texts -/
def rJoin (K : PySem.W.Frag) : V → List V → Hp → VK → Prop := fun x vs H Q => ∃ z l ss, x = .str z ∧ vs = [.ref l] ∧ SqL K H l (ss.map V.str) ∧ (ss.map (·.length)).sum + ss.length * z.length ≤ 16777216 ∧ Q (.str (Txt.join z ss)) H
end
end L2

/-! ### words; data of tuples; several objects at once -/
namespace L2
open PySem PySem.Spec PyProof.Rows
/-- a to z -/
def isL (c : Nat) : Bool := decide (97 ≤ c) && decide (c ≤ 122)
def isW (x : Str) : Bool := decide (1 ≤ x.length) && decide (x.length ≤ 12) && (cds x).all isL
def letters : Str := "abcdefghijklmnopqrstuvwxyz"
theorem inV_str {x : Str} {ws : List Str} : inV (.str x) (ws.map V.str) = decide (x ∈ ws) := by
  rw [Bool.eq_iff_iff, decide_eq_true_iff]
  unfold inV
  rw [List.any_map, List.any_eq_true]
  have e : ∀ w : Str, eqV (.str w) (.str x) = true ↔ w = x := fun w => by simp [eqV]
  constructor
  · rintro ⟨w, hw, h⟩
    rw [← (e w).mp h]; exact hw
  · intro h
    exact ⟨x, h, (e x).mpr rfl⟩
/-- the tuples stay -/
def SameT (H H' : Hp) : Prop := ∀ a xs, H a = some (.tup xs) → H' a = some (.tup xs)
theorem Same.t {H H' : Hp} (s : Same H H') : SameT H H' := fun a xs h => s a _ h
theorem SameB.t {b : Addr} {H H' : Hp} {ys : List V} (s : SameB b H H') (h : H b = some (.lst ys)) : SameT H H' := fun a xs q => s a _ (ne_of q h (by intro z; cases z)) q
mutual
/-- a value that is tuples of plain ones: it never changes -/
inductive TV (K : PySem.W.Frag) (H : Hp) : V → PyData → Prop
  | non : TV K H .non .none
  | bl (b : Bool) : TV K H (.bl b) (.bool b)
  | int (i : Int) : TV K H (.int i) (.int i)
  | str (x : Str) : TV K H (.str x) (.str x)
  | tup {a : Addr} {xs : List V} {ds : List PyData} : H a = some (.tup xs) → TVs K H xs ds → TV K H (.ref a) (.tuple ds)
inductive TVs (K : PySem.W.Frag) (H : Hp) : List V → List PyData → Prop
  | nil : TVs K H [] []
  | cons {x : V} {xs : List V} {d : PyData} {ds : List PyData} : TV K H x d → TVs K H xs ds → TVs K H (x :: xs) (d :: ds)
end
section
variable {K : PySem.W.Frag} {H H' : Hp}
mutual
theorem TV.mono (s : SameT H H') : ∀ {x : V} {d : PyData}, TV K H x d → TV K H' x d
  | _, _, .non => .non
  | _, _, .bl b => .bl b
  | _, _, .int i => .int i
  | _, _, .str x => .str x
  | _, _, .tup h hs => .tup (s _ _ h) (TVs.mono s hs)
theorem TVs.mono (s : SameT H H') : ∀ {xs : List V} {ds : List PyData}, TVs K H xs ds → TVs K H' xs ds
  | _, _, .nil => .nil
  | _, _, .cons h hs => .cons (TV.mono s h) (TVs.mono s hs)
end
mutual
theorem TV.dv : ∀ {x : V} {d : PyData}, TV K H x d → DV K H x d
  | _, _, .non => .non
  | _, _, .bl b => .bl b
  | _, _, .int i => .int i
  | _, _, .str x => .str x
  | _, _, .tup h hs => .tup (SqT.of h) (TVs.dv hs)
theorem TVs.dv : ∀ {xs : List V} {ds : List PyData}, TVs K H xs ds → DVs K H xs ds
  | _, _, .nil => .nil
  | _, _, .cons h hs => .cons (TV.dv h) (TVs.dv hs)
end
theorem TVs.length : ∀ {xs : List V} {ds : List PyData}, TVs K H xs ds → xs.length = ds.length
  | _, _, .nil => rfl
  | _, _, .cons _ hs => by simp [TVs.length hs]
theorem TVs.append : ∀ {xs ys : List V} {ds es : List PyData}, TVs K H xs ds → TVs K H ys es → TVs K H (xs ++ ys) (ds ++ es)
  | _, _, _, _, .nil, s => s
  | _, _, _, _, .cons h hs, s => .cons h (TVs.append hs s)
theorem TVs.get : ∀ {xs : List V} {ds : List PyData} {i : Nat} {x : V}, TVs K H xs ds → xs[i]? = some x → ∃ d, ds[i]? = some d ∧ TV K H x d
  | _, _, _, _, .nil, e => by simp at e
  | _, _, 0, _, .cons h _, e => by
    obtain rfl := Option.some.inj e
    exact ⟨_, rfl, h⟩
  | _, _, i + 1, _, .cons _ hs, e => by simpa using TVs.get (i := i) hs (by simpa using e)
theorem TV.pair {x : V} {a b : PyData} (h : TV K H x (.tuple [a, b])) : ∃ p u v, x = .ref p ∧ H p = some (.tup [u, v]) ∧ TV K H u a ∧ TV K H v b := by
  cases h with
  | tup e hs =>
    cases hs with
    | cons h1 hs =>
      cases hs with
      | cons h2 hs =>
        cases hs
        exact ⟨_, _, _, rfl, e, h1, h2⟩
theorem TV.strs {x : V} {s : Str} (h : TV K H x (.str s)) : x = .str s := by cases h; rfl
end
/-- these objects stand at these places, no two at one -/
structure Hs (H : Hp) (L : List (Addr × HO)) : Prop where
  nd : (L.map (·.1)).Nodup
  at' : ∀ p ∈ L, H p.1 = some p.2
namespace Hs
variable {H H' : Hp} {L : List (Addr × HO)} {a p : Addr} {o o' : HO}
end Hs
theorem nodup_sub {α : Type} : ∀ {l m : List α}, l.Nodup → (∀ x ∈ l, x ∈ m) → l.length ≤ m.length
  | [], _, _, _ => Nat.zero_le _
  | x :: l, m, nd, h => by
    obtain ⟨a, b, rfl⟩ := List.append_of_mem (h x List.mem_cons_self)
    rw [List.nodup_cons] at nd
    have := nodup_sub (l := l) (m := a ++ b) nd.2 fun y hy => by
      have hy' := h y (List.mem_cons_of_mem _ hy)
      rcases List.mem_append.mp hy' with z | z
      · exact List.mem_append_left _ z
      · rcases List.mem_cons.mp z with z | z
        · subst z; exact absurd hy nd.1
        · exact List.mem_append_right _ z
    simp only [List.length_append, List.length_cons] at this ⊢
    omega
end L2

/-! ### shapes; equal data -/
namespace L2
open PySem PySem.Spec PyProof.Rows
/-- plain data, at most n deep -/
structure Shp (n : Nat) (d : PyData) : Prop where
  lay : d.canLay0 = true
  dep : d.depth ≤ n
theorem Shp.mono {m n : Nat} {d : PyData} (h : Shp m d) (hn : m ≤ n) : Shp n d := ⟨h.lay, Nat.le_trans h.dep hn⟩
theorem lay_all {ds : List PyData} (h : ∀ d ∈ ds, d.canLay0 = true) : PyData.canLayAll0 ds = true := by
  induction ds with
  | nil => simp [PyData.canLayAll0]
  | cons d ds ih =>
    simp only [PyData.canLayAll0, Bool.and_eq_true]
    exact ⟨h d List.mem_cons_self, ih fun x hx => h x (List.mem_cons_of_mem _ hx)⟩
theorem dep_all {n : Nat} {ds : List PyData} (h : ∀ d ∈ ds, d.depth ≤ n) : PyData.depthAll ds ≤ n := by
  induction ds with
  | nil => simp [PyData.depthAll]
  | cons d ds ih =>
    simp only [PyData.depthAll]
    exact Nat.max_le.mpr ⟨h d List.mem_cons_self, ih fun x hx => h x (List.mem_cons_of_mem _ hx)⟩
theorem Shp.tup {n : Nat} {ds : List PyData} (h : ∀ d ∈ ds, Shp n d) : Shp (n + 1) (.tuple ds) :=
  ⟨by simp only [PyData.canLay0]; exact lay_all fun d hd => (h d hd).lay, by simp only [PyData.depth]; exact Nat.succ_le_succ (dep_all fun d hd => (h d hd).dep)⟩
theorem Shp.lst {n : Nat} {ds : List PyData} (h : ∀ d ∈ ds, Shp n d) : Shp (n + 1) (.list ds) :=
  ⟨by simp only [PyData.canLay0]; exact lay_all fun d hd => (h d hd).lay, by simp only [PyData.depth]; exact Nat.succ_le_succ (dep_all fun d hd => (h d hd).dep)⟩
theorem Shp.int (n : Nat) (i : Int) : Shp n (.int i) := ⟨by simp [PyData.canLay0], by simp [PyData.depth]⟩
theorem Shp.non (n : Nat) : Shp n .none := ⟨by simp [PyData.canLay0], by simp [PyData.depth]⟩
theorem Shp.str (n : Nat) {x : Str} (h : ∀ c ∈ cds x, c < 128) : Shp n (.str x) := by
  refine ⟨?_, by simp [PyData.depth]⟩
  simp only [PyData.canLay0]
  unfold PyData.strOk
  rw [← Array.all_toList, List.all_eq_true]
  intro c hc
  have := h c hc
  exact decide_eq_true (by omega)
theorem Shp.shaped {d : PyData} (h : Shp 64 d) : SeqAt.shaped d = true := by
  unfold SeqAt.shaped
  rw [Bool.and_eq_true, decide_eq_true_iff]
  exact ⟨h.lay, h.dep⟩
section
variable {K : PySem.W.Frag} {H : Hp} {x y : V} {d : PyData} {Q : VK}
end
end L2
namespace L2
end L2
namespace L2
theorem upd_none {H : Hp} {a p : PySem.Addr} {o : HO} (h : upd H a o p = none) : p ≠ a ∧ H p = none := by
  unfold upd at h
  by_cases e : p = a
  · rw [if_pos e] at h; cases h
  · rw [if_neg e] at h; exact ⟨e, h⟩
end L2
namespace L2
theorem atI_mapD {α : Type} {f : α → V} {ws : List α} {d : Int} (dflt : α) (h0 : 0 ≤ d) (h : d < (ws.length : Int)) : atI (ws.map f) d = some (f (ws.getD d.toNat dflt)) := by
  have hk : d.toNat < ws.length := by omega
  have ek : d = ((d.toNat : Nat) : Int) := by omega
  have q : atI (ws.map f) ((d.toNat : Nat) : Int) = some (f ws[d.toNat]) := atI_nat (by rw [List.getElem?_map, List.getElem?_eq_getElem hk]; rfl)
  rw [← ek] at q
  rw [q, List.getD_eq_getElem?_getD, List.getElem?_eq_getElem hk]
  rfl
theorem getD_mem {α : Type} {ws : List α} {n : Nat} (dflt : α) (h : n < ws.length) : ws.getD n dflt ∈ ws := by
  rw [List.getD_eq_getElem?_getD, List.getElem?_eq_getElem h]
  exact List.getElem_mem h
end L2
namespace L2
end L2
namespace L2
open PySem
theorem ne_fresh {H : Hp} {a b : Addr} {o : HO} (h' : H b = none) (h : H a = some o) : a ≠ b := ne_of_none h h'
theorem SqF.sb {K : PySem.W.Frag} {H H' : Hp} {a b : Addr} {xs ys : List V} (s : SameB b H H') (hb : H b = some (.lst ys)) (h : SqF K H a xs) : SqF K H' a xs := by
  rcases h with ⟨o, h⟩ | h
  · exact .inl ⟨o, s _ _ (ne_of h hb (by intro z; cases z)) h⟩
  · exact .inr h
theorem SqF.nw {K : PySem.W.Frag} {H : Hp} {a p : Addr} {xs : List V} {u : HO} (hp : H p = none) (h : SqF K H a xs) : SqF K (L2.upd H p u) a xs := h.new hp
theorem SqF.sm {K : PySem.W.Frag} {H H' : Hp} {a : Addr} {xs : List V} (s : Same H H') (h : SqF K H a xs) : SqF K H' a xs := h.same s
namespace Hs
variable {H H' : Hp} {L L' : List (Addr × HO)} {a p : Addr} {o o' : HO}
end Hs
end L2
namespace L2
theorem upd_at {H : Hp} {a b : PySem.Addr} {o u : HO} (n : b ≠ a) (h : H b = some o) : upd H a u b = some o := by rw [upd_ne n]; exact h
end L2

/-! ### sum, sorted, reversed -/
namespace L2
open PySem PySem.Spec PyProof.Rows
theorem strs_of : ∀ {ws : List Str} {us : List Value}, Vals (ws.map V.str) us → StrsAre us ws
  | [], _, r => by cases r; exact .nil
  | w :: ws, _, r => by
    cases r with
    | cons h t =>
      obtain ⟨t', rfl⟩ := h
      exact .cons w t' (strs_of t)
theorem of_strs : ∀ {ws : List Str} {us : List Value}, StrsAre us ws → Vals (ws.map V.str) us
  | _, _, .nil => .nil
  | _, _, .cons w t r => .cons ⟨t, rfl⟩ (of_strs r)
section
variable {X : Cx}
theorem call_sortedS : CallR X (.builtin "sorted") (fun xs H Q => ∃ (p : Addr) (ws : List Str), xs = [.ref p] ∧ SqL X.K H p (ws.map V.str) ∧ ws.length < 64 ∧ ∀ (q : Addr) (ws' : List Str), H q = none → ws'.Perm ws → sortedS ws' = true → Q (.ref q) (upd H q (.lst (ws'.map V.str)))) := by
  intro pins s σ H xs us Q I r h
  obtain ⟨p, ws, rfl, hp, h64, q⟩ := h
  obtain ⟨u, rfl, ru⟩ := vals1 r
  cases ru
  obtain ⟨its, rv, pl, hz⟩ := I.list hp
  have hl := rv.length
  rw [List.length_map] at hl hz
  refine sorted_strs pl.isList (strs_of rv) (by omega) fun out ws' a1 a2 a3 => ?_
  obtain ⟨n, en⟩ := sortedAll_at s.heap its out
  have hq : H (s.heap.objs.size + 1) = none := I.hok.fresh (Nat.le_succ _)
  refine ⟨.ref (s.heap.objs.size + 1), _, I.laid (t' := s.toks) (o := .lst (ws'.map V.str)) (fun b o e => sortedAll_old e) (Nat.le_succ _) ⟨?_, out.toList, n, of_strs a1, ?_⟩, rfl, q _ ws' hq a2 a3⟩
  · rw [List.length_map, a2.length_eq]
    omega
  · simpa using en
end
end L2
/-! ### for x in reversed(xs) -/
namespace L2
open PySem PySem.Spec PyProof.Rows
/-- a list of n items from behind -/
def Itv (K : PySem.W.Frag) (a : Addr) (n : Nat) : It :=
  ⟨fun i H => ∃ xs, SqL K H a xs ∧ xs.length = n ∧ i < n, fun i H v H' => H' = H ∧ ∀ xs, SqL K H a xs → xs[n - 1 - i]? = some v, fun i _ => i = n⟩
section
variable {X : Cx} {tg : Expr}
def iRev (K : PySem.W.Frag) (ta : TA) : TI := fun σ H R => ta σ H fun vs H1 => ∃ a xs, vs = [.ref a] ∧ SqL K H1 a xs ∧ R (Itv K a xs.length) H1
end
end L2
/-! ### max(xs, default=d) of whole numbers -/
namespace L2
open PySem PySem.Spec PyProof.Rows
/-- the greatest of these and m -/
def mxF (m : Int) (ns : List Int) : Int := ns.foldl (fun a b => if a < b then b else a) m
/-- the greatest one, or d -/
def mxD (d : Int) : List Int → Int
  | [] => d
  | n :: ns => mxF n ns
/-- what the loop keeps -/
def kept : List Value → Array Value
  | [] => #[]
  | v :: _ => #[v, v]
section
variable {P : Program} {w : World} {A : Around} {s : Shared} {R : Result → Shared → Prop}
/-- one step of a built-in's own loop -/
theorem code_by {id : String} {B : Builtin} {args : Args} (e : entryFor table id = some B) (p : plainId id = true) (h : wpAny (model P w) A.in1 (B args)
    (fun fin s' => match fin with | .done f => R (.ok f) s' | .again c' => c'.quiet = true ∧ codeAny (model P w) A c' R s') (fun e s' => R (.error e) s') s) : codeAny (model P w) A (.builtin id args) R s :=
  codeAny_builtin e (by rw [Around.under_plainId p]; exact h)
theorem max_fill {It S l : Addr} {us : Array Value} {d : Value} {kw : List (Str × Value)} (hh : A.handled = none) (n1 : l ≠ It) (n2 : S ≠ It) (n3 : S ≠ l) :
    ∀ (rs : List Int) (i : Nat) (s : Shared) (b : Option (Int × Tok)) (c : Nat), (∀ (j : Nat) n, rs[j]? = some n → ∃ t, us[i + j]? = some (.int n t)) → i + rs.length = us.size → s.heap.IsListIter It l i → s.heap.IsList l us →
      s.heap.get? S = some { cls := .type "list", dict := none, data := .seq (kept (b.toList.map fun x => .int x.1 x.2)) c, slots := #[] } → (b = none → rs = [] → ∃ k tl, kw = (k, d) :: tl) →
      (∀ (v : Value) (h' : Heap) (tk : Nat), (match b, rs with | none, [] => v = d | none, n :: ns => ∃ t, v = .int (mxF n ns) t | some m, ns => ∃ t, v = .int (mxF m.1 ns) t) →
        (∀ a o, a ≠ It → a ≠ S → s.heap.get? a = some o → h'.get? a = some o) → R (.ok (.ret v)) { s with heap := h', toks := tk }) →
      codeAny (model P w) A (.builtin "max.loop" ⟨[.ref It, .none, .ref S], kw⟩) R s := by
  intro rs
  have nm : (toString "max" ++ toString ".loop" : String) = "max.loop" := by decide
  induction rs with
  | nil =>
    intro i s b c hv hn hi hl hS hk fin
    refine code_by PySem.F.entry_max_loop PySem.F.plain_max_loop (wpAny_bind (m := seqItems? (.ref S)) (wpAny_seqItems hS rfl ?_))
    refine wpAny_bind (m := tryCatch (pyNext (.ref It)) _) (wpAny_tryCatch (wpAny_pyNext_list_end (by simpa using hh) hi hl (by simp; simp at hn; omega) fun h' eb => ?_))
    have hS' := eb S _ n2 hS
    cases b with
    | none =>
      obtain ⟨k, tl, rfl⟩ := hk rfl rfl
      refine wpAny_bind (m := rule _) (wpAny_rule (wpAny_pure ?_))
      exact fin d h' s.toks rfl fun a o x y e => eb a o x e
    | some m =>
      refine wpAny_bind (m := updateSeq S fun _ => #[]) (wpAny_updateSeq hS' rfl ?_ (show 2 ≤ sizeLine from sz))
      refine wpAny_bind (m := letGo _ _) (wpAny_letGo (wpAny_pure ?_))
      exact fin _ _ s.toks ⟨m.2, rfl⟩ fun a o x y e => (Heap.get?_update_other _ _ (Ne.symm y)).trans (eb a o x e)
  | cons n ns ih =>
    intro i s b c hv hn hi hl hS hk fin
    obtain ⟨t, ht⟩ := hv 0 n rfl
    refine code_by PySem.F.entry_max_loop PySem.F.plain_max_loop (wpAny_bind (m := seqItems? (.ref S)) (wpAny_seqItems hS rfl ?_))
    refine wpAny_bind (m := tryCatch (pyNext (.ref It)) _) (wpAny_tryCatch (wpAny_pyNext_list_item hi hl ht fun h' hi' sb => ?_))
    have hS' := (sb.2 S n2).trans hS
    have hl' := hl.at fun o e => (sb.2 l n1).trans e
    have hv' : ∀ (j : Nat) m, ns[j]? = some m → ∃ t, us[i + 1 + j]? = some (.int m t) := fun j m e => by
      obtain ⟨t, z⟩ := hv (j + 1) m (by simpa using e)
      exact ⟨t, by rw [← z]; congr 1; omega⟩
    have hn' : i + 1 + ns.length = us.size := by simp at hn; omega
    cases b with
    | none =>
      refine wpAny_bind (m := updateSeq S fun _ => #[.int n t, .int n t]) (wpAny_updateSeq hS' rfl ?_ (show 0 ≤ sizeLine from sz))
      rw [nm]
      refine wpAny_pure ⟨plainId_quiet PySem.F.plain_max_loop _, ih (i + 1) _ (some (n, t)) _ hv' hn' ?_ ?_ (Heap.get?_update_self _ hS' rfl) (fun z => nomatch z) fun v h2 tk q k => ?_⟩
      · exact hi'.at fun o e => (Heap.get?_update_other _ _ n2).trans e
      · exact hl'.at fun o e => (Heap.get?_update_other _ _ n3).trans e
      · exact fin v h2 tk q fun a o x y e => k a o x y ((Heap.get?_update_other _ _ (Ne.symm y)).trans ((sb.2 a x).trans e))
    | some m =>
      refine wpAny_bind (m := tryCatch (holding [.int n t, .int n t] _) _) (wpAny_tryCatch (wpAny_holding (wpAny_bind (m := richCompare .Gt (.int n t) (.int m.1 m.2)) (PySem.P.gt_int ?_))))
      refine wpAny_bind (m := holding [.bool (decide (m.1 < n))] (truthy (.bool (decide (m.1 < n))))) (wpAny_holding (wpAny_truthy_bool ?_))
      refine wpAny_bind (m := letGo _ _) (wpAny_letGo (wpAny_pure ?_))
      by_cases lt : m.1 < n
      · rw [if_pos (decide_eq_true lt)]
        refine wpAny_bind (m := updateSeq S fun _ => #[.int n t, .int n t]) (wpAny_updateSeq hS' rfl ?_ (show 2 ≤ sizeLine from sz))
        refine wpAny_bind (m := letGo _ _) (wpAny_letGo ?_)
        rw [nm]
        refine wpAny_pure ⟨plainId_quiet PySem.F.plain_max_loop _, ih (i + 1) _ (some (n, t)) _ hv' hn' ?_ ?_ (Heap.get?_update_self _ hS' rfl) (fun z => nomatch z) fun v h2 tk q k => ?_⟩
        · exact hi'.at fun o e => (Heap.get?_update_other _ _ n2).trans e
        · exact hl'.at fun o e => (Heap.get?_update_other _ _ n3).trans e
        · refine fin v h2 tk ?_ fun a o x y e => k a o x y ((Heap.get?_update_other _ _ (Ne.symm y)).trans ((sb.2 a x).trans e))
          show ∃ t, v = Value.int (mxF (if m.1 < n then n else m.1) ns) t
          rw [if_pos lt]
          exact q
      · rw [if_neg (by simpa using lt)]
        refine wpAny_bind (m := letGo _ _) (wpAny_letGo ?_)
        rw [nm]
        refine wpAny_pure ⟨plainId_quiet PySem.F.plain_max_loop _, ih (i + 1) _ (some m) _ hv' hn' hi' hl' hS' (fun z => nomatch z) fun v h2 tk q k => ?_⟩
        refine fin v h2 tk ?_ fun a o x y e => k a o x y ((sb.2 a x).trans e)
        show ∃ t, v = Value.int (mxF (if m.1 < n then n else m.1) ns) t
        rw [if_neg lt]
        exact q
end
section
variable {X : Cx} {k : Str}
/-- a call of a value that is known, with values and one by name -/
def CallKw (X : Cx) (f : Value) (k : Str) (r : List V → V → Hp → VK → Prop) : Prop :=
  ∀ (pins : List (Addr × Obj)) (s : Shared) (σ : St) (H : Hp) (xs : List V) (us : List Value) (x : V) (u : Value) (Q : VK), Inv X pins σ H s → Vals xs us → RelV x u → r xs x H Q →
    wpAny (model X.prog X.w) X.A (call f us [(k, u)]) (EP X pins σ Q) X.xe s
def tCK (r : List V → V → Hp → VK → Prop) (t : TA) (tk : TE) : TE := fun σ H Q => t σ H fun vs H1 => tk σ H1 fun v H2 => r vs v H2 Q
/-- the list is walked from its start -/
theorem max_run {pins : List (Addr × Obj)} {s : Shared} {σ : St} {H : Hp} {Q : VK} {p : Addr} {ns : List Int} {d : Int} {t : Tok} {kw : List (Str × Value)} (hc : X.calm = true) (I : Inv X pins σ H s) (hp : SqL X.K H p (ns.map V.int)) (q : Q (.int (mxD d ns)) H)
    (hk : ns = [] → ∃ k tl, kw = (k, .int d t) :: tl) :
    wpAny (model X.prog X.w) X.A.in1 (do let it ← pyIter (.ref p); again (.builtin "max.loop" ⟨[it, .none, ← newList []], kw⟩))
      (fun fin s' => match fin with
        | .done f => (match (Except.ok f : Result) with | .ok (.ret v) => EP X pins σ Q v s' | .ok _ => False | .error e => X.xe e s')
        | .again c' => c'.quiet = true ∧ codeAny (model X.prog X.w) X.A c' (fun r s' => match r with | .ok (.ret v) => EP X pins σ Q v s' | .ok _ => False | .error e => X.xe e s') s') X.xe s := by
  obtain ⟨its, rv, pl, hz⟩ := I.list hp
  have hl := rv.length
  rw [List.length_map] at hl
  obtain ⟨o, n, e, _⟩ := id pl
  have lt := Heap.lt_size e
  refine wpAny_bind (wpAny_pyIter_list pl.isList (wpAny_bind (wpAny_newList ?_ (Nat.zero_le _))))
  have z : (s.heap.push { cls := .type "list_iterator", data := .fields #[.ref p, .int 0 0] }).objs.size = s.heap.objs.size + 1 := Heap.size_push ..
  refine wpAny_pure ⟨plainId_quiet PySem.F.plain_max_loop _, max_fill (l := p) (us := its.toArray) (d := .int d t) (I.ok.hd hc) (Nat.ne_of_lt lt) ?_ ?_ ns 0 _ none 0 (fun j m e => ?_) ?_ ?_ ((pl.isList.push _).push _) (Heap.get?_push_size _ rfl) (fun _ => hk) fun v h' tk qv k => ?_⟩
  · show (_ : Nat) ≠ _
    rw [z]
    omega
  · show (_ : Nat) ≠ _
    rw [z]
    exact fun y => absurd lt (by rw [← y]; exact Nat.not_lt.mpr (Nat.le_succ _))
  · obtain ⟨v, ev, rv'⟩ := rv.get (by rw [List.getElem?_map, e]; rfl)
    obtain ⟨t, rfl⟩ := rv'
    exact ⟨t, by simpa using ev⟩
  · simp [hl]
  · exact Heap.IsListIter.at ⟨_, Heap.get?_push_size _ rfl, rfl, rfl⟩ fun o e => Heap.get?_push_of_some _ e
  · refine ⟨.int (mxD d ns), H, I.kept (t' := tk) fun b o e => k b o (Nat.ne_of_lt (Heap.lt_size e)) ?_ (Heap.get?_push_of_some _ (Heap.get?_push_of_some _ e)), ?_, q⟩
    · show (_ : Nat) ≠ _
      rw [z]
      exact Nat.ne_of_lt (Nat.lt_succ_of_lt (Heap.lt_size e))
    · cases ns with
      | nil => exact ⟨t, qv⟩
      | cons n ns => exact qv
theorem call_max1 (hc : X.calm = true) : CallR X (.builtin "max") (fun xs H Q => ∃ (p : Addr) (ns : List Int), xs = [.ref p] ∧ SqL X.K H p (ns.map V.int) ∧ ns ≠ [] ∧ Q (.int (mxD 0 ns)) H) := by
  intro pins s σ H xs us Q I r h
  obtain ⟨p, ns, rfl, hp, ne, q⟩ := h
  obtain ⟨u, rfl, ru⟩ := vals1 r
  cases ru
  refine kmk_tree PySem.F.kind_max PySem.F.plain_max PySem.F.entry_max (PySem.F.args_max1 _) ?_
  refine wpAny_bind (m := Builtin.Builtins.bindParams "max" ["key", "default"] 0 ⟨[], []⟩) (wpAny_of_eq (a := [none, none]) rfl ?_)
  have nm : (toString "max" ++ toString ".loop" : String) = "max.loop" := by decide
  refine wpAny_bind (m := pure (Value.ref p)) (wpAny_pure ?_)
  rw [nm]
  exact max_run (t := 0) hc I hp q fun z => absurd z ne
end
end L2

/-! ### x in xs, by their data -/
namespace L2
open PySem PySem.Spec PyProof.Rows
section
variable {X : Cx}
def rInD (K : PySem.W.Frag) : R2 := fun x y H Q => ∃ dx ds, DV K H x dx ∧ DV K H y (.list ds) ∧ Shp 63 dx ∧ Shp 63 (.list ds) ∧ Q (.bl (ds.any fun z => PyData.eqv z dx)) H
end
end L2

/-! ### f-strings: the text itself is left open -/
namespace L2
open PySem PySem.Spec PyProof.Rows
/-- parts of a text, n signs or fewer ahead of them -/
abbrev TF := Nat → St → Hp → VK → Prop
/-- signs that can be written -/
def okS (x : Str) : Prop := ∀ c ∈ x.cps.toList, c < 16 ^ 8
section
variable {X : Cx}
def PF (X : Cx) (es : List Expr) (t : TF) : Prop :=
  ∀ (n : Nat) (out : Str) (pins : List (Addr × Obj)) (s : Shared) (σ : St) (H : Hp) (Q : VK), out.length ≤ n → Inv X pins σ H s → t n σ H Q → wpAny (model X.prog X.w) X.A (joinParts out (evalEach es X.env)) (EP X pins σ Q) X.xe s
def fNil : TF := fun n _ H Q => n ≤ sizeLine ∧ ∀ y : Str, Q (.str y) H
def fLit (k : Nat) (t : TF) : TF := fun n σ H Q => n + k ≤ sizeLine ∧ t (n + k) σ H Q
def fRep (te : TE) (t : TF) : TF := fun n σ H Q => te σ H fun v H1 => ∃ x, v = .str x ∧ okS x ∧ x.length ≤ 1000 ∧ n + 10002 ≤ sizeLine ∧ t (n + 10002) σ H1 Q
def fInt (te : TE) (t : TF) : TF := fun n σ H Q => te σ H fun v H1 => ∃ i, v = .int i ∧ 0 ≤ i ∧ i < 1000 ∧ n + 3 ≤ sizeLine ∧ t (n + 3) σ H1 Q
end
end L2
namespace L2
theorem szB {n : Nat} (h : n ≤ 1000000) : n ≤ PySem.sizeLine := Nat.le_trans h (by decide)
end L2
namespace L2
open PySem
/-- a written constant is no starred one -/
theorem se_c {c : Const} {j : Nat} {p : Pos} {es : List Expr} {env : Env} : starEach (.Constant c j p :: es) env = (false, eval (.Constant c j p) env) :: starEach es env := rfl
end L2

/-! ### an object made under try; whole numbers in f-strings -/
namespace L2
open PySem PySem.Spec PyProof.Rows
section
variable {X : Cx} {k : Nat} {f C : Addr} {fd : FuncData} {ps : List Str} {sp : Sp} {dvs : List V} {ds : List Value} {x : Str} {p pos : Pos} {e : Expr} {es : List Expr} {t : TA}
end
end L2

/-! ### a method called under try -/
namespace L2
open PySem PySem.Spec PyProof.Rows
section
variable {X : Cx} {k : Nat} {f C : Addr} {fd : FuncData} {ps : List Str} {sp : Sp} {dvs : List V} {ds : List Value} {m : Str} {pos apos : Pos} {e o : Expr} {es : List Expr} {ta : TE} {t : TA}
end
end L2

/-! ### a pair of texts in an f-string -/
namespace L2
open PySem PySem.Spec PyProof.Rows
section
variable {X : Cx}
def fPair (te : TE) (t : TF) : TF := fun n σ H Q => te σ H fun v H1 => ∃ (a : Addr) (x y : Str), v = .ref a ∧ H1 a = some (.tup [.str x, .str y]) ∧ okS x ∧ okS y ∧ x.length ≤ 1000 ∧ y.length ≤ 1000 ∧ n + 20008 ≤ sizeLine ∧ t (n + 20008) σ H1 Q
end
end L2

/-! ### for i, x in enumerate(xs) -/
namespace L2
open PySem PySem.Spec PyProof.Rows
/-- a list with its numbers -/
def Ite (K : PySem.W.Frag) (a : Addr) : It :=
  ⟨fun i H => ∃ xs x, SqL K H a xs ∧ xs[i]? = some x,
   fun i H v H' => ∃ T x, H T = none ∧ v = .ref T ∧ H' = upd H T (.tup [.int (i : Int), x]) ∧ ∀ xs, SqL K H a xs → xs[i]? = some x,
   fun i H => ∃ xs, SqL K H a xs ∧ xs.length ≤ i⟩
section
variable {X : Cx}
def iEnum (K : PySem.W.Frag) (ta : TA) : TI := fun σ H R => ta σ H fun vs H1 => ∃ a, vs = [.ref a] ∧ (∃ xs, SqL K H1 a xs) ∧ R (Ite K a) H1
end
end L2
/-! ### for i in reversed(range(n)) -/
namespace PySem
section
variable {prog : Program} {w : World} {A : Around} {E : Value → Shared → Prop} {s : Shared}
def downObj (n : Int) : Obj := { cls := .type "range_iterator", data := .fields #[rawInt (n - 1), rawInt n, rawInt (-1)] }
end
end PySem
namespace L2
open PySem PySem.Spec PyProof.Rows
def Itd (n : Nat) : It := ⟨fun i _ => i < n, fun i H v H' => H' = H ∧ v = .int ((n : Int) - 1 - (i : Int)), fun i _ => n ≤ i⟩
section
variable {X : Cx} {tg : Expr}
def iDown (ta : TA) : TI := fun σ H R => ta σ H fun vs H1 => ∃ n : Nat, vs = [.int (n : Int)] ∧ n < 1000000 ∧ R (Itd n) H1
end
end L2
/-! ### min(xs) of whole numbers -/
namespace L2
open PySem PySem.Spec PyProof.Rows
/-- the least of these and m -/
def mnF (m : Int) (ns : List Int) : Int := ns.foldl (fun a b => if b < a then b else a) m
/-- the least one, or d -/
def mnD (d : Int) : List Int → Int
  | [] => d
  | n :: ns => mnF n ns
section
variable {P : Program} {w : World} {A : Around} {s : Shared} {R : Result → Shared → Prop}
end
section
variable {X : Cx} {k : Str}
end
end L2

/-! ### a text's beginning, and where a text is found in it -/
namespace L2
open PySem PySem.Spec PyProof.Rows
section
variable {X : Cx}
def rStarts : V → List V → Hp → VK → Prop := fun x vs H Q => ∃ a b, x = .str a ∧ vs = [.str b] ∧ Q (.bl (Txt.startswith a b)) H
def rFind : V → List V → Hp → VK → Prop := fun x vs H Q => ∃ a b, x = .str a ∧ vs = [.str b] ∧ Q (.int (Txt.find a b)) H
def rIntT : List V → Hp → VK → Prop := fun xs H Q => ∃ x n, xs = [.str x] ∧ PySem.intText? x = some n ∧ x.length ≤ 640 ∧ Q (.int n) H
end
end L2
/-! ### a text parted -/
namespace L2
open PySem PySem.Spec PyProof.Rows
def part3 (x y : Str) : Str × Str × Str := match Builtin.Str.occurrences x y 0 x.length 1 with
  | i :: _ => (Builtin.Str.strSub x 0 i, y, Builtin.Str.strSub x (i + y.length) x.length)
  | [] => (x, Str.empty, Str.empty)
section
variable {X : Cx}
def rPart : V → List V → Hp → VK → Prop := fun v vs H Q => ∃ x y, v = .str x ∧ vs = [.str y] ∧ (y.length == 0) = false ∧ x.length ≤ sizeLine ∧ ∀ p, H p = none → Q (.ref p) (upd H p (.tup [.str (part3 x y).1, .str (part3 x y).2.1, .str (part3 x y).2.2]))
end
end L2
/-! ### what a list gone through from behind gives, all at once -/
namespace L2
open PySem PySem.Spec PyProof.Rows
end L2

/-! ### the texts of a list from behind, joined -/
namespace L2
open PySem PySem.Spec PyProof.Rows
section
variable {X : Cx}
def tJR (K : PySem.W.Frag) (to : TE) (ta : TA) : TE := fun σ H Q => to σ H fun x H1 => ∃ z, x = .str z ∧ ta σ H1 fun vs H2 => ∃ (l : Addr) (ws : List Str), vs = [.ref l] ∧ SqL K H2 l (ws.map V.str) ∧ (ws.map (·.length)).sum + ws.length * z.length ≤ 16777216 ∧ Q (.str (Txt.join z ws.reverse)) H2
end
end L2

/-! ### try: a statement of calls, except C as n: .. -/
namespace L2
open PySem PySem.Spec PyProof.Rows
/-- a statement that may raise, by what is wanted then -/
def PSx (X : Cx) (st : Stmt) (tx : St → Hp → VK → (Value → Hp → Prop) → Prop) : Prop :=
  ∀ (pins : List (Addr × Obj)) (s : Shared) (σ : St) (H : Hp) (Q : VK) (Ex : Value → Hp → Prop), Inv X pins σ H s → tx σ H Q Ex →
    wpAny (model X.prog X.w) X.A (exec st X.env) (fun fl s' => fl = .next ∧ ∃ v H1, Inv X pins σ H1 s' ∧ Q v H1) (fun ev s' => ∃ H1 s1, Inv X pins σ H1 s1 ∧ CXe X.prog X.w X.stack H1 s1 (fun cls _ H' => Ex cls H') ev s') s
end L2
/-! ### a list of written texts -/
namespace L2
open PySem PySem.Spec PyProof.Rows
/-- the texts of a list of constants -/
def strsOf : List Expr → Option (List Str)
  | [] => some []
  | .Constant (.str x) _ _ :: es => (strsOf es).map (x :: ·)
  | _ => none
def tStrs (ws : List Str) : TA := fun _ H Q => Q (ws.map V.str) H
end L2

/-! ### classes that inherit; str(x) -/
namespace L2
open PySem PySem.Spec PyProof.Rows
section
variable {X : Cx}
/-- isinstance(x, C), C an own class -/
theorem call_isiO : CallR X (.builtin "isinstance") (fun xs H Q => ∃ x c t b, xs = [x, .ref c] ∧ TyOf X.K H x t ∧ PySem.W.kitOne X.K t (.ref c) = some b ∧ Q (.bl b) H) := by
  intro pins s σ H xs us Q I r h
  obtain ⟨x, c, t, b, rfl, ty, e, q⟩ := h
  obtain ⟨u, w', rfl, r1, r2⟩ := vals2 r
  cases r2
  exact isinst_ok I r1 ty e fun tk => ⟨.bl b, H, I.tok tk, rfl, q⟩
/-- a function read from its class -/
structure ClsC (K : PySem.W.Frag) (C : Addr) (m : Str) (f : Addr) : Prop where
  sg : PySem.W.specialIn K (.ref C) "__getattribute__" = some (some (.builtin "type.__getattribute__"))
  rd : PySem.W.readsIn K C (.type "type") = true
  fc : PySem.W.findCls K (.ref C) (.type "type") m = some (.val (.ref f))
  kp : PySem.W.keepIn K (.ref f) = true
variable {CX : CXT} {k k1 k2 : Nat} {f f1 f2 C C1 C2 : Addr} {fd fd1 fd2 : FuncData} {ps ps1 ps2 : List Str} {sp sp1 sp2 : Sp} {E : XK} {m : Str} {pos apos : Pos} {e o : Expr} {es : List Expr} {ta : TE} {t : TA}
/-- C.m(self, ..) -/
def tClsM (C : Addr) (sp : Sp) (E : XK) (ta : TE) (t : TA) : TE := fun σ H Q => ta σ H fun x H1 => x = .ref C ∧ t σ H1 fun vs H2 => sp vs H2 Q E
theorem pe_clsc {pl : Sem Bool} (he : PE X o ta) (c : ClsC X.K C m f) (F : FnOk X.prog X.w X.K X.mg X.base CX k f fd ps sp) (hr : Room k X.A) (hb : Binds X.K fd ps []) (hx : Passes CX X E) (ha : PA X (e :: es) t)
    (hst : starEach (e :: es) X.env = (false, eval e X.env) :: starEach es X.env := by rfl) (hpl : (backTo pos (starEach es X.env)).any (·.1) = false := by rfl)
    (ht : eval (.Call (.Attribute o m apos) (e :: es) [] pos) X.env = (do
      let ov ← eval o X.env
      standAt apos.atName
      let (f, first) ← holding [ov] (getMethod ov m pl)
      callWith pos f first (backTo pos (starEach (e :: es) X.env)) (backToKw pos (keywordEach [] X.env))) := by rfl) :
    PE X (.Call (.Attribute o m apos) (e :: es) [] pos) (tClsM C sp E ta t) := by
  intro pins s σ H Q I h
  refine PySem.W.methodCall_KW (pl := pl) (thn (he pins s σ H _ I h) fun u s1 ⟨x, H1, I1, rx, ex, q⟩ => ?_) ht
  subst ex
  obtain rfl : u = Value.ref C := rx
  refine PySem.W.method_cls I1.kIn c.sg (PySem.W.cls_value I1.kIn c.rd c.fc rfl ?_)
  refine PySem.W.callWith_K (first := []) (h₀ := X.base) I.ok.mod.kin c.kp (thn (ha pos pins _ σ H1 _ (I1.tok _) q) fun us s2 ⟨vs, H2, I3, r, q2⟩ => ⟨I3.kIn, ?_⟩) hst hpl
  exact run_fn (us := us) (vs := vs) (dvs := []) (ds := []) F hr hb .nil hx I3 r (by rw [List.append_nil]; exact q2)
/-- o.m(..), o of the one or of the other class -/
def tMeth2 (C1 C2 : Addr) (m : Str) (sp1 sp2 : Sp) (E : XK) (ta : TE) (t : TA) : TE := fun σ H Q => ta σ H fun x H1 =>
  (∃ a dx fs, x = .ref a ∧ H1 a = some (.ins C1 dx fs) ∧ fs.lookup m = none ∧ t σ H1 fun vs H2 => sp1 (x :: vs) H2 Q E) ∨ (∃ a dx fs, x = .ref a ∧ H1 a = some (.ins C2 dx fs) ∧ fs.lookup m = none ∧ t σ H1 fun vs H2 => sp2 (x :: vs) H2 Q E)
theorem pe_meth2 {pl : Sem Bool} (he : PE X o ta) (c1 : Cls X.K C1) (m1 : Meth X.K C1 m f1) (F1 : FnOk X.prog X.w X.K X.mg X.base CX k1 f1 fd1 ps1 sp1) (hr1 : Room k1 X.A) (b1 : Binds X.K fd1 ps1 [])
    (c2 : Cls X.K C2) (m2 : Meth X.K C2 m f2) (F2 : FnOk X.prog X.w X.K X.mg X.base CX k2 f2 fd2 ps2 sp2) (hr2 : Room k2 X.A) (b2 : Binds X.K fd2 ps2 []) (hx : Passes CX X E) (ha : PA X (e :: es) t)
    (hst : starEach (e :: es) X.env = (false, eval e X.env) :: starEach es X.env := by rfl) (hpl : (backTo pos (starEach es X.env)).any (·.1) = false := by rfl)
    (ht : eval (.Call (.Attribute o m apos) (e :: es) [] pos) X.env = (do
      let ov ← eval o X.env
      standAt apos.atName
      let (f, first) ← holding [ov] (getMethod ov m pl)
      callWith pos f first (backTo pos (starEach (e :: es) X.env)) (backToKw pos (keywordEach [] X.env))) := by rfl) :
    PE X (.Call (.Attribute o m apos) (e :: es) [] pos) (tMeth2 C1 C2 m sp1 sp2 E ta t) := by
  intro pins s σ H Q I h
  refine PySem.W.methodCall_KW (pl := pl) (thn (he pins s σ H _ I h) fun u s1 ⟨x, H1, I1, rx, hq⟩ => ?_) ht
  rcases hq with ⟨a, dx, fs, ex, ea, l, q⟩ | ⟨a, dx, fs, ex, ea, l, q⟩ <;> subst ex <;> obtain rfl : u = Value.ref a := rx
  · refine getmeth_ok I1 ea c1 m1 l ?_
    refine PySem.W.callWith_K (first := [.ref a]) (h₀ := X.base) I.ok.mod.kin m1.kp (thn (ha pos pins s1 σ H1 _ I1 q) fun us s2 ⟨vs, H2, I2, r, q2⟩ => ⟨I2.kIn, ?_⟩) hst hpl
    exact run_fn (us := .ref a :: us) (vs := .ref a :: vs) (dvs := []) (ds := []) F1 hr1 b1 .nil hx I2 (.cons rfl r) (by rw [List.append_nil]; exact q2)
  · refine getmeth_ok I1 ea c2 m2 l ?_
    refine PySem.W.callWith_K (first := [.ref a]) (h₀ := X.base) I.ok.mod.kin m2.kp (thn (ha pos pins s1 σ H1 _ I1 q) fun us s2 ⟨vs, H2, I2, r, q2⟩ => ⟨I2.kIn, ?_⟩) hst hpl
    exact run_fn (us := .ref a :: us) (vs := .ref a :: vs) (dvs := []) (ds := []) F2 hr2 b2 .nil hx I2 (.cons rfl r) (by rw [List.append_nil]; exact q2)
theorem pe_meth20 {pl : Sem Bool} (he : PE X o ta) (c1 : Cls X.K C1) (m1 : Meth X.K C1 m f1) (F1 : FnOk X.prog X.w X.K X.mg X.base CX k1 f1 fd1 ps1 sp1) (hr1 : Room k1 X.A) (b1 : Binds X.K fd1 ps1 [])
    (c2 : Cls X.K C2) (m2 : Meth X.K C2 m f2) (F2 : FnOk X.prog X.w X.K X.mg X.base CX k2 f2 fd2 ps2 sp2) (hr2 : Room k2 X.A) (b2 : Binds X.K fd2 ps2 []) (hx : Passes CX X E)
    (ht : eval (.Call (.Attribute o m apos) [] [] pos) X.env = (do
      let ov ← eval o X.env
      standAt apos.atName
      let (f, first) ← holding [ov] (getMethod ov m pl)
      callWith pos f first (backTo pos (starEach [] X.env)) (backToKw pos (keywordEach [] X.env))) := by rfl) :
    PE X (.Call (.Attribute o m apos) [] [] pos) (tMeth2 C1 C2 m sp1 sp2 E ta tNil) := by
  intro pins s σ H Q I h
  refine PySem.W.methodCall_KW (pl := pl) (thn (he pins s σ H _ I h) fun u s1 ⟨x, H1, I1, rx, hq⟩ => ?_) ht
  rcases hq with ⟨a, dx, fs, ex, ea, l, q⟩ | ⟨a, dx, fs, ex, ea, l, q⟩ <;> subst ex <;> obtain rfl : u = Value.ref a := rx
  · refine getmeth_ok I1 ea c1 m1 l ?_
    exact PySem.W.callWith_K0 (first := [.ref a]) I1.kIn m1.kp (run_fn (us := [.ref a]) (vs := [.ref a]) (dvs := []) (ds := []) F1 hr1 b1 .nil hx I1 (.cons rfl .nil) q)
  · refine getmeth_ok I1 ea c2 m2 l ?_
    exact PySem.W.callWith_K0 (first := [.ref a]) I1.kIn m2.kp (run_fn (us := [.ref a]) (vs := [.ref a]) (dvs := []) (ds := []) F2 hr2 b2 .nil hx I1 (.cons rfl .nil) q)
end
end L2
/-! ### f-strings, to the letter -/
namespace L2
open PySem PySem.Spec PyProof.Rows
abbrev TFx := Str → St → Hp → VK → Prop
section
variable {X : Cx}
/-- the parts of an f-string behind what is joined so far -/
def PFx (X : Cx) (es : List Expr) (t : TFx) : Prop :=
  ∀ (out : Str) (pins : List (Addr × Obj)) (s : Shared) (σ : St) (H : Hp) (Q : VK), Inv X pins σ H s → t out σ H Q → wpAny (model X.prog X.w) X.A (joinParts out (evalEach es X.env)) (EP X pins σ Q) X.xe s
def xNil : TFx := fun out _ H Q => out.length ≤ sizeLine ∧ Q (.str out) H
def xLit (c : Str) (t : TFx) : TFx := fun out σ H Q => (out ++ c).length ≤ sizeLine ∧ t (out ++ c) σ H Q
def xStr (te : TE) (t : TFx) : TFx := fun out σ H Q => te σ H fun v H1 => ∃ x, v = .str x ∧ x.length ≤ sizeLine ∧ (out ++ x).length ≤ sizeLine ∧ t (out ++ x) σ H1 Q
end
end L2
namespace L2
open PySem
theorem cxK {CX : CXT} {P : Program} {w : World} {K : PySem.W.Frag} {mg : Str → Option Value} {base : Heap} {N : List Str} {qual : Str} {scope : Scope} {f : Addr} {cd : Value} {A : Around} {outer : List Env} {s : Shared} {H : Hp} {E : XK} : (cxOf CX P w K mg base N qual scope f cd A outer s H E).K = K := rfl
theorem lcK {X : Cx} {scope : Scope} {ts : List Str} {js : List Nat} {C : Addr} {s2 : Shared} {H2 : Hp} {fp : List Addr} : (Cx.lc X scope ts js C s2 H2 fp).K = X.K := rfl
theorem wishK {X : Cx} {E : Value → Shared → Prop} : (X.wish E).K = X.K := rfl
end L2

namespace Lw
open PySem L2
def top (i : Nat) : Stmt := PySem.Challenge.pw_prunepath_k17_trees_looked_at.main.body.getD i (.Pass ⟨0, 0, 0, 0⟩)
abbrev s_Node___init__ : Stmt := inClass (top 5) 0
abbrev s_Leaf_below : Stmt := inClass (top 6) 0
abbrev s_Leaf_leaves : Stmt := inClass (top 6) 1
abbrev s_Leaf_deep : Stmt := inClass (top 6) 2
abbrev s_Leaf_places : Stmt := inClass (top 6) 4
abbrev s_Fork_below : Stmt := inClass (top 7) 1
abbrev s_Fork_leaves : Stmt := inClass (top 7) 2
abbrev s_Fork_deep : Stmt := inClass (top 7) 3
abbrev s_Fork_places : Stmt := inClass (top 7) 5
abbrev s_Fork___init__ : Stmt := inClass (top 7) 0
abbrev s_Node_at : Stmt := inClass (top 5) 1
abbrev s_law_cell : Stmt := top 9
abbrev s_law_draw : Stmt := top 10
abbrev s_law_start : Stmt := top 11
abbrev s_law_words : Stmt := top 12
abbrev s_law_pool : Stmt := top 13
abbrev s_law_columns : Stmt := top 14
abbrev s_law_counted : Stmt := top 15
abbrev s_law_question : Stmt := top 16
abbrev s_law_drawn : Stmt := top 17
abbrev s_law_long : Stmt := top 18
abbrev s_law_built : Stmt := top 19
abbrev s_law_spots : Stmt := top 20
abbrev s_law_whole : Stmt := top 21
abbrev s_law_same : Stmt := top 22
abbrev s_law_looked : Stmt := top 23
abbrev s_law : Stmt := top 24
set_option genInjectivity false in
set_option genSizeOf false in
structure Tx (K : PySem.W.Frag) (mg : Str → Option Value) where
  c_NoPlace : Addr
  m_NoPlace : mg "NoPlace" = some (.ref c_NoPlace)
  c_Node : Addr
  m_Node : mg "Node" = some (.ref c_Node)
  C_Node : Cls K c_Node
  c_Leaf : Addr
  m_Leaf : mg "Leaf" = some (.ref c_Leaf)
  C_Leaf : Cls K c_Leaf
  c_Fork : Addr
  m_Fork : mg "Fork" = some (.ref c_Fork)
  C_Fork : Cls K c_Fork
  f_Node___init__ : Addr
  d_Node___init__ : FuncData
  F_Node___init__ : Fun K "__init__" "Node.__init__" s_Node___init__ f_Node___init__ d_Node___init__
  b_Node___init__ : Binds K d_Node___init__ ["self", "counted"] []
  M_Node : Mk K c_Node f_Node___init__
  f_Leaf_below : Addr
  d_Leaf_below : FuncData
  F_Leaf_below : Fun K "below" "Leaf.below" s_Leaf_below f_Leaf_below d_Leaf_below
  b_Leaf_below : Binds K d_Leaf_below ["self", "sign"] []
  M_Leaf_below : Meth K c_Leaf "below" f_Leaf_below
  f_Leaf_leaves : Addr
  d_Leaf_leaves : FuncData
  F_Leaf_leaves : Fun K "leaves" "Leaf.leaves" s_Leaf_leaves f_Leaf_leaves d_Leaf_leaves
  b_Leaf_leaves : Binds K d_Leaf_leaves ["self"] []
  M_Leaf_leaves : Meth K c_Leaf "leaves" f_Leaf_leaves
  f_Leaf_deep : Addr
  d_Leaf_deep : FuncData
  F_Leaf_deep : Fun K "deep" "Leaf.deep" s_Leaf_deep f_Leaf_deep d_Leaf_deep
  b_Leaf_deep : Binds K d_Leaf_deep ["self"] []
  M_Leaf_deep : Meth K c_Leaf "deep" f_Leaf_deep
  f_Leaf_places : Addr
  d_Leaf_places : FuncData
  F_Leaf_places : Fun K "places" "Leaf.places" s_Leaf_places f_Leaf_places d_Leaf_places
  b_Leaf_places : Binds K d_Leaf_places ["self"] []
  M_Leaf_places : Meth K c_Leaf "places" f_Leaf_places
  f_Fork_below : Addr
  d_Fork_below : FuncData
  F_Fork_below : Fun K "below" "Fork.below" s_Fork_below f_Fork_below d_Fork_below
  b_Fork_below : Binds K d_Fork_below ["self", "sign"] []
  M_Fork_below : Meth K c_Fork "below" f_Fork_below
  f_Fork_leaves : Addr
  d_Fork_leaves : FuncData
  F_Fork_leaves : Fun K "leaves" "Fork.leaves" s_Fork_leaves f_Fork_leaves d_Fork_leaves
  b_Fork_leaves : Binds K d_Fork_leaves ["self"] []
  M_Fork_leaves : Meth K c_Fork "leaves" f_Fork_leaves
  f_Fork_deep : Addr
  d_Fork_deep : FuncData
  F_Fork_deep : Fun K "deep" "Fork.deep" s_Fork_deep f_Fork_deep d_Fork_deep
  b_Fork_deep : Binds K d_Fork_deep ["self"] []
  M_Fork_deep : Meth K c_Fork "deep" f_Fork_deep
  f_Fork_places : Addr
  d_Fork_places : FuncData
  F_Fork_places : Fun K "places" "Fork.places" s_Fork_places f_Fork_places d_Fork_places
  b_Fork_places : Binds K d_Fork_places ["self"] []
  M_Fork_places : Meth K c_Fork "places" f_Fork_places
  f_Fork___init__ : Addr
  d_Fork___init__ : FuncData
  F_Fork___init__ : Fun K "__init__" "Fork.__init__" s_Fork___init__ f_Fork___init__ d_Fork___init__
  b_Fork___init__ : Binds K d_Fork___init__ ["self", "counted", "question", "yes", "no"] []
  M_Fork : Mk K c_Fork f_Fork___init__
  f_Node_at : Addr
  d_Node_at : FuncData
  F_Node_at : Fun K "at" "Node.at" s_Node_at f_Node_at d_Node_at
  b_Node_at : Binds K d_Node_at ["self", "place"] []
  M_Node_at : Meth K c_Node "at" f_Node_at
  f_law_cell : Addr
  d_law_cell : FuncData
  F_law_cell : Fun K "_law_cell" "_law_cell" s_law_cell f_law_cell d_law_cell
  b_law_cell : Binds K d_law_cell ["_law_script", "_law_k"] []
  m_law_cell : mg "_law_cell" = some (.ref f_law_cell)
  f_law_draw : Addr
  d_law_draw : FuncData
  F_law_draw : Fun K "_law_draw" "_law_draw" s_law_draw f_law_draw d_law_draw
  b_law_draw : Binds K d_law_draw ["_law_bag", "_law_many"] []
  m_law_draw : mg "_law_draw" = some (.ref f_law_draw)
  f_law_start : Addr
  d_law_start : FuncData
  F_law_start : Fun K "_law_start" "_law_start" s_law_start f_law_start d_law_start
  b_law_start : Binds K d_law_start ["_law_bag", "_law_cell_here"] []
  m_law_start : mg "_law_start" = some (.ref f_law_start)
  f_law_words : Addr
  d_law_words : FuncData
  F_law_words : Fun K "_law_words" "_law_words" s_law_words f_law_words d_law_words
  b_law_words : Binds K d_law_words ["_law_cell_here", "_law_many"] []
  m_law_words : mg "_law_words" = some (.ref f_law_words)
  f_law_pool : Addr
  d_law_pool : FuncData
  F_law_pool : Fun K "_law_pool" "_law_pool" s_law_pool f_law_pool d_law_pool
  b_law_pool : Binds K d_law_pool ["_law_cell_here"] []
  m_law_pool : mg "_law_pool" = some (.ref f_law_pool)
  f_law_columns : Addr
  d_law_columns : FuncData
  F_law_columns : Fun K "_law_columns" "_law_columns" s_law_columns f_law_columns d_law_columns
  b_law_columns : Binds K d_law_columns ["_law_bag", "_law_some", "_law_many"] []
  m_law_columns : mg "_law_columns" = some (.ref f_law_columns)
  f_law_counted : Addr
  d_law_counted : FuncData
  F_law_counted : Fun K "_law_counted" "_law_counted" s_law_counted f_law_counted d_law_counted
  b_law_counted : Binds K d_law_counted ["_law_bag", "_law_some"] []
  m_law_counted : mg "_law_counted" = some (.ref f_law_counted)
  f_law_question : Addr
  d_law_question : FuncData
  F_law_question : Fun K "_law_question" "_law_question" s_law_question f_law_question d_law_question
  b_law_question : Binds K d_law_question ["_law_bag", "_law_columns_here", "_law_pool_here", "_law_some"] []
  m_law_question : mg "_law_question" = some (.ref f_law_question)
  f_law_drawn : Addr
  d_law_drawn : FuncData
  F_law_drawn : Fun K "_law_drawn" "_law_drawn" s_law_drawn f_law_drawn d_law_drawn
  b_law_drawn : Binds K d_law_drawn ["_law_bag", "_law_columns_here", "_law_pool_here", "_law_some", "_law_deep"] []
  m_law_drawn : mg "_law_drawn" = some (.ref f_law_drawn)
  f_law_long : Addr
  d_law_long : FuncData
  F_law_long : Fun K "_law_long" "_law_long" s_law_long f_law_long d_law_long
  b_law_long : Binds K d_law_long ["_law_bag", "_law_columns_here", "_law_pool_here", "_law_some", "_law_deep"] []
  m_law_long : mg "_law_long" = some (.ref f_law_long)
  f_law_built : Addr
  d_law_built : FuncData
  F_law_built : Fun K "_law_built" "_law_built" s_law_built f_law_built d_law_built
  b_law_built : Binds K d_law_built ["_law_drawn_here"] []
  m_law_built : mg "_law_built" = some (.ref f_law_built)
  f_law_spots : Addr
  d_law_spots : FuncData
  F_law_spots : Fun K "_law_spots" "_law_spots" s_law_spots f_law_spots d_law_spots
  b_law_spots : Binds K d_law_spots ["_law_drawn_here", "_law_place"] []
  m_law_spots : mg "_law_spots" = some (.ref f_law_spots)
  f_law_whole : Addr
  d_law_whole : FuncData
  F_law_whole : Fun K "_law_whole" "_law_whole" s_law_whole f_law_whole d_law_whole
  b_law_whole : Binds K d_law_whole ["_law_found"] []
  m_law_whole : mg "_law_whole" = some (.ref f_law_whole)
  f_law_same : Addr
  d_law_same : FuncData
  F_law_same : Fun K "_law_same" "_law_same" s_law_same f_law_same d_law_same
  b_law_same : Binds K d_law_same ["_law_found", "_law_drawn_here"] []
  m_law_same : mg "_law_same" = some (.ref f_law_same)
  f_law_looked : Addr
  d_law_looked : FuncData
  F_law_looked : Fun K "_law_looked" "_law_looked" s_law_looked f_law_looked d_law_looked
  b_law_looked : Binds K d_law_looked ["_law_found", "_law_drawn_here"] []
  m_law_looked : mg "_law_looked" = some (.ref f_law_looked)
  f_law : Addr
  d_law : FuncData
  F_law : Fun K "law" "law" s_law f_law d_law
  b_law : Binds K d_law ["_law_script"] []
  m_law : mg "law" = some (.ref f_law)
  M_Leaf : Mk K c_Leaf f_Node___init__
  M_Leaf_at : Meth K c_Leaf "at" f_Node_at
  M_Fork_at : Meth K c_Fork "at" f_Node_at
  cc_Node___init__ : ClsC K c_Node "__init__" f_Node___init__
  z_bool : mg "bool" = none
  z_int : mg "int" = none
  z_isinstance : mg "isinstance" = none
  z_len : mg "len" = none
  z_list : mg "list" = none
  z_max : mg "max" = none
  z_range : mg "range" = none
  z_sorted : mg "sorted" = none
  nLc : PySem.W.findIn K (.ref c_Leaf) "counted" = some none
  nFcd : PySem.W.findIn K (.ref c_Fork) "counted" = some none
  nFqn : PySem.W.findIn K (.ref c_Fork) "question" = some none
  nFys : PySem.W.findIn K (.ref c_Fork) "yes" = some none
  nFno : PySem.W.findIn K (.ref c_Fork) "no" = some none
  nFlt : PySem.W.findIn K (.ref c_Fork) "leaf_count" = some none
  nFdh : PySem.W.findIn K (.ref c_Fork) "depth" = some none
  clL : PySem.W.findIn K (.ref c_Leaf) "__class__" = some (some (.builtin "object.__class__"))
  clF : PySem.W.findIn K (.ref c_Fork) "__class__" = some (some (.builtin "object.__class__"))
  ogt : PySem.W.specialIn K (.builtin "object.__class__") "__get__" = some (some (.builtin "getset_descriptor.__get__"))
  otk : PySem.W.takesIn K (.builtin "object.__class__") = some true
  omL : PySem.W.mroIn K c_Leaf (.type "object") = some true
  omF : PySem.W.mroIn K c_Fork (.type "object") = some true
  kLF : PySem.W.kitOne K (.ref c_Leaf) (.ref c_Fork) = some false
  kFF : PySem.W.kitOne K (.ref c_Fork) (.ref c_Fork) = some true
  kLL : PySem.W.kitOne K (.ref c_Leaf) (.ref c_Leaf) = some true
  kFL : PySem.W.kitOne K (.ref c_Fork) (.ref c_Leaf) = some false
  kLN : PySem.W.kitOne K (.ref c_Leaf) (.ref c_Node) = some true
  kFN : PySem.W.kitOne K (.ref c_Fork) (.ref c_Node) = some true
theorem sc_Node___init__ : FnScope ["self", "counted"] ["self", "counted"] (defScope s_Node___init__) := ⟨rfl, rfl, rfl, by decide +kernel, rfl, by decide +kernel, by decide +kernel⟩
theorem sc_Leaf_below : FnScope ["self", "sign"] ["self", "sign"] (defScope s_Leaf_below) := ⟨rfl, rfl, rfl, by decide +kernel, rfl, by decide +kernel, by decide +kernel⟩
theorem sc_Leaf_leaves : FnScope ["self"] ["self"] (defScope s_Leaf_leaves) := ⟨rfl, rfl, rfl, by decide +kernel, rfl, by decide +kernel, by decide +kernel⟩
theorem sc_Leaf_deep : FnScope ["self"] ["self"] (defScope s_Leaf_deep) := ⟨rfl, rfl, rfl, by decide +kernel, rfl, by decide +kernel, by decide +kernel⟩
theorem sc_Leaf_places : FnScope ["self"] ["self"] (defScope s_Leaf_places) := ⟨rfl, rfl, rfl, by decide +kernel, rfl, by decide +kernel, by decide +kernel⟩
theorem sc_Fork_below : FnScope ["self", "sign"] ["self", "sign"] (defScope s_Fork_below) := ⟨rfl, rfl, rfl, by decide +kernel, rfl, by decide +kernel, by decide +kernel⟩
theorem sc_Fork_leaves : FnScope ["self"] ["self"] (defScope s_Fork_leaves) := ⟨rfl, rfl, rfl, by decide +kernel, rfl, by decide +kernel, by decide +kernel⟩
theorem sc_Fork_deep : FnScope ["self"] ["self"] (defScope s_Fork_deep) := ⟨rfl, rfl, rfl, by decide +kernel, rfl, by decide +kernel, by decide +kernel⟩
theorem sc_Fork_places : FnScope ["self", "found", "waiting", "step"] ["self"] (defScope s_Fork_places) := ⟨rfl, rfl, rfl, by decide +kernel, rfl, by decide +kernel, by decide +kernel⟩
theorem sc_Fork___init__ : FnScope ["self", "counted", "question", "yes", "no"] ["self", "counted", "question", "yes", "no"] (defScope s_Fork___init__) := ⟨rfl, rfl, rfl, by decide +kernel, rfl, by decide +kernel, by decide +kernel⟩
theorem sc_Node_at : FnScope ["self", "place", "node", "sign"] ["self", "place"] (defScope s_Node_at) := ⟨rfl, rfl, rfl, by decide +kernel, rfl, by decide +kernel, by decide +kernel⟩
theorem sc_law_cell : FnScope ["_law_script", "_law_k"] ["_law_script", "_law_k"] (defScope s_law_cell) := ⟨rfl, rfl, rfl, by decide +kernel, rfl, by decide +kernel, by decide +kernel⟩
theorem sc_law_draw : FnScope ["_law_bag", "_law_many", "_law_left"] ["_law_bag", "_law_many"] (defScope s_law_draw) := ⟨rfl, rfl, rfl, by decide +kernel, rfl, by decide +kernel, by decide +kernel⟩
theorem sc_law_start : FnScope ["_law_bag", "_law_cell_here"] ["_law_bag", "_law_cell_here"] (defScope s_law_start) := ⟨rfl, rfl, rfl, by decide +kernel, rfl, by decide +kernel, by decide +kernel⟩
theorem sc_law_words : FnScope ["_law_cell_here", "_law_many", "_law_letters", "_law_size", "_law_rest", "_law_word", "_law_k", "_law_made", "_law_spot", "_law_letter", "_law_name"] ["_law_cell_here", "_law_many"] (defScope s_law_words) := ⟨rfl, rfl, rfl, by decide +kernel, rfl, by decide +kernel, by decide +kernel⟩
theorem sc_law_pool : FnScope ["_law_cell_here", "_law_wide", "_law_way"] ["_law_cell_here"] (defScope s_law_pool) := ⟨rfl, rfl, rfl, by decide +kernel, rfl, by decide +kernel, by decide +kernel⟩
theorem sc_law_columns : FnScope ["_law_bag", "_law_some", "_law_many", "_law_made", "_law_k"] ["_law_bag", "_law_some", "_law_many"] (defScope s_law_columns) := ⟨rfl, rfl, rfl, by decide +kernel, rfl, by decide +kernel, by decide +kernel⟩
theorem sc_law_counted : FnScope ["_law_bag", "_law_some", "_law_numbers"] ["_law_bag", "_law_some"] (defScope s_law_counted) := ⟨rfl, rfl, rfl, by decide +kernel, rfl, by decide +kernel, by decide +kernel⟩
theorem sc_law_question : FnScope ["_law_bag", "_law_columns_here", "_law_pool_here", "_law_some", "_law_at"] ["_law_bag", "_law_columns_here", "_law_pool_here", "_law_some"] (defScope s_law_question) := ⟨rfl, rfl, rfl, by decide +kernel, rfl, by decide +kernel, by decide +kernel⟩
theorem sc_law_drawn : FnScope ["_law_bag", "_law_columns_here", "_law_pool_here", "_law_some", "_law_deep", "_law_counted_here", "_law_question_here", "_law_yes"] ["_law_bag", "_law_columns_here", "_law_pool_here", "_law_some", "_law_deep"] (defScope s_law_drawn) := ⟨rfl, rfl, rfl, by decide +kernel, rfl, by decide +kernel, by decide +kernel⟩
theorem sc_law_long : FnScope ["_law_bag", "_law_columns_here", "_law_pool_here", "_law_some", "_law_deep", "_law_made", "_law_k", "_law_side", "_law_question_here"] ["_law_bag", "_law_columns_here", "_law_pool_here", "_law_some", "_law_deep"] (defScope s_law_long) := ⟨rfl, rfl, rfl, by decide +kernel, rfl, by decide +kernel, by decide +kernel⟩
theorem sc_law_built : FnScope ["_law_drawn_here", "_law_handed", "_law_made", "_law_yes", "_law_no"] ["_law_drawn_here"] (defScope s_law_built) := ⟨rfl, rfl, rfl, by decide +kernel, rfl, by decide +kernel, by decide +kernel⟩
theorem sc_law_spots : FnScope ["_law_drawn_here", "_law_place"] ["_law_drawn_here", "_law_place"] (defScope s_law_spots) := ⟨rfl, rfl, rfl, by decide +kernel, rfl, by decide +kernel, by decide +kernel⟩
theorem sc_law_whole : FnScope ["_law_found"] ["_law_found"] (defScope s_law_whole) := ⟨rfl, rfl, rfl, by decide +kernel, rfl, by decide +kernel, by decide +kernel⟩
theorem sc_law_same : FnScope ["_law_found", "_law_drawn_here"] ["_law_found", "_law_drawn_here"] (defScope s_law_same) := ⟨rfl, rfl, rfl, by decide +kernel, rfl, by decide +kernel, by decide +kernel⟩
theorem sc_law_looked : FnScope ["_law_found", "_law_drawn_here", "_law_spots_here", "_law_final", "_law_many", "_law_low", "_law_told"] ["_law_found", "_law_drawn_here"] (defScope s_law_looked) := ⟨rfl, rfl, rfl, by decide +kernel, rfl, by decide +kernel, by decide +kernel⟩
theorem sc_law : FnScope ["_law_script", "_law_some", "_law_pool_here", "_law_bag", "_law_columns_here", "_law_cell_here", "_law_drawn_here", "_law_made", "_law_place", "_law_here", "_law_found"] ["_law_script"] (defScope s_law) := ⟨rfl, rfl, rfl, by decide +kernel, rfl, by decide +kernel, by decide +kernel⟩

/-- a ratio's two numbers are not too long -/
structure Rz (n : Nat) (q : Rat) : Prop where
  zn : Bz n q.num
  zd : Bz n (q.den : Int)
/-- the tuple of a ratio -/
abbrev rt (q : Rat) : HO := .tup [.int q.num, .int (q.den : Int)]
/-- a new ratio -/
def Nw (H : Hp) (Q : VK) (q : Rat) : Prop := ∀ p, H p = none → Q (.ref p) (upd H p (rt q))
theorem cN (i : Int) {j : Int} (h0 : 0 < j) (h1 : j < 340282366920938463463374607431768211456) : CDivB i j := ⟨h0, (Bz.w (by omega) h1).log2⟩
/-! words, columns, rows -/
def fsT (l1 l2 : Addr) : List (Str × V) := [("kept_columns", .ref l1), ("kept_rows", .ref l2)]
/-- ints, truths, texts, None -/
def kd : V → Bool
  | .int _ | .bl _ | .str _ | .non => true
  | _ => false
def whV : V → Bool
  | .int _ => true
  | _ => false
def isWV : V → Bool
  | .str x => isW x
  | _ => false
def lenV : V → Prop
  | .str x => x.length ≤ 1000
  | _ => True
def fitsV (v : V) (s : Str) : Bool := if s = "number" then whV v else isWV v
def colD (c : Str × Str) : PyData := .tuple [.str c.1, .str c.2]
structure GoodC (cs : List (Str × Str)) : Prop where
  lo : 1 ≤ cs.length
  hi : cs.length ≤ 6
  nm : ∀ c ∈ cs, isW c.1 = true
  so : ∀ c ∈ cs, c.2 = "number" ∨ c.2 = "word"
  nd : (cs.map (·.1)).Nodup
def sp_is_whole_ : Sp := fun vs H Q _ => ∃ v, vs = [v] ∧ kd v = true ∧ Q (.bl (whV v)) H
def sp_is_word : Sp := fun vs H Q _ => ∃ v, vs = [v] ∧ kd v = true ∧ lenV v ∧ ∀ H', Same H H' → Q (.bl (isWV v)) H'
def sp_check_columns0 (K : PySem.W.Frag) : Sp := fun vs H Q _ => ∃ (a : Addr) (xs : List V) (cs : List (Str × Str)), vs = [.ref a] ∧ H a = some (.lst xs) ∧ TVs K H xs (cs.map colD) ∧ GoodC cs ∧ ∀ H', Same H H' → Q .non H'
def sp_fits : Sp := fun vs H Q _ => ∃ (v : V) (s : Str), vs = [v, .str s] ∧ kd v = true ∧ lenV v ∧ ∀ H', Same H H' → Q (.bl (fitsV v s)) H'
def sp_check_row0 (K : PySem.W.Frag) : Sp := fun vs H Q _ => ∃ (a b : Addr) (xs ys : List V) (cs : List (Str × Str)) (w : Str), vs = [.ref a, .ref b, .str w] ∧ H a = some (.lst xs) ∧ TVs K H xs (cs.map colD) ∧ H b = some (.lst ys) ∧ ys.length = cs.length ∧ cs.length ≤ 6 ∧ (∀ v ∈ ys, kd v = true ∧ lenV v) ∧
  (∀ (i : Nat) v c, ys[i]? = some v → cs[i]? = some c → fitsV v c.2 = true) ∧ isW w = true ∧ ∀ H', Same H H' → Q .non H'
theorem isW_len {x : Str} (h : isW x = true) : 1 ≤ x.length ∧ x.length ≤ 12 := by
  unfold isW at h
  simp only [Bool.and_eq_true, decide_eq_true_eq] at h
  omega
theorem isW_all {x : Str} (h : isW x = true) : ∀ c ∈ cds x, 97 ≤ c ∧ c ≤ 122 := by
  unfold isW at h
  simp only [Bool.and_eq_true, List.all_eq_true] at h
  intro c hc
  have := h.2 c hc
  unfold isL at this
  simp only [Bool.and_eq_true, decide_eq_true_eq] at this
  exact this
def kD : Key → PyData
  | .inl i => .int i
  | .inr x => .str x
def rowD (r : List Key × Str) : PyData := .tuple [.tuple (r.1.map kD), .str r.2]
def okK : Key → Prop
  | .inl _ => True
  | .inr x => isW x = true
structure RowOk (r : List Key × Str) : Prop where
  ks : ∀ k ∈ r.1, okK k
  an : isW r.2 = true
theorem shpW (n : Nat) {x : Str} (h : isW x = true) : Shp n (.str x) := .str n fun c hc => by have := isW_all h c hc; omega
def sp_init (C : Addr) (K : PySem.W.Frag) : Sp := fun vs H Q _ => ∃ (x dx a : Addr) (xs : List V) (cs : List (Str × Str)), vs = [.ref x, .ref a] ∧ H x = some (.ins C dx []) ∧ H a = some (.lst xs) ∧ TVs K H xs (cs.map colD) ∧ GoodC cs ∧
  ∀ H' l1 l2, H l1 = none → H l2 = none → l1 ≠ l2 → SameB x H H' → H' x = some (.ins C dx (fsT l1 l2)) → H' l1 = some (.lst xs) → H' l2 = some (.lst []) → Q .non H'
def sp_columns (C : Addr) : Sp := fun vs H Q _ => ∃ (x dx l1 l2 : Addr) (xs : List V), vs = [.ref x] ∧ H x = some (.ins C dx (fsT l1 l2)) ∧ H l1 = some (.lst xs) ∧ ∀ p, H p = none → Q (.ref p) (upd H p (.lst xs))
def sp_rows (C : Addr) : Sp := fun vs H Q _ => ∃ (x dx l1 l2 : Addr) (xs : List V), vs = [.ref x] ∧ H x = some (.ins C dx (fsT l1 l2)) ∧ H l2 = some (.lst xs) ∧ ∀ p, H p = none → Q (.ref p) (upd H p (.lst xs))
structure Fit (ks : List Key) (cs : List (Str × Str)) : Prop where
  len : ks.length = cs.length
  ok : ∀ k ∈ ks, okK k
  fit : ∀ (i : Nat) k c, ks[i]? = some k → cs[i]? = some c → fitsV (kV k) c.2 = true
def sp_put (C : Addr) (K : PySem.W.Frag) : Sp := fun vs H Q _ => ∃ (x dx l1 l2 b : Addr) (w : Str) (cxs rws : List V) (cs : List (Str × Str)) (ks : List Key), vs = [.ref x, .ref b, .str w] ∧ H x = some (.ins C dx (fsT l1 l2)) ∧ H l1 = some (.lst cxs) ∧ TVs K H cxs (cs.map colD) ∧ cs.length ≤ 6 ∧
  H l2 = some (.lst rws) ∧ rws.length ≤ 100 ∧ H b = some (.lst (ks.map kV)) ∧ Fit ks cs ∧ isW w = true ∧ ∀ H' q, SameB l2 H H' → H' l2 = some (.lst (rws ++ [.ref q])) → TV K H' (.ref q) (rowD (ks, w)) → Q (.int (rws.length + 1)) H'
/-! the law's own -/
def sp_law_cell (K : PySem.W.Frag) : Sp := fun vs H Q _ => ∃ (a : Addr) (ns : List Int) (k : Int), vs = [.ref a, .int k] ∧ SqL K H a (ns.map V.int) ∧ 0 ≤ k ∧ ∀ v : Int, Q (.int v) H
/-- a bag of two numbers -/
abbrev bgL (n : Int × Int) : List V := [.int n.1, .int n.2]
abbrev Bg (n : Int × Int) : Prop := -1000000000000000000000000000000000000000000000000000000000000000000000000000000002 < n.1 ∧ n.1 < 2147483647
def sp_law_draw : Sp := fun vs H Q _ => ∃ (b : Addr) (n : Int × Int) (m : Int), vs = [.ref b, .int m] ∧ H b = some (.lst (bgL n)) ∧ Bg n ∧ 0 < m ∧ m ≤ 1000 ∧ ∀ (n' : Int × Int) (d : Int), Bg n' → 0 ≤ d ∧ d < m → Q (.int d) (upd H b (.lst (bgL n')))
structure Wds (ws : List Str) : Prop where
  nd : ws.Nodup
  ok : ∀ w ∈ ws, isW w = true
def sp_law_words : Sp := fun vs H Q _ => ∃ c m : Int, vs = [.int c, .int m] ∧ 1 ≤ m ∧ m ≤ 20 ∧ ∀ (ws : List Str) H' p, (ws.length : Int) = m → Wds ws → Same H H' → H p = none → H' p = some (.lst (ws.map V.str)) → Q (.ref p) H'
def sp_law_pool : Sp := fun vs H Q _ => ∃ c : Int, vs = [.int c] ∧ ∀ (ns : List Int) p, ns.length = 7 → H p = none → Q (.ref p) (upd H p (.lst (ns.map V.int)))
def sp_law_columns (K : PySem.W.Frag) : Sp := fun vs H Q _ => ∃ (b sa : Addr) (n : Int × Int) (m : Int) (ws : List Str), vs = [.ref b, .ref sa, .int m] ∧ H b = some (.lst (bgL n)) ∧ Bg n ∧ H sa = some (.lst (ws.map V.str)) ∧ b ≠ sa ∧ Wds ws ∧ 1 ≤ m ∧ m ≤ 6 ∧ m ≤ (ws.length : Int) ∧
  ∀ H' n' p xs cs, Bg n' → SameB b H H' → H' b = some (.lst (bgL n')) → H p = none → H' p = some (.lst xs) → TVs K H' xs (cs.map colD) → GoodC cs → Q (.ref p) H'
def sp_law_values (K : PySem.W.Frag) : Sp := fun vs H Q _ => ∃ (b ca pa sa : Addr) (n : Int × Int) (xs : List V) (cs : List (Str × Str)) (ns : List Int) (ws : List Str), vs = [.ref b, .ref ca, .ref pa, .ref sa] ∧ H b = some (.lst (bgL n)) ∧ Bg n ∧ H ca = some (.lst xs) ∧ TVs K H xs (cs.map colD) ∧ GoodC cs ∧
  H pa = some (.lst (ns.map V.int)) ∧ ns.length = 7 ∧ H sa = some (.lst (ws.map V.str)) ∧ Wds ws ∧ 4 ≤ ws.length ∧ b ≠ ca ∧ b ≠ pa ∧ b ≠ sa ∧ ∀ H' n' p ks, Bg n' → SameB b H H' → H' b = some (.lst (bgL n')) → H p = none → H' p = some (.tup (ks.map kV)) → Fit ks cs → Q (.ref p) H'
def sp_law_whole : Sp := fun vs H Q _ => ∃ i : Int, vs = [.int i] ∧ Q (.bl true) H
def sp_law_told (C : Addr) (K : PySem.W.Frag) : Sp := fun vs H Q _ => ∃ (x dx l1 l2 k : Addr) (xs ys : List V) (rs : List (List Key × Str)), vs = [.ref x, .ref k] ∧ H x = some (.ins C dx (fsT l1 l2)) ∧ H l2 = some (.lst xs) ∧ H k = some (.lst ys) ∧ TVs K H xs (rs.map rowD) ∧ TVs K H ys (rs.map rowD) ∧ rs.length ≤ 100 ∧
  (∀ r ∈ rs, RowOk r) ∧ ∀ H', Same H H' → Q (.bl true) H'
def sp_law (K : PySem.W.Frag) : Sp := fun vs H Q _ => ∃ (a : Addr) (ns : List Int), vs = [.ref a] ∧ SqF K H a (ns.map V.int) ∧ ns.length ≤ 63 ∧ ∀ H', Q (.bl true) H'
def srt (d : Int) : Str := if d < 2 then "number" else "word"
theorem srt_at {d : Int} (h0 : 0 ≤ d) (h : d < 3) : atI [V.str "number", V.str "number", V.str "word"] d = some (.str (srt d)) := by
  have : d = 0 ∨ d = 1 ∨ d = 2 := by omega
  rcases this with rfl | rfl | rfl <;> rfl
theorem srt_or (d : Int) : srt d = "number" ∨ srt d = "word" := by
  unfold srt
  split
  · exact .inl rfl
  · exact .inr rfl
theorem let_at {d : Int} (h0 : 0 ≤ d) (h : d < 26) : atI ("abcdefghijklmnopqrstuvwxyz" : Str).cps.toList d = some (97 + d.toNat) := by
  have hk : ∀ k : Nat, k < 26 → (letters.cps.toList)[k]? = some (97 + k) := by decide +kernel
  have ek : d = ((d.toNat : Nat) : Int) := by omega
  have q : atI letters.cps.toList ((d.toNat : Nat) : Int) = some (97 + d.toNat) := atI_nat (hk _ (by omega))
  rw [← ek] at q
  exact q
theorem let_cp {i c : Nat} (h : ("abcdefghijklmnopqrstuvwxyz" : Str).cps[i]? = some c) : c = 97 + i ∧ i < 26 := by
  have hk : ∀ k : Nat, k < 26 → (letters.cps)[k]? = some (97 + k) := by decide +kernel
  have hs : letters.cps.size = 26 := by decide +kernel
  have h' : letters.cps[i]? = some c := h
  obtain ⟨hi, _⟩ := Array.getElem?_eq_some_iff.mp h'
  rw [hs] at hi
  rw [hk i hi] at h'
  exact ⟨(Option.some.inj h').symm, hi⟩
theorem let_size : ("abcdefghijklmnopqrstuvwxyz" : Str).cps.size = 26 := by
  show letters.cps.size = 26
  decide +kernel
theorem let_len : ("abcdefghijklmnopqrstuvwxyz" : Str).length = 26 := let_size
/-- the word with another letter at sp -/
def nmj (w : Str) (sp j : Nat) : Str := tx ((cds w).take sp ++ [97 + j] ++ (cds w).drop (sp + 1))
theorem nmj_isW {w : Str} {sp j : Nat} (h : isW w = true) (hs : sp < w.length) (hj : j < 26) : isW (nmj w sp j) = true := by
  have hl := isW_len h
  have ha := isW_all h
  have e : (nmj w sp j).length = w.length := by
    rw [← cds_len, ← cds_len]
    show ((cds w).take sp ++ [97 + j] ++ (cds w).drop (sp + 1)).length = _
    simp only [List.length_append, List.length_take, List.length_drop, List.length_singleton, cds_len]
    omega
  unfold isW
  rw [e, decide_eq_true hl.1, decide_eq_true hl.2]
  show (true && true && ((cds w).take sp ++ [97 + j] ++ (cds w).drop (sp + 1)).all isL) = true
  simp only [Bool.true_and, List.all_append, List.all_cons, List.all_nil, Bool.and_true, Bool.and_eq_true, List.all_eq_true]
  have isl : ∀ c, 97 ≤ c → c ≤ 122 → isL c = true := fun c h1 h2 => by
    unfold isL
    rw [decide_eq_true h1, decide_eq_true h2]
    rfl
  refine ⟨⟨fun c hc => ?_, isl _ (by omega) (by omega)⟩, fun c hc => ?_⟩
  · have := ha c (List.mem_of_mem_take hc)
    exact isl c this.1 this.2
  · have := ha c (List.mem_of_mem_drop hc)
    exact isl c this.1 this.2
theorem nmj_inj {w : Str} {sp i j : Nat} (h : nmj w sp i = nmj w sp j) : i = j := by
  have e : (cds w).take sp ++ [97 + i] ++ (cds w).drop (sp + 1) = (cds w).take sp ++ [97 + j] ++ (cds w).drop (sp + 1) := congrArg cds h
  rw [List.append_assoc, List.append_assoc] at e
  have e2 := List.append_cancel_left e
  have e3 : 97 + i = 97 + j := by injection e2
  omega
/-- its beginnings -/
def pre (w : Str) (j : Nat) : Str := tx ((cds w).take (j + 1))
theorem pre_len {w : Str} {j : Nat} (h : j < w.length) : (pre w j).length = j + 1 := by
  rw [← cds_len]
  show ((cds w).take (j + 1)).length = _
  rw [List.length_take, cds_len]
  omega
theorem pre_isW {w : Str} {j : Nat} (h : isW w = true) (hj : j < w.length) : isW (pre w j) = true := by
  have hl := isW_len h
  unfold isW
  rw [pre_len hj, decide_eq_true (by omega), decide_eq_true (by omega)]
  show (true && true && ((cds w).take (j + 1)).all isL) = true
  simp only [Bool.true_and, List.all_eq_true]
  intro c hc
  have := isW_all h c (List.mem_of_mem_take hc)
  unfold isL
  rw [decide_eq_true this.1, decide_eq_true this.2]
  rfl
theorem pres {w : Str} (h : isW w = true) (m : Nat) : Wds (((List.range w.length).map (pre w)).take m) := by
  refine ⟨?_, fun x hx => ?_⟩
  · refine List.Pairwise.sublist (List.take_sublist _ _) ?_
    refine List.Pairwise.of_map (S := fun a b => a ≠ b) (f := Str.length) (fun a b h e => h (by rw [e])) ?_
    have e : ((List.range w.length).map (pre w)).map Str.length = (List.range w.length).map (· + 1) := by
      rw [List.map_map]
      exact List.map_congr_left fun j hj => pre_len (List.mem_range.mp hj)
    rw [e]
    exact List.Pairwise.map _ (fun a b h e => h (by omega)) List.nodup_range
  · obtain ⟨j, hj, rfl⟩ := List.mem_map.mp (List.mem_of_mem_take hx)
    exact pre_isW h (List.mem_range.mp hj)
theorem all26 {w : Str} {sp : Nat} {ws : List Str} (h : ∀ j < 26, nmj w sp j ∈ ws) : 26 ≤ ws.length := by
  have := nodup_sub (l := (List.range 26).map (nmj w sp)) (m := ws) (List.Pairwise.map _ (fun a b h e => h (nmj_inj e)) List.nodup_range) fun x hx => by
    obtain ⟨j, hj, rfl⟩ := List.mem_map.mp hx
    exact h j (List.mem_range.mp hj)
  simpa using this
theorem grow_w {w : Str} {c : Nat} (h : ∀ x ∈ cds w, 97 ≤ x ∧ x ≤ 122) (hc : 97 ≤ c ∧ c ≤ 122) : ∀ x ∈ cds (w ++ ⟨#[c]⟩), 97 ≤ x ∧ x ≤ 122 := fun x hx => by
  rw [cds_app] at hx
  rcases List.mem_append.mp hx with hx | hx
  · exact h x hx
  · rw [List.mem_singleton.mp hx]; exact hc
theorem isW_of {w : Str} (h : ∀ x ∈ cds w, 97 ≤ x ∧ x ≤ 122) (h1 : 1 ≤ w.length) (h2 : w.length ≤ 12) : isW w = true := by
  unfold isW
  rw [decide_eq_true h1, decide_eq_true h2]
  simp only [Bool.true_and, List.all_eq_true]
  intro c hc
  have := h c hc
  unfold isL
  rw [decide_eq_true this.1, decide_eq_true this.2]
  rfl
theorem len1 (c : Nat) : (⟨#[c]⟩ : Str).length = 1 := rfl
theorem lenA (x y : Str) : (x ++ y).length = x.length + y.length := by rw [← cds_len, ← cds_len, ← cds_len, cds_app, List.length_append]
theorem cut_strs {ws : List Str} {m : Int} (h : 0 ≤ m) : cutV (ws.map V.str) none (some m) = (ws.take m.toNat).map V.str := by
  have e : m = ((m.toNat : Nat) : Int) := by omega
  rw [e, cut_take, List.map_take]
  rfl
/-! counts -/
def cD (c : Str × Int) : PyData := .tuple [.str c.1, .int c.2]
/-- counts that are handed in -/
structure Cts (cs : List (Str × Int)) : Prop where
  len : cs.length ≤ 60
  wd : ∀ c ∈ cs, isW c.1 = true
  one : ∀ c ∈ cs, 1 ≤ c.2
theorem shpC {c : Str × Int} (h : isW c.1 = true) : Shp 1 (cD c) := .tup fun d hd => by
  rcases hd with _ | ⟨_, _ | ⟨_, hd⟩⟩
  · exact shpW 0 h
  · exact .int 0 _
  · cases hd
/-- one step of looking for the commonest -/
def cmS (z : V × Int) (c : Str × Int) : V × Int := if z.2 < c.2 then (.str c.1, c.2) else z
def cmn (cs : List (Str × Int)) : V × Int := cs.foldl cmS (.non, 0)
/-- the same from behind -/
def rvc : List (Str × Int) → V × Int
  | [] => (.non, 0)
  | c :: cs => if (rvc cs).2 ≤ c.2 then (.str c.1, c.2) else rvc cs
abbrev sumC (cs : List (Str × Int)) : Int := (cs.map (·.2)).sum
def Cn (K : PySem.W.Frag) (H : Hp) (a : Addr) (cs : List (Str × Int)) : Prop := ∃ xs, H a = some (.lst xs) ∧ TVs K H xs (cs.map cD)
theorem Cn.same {K : PySem.W.Frag} {H H' : Hp} {a : Addr} {cs : List (Str × Int)} (h : Cn K H a cs) (s : Same H H') : Cn K H' a cs := let ⟨xs, h1, h2⟩ := h; ⟨xs, s _ _ h1, h2.mono s.t⟩
def sp_commonest (K : PySem.W.Frag) : Sp := fun vs H Q _ => ∃ (a : Addr) (cs : List (Str × Int)), vs = [.ref a] ∧ Cn K H a cs ∧ Q (cmn cs).1 H
def sp_all_rows (K : PySem.W.Frag) : Sp := fun vs H Q _ => ∃ (a : Addr) (cs : List (Str × Int)), vs = [.ref a] ∧ Cn K H a cs ∧ cs.length ≤ 60 ∧ ∀ H', Same H H' → Q (.int (sumC cs)) H'
def sp_misses (K : PySem.W.Frag) : Sp := fun vs H Q _ => ∃ (a : Addr) (cs : List (Str × Int)), vs = [.ref a] ∧ Cn K H a cs ∧ cs.length ≤ 60 ∧ ∀ H', Same H H' → Q (.int (sumC cs - mxD 0 (cs.map (·.2)))) H'
theorem Wds.perm {ws ws' : List Str} (h : Wds ws) (p : ws'.Perm ws) : Wds ws' := ⟨p.nodup_iff.mpr h.nd, fun w hw => h.ok w (p.mem_iff.mp hw)⟩
/-! groups of rows, questions -/
/-- a question: its word, its column, its cut -/
structure Qs where
  kd : Str
  at' : Nat
  c : Key
def qV (q : Qs) : List V := [.str q.kd, .int q.at', kV q.c]
/-- it may be asked of these values -/
def Ask (q : Qs) (ks : List Key) : Prop := (q.kd = "most" ∧ (∃ v n, ks[q.at']? = some (.inl v) ∧ q.c = .inl n)) ∨ (q.kd = "is" ∧ ∃ v w, ks[q.at']? = some (.inr v) ∧ q.c = .inr w)
def say (q : Qs) (ks : List Key) : Bool := match ks[q.at']?, q.c with
  | some (.inl v), .inl n => decide (v ≤ n)
  | some (.inr v), .inr w => decide (v = w)
  | _, _ => false
abbrev Row := List Key × Str
structure Grp (cs : List (Str × Str)) (rs : List Row) : Prop where
  len : rs.length ≤ 60
  ok : ∀ r ∈ rs, RowOk r
  fit : ∀ r ∈ rs, Fit r.1 cs
/-- a list of rows in the heap -/
def Gl' (K : PySem.W.Frag) (H : Hp) (a : Addr) (rs : List Row) : Prop := ∃ xs, H a = some (.lst xs) ∧ TVs K H xs (rs.map rowD)
/-- a question for these columns -/
def QOk (cs : List (Str × Str)) (q : Qs) : Prop := ∃ c, cs[q.at']? = some c ∧ ((q.kd = "most" ∧ c.2 = "number" ∧ ∃ n, q.c = .inl n) ∨ (q.kd = "is" ∧ c.2 = "word" ∧ ∃ w, q.c = .inr w ∧ isW w = true))
def sp_says : Sp := fun vs H Q _ => ∃ (qa va : Addr) (q : Qs) (ks : List Key), vs = [.ref qa, .ref va] ∧ H qa = some (.tup (qV q)) ∧ H va = some (.tup (ks.map kV)) ∧ Ask q ks ∧ Q (.bl (say q ks)) H
/-- two new lists in a new tuple -/
def Parts (K : PySem.W.Frag) (H H' : Hp) (p : Addr) (ys ns : List Row) : Prop := ∃ ly ln, H p = none ∧ H ly = none ∧ H ln = none ∧ ly ≠ ln ∧ Same H H' ∧ H' p = some (.tup [.ref ly, .ref ln]) ∧ Gl' K H' ly ys ∧ Gl' K H' ln ns
def sp_parted (K : PySem.W.Frag) : Sp := fun vs H Q _ => ∃ (qa a : Addr) (q : Qs) (rs : List Row), vs = [.ref qa, .ref a] ∧ H qa = some (.tup (qV q)) ∧ Gl' K H a rs ∧ rs.length ≤ 60 ∧ (∀ r ∈ rs, Ask q r.1) ∧ ∀ H' p, Parts K H H' p (rs.filter fun r => say q r.1) (rs.filter fun r => !say q r.1) → Q (.ref p) H'
inductive NT where
  | lf (cs : List (Str × Int))
  | fk (cs : List (Str × Int)) (q : Qs) (y n : NT)
def NT.lv : NT → Nat
  | .lf _ => 1
  | .fk _ _ y n => y.lv + n.lv
def NT.dp : NT → Nat
  | .lf _ => 0
  | .fk _ _ y n => 1 + max y.dp n.dp
def NT.sz : NT → Nat
  | .lf _ => 1
  | .fk _ _ y n => 1 + y.sz + n.sz
theorem NT.dp_sz : ∀ t : NT, t.dp < t.sz
  | .lf _ => by show 0 < 1; decide
  | .fk _ _ y n => by
    have := y.dp_sz
    have := n.dp_sz
    show 1 + max y.dp n.dp < 1 + y.sz + n.sz
    omega
/-- the fields of a fork -/
def ffs (l qa : Addr) (v1 v2 : V) (a b : Int) : List (Str × V) := [("counted", .ref l), ("question", .ref qa), ("yes", v1), ("no", v2), ("leaf_count", .int a), ("depth", .int b)]
/-- the program's trees: objects of the one or the other class -/
inductive ND (CL CF : Addr) (K : PySem.W.Frag) (H : Hp) : V → NT → Prop
  | lf {x dx l : Addr} {cs : List (Str × Int)} : H x = some (.ins CL dx [("counted", .ref l)]) → Cn K H l cs → ND CL CF K H (.ref x) (.lf cs)
  | fk {x dx l qa : Addr} {cs : List (Str × Int)} {q : Qs} {v1 v2 : V} {y n : NT} : H x = some (.ins CF dx (ffs l qa v1 v2 ((y.lv + n.lv : Nat) : Int) ((1 + max y.dp n.dp : Nat) : Int))) → Cn K H l cs → H qa = some (.tup (qV q)) → ND CL CF K H v1 y → ND CL CF K H v2 n → ND CL CF K H (.ref x) (.fk cs q y n)
theorem ND.same {CL CF : Addr} {K : PySem.W.Frag} {H H' : Hp} {v : V} {t : NT} (h : ND CL CF K H v t) (s : Same H H') : ND CL CF K H' v t := by
  induction h with
  | lf h1 h2 => exact .lf (s _ _ h1) (h2.same s)
  | fk h1 h2 h3 _ _ i1 i2 => exact .fk (s _ _ h1) (h2.same s) (s _ _ h3) i1 i2
theorem _root_.L2.SameB.ti {b C dx : Addr} {H H' : Hp} {fs : List (Str × V)} (s : SameB b H H') (h : H b = some (.ins C dx fs)) : SameT H H' := fun a xs q => s a _ (ne_of q h (by intro z; cases z)) q
theorem Cn.sbx {K : PySem.W.Frag} {H H' : Hp} {x a C dx : Addr} {fs : List (Str × V)} {cs : List (Str × Int)} (h : Cn K H a cs) (s : SameB x H H') (hx : H x = some (.ins C dx fs)) : Cn K H' a cs := by
  obtain ⟨xs, h1, h2⟩ := h
  exact ⟨xs, s _ _ (ne_of h1 hx (by intro z; cases z)) h1, h2.mono (s.ti hx)⟩
theorem ND.sbx {CL CF : Addr} {K : PySem.W.Frag} {H H' : Hp} {x dx : Addr} {fs : List (Str × V)} {v : V} {t : NT} (h : ND CL CF K H v t) (s : SameB x H H') (hx : H x = some (.ins CF dx fs)) (ne : CL ≠ CF) (lt : fs.length < 6) : ND CL CF K H' v t := by
  induction h with
  | lf h1 h2 =>
    refine .lf (s _ _ (ne_of h1 hx ?_) h1) (h2.sbx s hx)
    intro z
    injection z with z _ _
    exact ne z
  | fk h1 h2 h3 _ _ i1 i2 =>
    refine .fk (s _ _ (ne_of h1 hx ?_) h1) (h2.sbx s hx) (s _ _ (ne_of h3 hx (by intro z; cases z)) h3) i1 i2
    intro z
    injection z with _ _ z
    rw [← z] at lt
    exact absurd lt (by show ¬ 6 < 6; decide)
/-- the heap without the pile's own list -/
def del (H : Hp) (z : Addr) : Hp := fun a => if a = z then none else H a
theorem del_at {H : Hp} {z a : Addr} {o : HO} (h : H a = some o) (n : a ≠ z) : del H z a = some o := by unfold del; rw [if_neg n]; exact h
theorem del_same (H : Hp) (z : Addr) : Same (del H z) H := fun a o h => by
  unfold del at h
  split at h
  · cases h
  · exact h
theorem del_ne {H : Hp} {z a : Addr} {o : HO} (h : del H z a = some o) : a ≠ z := fun e => by
  unfold del at h
  rw [if_pos e] at h
  cases h
theorem del_mono {H H' : Hp} (z : Addr) (s : Same H H') : Same (del H z) (del H' z) := fun a o h => del_at (s _ _ (del_same H z a o h)) (del_ne h)
theorem del_t {H : Hp} {z : Addr} {xs : List V} (h : H z = some (.lst xs)) : SameT H (del H z) := fun a ys e => del_at e (ne_of e h (by intro z; cases z))
theorem Cn.del {K : PySem.W.Frag} {H : Hp} {z a : Addr} {xs : List V} {cs : List (Str × Int)} (h : Cn K H a cs) (hz : H z = some (.lst xs)) (n : a ≠ z) : Cn K (del H z) a cs := by
  obtain ⟨ys, h1, h2⟩ := h
  exact ⟨ys, del_at h1 n, h2.mono (del_t hz)⟩
def sp_init_node (CL CF : Addr) : Sp := fun vs H Q _ => ∃ (x a C dx : Addr) (xs : List V), vs = [.ref x, .ref a] ∧ H x = some (.ins C dx []) ∧ (C = CL ∨ C = CF) ∧ H a = some (.lst xs) ∧ ∀ l, H l = none → Q .non (upd (upd H l (.lst xs)) x (.ins C dx [("counted", .ref l)]))
def sp_lleaves (CL : Addr) (n : Int) : Sp := fun vs H Q _ => ∃ (x dx : Addr) (fs : List (Str × V)), vs = [.ref x] ∧ H x = some (.ins CL dx fs) ∧ Q (.int n) H
def sp_ffield (CF : Addr) (f : Str) : Sp := fun vs H Q _ => ∃ (x dx : Addr) (fs : List (Str × V)) (v : V), vs = [.ref x] ∧ H x = some (.ins CF dx fs) ∧ fs.lookup f = some v ∧ Q v H
def sp_init_fork (CL CF : Addr) (K : PySem.W.Frag) : Sp := fun vs H Q _ => ∃ (x a qa dx : Addr) (v1 v2 : V) (cs : List (Str × Int)) (q : Qs) (y n : NT), vs = [.ref x, .ref a, .ref qa, v1, v2] ∧ H x = some (.ins CF dx []) ∧ Cn K H a cs ∧ H qa = some (.tup (qV q)) ∧ ND CL CF K H v1 y ∧ ND CL CF K H v2 n ∧
  ∀ H', SameB x H H' → ND CL CF K H' (.ref x) (.fk cs q y n) → Q .non H'
theorem lne {K : PySem.W.Frag} {CL CF : Addr} (h1 : PySem.W.kitOne K (.ref CL) (.ref CF) = some false) (h2 : PySem.W.kitOne K (.ref CF) (.ref CF) = some true) : CL ≠ CF := fun z => by
  rw [z, h2] at h1
  cases h1
section
variable {CL CF : Addr} {K : PySem.W.Frag} {H : Hp} {v : V} {t : NT} {Q : VK} {E : XK} {σ : St}
theorem nd_leaves (h : ND CL CF K H v t) (q : Q (.int (t.lv : Nat)) H) : (∃ a dx fs, v = .ref a ∧ H a = some (.ins CL dx fs) ∧ fs.lookup ("leaves" : Str) = none ∧ tNil σ H fun vs H2 => sp_lleaves CL 1 (v :: vs) H2 Q E) ∨ (∃ a dx fs, v = .ref a ∧ H a = some (.ins CF dx fs) ∧ fs.lookup ("leaves" : Str) = none ∧ tNil σ H fun vs H2 => sp_ffield CF "leaf_count" (v :: vs) H2 Q E) := by
  cases h with
  | lf h1 h2 => exact .inl ⟨_, _, _, rfl, h1, rfl, _, _, _, rfl, h1, q⟩
  | fk h1 h2 h3 h4 h5 => exact .inr ⟨_, _, _, rfl, h1, rfl, _, _, _, _, rfl, h1, rfl, q⟩
theorem nd_deep (h : ND CL CF K H v t) (q : Q (.int (t.dp : Nat)) H) : (∃ a dx fs, v = .ref a ∧ H a = some (.ins CL dx fs) ∧ fs.lookup ("deep" : Str) = none ∧ tNil σ H fun vs H2 => sp_lleaves CL 0 (v :: vs) H2 Q E) ∨ (∃ a dx fs, v = .ref a ∧ H a = some (.ins CF dx fs) ∧ fs.lookup ("deep" : Str) = none ∧ tNil σ H fun vs H2 => sp_ffield CF "depth" (v :: vs) H2 Q E) := by
  cases h with
  | lf h1 h2 => exact .inl ⟨_, _, _, rfl, h1, rfl, _, _, _, rfl, h1, q⟩
  | fk h1 h2 h3 h4 h5 => exact .inr ⟨_, _, _, rfl, h1, rfl, _, _, _, _, rfl, h1, rfl, q⟩
end
/-! where values fall -/
def sp_lbelow : Sp := fun vs H Q _ => ∃ (x : Addr) (w : Str), vs = [.ref x, .str w] ∧ Q .non H
def sp_fbelow (CL CF : Addr) (K : PySem.W.Frag) : Sp := fun vs H Q _ => ∃ (x : Addr) (w : Str) (dx l qa : Addr) (v1 v2 : V) (a b : Int), vs = [.ref x, .str w] ∧ H x = some (.ins CF dx (ffs l qa v1 v2 a b)) ∧ Q (if w = "y" then v1 else if w = "n" then v2 else .non) H
/-- the tree at a place -/
def NT.go : NT → List Nat → Option NT
  | t, [] => some t
  | .lf _, _ :: _ => none
  | .fk _ _ y n, c :: cs => if c = 121 then y.go cs else if c = 110 then n.go cs else none
def sp_at (CL CF : Addr) (K : PySem.W.Frag) : Sp := fun vs H Q _ => ∃ (v : V) (w : Str) (t u : NT), vs = [v, .str w] ∧ ND CL CF K H v t ∧ w.length ≤ 1000 ∧ t.go (cds w) = some u ∧ ∀ v', ND CL CF K H v' u → Q v' H
/-- where the values fall -/
def NT.fall (ks : List Key) : NT → Str
  | .lf _ => ""
  | .fk _ q y n => if say q ks = true then "y" ++ y.fall ks else "n" ++ n.fall ks
/-- every question may be asked of these values -/
inductive Asks (ks : List Key) : NT → Prop
  | lf {cs : List (Str × Int)} : Asks ks (.lf cs)
  | fk {cs : List (Str × Int)} {q : Qs} {y n : NT} : Ask q ks → Asks ks y → Asks ks n → Asks ks (.fk cs q y n)
def sp_lplace : Sp := fun vs H Q _ => ∃ (x va : Addr), vs = [.ref x, .ref va] ∧ Q (.str "") H
def sp_fplace (CL CF : Addr) (K : PySem.W.Frag) (d : Nat) : Sp := fun vs H Q _ => ∃ (x va dx l qa : Addr) (v1 v2 : V) (cs : List (Str × Int)) (q : Qs) (y n : NT) (ks : List Key), vs = [.ref x, .ref va] ∧ H x = some (.ins CF dx (ffs l qa v1 v2 ((y.lv + n.lv : Nat) : Int) ((1 + max y.dp n.dp : Nat) : Int))) ∧ H qa = some (.tup (qV q)) ∧ ND CL CF K H v1 y ∧ ND CL CF K H v2 n ∧ H va = some (.tup (ks.map kV)) ∧ Asks ks (.fk cs q y n) ∧ 1 + max y.dp n.dp ≤ d ∧ d ≤ 900 ∧ Q (.str ((NT.fk cs q y n).fall ks)) H
section
variable {CL CF : Addr} {K : PySem.W.Frag} {H : Hp} {v : V} {t : NT} {Q : VK} {E : XK} {σ : St} {ta : TA}
end
theorem one_y (c : Nat) : (⟨#[c]⟩ : Str) = "y" ↔ c = 121 := by
  constructor
  · intro h
    have := congrArg cds h
    have e : cds ("y" : Str) = [121] := by decide +kernel
    rw [e] at this
    injection this
  · rintro rfl
    exact str_ext (by decide +kernel)
theorem one_n (c : Nat) : (⟨#[c]⟩ : Str) = "n" ↔ c = 110 := by
  constructor
  · intro h
    have := congrArg cds h
    have e : cds ("n" : Str) = [110] := by decide +kernel
    rw [e] at this
    injection this
  · rintro rfl
    exact str_ext (by decide +kernel)
theorem ND.ref {CL CF : Addr} {K : PySem.W.Frag} {H : Hp} {v : V} {t : NT} (h : ND CL CF K H v t) : ∃ a, v = .ref a := by cases h <;> exact ⟨_, rfl⟩
section
variable {CL CF : Addr} {K : PySem.W.Frag} {H : Hp} {v : V} {t : NT} {Q : VK} {E : XK} {σ : St} {ta : TA}
theorem nd_below {c : Nat} {r : List Nat} {u : NT} (h : ND CL CF K H v t) (hg : t.go (c :: r) = some u) (ht : ∀ k : List V → Hp → Prop, k [.str ⟨#[c]⟩] H → ta σ H k) (q : ∀ v' t', ND CL CF K H v' t' → t'.go r = some u → Q v' H) : (∃ a dx fs, v = .ref a ∧ H a = some (.ins CL dx fs) ∧ fs.lookup ("below" : Str) = none ∧ ta σ H fun vs H2 => sp_lbelow (v :: vs) H2 Q E) ∨ (∃ a dx fs, v = .ref a ∧ H a = some (.ins CF dx fs) ∧ fs.lookup ("below" : Str) = none ∧ ta σ H fun vs H2 => sp_fbelow CL CF K (v :: vs) H2 Q E) := by
  cases h with
  | lf h1 h2 => cases hg
  | @fk x dx l qa cs qq v1 v2 y n h1 h2 h3 h4 h5 =>
    refine .inr ⟨_, _, _, rfl, h1, rfl, ht _ ⟨_, _, _, _, _, _, _, _, _, rfl, h1, ?_⟩⟩
    have hg : (if c = 121 then y.go r else if c = 110 then n.go r else none) = some u := hg
    by_cases e : c = 121
    · rw [if_pos e] at hg
      rw [if_pos ((one_y c).mpr e)]
      exact q _ _ h4 hg
    · rw [if_neg e] at hg
      rw [if_neg fun z => e ((one_y c).mp z)]
      by_cases e2 : c = 110
      · rw [if_pos e2] at hg
        rw [if_pos ((one_n c).mpr e2)]
        exact q _ _ h5 hg
      · rw [if_neg e2] at hg
        cases hg
end
def sp_start : Sp := fun vs H Q _ => ∃ (b : Addr) (x : Int) (r : List V) (c : Int), vs = [.ref b, .int c] ∧ H b = some (.lst (.int x :: r)) ∧ ∀ v : Int, -100000000000000000000000000000000000000000000000000000000000000000000000000000002 < v → v < 2147483647 → Q (.int v) H
def sp_counted19 (K : PySem.W.Frag) : Sp := fun vs H Q _ => ∃ (b sa : Addr) (n : Int × Int) (ws : List Str), vs = [.ref b, .ref sa] ∧ H b = some (.lst (bgL n)) ∧ Bg n ∧ H sa = some (.lst (ws.map V.str)) ∧ b ≠ sa ∧ (∀ w ∈ ws, isW w = true) ∧ 4 ≤ ws.length ∧ ∀ H' (n' : Int × Int) p cs, Bg n' → SameB b H H' → H' b = some (.lst (bgL n')) → H p = none → Cn K H' p cs → (∀ c ∈ cs, isW c.1 = true) → cs.length ≤ 60 → Q (.ref p) H'
theorem upd_upd (H : Hp) (a : Addr) (o u : HO) : upd (upd H a o) a u = upd H a u := by
  funext b
  by_cases e : b = a
  · rw [e, upd_same, upd_same]
  · rw [upd_ne e, upd_ne e, upd_ne e]
def sp_question19 (K : PySem.W.Frag) : Sp := fun vs H Q _ => ∃ (b ca pa sa : Addr) (n : Int × Int) (xs : List V) (cs : List (Str × Str)) (ns : List Int) (ws : List Str), vs = [.ref b, .ref ca, .ref pa, .ref sa] ∧ H b = some (.lst (bgL n)) ∧ Bg n ∧ H ca = some (.lst xs) ∧ TVs K H xs (cs.map colD) ∧ GoodC cs ∧
  H pa = some (.lst (ns.map V.int)) ∧ ns.length = 7 ∧ H sa = some (.lst (ws.map V.str)) ∧ Wds ws ∧ 4 ≤ ws.length ∧ b ≠ ca ∧ b ≠ pa ∧ b ≠ sa ∧ ∀ H' (n' : Int × Int) p q, Bg n' → SameB b H H' → H' b = some (.lst (bgL n')) → H p = none → H' p = some (.tup (qV q)) → QOk cs q → Q (.ref p) H'
/-- the law's own trees: tuples of four -/
inductive T4 (K : PySem.W.Frag) (H : Hp) : V → NT → Prop
  | lf {p l : Addr} {cs : List (Str × Int)} : H p = some (.tup [.ref l, .non, .non, .non]) → Cn K H l cs → T4 K H (.ref p) (.lf cs)
  | fk {p l qa : Addr} {cs : List (Str × Int)} {q : Qs} {v1 v2 : V} {y n : NT} : H p = some (.tup [.ref l, .ref qa, v1, v2]) → Cn K H l cs → H qa = some (.tup (qV q)) → T4 K H v1 y → T4 K H v2 n → T4 K H (.ref p) (.fk cs q y n)
theorem T4.same {K : PySem.W.Frag} {H H' : Hp} {v : V} {t : NT} (h : T4 K H v t) (s : Same H H') : T4 K H' v t := by
  induction h with
  | lf h1 h2 => exact .lf (s _ _ h1) (h2.same s)
  | fk h1 h2 h3 _ _ i1 i2 => exact .fk (s _ _ h1) (h2.same s) (s _ _ h3) i1 i2
/-- its questions may be asked of these columns -/
inductive Wq (cs : List (Str × Str)) : NT → Prop
  | lf {ds : List (Str × Int)} : (∀ c ∈ ds, isW c.1 = true) → ds.length ≤ 60 → Wq cs (.lf ds)
  | fk {ds : List (Str × Int)} {q : Qs} {y n : NT} : (∀ c ∈ ds, isW c.1 = true) → ds.length ≤ 60 → QOk cs q → Wq cs y → Wq cs n → Wq cs (.fk ds q y n)
structure S19 (K : PySem.W.Frag) (H : Hp) (b ca pa sa : Addr) (xs : List V) (cs : List (Str × Str)) (ns : List Int) (ws : List Str) : Prop where
  hc : H ca = some (.lst xs)
  tv : TVs K H xs (cs.map colD)
  gc : GoodC cs
  hp : H pa = some (.lst (ns.map V.int))
  l7 : ns.length = 7
  hs : H sa = some (.lst (ws.map V.str))
  wd : Wds ws
  w4 : 4 ≤ ws.length
  nc : b ≠ ca
  np : b ≠ pa
  ns' : b ≠ sa
theorem S19.sb {K : PySem.W.Frag} {H H' : Hp} {b ca pa sa : Addr} {xs vs : List V} {cs : List (Str × Str)} {ns : List Int} {ws : List Str} (h : S19 K H b ca pa sa xs cs ns ws) (s : SameB b H H') (hb : H b = some (.lst vs)) : S19 K H' b ca pa sa xs cs ns ws :=
  ⟨s _ _ (Ne.symm h.nc) h.hc, h.tv.mono (s.t hb), h.gc, s _ _ (Ne.symm h.np) h.hp, h.l7, s _ _ (Ne.symm h.ns') h.hs, h.wd, h.w4, h.nc, h.np, h.ns'⟩
theorem del_sb {H H' : Hp} {b : Addr} (s : SameB b H H') : Same (del H b) (del H' b) := fun a o h => del_at (s _ _ (del_ne h) (del_same H b a o h)) (del_ne h)
def sp_drawn (K : PySem.W.Frag) (d : Nat) : Sp := fun vs H Q _ => ∃ (b ca pa sa : Addr) (n : Int × Int) (xs : List V) (cs : List (Str × Str)) (ns : List Int) (ws : List Str) (e : Int), vs = [.ref b, .ref ca, .ref pa, .ref sa, .int e] ∧ e = (d : Nat) ∧ H b = some (.lst (bgL n)) ∧ Bg n ∧ S19 K H b ca pa sa xs cs ns ws ∧
  ∀ H' (n' : Int × Int) v t, Bg n' → SameB b H H' → H' b = some (.lst (bgL n')) → T4 K (del H' b) v t → Wq cs t → t.dp ≤ d → Q v H'
def sp_long19 (K : PySem.W.Frag) : Sp := fun vs H Q _ => ∃ (b ca pa sa : Addr) (n : Int × Int) (xs : List V) (cs : List (Str × Str)) (ns : List Int) (ws : List Str) (e : Int), vs = [.ref b, .ref ca, .ref pa, .ref sa, .int e] ∧ 0 ≤ e ∧ e ≤ 20 ∧ H b = some (.lst (bgL n)) ∧ Bg n ∧ S19 K H b ca pa sa xs cs ns ws ∧
  ∀ H' (n' : Int × Int) v t, Bg n' → SameB b H H' → H' b = some (.lst (bgL n')) → T4 K (del H' b) v t → Wq cs t → t.dp ≤ 20 → Q v H'
theorem t4_leaf {K : PySem.W.Frag} {H : Hp} {b l pp : Addr} {bs : List V} {ds : List (Str × Int)} (hb : H b = some (.lst bs)) (nlb : l ≠ b) (cn : Cn K H l ds) (hpp : H pp = none) : T4 K (del (upd H pp (.tup [.ref l, .non, .non, .non])) b) (.ref pp) (.lf ds) := by
  have SP := same_new hpp (H := H) (.tup [.ref l, .non, .non, .non])
  exact .lf (del_at upd_same (Ne.symm (ne_of_none hb hpp))) ((cn.same SP).del (SP _ _ hb) nlb)
theorem t4_fork {K : PySem.W.Frag} {H : Hp} {b l qa pp : Addr} {bs : List V} {ds : List (Str × Int)} {qq : Qs} {v1 v2 : V} {t1 t2 : NT} (hb : H b = some (.lst bs)) (nlb : l ≠ b) (cn : Cn K H l ds) (hq : H qa = some (.tup (qV qq))) (h1 : T4 K (del H b) v1 t1) (h2 : T4 K (del H b) v2 t2) (hpp : H pp = none) : T4 K (del (upd H pp (.tup [.ref l, .ref qa, v1, v2])) b) (.ref pp) (.fk ds qq t1 t2) := by
  have SP := same_new hpp (H := H) (.tup [.ref l, .ref qa, v1, v2])
  exact .fk (del_at upd_same (Ne.symm (ne_of_none hb hpp))) ((cn.same SP).del (SP _ _ hb) nlb) (del_at (SP _ _ hq) (ne_of hq hb (by intro z; cases z))) (h1.same (del_mono b SP)) (h2.same (del_mono b SP))
theorem _root_.L2.SameB.tr {b : Addr} {H H1 H2 : Hp} (s : SameB b H H1) (u : SameB b H1 H2) : SameB b H H2 := fun c o n e => u _ _ n (s _ _ n e)
theorem sb_new {b pp : Addr} {H : Hp} {o : HO} (h : H pp = none) : SameB b H (upd H pp o) := fun c u _ e => same_new h o _ _ e
theorem sb_at {b : Addr} {H : Hp} {o : HO} : SameB b H (upd H b o) := fun c u n e => by rw [upd_ne n]; exact e
/-- a tree of objects that needs none of the lists that were there -/
def dlH (H H' : Hp) : Hp := fun a => match H a with
  | some (.lst _) => none
  | _ => H' a
theorem dl_no {H H' : Hp} {a : Addr} {o : HO} (h : dlH H H' a = some o) : (∀ xs, H a ≠ some (.lst xs)) ∧ H' a = some o := by
  unfold dlH at h
  split at h
  · cases h
  · rename_i hn
    exact ⟨fun xs e => hn xs e, h⟩
theorem dl_at {H H' : Hp} {a : Addr} {o : HO} (h : H' a = some o) (hn : ∀ xs, H a ≠ some (.lst xs)) : dlH H H' a = some o := by
  unfold dlH
  split
  · rename_i xs e
    exact absurd e (hn xs)
  · exact h
theorem dl_same (H H' : Hp) : Same (dlH H H') H' := fun a o h => (dl_no h).2
def NDn (CL CF : Addr) (K : PySem.W.Frag) (H H' : Hp) (u : V) (t : NT) : Prop := ND CL CF K (dlH H H') u t
def sp_built (CL CF : Addr) (K : PySem.W.Frag) (d : Nat) : Sp := fun vs H Q _ => ∃ (v : V) (cc : List (Str × Str)) (t : NT), vs = [v] ∧ T4 K H v t ∧ Wq cc t ∧ t.dp ≤ d ∧ t.dp ≤ 20 ∧ ∀ H' u, Same H H' → ND CL CF K H' u t → NDn CL CF K H H' u t → Q u H'
def sp_init_fork2 (CL CF : Addr) (K : PySem.W.Frag) : Sp := fun vs H Q _ => ∃ (x a qa dx : Addr) (v1 v2 : V) (xs : List V) (y n : NT), vs = [.ref x, .ref a, .ref qa, v1, v2] ∧ H x = some (.ins CF dx []) ∧ H a = some (.lst xs) ∧ ND CL CF K H v1 y ∧ ND CL CF K H v2 n ∧
  ∀ H' l, SameB x H H' → H l = none → H' x = some (.ins CF dx (ffs l qa v1 v2 ((y.lv + n.lv : Nat) : Int) ((1 + max y.dp n.dp : Nat) : Int))) → H' l = some (.lst xs) → Q .non H'
def qD (q : Qs) : PyData := .tuple [.str q.kd, .int (q.at' : Nat), kD q.c]
/-- a tree as data -/
def tD : NT → PyData
  | .lf ds => .tuple [.list (ds.map cD), .none, .none, .none]
  | .fk ds q y n => .tuple [.list (ds.map cD), qD q, tD y, tD n]
theorem dvK {K : PySem.W.Frag} {H : Hp} (k : Key) : DV K H (kV k) (kD k) := by cases k with
  | inl n => exact .int _
  | inr w => exact .str _
theorem T4.dv {K : PySem.W.Frag} {H : Hp} {v : V} {t : NT} (h : T4 K H v t) : DV K H v (tD t) := by
  induction h with
  | lf h1 h2 => obtain ⟨xs, a, b⟩ := h2; exact .tup (SqT.of h1) (.cons (.lst (SqL.of a) b.dv) (.cons .non (.cons .non (.cons .non .nil))))
  | fk h1 h2 h3 _ _ i1 i2 => obtain ⟨xs, a, b⟩ := h2; exact .tup (SqT.of h1) (.cons (.lst (SqL.of a) b.dv) (.cons (.tup (SqT.of h3) (.cons (.str _) (.cons (.int _) (.cons (dvK _) .nil)))) (.cons i1 (.cons i2 .nil))))
theorem shpC1 {c : Str × Int} (h : isW c.1 = true) : Shp 1 (cD c) := shpC h
theorem shpQ {cs : List (Str × Str)} {q : Qs} (h : QOk cs q) : Shp 1 (qD q) := by
  obtain ⟨c, hc, h⟩ := h
  refine .tup fun d hd => ?_
  rcases hd with _ | ⟨_, _ | ⟨_, _ | ⟨_, hd⟩⟩⟩
  · rcases h with ⟨e, _⟩ | ⟨e, _⟩
    · rw [e]; exact .str 0 (by decide +kernel)
    · rw [e]; exact .str 0 (by decide +kernel)
  · exact .int 0 _
  · rcases h with ⟨_, _, n, e⟩ | ⟨_, _, w, e, hw⟩
    · rw [e]; exact .int 0 _
    · rw [e]; exact shpW 0 hw
  · cases hd
theorem shpN (n : Nat) : Shp n .none := Shp.non n
theorem shpT {cs : List (Str × Str)} {t : NT} (h : Wq cs t) : Shp (t.dp + 3) (tD t) := by
  have ls : ∀ {ds : List (Str × Int)} (m : Nat), (∀ c ∈ ds, isW c.1 = true) → Shp (m + 2) (.list (ds.map cD)) := fun m hw => Shp.mono (Shp.lst (n := 1) fun d hd => by obtain ⟨c, hc, rfl⟩ := List.mem_map.mp hd; exact shpC1 (hw c hc)) (by omega)
  induction h with
  | lf h1 _ =>
    refine Shp.tup (n := 0 + 2) fun d hd => ?_
    rcases hd with _ | ⟨_, _ | ⟨_, _ | ⟨_, _ | ⟨_, hd⟩⟩⟩⟩
    · exact ls 0 h1
    · exact shpN _
    · exact shpN _
    · exact shpN _
    · cases hd
  | @fk ds q y n h1 _ h3 _ _ i1 i2 =>
    refine Shp.tup (n := 1 + max y.dp n.dp + 2) fun d hd => ?_
    rcases hd with _ | ⟨_, _ | ⟨_, _ | ⟨_, _ | ⟨_, hd⟩⟩⟩⟩
    · exact ls _ h1
    · exact (shpQ h3).mono (by omega)
    · exact i1.mono (by omega)
    · exact i2.mono (by omega)
    · cases hd
theorem noMixC : ∀ a b : List (Str × Int), SeqAt.noMixAll (a.map cD) (b.map cD) = true
  | [], [] => by simp [SeqAt.noMixAll]
  | [], _ :: _ => by simp [SeqAt.noMixAll]
  | _ :: _, [] => by simp [SeqAt.noMixAll]
  | x :: a, y :: b => by
    rw [List.map_cons, List.map_cons, SeqAt.noMixAll, noMixC a b]
    simp [cD, SeqAt.noMix, SeqAt.noMixAll]
theorem noMixK1 (k l : Key) : SeqAt.noMix (kD k) (kD l) = true := by cases k <;> cases l <;> simp [kD, SeqAt.noMix]
theorem noMixT : ∀ a b : NT, SeqAt.noMix (tD a) (tD b) = true
  | .lf x, .lf y => by
    unfold tD
    simp [SeqAt.noMix, SeqAt.noMixAll, noMixC]
  | .lf x, .fk y q u v => by
    rw [tD, tD]
    cases u <;> cases v <;> simp [SeqAt.noMix, SeqAt.noMixAll, noMixC, qD, tD]
  | .fk y q u v, .lf x => by
    rw [tD, tD]
    cases u <;> cases v <;> simp [SeqAt.noMix, SeqAt.noMixAll, noMixC, qD, tD]
  | .fk x q u v, .fk y r s t => by
    rw [tD, tD]
    simp [SeqAt.noMix, SeqAt.noMixAll, noMixC, noMixT u s, noMixT v t, qD, noMixK1]
theorem cD_inj : ∀ {a b : List (Str × Int)}, a.map cD = b.map cD → a = b
  | [], [], _ => rfl
  | [], _ :: _, h => by cases h
  | _ :: _, [], h => by cases h
  | x :: a, y :: b, h => by
    rw [List.map_cons, List.map_cons] at h
    injection h with h1 h2
    rw [cD_inj h2]
    unfold cD at h1
    injection h1 with h1
    injection h1 with h1 h3
    injection h3 with h3 _
    injection h1 with h1
    injection h3 with h3
    rw [show x = y from Prod.ext h1 h3]
theorem kD_inj1 {a b : Key} (h : kD a = kD b) : a = b := by
  cases a <;> cases b <;> simp [kD] at h <;> rw [h]
theorem tD_inj : ∀ {a b : NT}, tD a = tD b → a = b
  | .lf x, .lf y, h => by
    unfold tD at h
    injection h with h
    injection h with h _
    injection h with h
    rw [cD_inj h]
  | .lf x, .fk y q u v, h => by
    rw [tD, tD] at h
    injection h with h
    injection h with _ h
    injection h with h _
    cases h
  | .fk y q u v, .lf x, h => by
    rw [tD, tD] at h
    injection h with h
    injection h with _ h
    injection h with h _
    cases h
  | .fk x q u v, .fk y r s t, h => by
    rw [tD, tD] at h
    injection h with h
    injection h with h1 h
    injection h with h2 h
    injection h with h3 h
    injection h with h4 _
    injection h1 with h1
    rw [cD_inj h1, tD_inj h3, tD_inj h4]
    unfold qD at h2
    injection h2 with h2
    injection h2 with k1 h2
    injection h2 with k2 h2
    injection h2 with k3 _
    injection k1 with k1
    injection k2 with k2
    obtain ⟨q1, q2, q3⟩ := q
    obtain ⟨r1, r2, r3⟩ := r
    dsimp only at k1 k2 k3
    rw [k1, kD_inj1 k3, Int.ofNat.inj k2]
theorem t_eqv (a b : NT) : PyData.eqv (tD a) (tD b) = true ↔ a = b := by
  rw [← SeqAt.same_eq_eqv _ _ (noMixT a b), PyProof.Rows.same_iff]
  exact ⟨tD_inj, fun z => by rw [z]⟩
def sp_fall (K : PySem.W.Frag) : Sp := fun vs H Q _ => ∃ (v : V) (va : Addr) (t : NT) (ks : List Key), vs = [v, .ref va] ∧ T4 K H v t ∧ H va = some (.tup (ks.map kV)) ∧ Asks ks t ∧ t.dp ≤ 20 ∧ Q (.str (t.fall ks)) H
def sp_right19 (CL CF : Addr) (K : PySem.W.Frag) : Sp := fun vs H Q _ => ∃ (u : V) (va : Addr) (t : NT) (ks : List Key) (w : Str), vs = [u, .str w, .ref va] ∧ w = t.fall ks ∧ ND CL CF K H u t ∧ H va = some (.tup (ks.map kV)) ∧ Asks ks t ∧ t.dp ≤ 20 ∧ ∀ H', Same H H' → Q (.bl true) H'
section
variable {CL CF : Addr} {K : PySem.W.Frag} {H : Hp} {v : V} {t : NT} {Q : VK} {E : XK} {σ : St} {ta : TA}
theorem nd_at {w : Str} {u : NT} (h : ND CL CF K H v t) (lw : w.length ≤ 1000) (hg : t.go (cds w) = some u) (ht : ∀ k : List V → Hp → Prop, k [.str w] H → ta σ H k) (q : ∀ v', ND CL CF K H v' u → Q v' H) : (∃ a dx fs, v = .ref a ∧ H a = some (.ins CL dx fs) ∧ fs.lookup ("at" : Str) = none ∧ ta σ H fun vs H2 => sp_at CL CF K (v :: vs) H2 Q E) ∨ (∃ a dx fs, v = .ref a ∧ H a = some (.ins CF dx fs) ∧ fs.lookup ("at" : Str) = none ∧ ta σ H fun vs H2 => sp_at CL CF K (v :: vs) H2 Q E) := by
  cases id h with
  | lf h1 h2 => exact .inl ⟨_, _, _, rfl, h1, rfl, ht _ ⟨_, _, _, _, rfl, h, lw, hg, q⟩⟩
  | fk h1 h2 h3 h4 h5 => exact .inr ⟨_, _, _, rfl, h1, rfl, ht _ ⟨_, _, _, _, rfl, h, lw, hg, q⟩⟩
end
theorem cut_ints (ns : List Int) (lo hi : Option Int) : ∃ ms : List Int, cutV (ns.map V.int) lo hi = ms.map V.int ∧ ms.length ≤ ns.length := by
  refine ⟨(ns.drop (HT.sIx ns.length 0 lo)).take (HT.sIx ns.length ns.length hi - HT.sIx ns.length 0 lo), ?_, ?_⟩
  · unfold cutV
    rw [List.length_map, List.map_take, List.map_drop]
  · rw [List.length_take, List.length_drop]
    omega
theorem sb_of {b : Addr} {H H' : Hp} (s : Same H H') : SameB b H H' := fun _ _ _ e => s _ _ e
theorem rising_pw : ∀ (p : Str) (l : List Str), PyProof.Rows.risingS p l = true → ∀ x ∈ l, cds p ≤ cds x
  | p, [], _, x, hx => by cases hx
  | p, y :: r, h, x, hx => by
    have h : (!PySem.Spec.ltCps y.cps.toList p.cps.toList && PyProof.Rows.risingS y r) = true := h
    rw [Bool.and_eq_true, Bool.not_eq_true', PyProof.Rows.ltCps_eq, decide_eq_false_iff_not] at h
    have hpy : cds p ≤ cds y := h.1
    rcases List.mem_cons.mp hx with rfl | hx
    · exact hpy
    · exact List.le_trans hpy (rising_pw y r h.2 x hx)
theorem sorted_tail {a : Str} {l : List Str} (h : PyProof.Rows.sortedS (a :: l) = true) : PyProof.Rows.sortedS l = true := by
  cases l with
  | nil => rfl
  | cons b l =>
    have h : (!PySem.Spec.ltCps b.cps.toList a.cps.toList && PyProof.Rows.risingS b l) = true := h
    rw [Bool.and_eq_true] at h
    exact h.2
theorem sorted_one : ∀ {l1 l2 : List Str}, PyProof.Rows.sortedS l1 = true → PyProof.Rows.sortedS l2 = true → l1.Perm l2 → l1 = l2
  | [], l2, _, _, p => (List.nil_perm.mp p).symm
  | a :: l1, [], _, _, p => absurd p.symm (by intro z; have := z.length_eq; cases this)
  | a :: l1, b :: l2, h1, h2, p => by
    have ha : a ∈ b :: l2 := p.mem_iff.mp List.mem_cons_self
    have hb : b ∈ a :: l1 := p.mem_iff.mpr List.mem_cons_self
    have e : a = b := by
      rcases List.mem_cons.mp ha with e | ha
      · exact e
      · rcases List.mem_cons.mp hb with e | hb
        · exact e.symm
        · exact str_ext (List.le_antisymm (rising_pw a l1 h1 b hb) (rising_pw b l2 h2 a ha))
    subst e
    rw [sorted_one (sorted_tail h1) (sorted_tail h2) (List.Perm.cons_inv p)]
theorem pw_rising : ∀ {a : Str} {l : List Str}, (a :: l).Pairwise (fun a b => cds a < cds b) → PyProof.Rows.risingS a l = true
  | _, [], _ => rfl
  | a, b :: l, h => by
    have h2 := List.pairwise_cons.mp h
    show (!PySem.Spec.ltCps b.cps.toList a.cps.toList && PyProof.Rows.risingS b l) = true
    rw [pw_rising h2.2, Bool.and_true, Bool.not_eq_true', PyProof.Rows.ltCps_eq, decide_eq_false_iff_not]
    exact List.lt_asymm (h2.1 b List.mem_cons_self)
theorem pw_sorted {l : List Str} (h : l.Pairwise (fun a b => cds a < cds b)) : PyProof.Rows.sortedS l = true := by
  cases l with
  | nil => rfl
  | cons a l => exact pw_rising h
theorem noMixS : ∀ a b : List Str, SeqAt.noMixAll (a.map PyData.str) (b.map PyData.str) = true
  | [], [] => by simp [SeqAt.noMixAll]
  | [], _ :: _ => by simp [SeqAt.noMixAll]
  | _ :: _, [] => by simp [SeqAt.noMixAll]
  | k :: ks, l :: ls => by
    rw [List.map_cons, List.map_cons, SeqAt.noMixAll, noMixS ks ls]
    simp [SeqAt.noMix]
theorem strD_inj : ∀ {a b : List Str}, a.map PyData.str = b.map PyData.str → a = b
  | [], [], _ => rfl
  | [], _ :: _, h => nomatch h
  | _ :: _, [], h => nomatch h
  | x :: a, y :: b, h => by
    rw [List.map_cons, List.map_cons] at h
    injection h with h1 h2
    injection h1 with h1
    rw [h1, strD_inj h2]
theorem strs_eqv (a b : List Str) : PyData.eqv (.list (a.map PyData.str)) (.list (b.map PyData.str)) = decide (a = b) := by
  have nm : SeqAt.noMix (.list (a.map PyData.str)) (.list (b.map PyData.str)) = true := by
    rw [SeqAt.noMix]
    exact noMixS a b
  rw [← SeqAt.same_eq_eqv _ _ nm, Bool.eq_iff_iff, PyProof.Rows.same_iff, decide_eq_true_iff]
  exact ⟨fun z => strD_inj (by injection z), fun z => by rw [z]⟩
/-! trees looked at -/
/-- the places of the leaves: the no side first -/
def NT.pl : NT → Str → List Str
  | .lf _, w => [w]
  | .fk _ _ y n, w => n.pl (w ++ "n") ++ y.pl (w ++ "y")
/-- every place and the tree there -/
def NT.sp : NT → Str → List (Str × NT)
  | .lf ds, w => [(w, .lf ds)]
  | .fk ds q y n, w => ([(w, .fk ds q y n)] ++ y.sp (w ++ "y")) ++ n.sp (w ++ "n")
def NT.lfB : NT → Bool
  | .lf _ => true
  | .fk _ _ _ _ => false
theorem NT.sp_len : ∀ (t : NT) (w : Str), (t.sp w).length = t.sz
  | .lf _, _ => rfl
  | .fk ds q y n, w => by
    rw [NT.sp, List.length_append, List.length_append, y.sp_len, n.sp_len]
    rfl
theorem NT.lv_sz : ∀ t : NT, t.sz + 1 = 2 * t.lv
  | .lf _ => rfl
  | .fk ds q y n => by
    have h1 := y.lv_sz
    have h2 := n.lv_sz
    show 1 + y.sz + n.sz + 1 = 2 * (y.lv + n.lv)
    omega
theorem NT.sz_dp : ∀ t : NT, t.sz + 1 ≤ 2 ^ (t.dp + 1)
  | .lf _ => Nat.le_refl _
  | .fk ds q y n => by
    have h1 := y.sz_dp
    have h2 := n.sz_dp
    have e1 : 2 ^ (y.dp + 1) ≤ 2 ^ (max y.dp n.dp + 1) := Nat.pow_le_pow_right (by decide) (by omega)
    have e2 : 2 ^ (n.dp + 1) ≤ 2 ^ (max y.dp n.dp + 1) := Nat.pow_le_pow_right (by decide) (by omega)
    show 1 + y.sz + n.sz + 1 ≤ 2 ^ (1 + max y.dp n.dp + 1)
    rw [show 1 + max y.dp n.dp + 1 = (max y.dp n.dp + 1) + 1 by omega, Nat.pow_succ]
    omega
theorem NT.sz63 {t : NT} (h : t.dp ≤ 5) : t.sz ≤ 63 := by
  have h1 := t.sz_dp
  have h2 : 2 ^ (t.dp + 1) ≤ 2 ^ 6 := Nat.pow_le_pow_right (by decide) (by omega)
  omega
theorem NT.pl_len : ∀ (t : NT) (w : Str), (t.pl w).length = t.lv
  | .lf _, _ => rfl
  | .fk ds q y n, w => by
    rw [NT.pl, List.length_append, y.pl_len, n.pl_len]
    show _ = y.lv + n.lv
    omega
/-- the leaves among the places -/
def lfs (l : List (Str × NT)) : List Str := (l.filter fun s => s.2.lfB).map (·.1)
theorem lfs_app (a b : List (Str × NT)) : lfs (a ++ b) = lfs a ++ lfs b := by
  unfold lfs
  rw [List.filter_append, List.map_append]
theorem NT.pl_perm : ∀ (t : NT) (w : Str), (lfs (t.sp w)).Perm (t.pl w)
  | .lf _, _ => List.Perm.refl _
  | .fk ds q y n, w => by
    rw [NT.sp, lfs_app, lfs_app, NT.pl]
    exact (List.Perm.append (y.pl_perm _) (n.pl_perm _)).trans List.perm_append_comm
theorem cds_y : cds ("y" : Str) = [121] := by decide +kernel
theorem cds_n : cds ("n" : Str) = [110] := by decide +kernel
theorem len_y : ("y" : Str).length = 1 := by decide +kernel
theorem len_n : ("n" : Str).length = 1 := by decide +kernel
theorem NT.pl_at : ∀ (t : NT) (w : Str), ∀ x ∈ t.pl w, ∃ r, cds x = cds w ++ r
  | .lf _, w, x, hx => ⟨[], by rw [List.mem_singleton.mp hx, List.append_nil]⟩
  | .fk ds q y n, w, x, hx => by
    rw [NT.pl] at hx
    rcases List.mem_append.mp hx with hx | hx
    · obtain ⟨r, h⟩ := n.pl_at _ x hx
      exact ⟨[110] ++ r, by rw [h, cds_app, cds_n, List.append_assoc]⟩
    · obtain ⟨r, h⟩ := y.pl_at _ x hx
      exact ⟨[121] ++ r, by rw [h, cds_app, cds_y, List.append_assoc]⟩
theorem lt_app : ∀ (l a b : List Nat), a < b → l ++ a < l ++ b
  | [], _, _, h => h
  | c :: l, a, b, h => by
    show c :: (l ++ a) < c :: (l ++ b)
    rw [List.cons_lt_cons_iff]
    exact .inr ⟨rfl, lt_app l a b h⟩
theorem NT.pl_up : ∀ (t : NT) (w : Str), (t.pl w).Pairwise (fun a b => cds a < cds b)
  | .lf _, _ => List.pairwise_singleton _ _
  | .fk ds q y n, w => by
    rw [NT.pl, List.pairwise_append]
    refine ⟨n.pl_up _, y.pl_up _, fun a ha b hb => ?_⟩
    obtain ⟨r, h⟩ := n.pl_at _ a ha
    obtain ⟨s, g⟩ := y.pl_at _ b hb
    rw [h, g, cds_app, cds_app, cds_n, cds_y, List.append_assoc, List.append_assoc]
    refine lt_app _ _ _ ?_
    show 110 :: r < 121 :: s
    rw [List.cons_lt_cons_iff]
    exact .inl (by decide)
theorem NT.sp_go : ∀ (t : NT) (w : Str), ∀ s ∈ t.sp w, ∃ r, cds s.1 = cds w ++ r ∧ t.go r = some s.2 ∧ s.2.dp + r.length ≤ t.dp ∧ s.2.sz ≤ t.sz
  | .lf ds, w, s, hs => by
    rw [List.mem_singleton.mp hs]
    exact ⟨[], (List.append_nil _).symm, rfl, Nat.le_refl _, Nat.le_refl _⟩
  | .fk ds q y n, w, s, hs => by
    have dd : (NT.fk ds q y n).dp = 1 + max y.dp n.dp := rfl
    have ds' : (NT.fk ds q y n).sz = 1 + y.sz + n.sz := rfl
    rw [NT.sp] at hs
    rcases List.mem_append.mp hs with hs | hs
    · rcases List.mem_append.mp hs with hs | hs
      · rw [List.mem_singleton.mp hs]
        exact ⟨[], (List.append_nil _).symm, rfl, Nat.le_refl _, Nat.le_refl _⟩
      · obtain ⟨r, h1, h2, h3, h4⟩ := y.sp_go _ s hs
        exact ⟨121 :: r, by rw [h1, cds_app, cds_y, List.append_assoc]; rfl, h2, by rw [List.length_cons]; omega, by omega⟩
    · obtain ⟨r, h1, h2, h3, h4⟩ := n.sp_go _ s hs
      exact ⟨110 :: r, by rw [h1, cds_app, cds_n, List.append_assoc]; rfl, h2, by rw [List.length_cons]; omega, by omega⟩
theorem NT.sp_mx : ∀ (t : NT) (w : Str), ∃ s ∈ t.sp w, s.1.length = w.length + t.dp
  | .lf ds, w => ⟨(w, .lf ds), List.mem_singleton.mpr rfl, rfl⟩
  | .fk ds q y n, w => by
    have dd : (NT.fk ds q y n).dp = 1 + max y.dp n.dp := rfl
    rw [NT.sp]
    by_cases e : n.dp ≤ y.dp
    · obtain ⟨s, h1, h2⟩ := y.sp_mx (w ++ "y")
      exact ⟨s, List.mem_append_left _ (List.mem_append_right _ h1), by rw [h2, lenA, len_y]; omega⟩
    · obtain ⟨s, h1, h2⟩ := n.sp_mx (w ++ "n")
      exact ⟨s, List.mem_append_right _ h1, by rw [h2, lenA, len_n]; omega⟩
theorem mxF_eq : ∀ (ns : List Int) (m k : Int), m ≤ k → (∀ n ∈ ns, n ≤ k) → (k = m ∨ k ∈ ns) → mxF m ns = k
  | [], m, k, _, _, h => by
    rcases h with h | h
    · exact h.symm
    · cases h
  | n :: ns, m, k, h1, h2, h3 => by
    show mxF (if m < n then n else m) ns = k
    have hn := h2 n List.mem_cons_self
    refine mxF_eq ns _ k (by split <;> omega) (fun x hx => h2 x (List.mem_cons_of_mem _ hx)) ?_
    rcases h3 with h3 | h3
    · left
      split <;> omega
    · rcases List.mem_cons.mp h3 with h3 | h3
      · left
        split <;> omega
      · exact .inr h3
theorem mxD_eq {ns : List Int} {k : Int} (h1 : ∀ n ∈ ns, n ≤ k) (h2 : k ∈ ns) : mxD 0 ns = k := by
  cases ns with
  | nil => cases h2
  | cons n ns => exact mxF_eq ns n k (h1 n List.mem_cons_self) (fun x hx => h1 x (List.mem_cons_of_mem _ hx)) (List.mem_cons.mp h2)
theorem NT.deep_mx {t : NT} : mxD 0 ((t.sp "").map fun s => (s.1.length : Int)) = (t.dp : Nat) := by
  have e0 : ("" : Str).length = 0 := by decide +kernel
  have c0 : cds ("" : Str) = [] := by decide +kernel
  refine mxD_eq (fun m hm => ?_) ?_
  · obtain ⟨s, hs, rfl⟩ := List.mem_map.mp hm
    obtain ⟨r, h1, _, h3, _⟩ := t.sp_go "" s hs
    have l := congrArg List.length h1
    rw [cds_len, c0, List.nil_append] at l
    omega
  · obtain ⟨s, h1, h2⟩ := t.sp_mx ""
    exact List.mem_map.mpr ⟨s, h1, by rw [h2, e0, Nat.zero_add]⟩
theorem Wq.go {cs : List (Str × Str)} : ∀ {t u : NT} {r : List Nat}, Wq cs t → t.go r = some u → Wq cs u
  | t, u, [], h, g => by
    have g : some t = some u := by rw [← g]; cases t <;> rfl
    rw [← Option.some.inj g]
    exact h
  | .lf ds, u, c :: r, h, g => by cases g
  | .fk ds q y n, u, c :: r, h, g => by
    have g : (if c = 121 then y.go r else if c = 110 then n.go r else none) = some u := g
    cases h with
    | fk _ _ _ hy hn =>
      by_cases e : c = 121
      · rw [if_pos e] at g
        exact Wq.go hy g
      · rw [if_neg e] at g
        by_cases e2 : c = 110
        · rw [if_pos e2] at g
          exact Wq.go hn g
        · rw [if_neg e2] at g
          cases g
/-- the law's list of places -/
inductive Sps (K : PySem.W.Frag) (H : Hp) : List V → List (Str × NT) → Prop
  | nil : Sps K H [] []
  | cons {p : Addr} {v : V} {w : Str} {u : NT} {vs : List V} {ts : List (Str × NT)} : H p = some (.tup [.str w, v]) → T4 K H v u → Sps K H vs ts → Sps K H (.ref p :: vs) ((w, u) :: ts)
section
variable {K : PySem.W.Frag} {H H' : Hp}
theorem Sps.same {vs : List V} {ts : List (Str × NT)} (h : Sps K H vs ts) (s : Same H H') : Sps K H' vs ts := by
  induction h with
  | nil => exact .nil
  | cons h t _ ih => exact .cons (s _ _ h) (t.same s) ih
theorem Sps.append {vs us : List V} {ts rs : List (Str × NT)} (h : Sps K H vs ts) (g : Sps K H us rs) : Sps K H (vs ++ us) (ts ++ rs) := by
  induction h with
  | nil => exact g
  | cons h t _ ih => exact .cons h t ih
theorem Sps.length {vs : List V} {ts : List (Str × NT)} (h : Sps K H vs ts) : vs.length = ts.length := by
  induction h with
  | nil => rfl
  | cons h _ _ ih => rw [List.length_cons, List.length_cons, ih]
theorem Sps.get {vs : List V} {ts : List (Str × NT)} (h : Sps K H vs ts) : ∀ {i : Nat} {x : V}, vs[i]? = some x → ∃ p v w u, x = .ref p ∧ ts[i]? = some (w, u) ∧ H p = some (.tup [.str w, v]) ∧ T4 K H v u := by
  induction h with
  | nil => intro i x h; cases h
  | @cons p v w u vs ts h t _ ih =>
    intro i x hx
    cases i with
    | zero =>
      have e : V.ref p = x := Option.some.inj hx
      exact ⟨p, v, w, u, e.symm, rfl, h, t⟩
    | succ i => exact ih hx
end
def sp_spots (K : PySem.W.Frag) (d : Nat) : Sp := fun vs H Q _ => ∃ (v : V) (w : Str) (t : NT), vs = [v, .str w] ∧ T4 K H v t ∧ t.dp ≤ d ∧ t.sz ≤ 100 ∧ w.length + t.dp ≤ 100 ∧ ∀ H' p xs, Same H H' → H p = none → H' p = some (.lst xs) → Sps K H' xs (t.sp w) → Q (.ref p) H'
def sp_lplaces : Sp := fun vs H Q _ => ∃ x : Addr, vs = [.ref x] ∧ ∀ p, H p = none → Q (.ref p) (upd H p (.lst [.str ""]))
def sp_fplaces (CL CF : Addr) (K : PySem.W.Frag) : Sp := fun vs H Q _ => ∃ (x dx : Addr) (fs : List (Str × V)) (t : NT), vs = [.ref x] ∧ H x = some (.ins CF dx fs) ∧ ND CL CF K H (.ref x) t ∧ t.sz ≤ 100 ∧ ∀ H' p, Same H H' → H p = none → H' p = some (.lst ((t.pl "").map V.str)) → Q (.ref p) H'
section
variable {CL CF : Addr} {K : PySem.W.Frag} {H : Hp} {v : V} {t : NT} {Q : VK} {E : XK} {σ : St}
theorem nd_places (h : ND CL CF K H v t) (hz : t.sz ≤ 100) (q : ∀ H' p, Same H H' → H p = none → H' p = some (.lst ((t.pl "").map V.str)) → Q (.ref p) H') : (∃ a dx fs, v = .ref a ∧ H a = some (.ins CL dx fs) ∧ fs.lookup ("places" : Str) = none ∧ tNil σ H fun vs H2 => sp_lplaces (v :: vs) H2 Q E) ∨ (∃ a dx fs, v = .ref a ∧ H a = some (.ins CF dx fs) ∧ fs.lookup ("places" : Str) = none ∧ tNil σ H fun vs H2 => sp_fplaces CL CF K (v :: vs) H2 Q E) := by
  cases id h with
  | lf h1 h2 => exact .inl ⟨_, _, _, rfl, h1, rfl, _, rfl, fun p hp => q _ p (same_new hp _) hp upd_same⟩
  | fk h1 h2 h3 h4 h5 => exact .inr ⟨_, _, _, rfl, h1, rfl, _, _, _, _, rfl, h1, h, hz, q⟩
end
/-- a word that holds of a lesser number -/
structure Fal (Pv : Nat → St → Hp → Prop) (m : Nat) (σ : St) (H : Hp) : Prop where
  o : ∃ m', m' < m ∧ Pv m' σ H
/-- while, by a word that tells a number that falls -/
theorem while_ix {c : TT} {tb : TS} {D : Ends} {σ : St} {H : Hp} (Pv : Nat → St → Hp → Prop) (m : Nat) (h0 : Pv m σ H)
    (hs : ∀ m σ H, Pv m σ H → c σ H fun b H1 => if b = true then tb { D with nx := Fal Pv m, ct := Fal Pv m, bk := D.nx } σ H1 else D.nx σ H1)
    (mono : ∀ σ H Q Q', (∀ b H1, Q b H1 → Q' b H1) → c σ H Q → c σ H Q') : tWhile c tb D σ H :=
  ⟨Pv, ⟨m, h0⟩, fun m σ H p => mono σ H _ _ (fun b H1 q => by
    cases b with
    | true => exact ⟨_, fun _ _ z => z.o, q⟩
    | false => exact q) (hs m σ H p)⟩
/-- what waits: places and trees, the last one first -/
def wt (st : List (Str × NT)) : List Str := st.foldl (fun acc s => s.2.pl s.1 ++ acc) []
theorem wt_snoc (st : List (Str × NT)) (s : Str × NT) : wt (st ++ [s]) = s.2.pl s.1 ++ wt st := by
  unfold wt
  rw [List.foldl_append]
  rfl
def wz (st : List (Str × NT)) : Nat := st.foldl (fun acc s => s.2.sz + acc) 0
theorem wz_snoc (st : List (Str × NT)) (s : Str × NT) : wz (st ++ [s]) = s.2.sz + wz st := by
  unfold wz
  rw [List.foldl_append]
  rfl
/-- the pile of what waits -/
inductive Wps (CL CF : Addr) (K : PySem.W.Frag) (H0 H : Hp) : List V → List (Str × NT) → Prop
  | nil : Wps CL CF K H0 H [] []
  | snoc {p : Addr} {v : V} {w : Str} {u : NT} {vs : List V} {ts : List (Str × NT)} : Wps CL CF K H0 H vs ts → H p = some (.tup [.str w, v]) → ND CL CF K H0 v u → w.length + u.dp ≤ 100 → Wps CL CF K H0 H (vs ++ [.ref p]) (ts ++ [(w, u)])
section
variable {CL CF : Addr} {K : PySem.W.Frag} {H0 H H' : Hp}
theorem Wps.mono {vs : List V} {ts : List (Str × NT)} (h : Wps CL CF K H0 H vs ts) (s : SameT H H') : Wps CL CF K H0 H' vs ts := by
  induction h with
  | nil => exact .nil
  | snoc _ h1 h2 h3 ih => exact .snoc ih (s _ _ h1) h2 h3
theorem Wps.length {vs : List V} {ts : List (Str × NT)} (h : Wps CL CF K H0 H vs ts) : vs.length = ts.length := by
  induction h with
  | nil => rfl
  | snoc _ _ _ _ ih => rw [List.length_append, List.length_append, ih]; rfl
theorem Wps.le {vs : List V} {ts : List (Str × NT)} (h : Wps CL CF K H0 H vs ts) : vs.length ≤ wz ts := by
  induction h with
  | nil => exact Nat.le_refl _
  | @snoc p v w u vs ts _ _ _ _ ih =>
    rw [List.length_append, wz_snoc]
    have := u.dp_sz
    show vs.length + 1 ≤ u.sz + wz ts
    omega
theorem Wps.last {vs : List V} {ts : List (Str × NT)} (h : Wps CL CF K H0 H vs ts) (n : vs ≠ []) : ∃ us rs p v w u, vs = us ++ [.ref p] ∧ ts = rs ++ [(w, u)] ∧ Wps CL CF K H0 H us rs ∧ H p = some (.tup [.str w, v]) ∧ ND CL CF K H0 v u ∧ w.length + u.dp ≤ 100 := by
  cases h with
  | nil => exact absurd rfl n
  | snoc h1 h2 h3 h4 => exact ⟨_, _, _, _, _, _, rfl, rfl, h1, h2, h3, h4⟩
end
def sp_same17 (CL CF : Addr) (K : PySem.W.Frag) : Sp := fun vs H Q _ => ∃ (u v : V) (cs : List (Str × Str)) (t : NT), vs = [u, v] ∧ ND CL CF K H u t ∧ T4 K H v t ∧ Wq cs t ∧ Q (.bl true) H
def sp_looked17 (CL CF : Addr) (K : PySem.W.Frag) : Sp := fun vs H Q _ => ∃ (u v : V) (t : NT), vs = [u, v] ∧ ND CL CF K H u t ∧ T4 K H v t ∧ t.sz ≤ 63 ∧ t.dp ≤ 20 ∧ ∀ H', Same H H' → Q (.bl true) H'
def sp_long17 (K : PySem.W.Frag) : Sp := fun vs H Q _ => ∃ (b ca pa sa : Addr) (n : Int × Int) (xs : List V) (cs : List (Str × Str)) (ns : List Int) (ws : List Str) (e : Int), vs = [.ref b, .ref ca, .ref pa, .ref sa, .int e] ∧ 0 ≤ e ∧ e ≤ 20 ∧ H b = some (.lst (bgL n)) ∧ Bg n ∧ S19 K H b ca pa sa xs cs ns ws ∧
  ∀ H' (n' : Int × Int) v t, Bg n' → SameB b H H' → H' b = some (.lst (bgL n')) → T4 K (del H' b) v t → Wq cs t → t.dp ≤ 20 → t.sz ≤ 63 → Q v H'
theorem cs_eqv (a : List (Str × Int)) : PyData.eqv (.list (a.map cD)) (.list (a.map cD)) = true := by
  have nm : SeqAt.noMix (.list (a.map cD)) (.list (a.map cD)) = true := by
    rw [SeqAt.noMix]
    exact noMixC a a
  rw [← SeqAt.same_eq_eqv _ _ nm, PyProof.Rows.same_iff]
theorem q_eqv (q : Qs) : PyData.eqv (qD q) (qD q) = true := by
  have nm : SeqAt.noMix (qD q) (qD q) = true := by simp [SeqAt.noMix, SeqAt.noMixAll, qD, noMixK1]
  rw [← SeqAt.same_eq_eqv _ _ nm, PyProof.Rows.same_iff]
theorem shpCs {ds : List (Str × Int)} (hw : ∀ c ∈ ds, isW c.1 = true) : Shp 64 (.list (ds.map cD)) := Shp.mono (Shp.lst (n := 1) fun d hd => by obtain ⟨c, hc, rfl⟩ := List.mem_map.mp hd; exact shpC1 (hw c hc)) (by decide)
theorem dvQ {K : PySem.W.Frag} {H : Hp} {qa : Addr} {q : Qs} (h : H qa = some (.tup (qV q))) : DV K H (.ref qa) (qD q) := .tup (SqT.of h) (.cons (.str _) (.cons (.int _) (.cons (dvK _) .nil)))
theorem shpSs {ws : List Str} (h : ∀ w ∈ ws, ∀ c ∈ cds w, c < 128) : Shp 64 (.list (ws.map PyData.str)) := Shp.mono (Shp.lst (n := 0) fun d hd => by obtain ⟨w, hw, rfl⟩ := List.mem_map.mp hd; exact .str 0 (h w hw)) (by decide)
theorem NT.pl_ok : ∀ (t : NT) (w : Str), (∀ c ∈ cds w, c < 128) → ∀ x ∈ t.pl w, ∀ c ∈ cds x, c < 128
  | .lf _, w, h, x, hx => by rw [List.mem_singleton.mp hx]; exact h
  | .fk ds q y n, w, h, x, hx => by
    rw [NT.pl] at hx
    rcases List.mem_append.mp hx with hx | hx
    · refine n.pl_ok _ (fun c hc => ?_) x hx
      rw [cds_app, cds_n] at hc
      rcases List.mem_append.mp hc with hc | hc
      · exact h c hc
      · rw [List.mem_singleton.mp hc]; decide
    · refine y.pl_ok _ (fun c hc => ?_) x hx
      rw [cds_app, cds_y] at hc
      rcases List.mem_append.mp hc with hc | hc
      · exact h c hc
      · rw [List.mem_singleton.mp hc]; decide
theorem dvSs {K : PySem.W.Frag} {H : Hp} : ∀ ws : List Str, DVs K H (ws.map V.str) (ws.map PyData.str)
  | [] => .nil
  | w :: ws => .cons (.str _) (dvSs ws)
def NT.cs' : NT → List (Str × Int)
  | .lf ds => ds
  | .fk ds _ _ _ => ds
theorem Wq.c {cs : List (Str × Str)} {t : NT} (h : Wq cs t) : ∀ c ∈ t.cs', isW c.1 = true := by
  cases h with
  | lf h _ => exact h
  | fk h _ _ _ _ => exact h
theorem Wq.q {cs : List (Str × Str)} {ds : List (Str × Int)} {q : Qs} {y n : NT} (h : Wq cs (.fk ds q y n)) : QOk cs q := by
  cases h with
  | fk _ _ h _ _ => exact h
theorem lfs_le (l : List (Str × NT)) : (lfs l).length ≤ l.length := by
  unfold lfs
  rw [List.length_map]
  exact List.length_filter_le _ _
theorem NT.sp_le {t u : NT} {w : Str} {i : Nat} (h : (t.sp "")[i]? = some (w, u)) : w.length + u.dp ≤ t.dp ∧ u.sz ≤ t.sz ∧ t.go (cds w) = some u := by
  obtain ⟨r, h1, h2, h3, h4⟩ := t.sp_go "" _ (List.mem_of_getElem? h)
  have e : cds w = r := by rw [h1, show cds ("" : Str) = [] by decide +kernel]; rfl
  have l : w.length = r.length := by rw [← e, cds_len]
  dsimp only at h2 h3 h4
  exact ⟨by omega, h4, by rw [e]; exact h2⟩
theorem NT.sp_ne (t : NT) : ((t.sp "").map fun s => (s.1.length : Int)) ≠ [] := fun z => by
  have e := congrArg List.length z
  rw [List.length_map, t.sp_len] at e
  have := t.dp_sz
  have e : t.sz = 0 := e
  omega
theorem S19.nb {K : PySem.W.Frag} {H H' : Hp} {b b2 ca pa sa : Addr} {xs : List V} {cs : List (Str × Str)} {ns : List Int} {ws : List Str} (h : S19 K H b ca pa sa xs cs ns ws) (s : Same H H') (f : H b2 = none) : S19 K H' b2 ca pa sa xs cs ns ws :=
  ⟨s _ _ h.hc, h.tv.mono s.t, h.gc, s _ _ h.hp, h.l7, s _ _ h.hs, h.wd, h.w4, Ne.symm (ne_of_none h.hc f), Ne.symm (ne_of_none h.hp f), Ne.symm (ne_of_none h.hs f)⟩
theorem same_sb {b : Addr} {H H1 H2 : Hp} (s : Same H H1) (f : H b = none) (u : SameB b H1 H2) : Same H H2 := fun a o e => u _ _ (ne_of_none e f) (s _ _ e)

local macro_rules | `(tactic| walk_at "ne") => `(tactic| first | assumption | exact Ne.symm (by assumption) | exact L2.ne_of (by assumption) (by assumption) (by intro z; cases z) | exact L2.ne_fresh (by assumption) (by walk_at "hp") | exact Ne.symm (L2.ne_fresh (by assumption) (by walk_at "hp")))
local macro_rules | `(tactic| walk_at "sf") => `(tactic| first | assumption | ((with_reducible refine L2.SqF.nw (by assumption) ?_); walk_at "sf") | ((with_reducible refine L2.SqF.lst (by walk_at "hp") ?_); walk_at "sf") | ((refine L2.SqF.sm (by assumption) ?_); walk_at "sf") | ((refine L2.SqF.sb (by assumption) (by walk_at "hp") ?_); walk_at "sf") | ((refine L2.SqF.sbi (by assumption) (by walk_at "hp") ?_); walk_at "sf"))
local macro_rules | `(tactic| walk_at "hp") => `(tactic| first | assumption | exact L2.upd_same | ((with_reducible refine L2.kp ?_ (by assumption)); walk_at "hp") | ((with_reducible refine L2.upd_at ?_ ?_); walk_at "ne"; walk_at "hp") | ((refine L2.Same.at' (by assumption) ?_); walk_at "hp") | ((refine L2.SameB.at' (by assumption) ?_ ?_); walk_at "hp"; walk_at "ne") | ((refine L2.SameT.at' (by assumption) ?_); walk_at "hp"))
local macro_rules | `(tactic| walk_at "ty") => `(tactic| first | exact .int _ | exact .bl _ | exact .str _ | exact .non | exact .tup (by walk_at "hp") | exact .lst (by walk_at "hp"))
local macro_rules | `(tactic| walk_at "b0") => `(tactic| first | assumption | exact Bz.w (by omega) (by omega) | exact Bz.mul (by walk_at "b0") (by walk_at "b0") | exact Bz.add' (by walk_at "b0") (by walk_at "b0") | exact Bz.sub' (by walk_at "b0") (by walk_at "b0") | exact Bz.neg (by walk_at "b0"))
local macro_rules | `(tactic| walk_at "bz") => `(tactic| first | walk_at "b0" | exact Bz.mono (by walk_at "b0") (by decide))
local macro_rules | `(tactic| walk_at "ss") => `(tactic| first | exact True.intro | (refine And.intro rfl ?_; walk_at "ss"))
local macro_rules | `(tactic| walk_at "sd") => `(tactic| first | assumption | ((with_reducible show @Eq _ _ _); first | (with_reducible exact rfl) | walk_at "hp" | exact L2.isi_same | exact L2.isi_ib | exact L2.isi_bi | exact L2.atI_mapD (PySem.Str.empty : PySem.Str) (by omega) (by omega) | exact L2.atI_mapD (0 : Int) (by omega) (by omega) | ((with_reducible show PySem.W.kitOne _ _ _ = some _); with_unfolding_all exact rfl) | omega) | ((with_reducible show L2.SqL _ _ _ _); first | (apply L2.SqL.of; walk_at "hp") | (apply L2.SqF.sq; walk_at "sf")) | ((with_reducible show L2.SqT _ _ _ _); exact L2.SqT.of (by walk_at "hp")) | ((with_reducible show L2.SqL _ _ _ _ ∨ L2.SqT _ _ _ _); first | exact Or.inl (L2.SqL.of (by walk_at "hp")) | exact Or.inr (L2.SqT.of (by walk_at "hp")) | exact Or.inl (by assumption) | exact Or.inr (by assumption)) | ((with_reducible show L2.TyOf _ _ _ _); walk_at "ty") | ((with_reducible show L2.tyV _ _ _ _); first | exact rfl | exact Or.inl ⟨rfl, _, L2.SqL.of (by walk_at "hp")⟩) | ((with_reducible show _ ≤ PySem.sizeLine); first | exact L2.sz | exact L2.szB (by omega) | omega) | ((with_reducible show _ < PySem.sizeLine); first | exact L2.small1000 (by omega) | omega) | ((with_reducible show L2.CPow _ _); exact ⟨by decide, by decide, by decide⟩) | ((with_reducible show L2.CDivB _ _); exact Lw.cN _ (by decide) (by decide)) | ((with_reducible show PySem.IntMulOk _ _); exact Bz.mulOk (by walk_at "b0") (by walk_at "b0")) | ((with_reducible show Bz _ _); walk_at "bz") | ((with_reducible show L2.SubS _ _); walk_at "ss") | ((with_reducible show L2.TVs _ _ _ _); exact L2.TVs.mono (L2.Same.t (by assumption)) (by assumption)) | ((with_reducible show @Ne L2.V _ _); walk_at "ne") | ((with_reducible show @Ne PySem.Addr _ _); walk_at "ne") | ((with_reducible show List.length _ < 1000); exact of_decide_eq_true rfl) | exact Exists.intro _ (L2.SqL.of (by walk_at "hp")) | exact Exists.intro _ (L2.SqT.of (by walk_at "hp")) | omega)
local macro_rules | `(tactic| walk_at "nw") => `(tactic| ((fail_if_success (refine ⟨(fun _ _ _ _ => True : Nat → Nat → L2.St → L2.Hp → Prop), ?_⟩)); (fail_if_success (refine ⟨(fun _ _ _ => True : Nat → L2.St → L2.Hp → Prop), ?_⟩)); (fail_if_success (refine ⟨(fun _ _ _ => True : Nat → List L2.V → L2.Hp → Prop), ?_⟩)); (fail_if_success (refine ⟨(fun _ _ => True : L2.St → L2.Hp → Prop), ?_⟩)); (fail_if_success (refine ⟨(PySem.PyData.none : PySem.PyData), ?_⟩))))
local macro_rules | `(tactic| walk_at "r1") => `(tactic| first | (apply And.intro; · ((with_reducible show @Eq _ _ _); exact rfl)) | (apply And.intro; · walk_at "sd") | (walk_at "nw"; apply Exists.intro) | refine L2.iteT ?_ | refine L2.iteF ?_ | refine L2.iteNotT ?_ | refine L2.iteNotF ?_ | refine L2.iteNN ?_ | (refine L2.iteY (by omega) ?_) | (refine L2.iteN (by omega) ?_) | (refine L2.iteYn (by omega) ?_) | (refine L2.iteNS (by omega) ?_) | (refine Or.inl (And.intro (L2.SqL.of (by walk_at "hp")) ?_)) | (intro p hp) | (intro p))
local macro_rules | `(tactic| walk_at "rd") => `(tactic| repeat walk_at "r1")
local macro_rules | `(tactic| walk_at "cf") => `(tactic| (intro σ H Q q; repeat (first | exact q | (apply And.intro; · ((with_reducible show @Eq _ _ _); exact rfl)) | (apply And.intro; · first | ((with_reducible show L2.CPow _ _); exact ⟨by decide, by decide, by decide⟩) | ((with_reducible show PySem.IntMulOk _ _); exact Bz.mulOk (bzl (by decide)) (bzl (by decide)))) | apply Exists.intro)))
local macro_rules | `(tactic| walk_at "sm") => `(tactic| first | assumption | exact L2.Same.refl _ | exact L2.Same.new (by walk_at "sm") (by assumption) _ | exact L2.Same.trans (by assumption) (by walk_at "sm"))
local macro_rules | `(tactic| walk_at "kx") => `(tactic| try dsimp (config := { beta := false, proj := false, zeta := false, eta := false, iota := false }) only [L2.cxK, L2.lcK, L2.wishK])

section
variable {P : Program} {w : World} {K : PySem.W.Frag} {mg : Str → Option Value} {base : Heap}

theorem ok_Node___init__ (T : Tx K mg) : FnOk P w K mg base (CXe P w) 1 T.f_Node___init__ T.d_Node___init__ ["self", "counted"] (sp_init_node T.c_Leaf T.c_Fork) := by
  have sc := sc_Node___init__
  refine T.F_Node___init__.okx sc (fun vs H Q E h => ?_) (fun cdv A outer s H vs Q E hr h => ?_)
  · obtain ⟨x, a, C, dx, xs, rfl, hx, hC, ha, q⟩ := h
    rfl
  obtain ⟨x, a, C, dx, xs, rfl, hx, hC, ha, q⟩ := h
  have hu := hr.units0
  have hu2 := hr.units
  refine ⟨_, (@pss_one _ _ _ (ps_fld (pv 0) (pe_callTy call_list_of rfl T.z_list bt_list (pa_cons (pv 1) pa_nil)) rfl)), ?_⟩
  walk_at "kx"
  have C1 := T.C_Leaf
  have C2 := T.C_Fork
  have N0 : NoAttr K T.c_Leaf "counted" := T.nLc
  have N1 : NoAttr K T.c_Fork "counted" := T.nFcd
  have N2 : NoAttr K T.c_Fork "question" := T.nFqn
  have N3 : NoAttr K T.c_Fork "yes" := T.nFys
  have N4 : NoAttr K T.c_Fork "no" := T.nFno
  have N5 : NoAttr K T.c_Fork "leaf_count" := T.nFlt
  have N6 : NoAttr K T.c_Fork "depth" := T.nFdh
  rcases hC with rfl | rfl
  · walk_at "rd"
    rename_i l hl
    exact q l hl
  · walk_at "rd"
    rename_i l hl
    exact q l hl

theorem ok_Leaf_below (T : Tx K mg) : FnOk P w K mg base (CXe P w) 1 T.f_Leaf_below T.d_Leaf_below ["self", "sign"] sp_lbelow := by
  have sc := sc_Leaf_below
  refine T.F_Leaf_below.okx sc (fun vs H Q E h => ?_) (fun cdv A outer s H vs Q E hr h => ?_)
  · obtain ⟨x, w, rfl, q⟩ := h
    rfl
  obtain ⟨x, w, rfl, q⟩ := h
  have hu := hr.units0
  have hu2 := hr.units
  refine ⟨_, (@pss_one _ _ _ (@ps_ret _ _ _ _ pe_non)), ?_⟩
  walk_at "kx"
  walk_at "rd"
  exact q

theorem ok_Leaf_leaves (T : Tx K mg) : FnOk P w K mg base (CXe P w) 1 T.f_Leaf_leaves T.d_Leaf_leaves ["self"] (sp_lleaves T.c_Leaf 1) := by
  have sc := sc_Leaf_leaves
  refine T.F_Leaf_leaves.okx sc (fun vs H Q E h => ?_) (fun cdv A outer s H vs Q E hr h => ?_)
  · obtain ⟨x, dx, fs, rfl, hx, q⟩ := h
    rfl
  obtain ⟨x, dx, fs, rfl, hx, q⟩ := h
  have hu := hr.units0
  have hu2 := hr.units
  refine ⟨_, (@pss_one _ _ _ (@ps_ret _ _ _ _ pe_int)), ?_⟩
  walk_at "kx"
  walk_at "rd"
  exact q

theorem ok_Leaf_deep (T : Tx K mg) : FnOk P w K mg base (CXe P w) 1 T.f_Leaf_deep T.d_Leaf_deep ["self"] (sp_lleaves T.c_Leaf 0) := by
  have sc := sc_Leaf_deep
  refine T.F_Leaf_deep.okx sc (fun vs H Q E h => ?_) (fun cdv A outer s H vs Q E hr h => ?_)
  · obtain ⟨x, dx, fs, rfl, hx, q⟩ := h
    rfl
  obtain ⟨x, dx, fs, rfl, hx, q⟩ := h
  have hu := hr.units0
  have hu2 := hr.units
  refine ⟨_, (@pss_one _ _ _ (@ps_ret _ _ _ _ pe_int)), ?_⟩
  walk_at "kx"
  walk_at "rd"
  exact q

theorem ok_Leaf_places (T : Tx K mg) : FnOk P w K mg base (CXe P w) 1 T.f_Leaf_places T.d_Leaf_places ["self"] sp_lplaces := by
  have sc := sc_Leaf_places
  refine T.F_Leaf_places.okx sc (fun vs H Q E h => ?_) (fun cdv A outer s H vs Q E hr h => ?_)
  · obtain ⟨x, rfl, q⟩ := h
    rfl
  obtain ⟨x, rfl, q⟩ := h
  have hu := hr.units0
  have hu2 := hr.units
  refine ⟨_, (@pss_one _ _ _ (@ps_ret _ _ _ _ (@pe_lst _ _ _ _ (pa_cons pe_str pa_nil se_c)))), ?_⟩
  walk_at "kx"
  walk_at "rd"
  rename_i p hp
  exact q p hp

theorem ok_Fork_below (T : Tx K mg) : FnOk P w K mg base (CXe P w) 1 T.f_Fork_below T.d_Fork_below ["self", "sign"] (sp_fbelow T.c_Leaf T.c_Fork K) := by
  have sc := sc_Fork_below
  refine T.F_Fork_below.okx sc (fun vs H Q E h => ?_) (fun cdv A outer s H vs Q E hr h => ?_)
  · obtain ⟨x, w, dx, l, qa, v1, v2, a, b, rfl, hx, q⟩ := h
    rfl
  obtain ⟨x, w, dx, l, qa, v1, v2, a, b, rfl, hx, q⟩ := h
  have hu := hr.units0
  have hu2 := hr.units
  refine ⟨_, (@pss_cons _ _ _ _ _ (@ps_if _ _ _ _ _ _ _ _ (@pt_cmpR _ _ _ _ _ _ _ _ op_eqS (pv 1) pe_str (nomark _)) (@pss_one _ _ _ (@ps_ret _ _ _ _ (pe_fld (pv 0) rfl))) pss_nil)
      (@pss_cons _ _ _ _ _ (@ps_if _ _ _ _ _ _ _ _ (@pt_cmpR _ _ _ _ _ _ _ _ op_eqS (pv 1) pe_str (nomark _)) (@pss_one _ _ _ (@ps_ret _ _ _ _ (pe_fld (pv 0) rfl))) pss_nil)
      (@pss_one _ _ _ (@ps_ret _ _ _ _ pe_non)))), ?_⟩
  walk_at "kx"
  have C1 := T.C_Leaf
  have C2 := T.C_Fork
  have N0 : NoAttr K T.c_Leaf "counted" := T.nLc
  have N1 : NoAttr K T.c_Fork "counted" := T.nFcd
  have N2 : NoAttr K T.c_Fork "question" := T.nFqn
  have N3 : NoAttr K T.c_Fork "yes" := T.nFys
  have N4 : NoAttr K T.c_Fork "no" := T.nFno
  have N5 : NoAttr K T.c_Fork "leaf_count" := T.nFlt
  have N6 : NoAttr K T.c_Fork "depth" := T.nFdh
  walk_at "rd"
  refine ite3 (fun e => ?_) (fun e => ?_)
  · rw [if_pos e] at q
    walk_at "rd"
    exact q
  · rw [if_neg e] at q
    walk_at "rd"
    refine ite3 (fun e => ?_) (fun e => ?_)
    · rw [if_pos e] at q
      walk_at "rd"
      exact q
    · rw [if_neg e] at q
      walk_at "rd"
      exact q

theorem ok_Fork_leaves (T : Tx K mg) : FnOk P w K mg base (CXe P w) 1 T.f_Fork_leaves T.d_Fork_leaves ["self"] (sp_ffield T.c_Fork "leaf_count") := by
  have sc := sc_Fork_leaves
  refine T.F_Fork_leaves.okx sc (fun vs H Q E h => ?_) (fun cdv A outer s H vs Q E hr h => ?_)
  · obtain ⟨x, dx, fs, v, rfl, hx, hv, q⟩ := h
    rfl
  obtain ⟨x, dx, fs, v, rfl, hx, hv, q⟩ := h
  have hu := hr.units0
  have hu2 := hr.units
  refine ⟨_, (@pss_one _ _ _ (@ps_ret _ _ _ _ (pe_fld (pv 0) rfl))), ?_⟩
  walk_at "kx"
  have C1 := T.C_Leaf
  have C2 := T.C_Fork
  have N0 : NoAttr K T.c_Leaf "counted" := T.nLc
  have N1 : NoAttr K T.c_Fork "counted" := T.nFcd
  have N2 : NoAttr K T.c_Fork "question" := T.nFqn
  have N3 : NoAttr K T.c_Fork "yes" := T.nFys
  have N4 : NoAttr K T.c_Fork "no" := T.nFno
  have N5 : NoAttr K T.c_Fork "leaf_count" := T.nFlt
  have N6 : NoAttr K T.c_Fork "depth" := T.nFdh
  walk_at "rd"
  exact q

theorem ok_Fork_deep (T : Tx K mg) : FnOk P w K mg base (CXe P w) 1 T.f_Fork_deep T.d_Fork_deep ["self"] (sp_ffield T.c_Fork "depth") := by
  have sc := sc_Fork_deep
  refine T.F_Fork_deep.okx sc (fun vs H Q E h => ?_) (fun cdv A outer s H vs Q E hr h => ?_)
  · obtain ⟨x, dx, fs, v, rfl, hx, hv, q⟩ := h
    rfl
  obtain ⟨x, dx, fs, v, rfl, hx, hv, q⟩ := h
  have hu := hr.units0
  have hu2 := hr.units
  refine ⟨_, (@pss_one _ _ _ (@ps_ret _ _ _ _ (pe_fld (pv 0) rfl))), ?_⟩
  walk_at "kx"
  have C1 := T.C_Leaf
  have C2 := T.C_Fork
  have N0 : NoAttr K T.c_Leaf "counted" := T.nLc
  have N1 : NoAttr K T.c_Fork "counted" := T.nFcd
  have N2 : NoAttr K T.c_Fork "question" := T.nFqn
  have N3 : NoAttr K T.c_Fork "yes" := T.nFys
  have N4 : NoAttr K T.c_Fork "no" := T.nFno
  have N5 : NoAttr K T.c_Fork "leaf_count" := T.nFlt
  have N6 : NoAttr K T.c_Fork "depth" := T.nFdh
  walk_at "rd"
  exact q

theorem ok_Fork_places (T : Tx K mg) : FnOk P w K mg base (CXe P w) 1 T.f_Fork_places T.d_Fork_places ["self"] (sp_fplaces T.c_Leaf T.c_Fork K) := by
  have sc := sc_Fork_places
  refine T.F_Fork_places.okx sc (fun vs H Q E h => ?_) (fun cdv A outer s H vs Q E hr h => ?_)
  · obtain ⟨x, dx, fs0, t, rfl, hx, nd, hz, q⟩ := h
    rfl
  obtain ⟨x, dx, fs0, t, rfl, hx, nd, hz, q⟩ := h
  have hu := hr.units0
  have hu2 := hr.units
  refine ⟨_, (@pss_cons _ _ _ _ _ (@ps_set _ _ 1 _ _ _ _ sc.nd rfl (by first | exact Or.inl rfl | exact Or.inr rfl) (@pe_lst _ _ _ _ pa_nil) (by rfl) (by first | exact .inl rfl | exact .inr rfl | assumption))
      (@pss_cons _ _ _ _ _ (@ps_set _ _ 2 _ _ _ _ sc.nd rfl (by first | exact Or.inl rfl | exact Or.inr rfl) (@pe_lst _ _ _ _ (pa_cons (pe_tup (pa_cons pe_str (pa_cons (pv 0) pa_nil) se_c)) pa_nil)) (by rfl) (by first | exact .inl rfl | exact .inr rfl | assumption))
      (@pss_cons _ _ _ _ _ (ps_while powx (@pt_cmpR _ _ _ _ _ _ _ _ op_gt (pe_callB call_len_seq rfl T.z_len bt_len (pa_cons (pv 2) pa_nil)) pe_int (nomark _)) (@pss_cons _ _ _ _ _ (@ps_set _ _ 3 _ _ _ _ sc.nd rfl (by first | exact Or.inl rfl | exact Or.inr rfl) (pe_bm0 PySem.F.plainAttrs_list PySem.F.slot_list_pop PySem.F.type_list_pop mt_pop (pv 2)) (by rfl) (by first | exact .inl rfl | exact .inr rfl | assumption))
      (@pss_one _ _ _ (@ps_if _ _ _ _ _ _ _ _ (pt_val (pe_callB call_isiO rfl T.z_isinstance bt_isinstance (pa_cons (@pe_ix _ _ _ _ _ _ _ ix_tup (pv 3) pe_int (fun _ _ => rfl)) (pa_cons (pe_glob (v := .ref T.c_Fork) rfl T.m_Fork rfl) pa_nil)))) (@pss_cons _ _ _ _ _ (ps_expr (pe_bm PySem.F.plainAttrs_list PySem.F.slot_list_append PySem.F.type_list_append mt_append (pv 2) (pa_cons (pe_tup (pa_cons (@pe_op _ _ _ _ _ _ _ _ op_add_str (@pe_ix _ _ _ _ _ _ _ ix_tup (pv 3) pe_int (fun _ _ => rfl)) pe_str) (pa_cons (pe_fld (@pe_ix _ _ _ _ _ _ _ ix_tup (pv 3) pe_int (fun _ _ => rfl)) rfl) pa_nil))) pa_nil)))
      (@pss_one _ _ _ (ps_expr (pe_bm PySem.F.plainAttrs_list PySem.F.slot_list_append PySem.F.type_list_append mt_append (pv 2) (pa_cons (pe_tup (pa_cons (@pe_op _ _ _ _ _ _ _ _ op_add_str (@pe_ix _ _ _ _ _ _ _ ix_tup (pv 3) pe_int (fun _ _ => rfl)) pe_str) (pa_cons (pe_fld (@pe_ix _ _ _ _ _ _ _ ix_tup (pv 3) pe_int (fun _ _ => rfl)) rfl) pa_nil))) pa_nil))))) (@pss_one _ _ _ (ps_expr (pe_bm PySem.F.plainAttrs_list PySem.F.slot_list_append PySem.F.type_list_append mt_append (pv 1) (pa_cons (@pe_ix _ _ _ _ _ _ _ ix_tup (pv 3) pe_int (fun _ _ => rfl)) pa_nil))))))))
      (@pss_one _ _ _ (@ps_ret _ _ _ _ (pv 1)))))), ?_⟩
  walk_at "kx"
  have C1 := T.C_Leaf
  have C2 := T.C_Fork
  have N0 : NoAttr K T.c_Leaf "counted" := T.nLc
  have N1 : NoAttr K T.c_Fork "counted" := T.nFcd
  have N2 : NoAttr K T.c_Fork "question" := T.nFqn
  have N3 : NoAttr K T.c_Fork "yes" := T.nFys
  have N4 : NoAttr K T.c_Fork "no" := T.nFno
  have N5 : NoAttr K T.c_Fork "leaf_count" := T.nFlt
  have N6 : NoAttr K T.c_Fork "depth" := T.nFdh
  have t1 : ∀ {H : Hp} {a dx fs}, H a = some (.ins T.c_Leaf dx fs) → TyOf K H (.ref a) (.ref T.c_Leaf) := fun h => .ins h C1 T.clL T.ogt T.otk T.omL
  have t2 : ∀ {H : Hp} {a dx fs}, H a = some (.ins T.c_Fork dx fs) → TyOf K H (.ref a) (.ref T.c_Fork) := fun h => .ins h C2 T.clF T.ogt T.otk T.omF
  have k1 := T.kLF
  have k2 := T.kFF
  have ly := len_y
  have ln := len_n
  walk_at "rd"
  rename_i fa hfa p hp wa hwa
  have nfw : fa ≠ wa := ne_of_none (kp upd_same hp) hwa
  have nwf := Ne.symm nfw
  have hwa0 : H wa = none := (upd_none (upd_none hwa).2).2
  have S0 := ((same_new hfa (H := H) (.lst [])).new hp (.tup [.str "", .ref x])).new hwa (.lst [.ref p])
  have l0 : ("" : Str).length = 0 := by decide +kernel
  have dz := t.dp_sz
  refine while_ix (fun m σ H' => Iv (∃ (fs : List Str) (vs : List V) (ts : List (Str × NT)) (o3 : Option V), σ = [some (.ref x), some (.ref fa), some (.ref wa), o3] ∧ Same H H' ∧ H' fa = some (.lst (fs.map V.str)) ∧ H' wa = some (.lst vs) ∧ Wps T.c_Leaf T.c_Fork K H H' vs ts ∧ fs ++ wt ts = t.pl "" ∧ wz ts = m ∧ fs.length + m ≤ 100)) t.sz ⟨⟨[], _, [("", t)], _, rfl, S0, kp (kp upd_same hp) hwa, upd_same, Wps.snoc (vs := []) (ts := []) .nil (kp upd_same hwa) nd (by omega), List.append_nil _, rfl, by show 0 + t.sz ≤ 100; omega⟩⟩ ?_ ?_
  · rintro m σ H' ⟨⟨fs, vs, ts, o3, rfl, S, hf, hw, wp, ep, em, lm⟩⟩
    have lv := wp.le
    have zl : Bz 10 ((vs.length : Nat) : Int) := by
      show ((vs.length : Nat) : Int).natAbs < 2 ^ 10
      omega
    have fl : (fs.map V.str).length = fs.length := List.length_map _
    walk_at "rd"
    refine ite3 (fun c2 => ?_) (fun c2 => ?_)
    · obtain ⟨us, rs, pp, v, pw, u, rfl, rfl, wp2, hpp, ndu, lw⟩ := wp.last (by intro z; rw [z] at c2; exact absurd c2 (by decide))
      have npw : pp ≠ wa := ne_of hpp hw (by intro z; cases z)
      have npf : pp ≠ fa := ne_of hpp hf (by intro z; cases z)
      have el : (us ++ [V.ref pp])[(us ++ [V.ref pp]).length - 1]? = some (.ref pp) := by rw [List.length_append]; simp
      have ed : (us ++ [V.ref pp]).dropLast = us := by simp
      have ul : us.length ≤ 100 := by rw [List.length_append] at lv; omega
      rw [wt_snoc] at ep
      rw [wz_snoc] at em
      cases ndu with
      | @lf xu du l ds hxu cnu =>
        have hx1 := S _ _ hxu
        have nxw : xu ≠ wa := ne_of hx1 hw (by intro z; cases z)
        have hx2 : upd H' wa (.lst (us ++ [V.ref pp]).dropLast) xu = _ := (upd_ne nxw).trans hx1
        have ty := t1 hx2
        have em' : 1 + wz rs = m := em
        walk_at "rd"
        rw [ed]
        refine ⟨⟨wz rs, by omega, ⟨⟨fs ++ [pw], us, rs, _, rfl, (S.upd hwa0 _).upd hfa _, by rw [upd_same, List.map_append]; rfl, by rw [upd_ne nwf]; exact upd_same, wp2.mono fun a xs e => ?_, by rw [List.append_assoc]; exact ep, rfl, by rw [List.length_append]; show fs.length + 1 + _ ≤ 100; omega⟩⟩⟩⟩
        rw [upd_ne (ne_of e hf (by intro z; cases z)), upd_ne (ne_of e hw (by intro z; cases z))]
        exact e
      | @fk xu du l qa ds qq u1 u2 y n hxu cnu hqu n1 n2 =>
        have hx1 := S _ _ hxu
        have nxw : xu ≠ wa := ne_of hx1 hw (by intro z; cases z)
        have hx2 : upd H' wa (.lst (us ++ [V.ref pp]).dropLast) xu = _ := (upd_ne nxw).trans hx1
        have ty := t2 hx2
        have em' : 1 + y.sz + n.sz + wz rs = m := em
        have lw' : pw.length + (1 + max y.dp n.dp) ≤ 100 := lw
        have lx : (us ++ [V.ref pp]).dropLast.length < sizeLine := by rw [ed]; exact Nat.lt_of_lt_of_le (show us.length < 1000 by omega) (szB (by omega))
        walk_at "rd"
        rename_i p1 hp1 p2 hp2
        rw [ed] at hp1 hp2 ⊢
        have np1 : p1 ≠ wa := (upd_none hp1).1
        have hp10 := (upd_none hp1).2
        have h11 : upd (upd (upd H' wa (.lst us)) p1 (.tup [.str (pw ++ "y"), u1])) wa (.lst (us ++ [.ref p1])) p1 = _ := (upd_ne np1).trans upd_same
        have st1 : ∀ a xs, H' a = some (.tup xs) → upd (upd (upd H' wa (.lst us)) p1 (.tup [.str (pw ++ "y"), u1])) wa (.lst (us ++ [.ref p1])) a = some (.tup xs) := fun a xs e => by
          have na : a ≠ wa := ne_of e hw (by intro z; cases z)
          rw [upd_ne na, upd_ne (ne_of_none e hp10), upd_ne na]
          exact e
        have si1 : Same H (upd (upd (upd H' wa (.lst us)) p1 (.tup [.str (pw ++ "y"), u1])) wa (.lst (us ++ [.ref p1]))) := ((S.upd hwa0 _).new hp1 _).upd hwa0 _
        have hf1 : upd (upd (upd H' wa (.lst us)) p1 (.tup [.str (pw ++ "y"), u1])) wa (.lst (us ++ [.ref p1])) fa = some (.lst (fs.map V.str)) := by
          rw [upd_ne nfw, upd_ne (ne_of_none hf hp10), upd_ne nfw]
          exact hf
        have hw1 := upd_same (H := upd (upd H' wa (.lst us)) p1 (.tup [.str (pw ++ "y"), u1])) (a := wa) (o := .lst (us ++ [.ref p1]))
        generalize upd (upd (upd H' wa (.lst us)) p1 (.tup [.str (pw ++ "y"), u1])) wa (.lst (us ++ [.ref p1])) = H2 at h11 st1 si1 hf1 hw1 hp2 ⊢
        refine ⟨by rw [List.length_append]; exact Nat.lt_of_lt_of_le (show us.length + 1 < 1000 by omega) (szB (by omega)), ?_⟩
        walk_at "rd"
        have SB : SameB wa H2 (upd (upd H2 p2 (.tup [.str (pw ++ "n"), u2])) wa (.lst (us ++ [.ref p1] ++ [.ref p2]))) := (sb_new hp2).tr sb_at
        have np2 : p2 ≠ wa := Ne.symm (ne_of_none hw1 hp2)
        refine ⟨⟨n.sz + (y.sz + wz rs), by omega, ⟨⟨fs, us ++ [.ref p1] ++ [.ref p2], rs ++ [(pw ++ "y", y)] ++ [(pw ++ "n", n)], _, rfl, (si1.new hp2 _).upd hwa0 _, SB _ _ nfw hf1, upd_same, .snoc (.snoc (wp2.mono fun a xs e => ?_) (SB _ _ np1 h11) n1 (by rw [lenA]; omega)) ((upd_ne np2).trans upd_same) n2 (by rw [lenA]; omega), ?_, by rw [wz_snoc, wz_snoc], by omega⟩⟩⟩⟩
        · have e2 := st1 _ _ e
          exact SB _ _ (ne_of e2 hw1 (by intro z; cases z)) e2
        · rw [wt_snoc, wt_snoc, ← ep]
          show fs ++ (n.pl (pw ++ "n") ++ (y.pl (pw ++ "y") ++ wt rs)) = fs ++ ((n.pl (pw ++ "n") ++ y.pl (pw ++ "y")) ++ wt rs)
          rw [List.append_assoc]
    · have e0 : vs.length = 0 := by omega
      have e1 := wp.length
      obtain rfl : ts = [] := List.length_eq_zero_iff.mp (by omega)
      have ep' : fs ++ [] = t.pl "" := ep
      rw [List.append_nil] at ep'
      walk_at "rd"
      exact q _ fa S hfa (by rw [← ep']; exact hf)
  · rintro σ' H' Q1 Q2 hq ⟨v, e, p, ys, ev, hs, i, j, ei, ej, k, ek, y⟩
    exact ⟨v, e, p, ys, ev, hs, i, j, ei, ej, k, ek, hq _ _ y⟩

theorem ok_Fork___init__ (T : Tx K mg) : FnOk P w K mg base (CXe P w) 3 T.f_Fork___init__ T.d_Fork___init__ ["self", "counted", "question", "yes", "no"] (sp_init_fork2 T.c_Leaf T.c_Fork K) := by
  have sc := sc_Fork___init__
  refine T.F_Fork___init__.okx sc (fun vs H Q E h => ?_) (fun cdv A outer s H vs Q E hr h => ?_)
  · obtain ⟨x, a, qa, dx, v1, v2, xs, y, n, rfl, hx, ha, n1, n2, q⟩ := h
    rfl
  obtain ⟨x, a, qa, dx, v1, v2, xs, y, n, rfl, hx, ha, n1, n2, q⟩ := h
  have hu := hr.units0
  have hu2 := hr.units
  refine ⟨_, (@pss_cons _ _ _ _ _ (ps_expr (pe_clsc (pe_glob (v := .ref T.c_Node) rfl T.m_Node rfl) T.cc_Node___init__ (ok_Node___init__ T) (hr.mono (by decide)) T.b_Node___init__ (pass_e fun _ _ z => z) (pa_cons (pv 0) (pa_cons (pv 1) pa_nil))))
      (@pss_cons _ _ _ _ _ (ps_fld (pv 0) (pv 2) rfl)
      (@pss_cons _ _ _ _ _ (ps_fld (pv 0) (pv 3) rfl)
      (@pss_cons _ _ _ _ _ (@ps_mid _ _ _ (ps_fld (pv 0) (pv 4) rfl))
      (@pss_cons _ _ _ _ _ (ps_fld (pv 0) (@pe_op _ _ _ _ _ _ _ _ op_add (pe_meth20 (pv 3) T.C_Leaf T.M_Leaf_leaves (ok_Leaf_leaves T) (hr.mono (by decide)) T.b_Leaf_leaves T.C_Fork T.M_Fork_leaves (ok_Fork_leaves T) (hr.mono (by decide)) T.b_Fork_leaves (pass_e fun _ _ z => z)) (pe_meth20 (pv 4) T.C_Leaf T.M_Leaf_leaves (ok_Leaf_leaves T) (hr.mono (by decide)) T.b_Leaf_leaves T.C_Fork T.M_Fork_leaves (ok_Fork_leaves T) (hr.mono (by decide)) T.b_Fork_leaves (pass_e fun _ _ z => z))) rfl)
      (@pss_one _ _ _ (ps_fld (pv 0) (@pe_op _ _ _ _ _ _ _ _ op_add pe_int (pe_callB (call_max2 rfl) rfl T.z_max bt_max (pa_cons (pe_meth20 (pv 3) T.C_Leaf T.M_Leaf_deep (ok_Leaf_deep T) (hr.mono (by decide)) T.b_Leaf_deep T.C_Fork T.M_Fork_deep (ok_Fork_deep T) (hr.mono (by decide)) T.b_Fork_deep (pass_e fun _ _ z => z)) (pa_cons (pe_meth20 (pv 4) T.C_Leaf T.M_Leaf_deep (ok_Leaf_deep T) (hr.mono (by decide)) T.b_Leaf_deep T.C_Fork T.M_Fork_deep (ok_Fork_deep T) (hr.mono (by decide)) T.b_Fork_deep (pass_e fun _ _ z => z)) pa_nil)))) rfl))))))), ?_⟩
  walk_at "kx"
  have C1 := T.C_Leaf
  have C2 := T.C_Fork
  have N0 : NoAttr K T.c_Leaf "counted" := T.nLc
  have N1 : NoAttr K T.c_Fork "counted" := T.nFcd
  have N2 : NoAttr K T.c_Fork "question" := T.nFqn
  have N3 : NoAttr K T.c_Fork "yes" := T.nFys
  have N4 : NoAttr K T.c_Fork "no" := T.nFno
  have N5 : NoAttr K T.c_Fork "leaf_count" := T.nFlt
  have N6 : NoAttr K T.c_Fork "depth" := T.nFdh
  have cne := lne T.kLF T.kFF
  walk_at "rd"
  refine ⟨.inr rfl, ha, fun l hl => ?_⟩
  have nlx : l ≠ x := Ne.symm (ne_of_none hx hl)
  walk_at "rd"
  refine ⟨fun σ' H1 => Iv (σ' = [some (.ref x), some (.ref a), some (.ref qa), some v1, some v2] ∧ SameB x H H1 ∧ H1 l = some (.lst xs) ∧ H1 x = some (.ins T.c_Fork dx [("counted", .ref l), ("question", .ref qa), ("yes", v1), ("no", v2)])), ?_, ?_⟩
  · walk_at "rd"
    refine ⟨⟨rfl, fun b o nb e => ?_, ?_, ?_⟩⟩
    · rw [upd_ne nb, upd_ne nb, upd_ne nb, upd_ne nb]
      exact kp e hl
    · rw [upd_ne nlx, upd_ne nlx, upd_ne nlx, upd_ne nlx]
      exact upd_same
    · rw [upd_same]
      rfl
  rintro σ' H1 ⟨⟨rfl, S1, hl1, hx1⟩⟩
  have m1 := n1.sbx S1 hx cne (by decide)
  have m2 := n2.sbx S1 hx cne (by decide)
  walk_at "rd"
  refine nd_leaves m1 ?_
  walk_at "rd"
  refine nd_leaves m2 ?_
  walk_at "rd"
  have S2 : SameB x H1 (upd H1 x (.ins T.c_Fork dx [("counted", .ref l), ("question", .ref qa), ("yes", v1), ("no", v2), ("leaf_count", .int ((y.lv : Nat) + (n.lv : Nat)))])) := fun b o nb e => by rw [upd_ne nb]; exact e
  have k1 := m1.sbx S2 hx1 cne (show 4 < 6 by decide)
  have k2 := m2.sbx S2 hx1 cne (show 4 < 6 by decide)
  refine nd_deep k1 ?_
  walk_at "rd"
  refine nd_deep k2 ?_
  walk_at "rd"
  have e1 : ((y.lv + n.lv : Nat) : Int) = (y.lv : Nat) + (n.lv : Nat) := by omega
  have e2 : ((1 + max y.dp n.dp : Nat) : Int) = 1 + (if ((n.dp : Nat) : Int) > (y.dp : Nat) then ((n.dp : Nat) : Int) else (y.dp : Nat)) := by split <;> omega
  generalize hf : (HO.ins T.c_Fork dx (putF "depth" _ _)) = fo
  generalize (HO.ins T.c_Fork dx (putF "leaf_count" _ _)) = mo
  have S4 : SameB x H1 (upd (upd H1 x mo) x fo) := fun b o nb e => by rw [upd_ne nb, upd_ne nb]; exact e
  refine q _ l (fun b o nb e => S4 _ _ nb (S1 _ _ nb e)) hl ?_ (S4 _ _ nlx hl1)
  rw [upd_same, ← hf, e1, e2]
  rfl

theorem ok_Node_at (T : Tx K mg) : FnOk P w K mg base (CXe P w) 2 T.f_Node_at T.d_Node_at ["self", "place"] (sp_at T.c_Leaf T.c_Fork K) := by
  have sc := sc_Node_at
  refine T.F_Node_at.okx sc (fun vs H Q E h => ?_) (fun cdv A outer s H vs Q E hr h => ?_)
  · obtain ⟨v, pw, t, u, rfl, nd, lw, hg, q⟩ := h
    rfl
  obtain ⟨v, pw, t, u, rfl, nd, lw, hg, q⟩ := h
  have hu := hr.units0
  have hu2 := hr.units
  refine ⟨_, (@pss_cons _ _ _ _ _ (@ps_set _ _ 2 _ _ _ _ sc.nd rfl (by first | exact Or.inl rfl | exact Or.inr rfl) (pv 0) (by rfl) (by first | exact .inl rfl | exact .inr rfl | assumption))
      (@pss_cons _ _ _ _ _ (ps_for powx rfl (pi_str (pv 1)) (pg_name (i := 3) sc.nd rfl (by first | exact Or.inl rfl | exact Or.inr rfl))
      (@pss_cons _ _ _ _ _ (@ps_set _ _ 2 _ _ _ _ sc.nd rfl (by first | exact Or.inl rfl | exact Or.inr rfl) (pe_meth2 (pv 2) T.C_Leaf T.M_Leaf_below (ok_Leaf_below T) (hr.mono (by decide)) T.b_Leaf_below T.C_Fork T.M_Fork_below (ok_Fork_below T) (hr.mono (by decide)) T.b_Fork_below (pass_e fun _ _ z => z) (pa_cons (pv 3) pa_nil)) (by rfl) (by first | exact .inl rfl | exact .inr rfl | assumption))
      (@pss_one _ _ _ (@ps_if _ _ _ _ _ _ _ _ (@pt_cmpR _ _ _ _ _ _ _ _ op_isN (pv 2) pe_non (nomark _)) (@pss_one _ _ _ ps_never) pss_nil))))
      (@pss_one _ _ _ (@ps_ret _ _ _ _ (pv 2))))), ?_⟩
  walk_at "kx"
  have hcl : (cds pw).length = pw.cps.size := cds_len pw
  have hwz : pw.length ≤ sizeLine := szB (by omega)
  walk_at "rd"
  refine for_str (fun i σ H' => Iv (H' = H ∧ ∃ (v' : V) (t' : NT) (o3 : Option V), σ = [some v, some (.str pw), some v', o3] ∧ ND T.c_Leaf T.c_Fork K H v' t' ∧ t'.go ((cds pw).drop i) = some u)) ⟨⟨rfl, v, t, _, rfl, nd, hg⟩⟩ ?_ ?_
  · rintro i c σ H' hi ⟨⟨rfl, v', t', o3, rfl, nd', hg'⟩⟩
    have e2 : (cds pw)[i]? = some c := by rw [show cds pw = pw.cps.toList from rfl, Array.getElem?_toList]; exact hi
    have ed : (cds pw).drop i = c :: (cds pw).drop (i + 1) := by
      have il := (List.getElem?_eq_some_iff.mp e2)
      rw [List.drop_eq_getElem_cons il.1, il.2]
    rw [ed] at hg'
    walk_at "rd"
    refine nd_below nd' hg' (fun k hk => by walk_at "rd"; exact hk) fun v2 t2 nd2 hg2 => ?_
    obtain ⟨a2, rfl⟩ := nd2.ref
    walk_at "rd"
    exact ⟨⟨rfl, _, t2, _, rfl, nd2, hg2⟩⟩
  · rintro σ H' ⟨⟨rfl, v', t', o3, rfl, nd', hg'⟩⟩
    rw [← hcl, List.drop_length] at hg'
    have hg2 : some t' = some u := by rw [← hg']; cases t' <;> rfl
    obtain rfl : t' = u := Option.some.inj hg2
    walk_at "rd"
    exact q _ nd'

theorem ok_law_cell (T : Tx K mg) : FnOk P w K mg base (CXe P w) 1 T.f_law_cell T.d_law_cell ["_law_script", "_law_k"] (sp_law_cell K) := by
  have sc := sc_law_cell
  refine T.F_law_cell.okx sc (fun vs H Q E h => ?_) (fun cdv A outer s H vs Q E hr h => ?_)
  · obtain ⟨a, ns, k, rfl, hS, hk, q⟩ := h
    rfl
  obtain ⟨a, ns, k, rfl, hS, hk, q⟩ := h
  have hu := hr.units0
  have hu2 := hr.units
  refine ⟨_, (@pss_cons _ _ _ _ _ (@ps_if _ _ _ _ _ _ _ _ (@pt_cmpR _ _ _ _ _ _ _ _ op_lt (pv 1) (pe_callB call_len_seq rfl T.z_len bt_len (pa_cons (pv 0) pa_nil)) (nomark _)) (@pss_one _ _ _ (@ps_ret _ _ _ _ (@pe_ix _ _ _ _ _ _ _ ix_list (pv 0) (pv 1) (fun _ _ => rfl)))) pss_nil)
      (@pss_one _ _ _ (@ps_ret _ _ _ _ pe_int))), ?_⟩
  walk_at "kx"
  have hl2 : (ns.map V.int).length = ns.length := List.length_map _
  walk_at "rd"
  refine ite3 (fun h => ?_) (fun h => ?_)
  · obtain ⟨v, hv⟩ := at_ints (ns := ns) (k := k) hk (by omega)
    walk_at "rd"
    exact q v
  · exact q 0

theorem ok_law_draw (T : Tx K mg) : FnOk P w K mg base (CXe P w) 1 T.f_law_draw T.d_law_draw ["_law_bag", "_law_many"] sp_law_draw := by
  have sc := sc_law_draw
  refine T.F_law_draw.okx sc (fun vs H Q E h => ?_) (fun cdv A outer s H vs Q E hr h => ?_)
  · obtain ⟨b, n, m, rfl, hb, bg, hm, hm2, q⟩ := h
    rfl
  obtain ⟨b, n, m, rfl, hb, bg, hm, hm2, q⟩ := h
  have hu := hr.units0
  have hu2 := hr.units
  refine ⟨_, (@pss_cons _ _ _ _ _ (@ps_if _ _ _ _ _ _ _ _ (@pt_cmpR _ _ _ _ _ _ _ _ op_lt (@pe_ix _ _ _ _ _ _ _ ix_list (pv 0) pe_int (fun _ _ => rfl)) pe_int (nomark _)) (@pss_cons _ _ _ _ _ (@ps_set _ _ 2 _ _ _ _ sc.nd rfl (by first | exact Or.inl rfl | exact Or.inr rfl) (@pe_op _ _ _ _ _ _ _ _ op_sub (pe_un un_neg pe_int) (@pe_ix _ _ _ _ _ _ _ ix_list (pv 0) pe_int (fun _ _ => rfl))) (by rfl) (by first | exact .inl rfl | exact .inr rfl | assumption))
      (@pss_cons _ _ _ _ _ (ps_asg (@pe_op _ _ _ _ _ _ _ _ op_sub (pe_un un_neg pe_int) (@pe_op _ _ _ _ _ _ _ _ op_fdivB (pv 2) (pv 1))) (pg_sub (pv 0) pe_int set_list))
      (@pss_cons _ _ _ _ _ (@ps_if _ _ _ _ _ _ _ _ (@pt_cmpR _ _ _ _ _ _ _ _ op_lt (pv 2) (pv 1) (nomark _)) (@pss_one _ _ _ (ps_asg (@pe_op _ _ _ _ _ _ _ _ op_mod (@pe_op _ _ _ _ _ _ _ _ op_mulB (pv 2) pe_int) pe_int) (pg_sub (pv 0) pe_int set_list))) pss_nil)
      (@pss_one _ _ _ (@ps_ret _ _ _ _ (@pe_op _ _ _ _ _ _ _ _ op_mod (pv 2) (pv 1))))))) pss_nil)
      (@pss_cons _ _ _ _ _ (ps_asg (@pe_op _ _ _ _ _ _ _ _ op_mod (@pe_op _ _ _ _ _ _ _ _ op_add (@pe_op _ _ _ _ _ _ _ _ op_mulB (@pe_ix _ _ _ _ _ _ _ ix_list (pv 0) pe_int (fun _ _ => rfl)) pe_int) pe_int) pe_int) (pg_sub (pv 0) pe_int set_list))
      (@pss_one _ _ _ (@ps_ret _ _ _ _ (@pe_op _ _ _ _ _ _ _ _ op_mod (@pe_op _ _ _ _ _ _ _ _ op_fdivB (@pe_op _ _ _ _ _ _ _ _ op_mod (@pe_op _ _ _ _ _ _ _ _ op_mulB (@pe_ix _ _ _ _ _ _ _ ix_list (pv 0) pe_int (fun _ _ => rfl)) (@pe_op _ _ _ _ _ _ _ _ op_add (@pe_op _ _ _ _ _ _ _ _ op_fdivB (@pe_ix _ _ _ _ _ _ _ ix_list (pv 0) pe_int (fun _ _ => rfl)) pe_int) pe_int)) pe_int) pe_int) (pv 1)))))), ?_⟩
  walk_at "kx"
  have g1 := bg.1
  have g2 := bg.2
  have hb' : H b = some (.lst [.int n.1, .int n.2]) := hb
  have cd : ∀ i, CDivB i m := fun i => cN i hm (by omega)
  have cd1 := cd (-1 - n.1)
  walk_at "rd"
  refine ite3 (fun c => ?_) (fun c => ?_)
  · have d0 := Int.ediv_nonneg (show 0 ≤ -1 - n.1 by omega) (show 0 ≤ m by omega)
    have d1 := Int.ediv_le_self m (show 0 ≤ -1 - n.1 by omega)
    walk_at "rd"
    refine ite3 (fun c2 => ?_) (fun c2 => ?_)
    · have zl : Bz 20 (-1 - n.1) := by
        show (-1 - n.1).natAbs < 2 ^ 20
        omega
      walk_at "rd"
      rw [upd_upd]
      exact q ((-1 - n.1) * 69621 % 2147483647, n.2) _ ⟨by show _ < (-1 - n.1) * 69621 % 2147483647; omega, by show (-1 - n.1) * 69621 % 2147483647 < 2147483647; omega⟩ ⟨Int.emod_nonneg _ (by omega), Int.emod_lt_of_pos _ hm⟩
    · walk_at "rd"
      exact q (-1 - (-1 - n.1) / m, n.2) _ ⟨by show _ < -1 - (-1 - n.1) / m; omega, by show -1 - (-1 - n.1) / m < 2147483647; omega⟩ ⟨Int.emod_nonneg _ (by omega), Int.emod_lt_of_pos _ hm⟩
  · walk_at "rd"
    exact q ((n.1 * 48271 + 4099) % 2147483647, n.2) _ ⟨by show _ < (n.1 * 48271 + 4099) % 2147483647; omega, by show (n.1 * 48271 + 4099) % 2147483647 < 2147483647; omega⟩ ⟨Int.emod_nonneg _ (by omega), Int.emod_lt_of_pos _ hm⟩

theorem ok_law_start (T : Tx K mg) : FnOk P w K mg base (CXe P w) 1 T.f_law_start T.d_law_start ["_law_bag", "_law_cell_here"] sp_start := by
  have sc := sc_law_start
  refine T.F_law_start.okx sc (fun vs H Q E h => ?_) (fun cdv A outer s H vs Q E hr h => ?_)
  · obtain ⟨b, x, r, c, rfl, hb, q⟩ := h
    rfl
  obtain ⟨b, x, r, c, rfl, hb, q⟩ := h
  have hu := hr.units0
  have hu2 := hr.units
  refine ⟨_, (@pss_cons _ _ _ _ _ (@ps_if _ _ _ _ _ _ _ _ (@pt_cmpR _ _ _ _ _ _ _ _ op_eqI (@pe_op _ _ _ _ _ _ _ _ op_mod (pv 1) pe_int) pe_int (nomark _)) (@pss_one _ _ _ (@ps_ret _ _ _ _ (@pe_op _ _ _ _ _ _ _ _ op_sub (pe_un un_neg pe_int) (@pe_op _ _ _ _ _ _ _ _ op_mod (@pe_op _ _ _ _ _ _ _ _ op_fdivB (pv 1) pe_int) (pe_fold (.int 100000000000000000000000000000000000000000000000000000000000000000000000000000000) (@pe_op _ _ _ _ _ _ _ _ op_mulB (@pe_op _ _ _ _ _ _ _ _ op_pow pe_int pe_int) (@pe_op _ _ _ _ _ _ _ _ op_pow pe_int pe_int)) (by walk_at "cf")))))) pss_nil)
      (@pss_one _ _ _ (@ps_ret _ _ _ _ (@pe_op _ _ _ _ _ _ _ _ op_mod (@pe_op _ _ _ _ _ _ _ _ op_add (@pe_ix _ _ _ _ _ _ _ ix_list (pv 0) pe_int (fun _ _ => rfl)) (pv 1)) pe_int)))), ?_⟩
  walk_at "kx"
  have a0 : atI (V.int x :: r) 0 = some (.int x) := by
    have e : atI (V.int x :: r) ((0 : Nat) : Int) = some (.int x) := atI_nat rfl
    exact e
  walk_at "rd"
  refine ite3 (fun e => ?_) (fun e => ?_)
  · walk_at "rd"
    exact q (-1 - c / 2 % 100000000000000000000000000000000000000000000000000000000000000000000000000000000) (by omega) (by omega)
  · walk_at "rd"
    exact q ((x + c) % 2147483647) (by omega) (by omega)

theorem ok_law_words (T : Tx K mg) : FnOk P w K mg base (CXe P w) 1 T.f_law_words T.d_law_words ["_law_cell_here", "_law_many"] sp_law_words := by
  have sc := sc_law_words
  refine T.F_law_words.okx sc (fun vs H Q E h => ?_) (fun cdv A outer s H vs Q E hr h => ?_)
  · obtain ⟨c, m, rfl, m1, m20, q⟩ := h
    rfl
  obtain ⟨c, m, rfl, m1, m20, q⟩ := h
  have hu := hr.units0
  have hu2 := hr.units
  refine ⟨_, (@pss_cons _ _ _ _ _ (@ps_set _ _ 2 _ _ _ _ sc.nd rfl (by first | exact Or.inl rfl | exact Or.inr rfl) pe_str (by rfl) (by first | exact .inl rfl | exact .inr rfl | assumption))
      (@pss_cons _ _ _ _ _ (@ps_set _ _ 3 _ _ _ _ sc.nd rfl (by first | exact Or.inl rfl | exact Or.inr rfl) (@pe_op _ _ _ _ _ _ _ _ op_add pe_int (@pe_op _ _ _ _ _ _ _ _ op_mod (pv 0) pe_int)) (by rfl) (by first | exact .inl rfl | exact .inr rfl | assumption))
      (@pss_cons _ _ _ _ _ (@ps_set _ _ 4 _ _ _ _ sc.nd rfl (by first | exact Or.inl rfl | exact Or.inr rfl) (@pe_op _ _ _ _ _ _ _ _ op_mod (@pe_op _ _ _ _ _ _ _ _ op_fdivB (pv 0) pe_int) (pe_fold (.int 100000000000000000000) (@pe_op _ _ _ _ _ _ _ _ op_pow pe_int pe_int) (by walk_at "cf"))) (by rfl) (by first | exact .inl rfl | exact .inr rfl | assumption))
      (@pss_cons _ _ _ _ _ (@ps_set _ _ 5 _ _ _ _ sc.nd rfl (by first | exact Or.inl rfl | exact Or.inr rfl) pe_str (by rfl) (by first | exact .inl rfl | exact .inr rfl | assumption))
      (@pss_cons _ _ _ _ _ (ps_for powx rfl (pi_range1 rfl T.z_range (pa_cons (pv 3) pa_nil)) (pg_name (i := 6) sc.nd rfl (by first | exact Or.inl rfl | exact Or.inr rfl))
      (@pss_cons _ _ _ _ _ (@ps_set _ _ 5 _ _ _ _ sc.nd rfl (by first | exact Or.inl rfl | exact Or.inr rfl) (@pe_op _ _ _ _ _ _ _ _ op_add_str (pv 5) (@pe_ix _ _ _ _ _ _ _ ix_str (pv 2) (@pe_op _ _ _ _ _ _ _ _ op_mod (pv 4) pe_int) (fun _ _ => rfl))) (by rfl) (by first | exact .inl rfl | exact .inr rfl | assumption))
      (@pss_one _ _ _ (@ps_set _ _ 4 _ _ _ _ sc.nd rfl (by first | exact Or.inl rfl | exact Or.inr rfl) (@pe_op _ _ _ _ _ _ _ _ op_add (@pe_op _ _ _ _ _ _ _ _ op_fdivB (pv 4) pe_int) (@pe_op _ _ _ _ _ _ _ _ op_mulB pe_int (pv 6))) (by rfl) (by first | exact .inl rfl | exact .inr rfl | assumption)))))
      (@pss_cons _ _ _ _ _ (@ps_set _ _ 7 _ _ _ _ sc.nd rfl (by first | exact Or.inl rfl | exact Or.inr rfl) (@pe_lst _ _ _ _ pa_nil) (by rfl) (by first | exact .inl rfl | exact .inr rfl | assumption))
      (@pss_cons _ _ _ _ _ (@ps_mid _ _ _ (@ps_if _ _ _ _ _ _ _ _ (@pt_cmpR _ _ _ _ _ _ _ _ op_eqI (@pe_op _ _ _ _ _ _ _ _ op_mod (@pe_op _ _ _ _ _ _ _ _ op_fdivB (pv 0) pe_int) pe_int) pe_int (nomark _)) (@pss_one _ _ _ (@ps_set _ _ 7 _ _ _ _ sc.nd rfl (by first | exact Or.inl rfl | exact Or.inr rfl) (pe_slice sl_list (pe_lc (ts := ["_law_k"]) (js := [5]) (LcOk.of rfl) rfl (pi_range2 rfl T.z_range (pa_cons pe_int (pa_cons (@pe_op _ _ _ _ _ _ _ _ op_add (pv 3) pe_int) pa_nil))) (fun _ _ _ _ => (pg_name (i := 0) (nodup_of rfl) rfl (Or.inl rfl))) (fun _ _ _ _ => pf_nil) (fun _ _ _ _ => (pe_slice sl_str (pv 1) po_none (po_some (pv 0))))) po_none (po_some (pv 1))) (by rfl) (by first | exact .inl rfl | exact .inr rfl | assumption))) pss_nil))
      (@pss_cons _ _ _ _ _ (@ps_set _ _ 8 _ _ _ _ sc.nd rfl (by first | exact Or.inl rfl | exact Or.inr rfl) (@pe_op _ _ _ _ _ _ _ _ op_mod (@pe_op _ _ _ _ _ _ _ _ op_fdivB (pv 0) pe_int) (pv 3)) (by rfl) (by first | exact .inl rfl | exact .inr rfl | assumption))
      (@pss_cons _ _ _ _ _ (ps_for powx rfl (pi_str (pv 2)) (pg_name (i := 9) sc.nd rfl (by first | exact Or.inl rfl | exact Or.inr rfl))
      (@pss_cons _ _ _ _ _ (@ps_set _ _ 10 _ _ _ _ sc.nd rfl (by first | exact Or.inl rfl | exact Or.inr rfl) (@pe_op _ _ _ _ _ _ _ _ op_add_str (@pe_op _ _ _ _ _ _ _ _ op_add_str (pe_slice sl_str (pv 5) po_none (po_some (pv 8))) (pv 9)) (pe_slice sl_str (pv 5) (po_some (@pe_op _ _ _ _ _ _ _ _ op_add (pv 8) pe_int)) po_none)) (by rfl) (by first | exact .inl rfl | exact .inr rfl | assumption))
      (@pss_one _ _ _ (@ps_if _ _ _ _ _ _ _ _ (PW.pt (pw_and (@pt_cmpR _ _ _ _ _ _ _ _ op_lt (pe_callB call_len_seq rfl T.z_len bt_len (pa_cons (pv 7) pa_nil)) (pv 1) (nomark _)) (pw_and1 (@pt_cmpR _ _ _ _ _ _ _ _ op_notIn_seq (pv 10) (pv 7) (by with_unfolding_all rfl))))) (@pss_one _ _ _ (ps_expr (pe_bm PySem.F.plainAttrs_list PySem.F.slot_list_append PySem.F.type_list_append mt_append (pv 7) (pa_cons (pv 10) pa_nil)))) pss_nil))))
      (@pss_one _ _ _ (@ps_ret _ _ _ _ (pv 7)))))))))))), ?_⟩
  walk_at "kx"
  have lz : ("abcdefghijklmnopqrstuvwxyz" : Str).length ≤ sizeLine := by rw [let_len]; exact sz
  walk_at "rd"
  refine for_range (n := (1 + c % 12).toNat) (fun i σ H' => Iv (H' = H ∧ ∃ (r : Int) (w : Str) (o6 : Option V), σ = [some (.int c), some (.int m), some (.str "abcdefghijklmnopqrstuvwxyz"), some (.int (1 + c % 12)), some (.int r), some (.str w), o6, none, none, none, none] ∧ w.length = i ∧ ∀ x ∈ cds w, 97 ≤ x ∧ x ≤ 122))
    ⟨⟨rfl, _, _, _, rfl, rfl, fun x hx => by cases hx⟩⟩ ?_ ?_
  · rintro i σ H' hi ⟨⟨rfl, r, w, o6, rfl, lw, aw⟩⟩
    have la := let_at (d := r % 26) (by omega) (by omega)
    have l1 := len1 (97 + (r % 26).toNat)
    walk_at "rd"
    exact ⟨⟨rfl, _, _, _, rfl, by rw [lenA, len1, lw], grow_w aw ⟨by omega, by omega⟩⟩⟩
  · rintro σ H' ⟨⟨rfl, r, w, o6, rfl, lw, aw⟩⟩
    have hW : isW w = true := isW_of aw (by omega) (by omega)
    have lw' : (w.length : Int) = 1 + c % 12 := by omega
    have wz : w.length ≤ sizeLine := sz (by omega)
    walk_at "rd"
    rename_i q0 hq0
    refine ⟨fun σ' H2 => Iv (∃ (o6 : Option V) (q1 : Addr) (ws : List Str), σ' = [some (.int c), some (.int m), some (.str "abcdefghijklmnopqrstuvwxyz"), some (.int (1 + c % 12)), some (.int r), some (.str w), o6, some (.ref q1), none, none, none] ∧ H' q1 = none ∧ Same H' H2 ∧ H2 q1 = some (.lst (ws.map V.str)) ∧ Wds ws ∧ (ws.length : Int) ≤ m), ?_, ?_⟩
    · walk_at "rd"
      refine ite3 (fun h0 => ?_) (fun h0 => ?_)
      · walk_at "rd"
        refine lc_range (n := (1 + c % 12 + 1 - 1).toNat) (fun i ys H2 => Iv (H2 = upd H' q0 (.lst []) ∧ ys = ((List.range i).map (pre w)).map V.str)) ⟨⟨rfl, rfl⟩⟩ (fun i ys H2 hi z => ?_) ?_ ?_
        · rw [z.o.2, List.length_map, List.length_map, List.length_range]
          exact small1000 (by omega)
        · rintro i ys H2 hi ⟨⟨rfl, rfl⟩⟩
          walk_at "rd"
          refine ⟨⟨rfl, ?_⟩⟩
          have e : Txt.slice w none (some (1 + (i : Int))) = pre w i := by
            rw [cut_to (by omega) (by omega)]
            unfold pre
            rw [show (1 + (i : Int)).toNat = i + 1 by omega]
          rw [e, List.range_succ, List.map_append, List.map_append]
          rfl
        · rintro ys H2 ⟨⟨rfl, rfl⟩⟩ p hp
          walk_at "rd"
          rename_i q2 hq2
          have en : (1 + c % 12 + 1 - 1).toNat = w.length := by omega
          rw [en] at hq2 ⊢
          rw [cut_strs (by omega)]
          obtain ⟨_, hp0⟩ := upd_none hp
          obtain ⟨_, hq20⟩ := upd_none hq2
          obtain ⟨_, hq20⟩ := upd_none hq20
          have hz : (((List.range w.length).map (pre w)).take m.toNat).length ≤ m.toNat := by rw [List.length_take]; omega
          exact ⟨⟨_, q2, _, rfl, hq20, by walk_at "sm", upd_same, pres hW m.toNat, by omega⟩⟩
      · exact ⟨⟨_, q0, [], rfl, hq0, by walk_at "sm", upd_same, ⟨List.nodup_nil, fun w hw => by cases hw⟩, by show (0 : Int) ≤ m; omega⟩⟩
    · rintro σ' H2 ⟨⟨o6, q1, ws, rfl, hq1, S, h1, wd, lm⟩⟩
      have sp0 := Int.emod_nonneg (c / 7) (show (1 + c % 12 : Int) ≠ 0 by omega)
      have sp1 := Int.emod_lt_of_pos (c / 7) (show (0 : Int) < 1 + c % 12 by omega)
      have s1 := Txt.slice_le w none (some (c / 7 % (1 + c % 12)))
      have s2 := Txt.slice_le w (some (c / 7 % (1 + c % 12) + 1)) none
      have spn : (c / 7 % (1 + c % 12)).toNat < w.length := by omega
      walk_at "rd"
      refine for_str (fun i σ H3 => Iv (∃ (ws : List Str) (o9 o10 : Option V), σ = [some (.int c), some (.int m), some (.str "abcdefghijklmnopqrstuvwxyz"), some (.int (1 + c % 12)), some (.int r), some (.str w), o6, some (.ref q1), some (.int (c / 7 % (1 + c % 12))), o9, o10] ∧ Same H' H3 ∧ H3 q1 = some (.lst (ws.map V.str)) ∧ Wds ws ∧ (ws.length : Int) ≤ m ∧
          ((ws.length : Int) = m ∨ ∀ j < i, nmj w (c / 7 % (1 + c % 12)).toNat j ∈ ws)))
        ⟨⟨ws, _, _, rfl, S, h1, wd, lm, .inr fun j hj => absurd hj (Nat.not_lt_zero j)⟩⟩ ?_ ?_
      · rintro i cc σ H3 hi ⟨⟨ws, o9, o10, rfl, S3, h3, wd, lm, dn⟩⟩
        obtain ⟨rfl, i26⟩ := let_cp hi
        have l1 := len1 (97 + i)
        have wl : (ws.map V.str).length = ws.length := List.length_map _
        have e : Txt.slice w none (some (c / 7 % (1 + c % 12))) ++ ⟨#[97 + i]⟩ ++ Txt.slice w (some (c / 7 % (1 + c % 12) + 1)) none = nmj w (c / 7 % (1 + c % 12)).toNat i := by
          rw [cut_to (by omega) (by omega), cut_from (by omega) (by omega)]
          refine str_ext ?_
          rw [cds_app, cds_app]
          unfold nmj
          rw [show (c / 7 % (1 + c % 12) + 1).toNat = (c / 7 % (1 + c % 12)).toNat + 1 by omega]
        have l2 := lenA (Txt.slice w none (some (c / 7 % (1 + c % 12)))) ⟨#[97 + i]⟩
        have fl : (ws.map V.str).all flatV = true := by rw [List.all_map]; exact List.all_eq_true.mpr fun _ _ => rfl
        have stay : ∀ j, j < i + 1 → j ≠ i → j < i := fun j h1 h2 => by omega
        walk_at "rd"
        rw [e]
        refine ite3 (fun hlt => ?_) (fun hge => ?_)
        · walk_at "rd"
          rw [inV_str]
          refine ite3n (fun hn => ?_) (fun hm => ?_)
          · walk_at "rd"
            refine ⟨⟨ws ++ [nmj w (c / 7 % (1 + c % 12)).toNat i], _, _, rfl, S3.upd hq1 _, by rw [List.map_append]; exact upd_same, ⟨?_, ?_⟩, by rw [List.length_append, List.length_singleton]; omega, .inr fun j hj => ?_⟩⟩
            · rw [List.nodup_append]
              exact ⟨wd.nd, List.nodup_cons.mpr ⟨List.not_mem_nil, List.nodup_nil⟩, fun a ha b hb z => hn (by rw [← List.mem_singleton.mp hb, ← z]; exact ha)⟩
            · intro x hx
              rcases List.mem_append.mp hx with hx | hx
              · exact wd.ok x hx
              · rw [List.mem_singleton.mp hx]; exact nmj_isW hW spn i26
            · by_cases hji : j = i
              · rw [hji]; exact List.mem_append_right _ (List.mem_singleton.mpr rfl)
              · rcases dn with z | z
                · omega
                · exact List.mem_append_left _ (z j (stay j hj hji))
          · refine ⟨⟨ws, _, _, rfl, S3, h3, wd, lm, dn.imp id fun z j hj => ?_⟩⟩
            by_cases hji : j = i
            · rw [hji]; exact hm
            · exact z j (stay j hj hji)
        · walk_at "rd"
          exact ⟨⟨ws, _, _, rfl, S3, h3, wd, lm, .inl (by omega)⟩⟩
      · rintro σ H3 ⟨⟨ws, o9, o10, rfl, S3, h3, wd, lm, dn⟩⟩
        walk_at "rd"
        refine q ws _ q1 ?_ wd S3 hq1 h3
        rcases dn with z | z
        · exact z
        · rw [let_size] at z
          have := all26 z
          omega

theorem ok_law_pool (T : Tx K mg) : FnOk P w K mg base (CXe P w) 1 T.f_law_pool T.d_law_pool ["_law_cell_here"] sp_law_pool := by
  have sc := sc_law_pool
  refine T.F_law_pool.okx sc (fun vs H Q E h => ?_) (fun cdv A outer s H vs Q E hr h => ?_)
  · obtain ⟨c, rfl, q⟩ := h
    rfl
  obtain ⟨c, rfl, q⟩ := h
  have hu := hr.units0
  have hu2 := hr.units
  refine ⟨_, (@pss_cons _ _ _ _ _ (@ps_set _ _ 1 _ _ _ _ sc.nd rfl (by first | exact Or.inl rfl | exact Or.inr rfl) (@pe_op _ _ _ _ _ _ _ _ op_mod (pv 0) (pe_fold (.int 100000000000000000000000000000) (@pe_op _ _ _ _ _ _ _ _ op_pow pe_int pe_int) (by walk_at "cf"))) (by rfl) (by first | exact .inl rfl | exact .inr rfl | assumption))
      (@pss_cons _ _ _ _ _ (@ps_set _ _ 2 _ _ _ _ sc.nd rfl (by first | exact Or.inl rfl | exact Or.inr rfl) (@pe_op _ _ _ _ _ _ _ _ op_mod (pv 0) pe_int) (by rfl) (by first | exact .inl rfl | exact .inr rfl | assumption))
      (@pss_cons _ _ _ _ _ (@ps_if _ _ _ _ _ _ _ _ (@pt_cmpR _ _ _ _ _ _ _ _ op_eqI (pv 2) pe_int (nomark _)) (@pss_one _ _ _ (@ps_ret _ _ _ _ (@pe_lst _ _ _ _ (pa_cons (pe_un un_neg pe_int) (pa_cons pe_int (pa_cons pe_int (pa_cons pe_int (pa_cons pe_int (pa_cons pe_int (pa_cons (pe_un un_neg pe_int) pa_nil)))))))))) pss_nil)
      (@pss_cons _ _ _ _ _ (@ps_if _ _ _ _ _ _ _ _ (@pt_cmpR _ _ _ _ _ _ _ _ op_eqI (pv 2) pe_int (nomark _)) (@pss_one _ _ _ (@ps_ret _ _ _ _ (@pe_lst _ _ _ _ (pa_cons (pv 1) (pa_cons (@pe_op _ _ _ _ _ _ _ _ op_add (pv 1) pe_int) (pa_cons (@pe_op _ _ _ _ _ _ _ _ op_add (pv 1) pe_int) (pa_cons (pe_un un_neg (pv 1)) (pa_cons pe_int (pa_cons (@pe_op _ _ _ _ _ _ _ _ op_sub pe_int (pv 1)) (pa_cons pe_int pa_nil)))))))))) pss_nil)
      (@pss_cons _ _ _ _ _ (@ps_if _ _ _ _ _ _ _ _ (@pt_cmpR _ _ _ _ _ _ _ _ op_eqI (pv 2) pe_int (nomark _)) (@pss_one _ _ _ (@ps_ret _ _ _ _ (@pe_lst _ _ _ _ (pa_cons (pe_un un_neg (pv 1)) (pa_cons (@pe_op _ _ _ _ _ _ _ _ op_sub (pe_un un_neg (pv 1)) pe_int) (pa_cons (pe_fold (.int 999999999999999999999999999999) (@pe_op _ _ _ _ _ _ _ _ op_sub (@pe_op _ _ _ _ _ _ _ _ op_pow pe_int pe_int) pe_int) (by walk_at "cf")) (pa_cons (pe_fold (.int (-999999999999999999999999999999)) (@pe_op _ _ _ _ _ _ _ _ op_sub pe_int (@pe_op _ _ _ _ _ _ _ _ op_pow pe_int pe_int)) (by walk_at "cf")) (pa_cons (@pe_op _ _ _ _ _ _ _ _ op_fdivB (pv 1) pe_int) (pa_cons pe_int (pa_cons (pe_un un_neg pe_int) pa_nil)))))))))) pss_nil)
      (@pss_one _ _ _ (@ps_ret _ _ _ _ (@pe_lst _ _ _ _ (pa_cons (pv 1) (pa_cons (@pe_op _ _ _ _ _ _ _ _ op_fdivB (pv 1) (pe_fold (.int 10000) (@pe_op _ _ _ _ _ _ _ _ op_pow pe_int pe_int) (by walk_at "cf"))) (pa_cons (@pe_op _ _ _ _ _ _ _ _ op_fdivB (pv 1) (pe_fold (.int 100000000) (@pe_op _ _ _ _ _ _ _ _ op_pow pe_int pe_int) (by walk_at "cf"))) (pa_cons (@pe_op _ _ _ _ _ _ _ _ op_fdivB (pv 1) (pe_fold (.int 100000000000000) (@pe_op _ _ _ _ _ _ _ _ op_pow pe_int pe_int) (by walk_at "cf"))) (pa_cons (@pe_op _ _ _ _ _ _ _ _ op_fdivB (pv 1) (pe_fold (.int 100000000000000000000) (@pe_op _ _ _ _ _ _ _ _ op_pow pe_int pe_int) (by walk_at "cf"))) (pa_cons (@pe_op _ _ _ _ _ _ _ _ op_fdivB (pv 1) (pe_fold (.int 10000000000000000000000000) (@pe_op _ _ _ _ _ _ _ _ op_pow pe_int pe_int) (by walk_at "cf"))) (pa_cons (@pe_op _ _ _ _ _ _ _ _ op_mod (pv 1) pe_int) pa_nil))))))))))))))), ?_⟩
  walk_at "kx"
  walk_at "rd"
  refine ite3 (fun h => ?_) (fun h => ?_)
  · walk_at "rd"
    exact q [_, _, _, _, _, _, _] _ rfl (by assumption)
  · walk_at "rd"
    refine ite3 (fun h => ?_) (fun h => ?_)
    · walk_at "rd"
      exact q [_, _, _, _, _, _, _] _ rfl (by assumption)
    · walk_at "rd"
      refine ite3 (fun h => ?_) (fun h => ?_)
      · walk_at "rd"
        exact q [_, _, _, _, _, _, _] _ rfl (by assumption)
      · walk_at "rd"
        exact q [_, _, _, _, _, _, _] _ rfl (by assumption)

theorem ok_law_columns (T : Tx K mg) : FnOk P w K mg base (CXe P w) 2 T.f_law_columns T.d_law_columns ["_law_bag", "_law_some", "_law_many"] (sp_law_columns K) := by
  have sc := sc_law_columns
  refine T.F_law_columns.okx sc (fun vs H Q E h => ?_) (fun cdv A outer s H vs Q E hr h => ?_)
  · obtain ⟨b, sa, n, m, ws, rfl, hb, bg, hs, nbs, wd, m1, m6, mw, q⟩ := h
    rfl
  obtain ⟨b, sa, n, m, ws, rfl, hb, bg, hs, nbs, wd, m1, m6, mw, q⟩ := h
  have hu := hr.units0
  have hu2 := hr.units
  refine ⟨_, (@pss_cons _ _ _ _ _ (@ps_set _ _ 3 _ _ _ _ sc.nd rfl (by first | exact Or.inl rfl | exact Or.inr rfl) (@pe_lst _ _ _ _ pa_nil) (by rfl) (by first | exact .inl rfl | exact .inr rfl | assumption))
      (@pss_cons _ _ _ _ _ (ps_for powx rfl (pi_range1 rfl T.z_range (pa_cons (pv 2) pa_nil)) (pg_name (i := 4) sc.nd rfl (by first | exact Or.inl rfl | exact Or.inr rfl))
      (@pss_one _ _ _ (ps_expr (pe_bm PySem.F.plainAttrs_list PySem.F.slot_list_append PySem.F.type_list_append mt_append (pv 3) (pa_cons (pe_tup (pa_cons (@pe_ix _ _ _ _ _ _ _ ix_list (pv 1) (pv 4) (fun _ _ => rfl)) (pa_cons (@pe_ix _ _ _ _ _ _ _ ix_list (@pe_lst _ _ _ _ (pa_cons pe_str (pa_cons pe_str (pa_cons pe_str pa_nil se_c) se_c) se_c)) (pe_call (ok_law_draw T) (hr.mono (by decide)) rfl T.m_law_draw T.F_law_draw.kp T.b_law_draw .nil (pass_e fun _ _ z => z) (pa_cons (pv 0) (pa_cons pe_int pa_nil))) (fun _ _ => rfl)) pa_nil))) pa_nil)))))
      (@pss_one _ _ _ (@ps_ret _ _ _ _ (pv 3))))), ?_⟩
  walk_at "kx"
  have hwl : (ws.map V.str).length = ws.length := List.length_map _
  walk_at "rd"
  rename_i p hp
  have nbp := ne_of_none hb hp
  have nsp := ne_of_none hs hp
  refine for_range (n := m.toNat) (fun i σ H' => Iv (∃ (n' : Int × Int) (xs : List V) (cs : List (Str × Str)) (o1 : Option V), σ = [some (.ref b), some (.ref sa), some (.int m), some (.ref p), o1] ∧ Bg n' ∧ SameB b H H' ∧ H' b = some (.lst (bgL n')) ∧ H' p = some (.lst xs) ∧ TVs K H' xs (cs.map colD) ∧ cs.length = i ∧
      cs.map (·.1) = ws.take i ∧ ∀ c ∈ cs, c.2 = "number" ∨ c.2 = "word"))
    ⟨⟨n, [], [], _, rfl, bg, (SameB.refl b H).new hp _, by walk_at "hp", upd_same, .nil, rfl, rfl, fun c hc => by cases hc⟩⟩ ?_ ?_
  · rintro i σ H' hi ⟨⟨n', xs, cs, o1, rfl, bg', S, hb', hp', tv, lc, nm, so⟩⟩
    have hs' := S _ _ (Ne.symm nbs) hs
    have iw : i < ws.length := by omega
    have ew : atI (ws.map V.str) (0 + (i : Int)) = some (.str ws[i]) := by
      have e : atI (ws.map V.str) ((i : Nat) : Int) = some (.str ws[i]) := atI_nat (by rw [List.getElem?_map, List.getElem?_eq_getElem iw]; rfl)
      rw [Int.zero_add]; exact e
    have lx : xs.length < 1000 := by have := tv.length; rw [List.length_map] at this; omega
    walk_at "rd"
    rename_i q1 hq1 n2 d bg2 hd
    have es := srt_at hd.1 hd.2
    have nq1 := ne_of_none hb' hq1
    have nq1' := Ne.symm nq1
    have npb : p ≠ b := Ne.symm nbp
    have npq := ne_of_none hp' hq1
    walk_at "rd"
    rename_i q2 hq2
    obtain ⟨m1', hq2⟩ := upd_none hq2
    obtain ⟨m2', hq2⟩ := upd_none hq2
    have S2 : SameB b H (upd (upd (upd (upd H' q1 (.lst [V.str "number", V.str "number", V.str "word"])) b (.lst (bgL n2))) q2 (.tup [.str ws[i], .str (srt d)])) p (.lst (xs ++ [.ref q2]))) := fun c o n e => by
      have e1 := S _ _ n e
      rw [upd_ne (ne_of_none e hp), upd_ne (ne_of_none e1 hq2), upd_ne n, upd_ne (ne_of_none e1 hq1)]
      exact e1
    have T2 : SameT H' (upd (upd (upd (upd H' q1 (.lst [V.str "number", V.str "number", V.str "word"])) b (.lst (bgL n2))) q2 (.tup [.str ws[i], .str (srt d)])) p (.lst (xs ++ [.ref q2]))) := fun c zs e => by
      rw [upd_ne (ne_of e hp' (by intro z; cases z)), upd_ne (ne_of_none e hq2), upd_ne (ne_of e hb' (by intro z; cases z)), upd_ne (ne_of_none e hq1)]
      exact e
    refine ⟨⟨n2, _, cs ++ [(ws[i], srt d)], _, rfl, bg2, S2, ?_, upd_same, ?_, by rw [List.length_append, lc]; rfl, ?_, ?_⟩⟩
    · rw [upd_ne nbp, upd_ne (Ne.symm m1')]
      exact upd_same
    · rw [List.map_append]
      refine (tv.mono T2).append (.cons (.tup (xs := [.str ws[i], .str (srt d)]) ?_ (.cons (.str _) (.cons (.str _) .nil))) .nil)
      rw [upd_ne (Ne.symm (ne_of_none hp' hq2))]
      exact upd_same
    · rw [List.map_append, nm, List.take_add_one, List.getElem?_eq_getElem iw]
      rfl
    · intro c hc
      rcases List.mem_append.mp hc with hc | hc
      · exact so c hc
      · rw [List.mem_singleton.mp hc]
        exact srt_or d
  · rintro σ H' ⟨⟨n', xs, cs, o1, rfl, bg', S, hb', hp', tv, lc, nm, so⟩⟩
    walk_at "rd"
    have ln : cs.length = m.toNat := lc
    refine q _ n' p xs cs bg' S hb' hp hp' tv ⟨by omega, by omega, fun c hc => ?_, so, ?_⟩
    · have : c.1 ∈ ws.take m.toNat := by rw [← nm]; exact List.mem_map_of_mem hc
      exact wd.ok _ (List.mem_of_mem_take this)
    · rw [nm]
      exact wd.nd.sublist (List.take_sublist _ _)

theorem ok_law_counted (T : Tx K mg) : FnOk P w K mg base (CXe P w) 2 T.f_law_counted T.d_law_counted ["_law_bag", "_law_some"] (sp_counted19 K) := by
  have sc := sc_law_counted
  refine T.F_law_counted.okx sc (fun vs H Q E h => ?_) (fun cdv A outer s H vs Q E hr h => ?_)
  · obtain ⟨b, sa, n, ws, rfl, hb, bg, hsa, nbs, hw, w4, q⟩ := h
    rfl
  obtain ⟨b, sa, n, ws, rfl, hb, bg, hsa, nbs, hw, w4, q⟩ := h
  have hu := hr.units0
  have hu2 := hr.units
  refine ⟨_, (@pss_cons _ _ _ _ _ (by first | exact ps_setLC (i := 2) sc.nd rfl (by first | exact Or.inl rfl | exact Or.inr rfl) (ts := ["_law_k"]) (js := [0]) (LcOk.of rfl) rfl (pi_range1 rfl T.z_range (pa_cons pe_int pa_nil)) (fun _ _ _ _ => (pg_name (i := 0) (nodup_of rfl) rfl (Or.inl rfl))) (fun _ _ _ _ => pf_nil) (fun _ _ _ _ => (pe_call (ok_law_draw T) (hr.mono (by decide)) rfl T.m_law_draw T.F_law_draw.kp T.b_law_draw .nil passN (pa_cons (pv 1) (pa_cons pe_int pa_nil)))) | exact ps_set (i := 2) sc.nd rfl (by first | exact Or.inl rfl | exact Or.inr rfl) (pe_lc (ts := ["_law_k"]) (js := [0]) (LcOk.of rfl) rfl (pi_range1 rfl T.z_range (pa_cons pe_int pa_nil)) (fun _ _ _ _ => (pg_name (i := 0) (nodup_of rfl) rfl (Or.inl rfl))) (fun _ _ _ _ => pf_nil) (fun _ _ _ _ => (pe_call (ok_law_draw T) (hr.mono (by decide)) rfl T.m_law_draw T.F_law_draw.kp T.b_law_draw .nil passN (pa_cons (pv 1) (pa_cons pe_int pa_nil))))))
      (@pss_one _ _ _ (@ps_ret _ _ _ _ (pe_lc (ts := ["_law_k"]) (js := [1, 2]) (LcOk.of rfl) rfl (pi_range1 rfl T.z_range (pa_cons pe_int pa_nil)) (fun _ _ _ _ => (pg_name (i := 0) (nodup_of rfl) rfl (Or.inl rfl))) (fun _ _ _ _ => (pf_one (@pt_cmpR _ _ _ _ _ _ _ _ op_gt (@pe_ix _ _ _ _ _ _ _ ix_list (pv 2) (pv 0) (fun _ _ => rfl)) pe_int (nomark _)))) (fun _ _ _ _ => (pe_tup (pa_cons (@pe_ix _ _ _ _ _ _ _ ix_list (pv 1) (pv 0) (fun _ _ => rfl)) (pa_cons (@pe_ix _ _ _ _ _ _ _ ix_list (pv 2) (pv 0) (fun _ _ => rfl)) pa_nil)))))))), ?_⟩
  walk_at "kx"
  have wl : (ws.map V.str).length = ws.length := List.length_map _
  have nbs' : sa ≠ b := Ne.symm nbs
  walk_at "rd"
  refine lc_range (n := Int.toNat 3) (fun i ys H2 => Iv (∃ (n' : Int × Int) (zs : List Int), ys = zs.map V.int ∧ zs.length = i ∧ Bg n' ∧ SameB b H H2 ∧ H2 b = some (.lst (bgL n')))) ⟨⟨n, [], rfl, rfl, bg, SameB.refl b H, hb⟩⟩ (fun i ys H2 hi z => ?_) ?_ ?_
  · obtain ⟨_, zs, e, l, _⟩ := z.o
    rw [e, List.length_map, l]
    have : Int.toNat 3 = 3 := rfl
    exact small1000 (by omega)
  · rintro i ys H2 hi ⟨⟨n', zs, rfl, lz, bg', SB, hb2⟩⟩
    walk_at "rd"
    rename_i n2 d bg2 hd
    exact ⟨⟨n2, zs ++ [d], by rw [List.map_append]; rfl, by rw [List.length_append, lz]; rfl, bg2, SB.at _, upd_same⟩⟩
  · rintro ys H2 ⟨⟨n', zs, rfl, lz, bg', SB, hb2⟩⟩ p hp
    have zl : (zs.map V.int).length = zs.length := List.length_map _
    have l3 : zs.length = 3 := lz
    have SP := same_new hp (H := H2) (.lst (zs.map V.int))
    have hp1 := upd_same (H := H2) (a := p) (o := .lst (zs.map V.int))
    have hsa1 := SP _ _ (SB _ _ nbs' hsa)
    have hb3 := SP _ _ hb2
    have SB1 : SameB b H (upd H2 p (.lst (zs.map V.int))) := SB.new hp _
    generalize upd H2 p (.lst (zs.map V.int)) = H3 at hp1 hsa1 hb3 SB1 ⊢
    walk_at "rd"
    refine lc_range (n := Int.toNat 3) (fun i ys H4 => Iv (∃ (cs : List (Str × Int)), Same H3 H4 ∧ TVs K H4 ys (cs.map cD) ∧ (∀ c ∈ cs, isW c.1 = true) ∧ cs.length ≤ i)) ⟨⟨[], Same.refl _, .nil, (fun c hc => by cases hc), Nat.le_refl _⟩⟩ (fun i ys H4 hi z => ?_) ?_ ?_
    · obtain ⟨cs, _, tv, _, l⟩ := z.o
      have := tv.length
      rw [List.length_map] at this
      have : Int.toNat 3 = 3 := rfl
      exact small1000 (by omega)
    · rintro i ys H4 hi ⟨⟨cs, S4, tv, ok, lc⟩⟩
      have i3 : i < 3 := hi
      have hp4 := S4 _ _ hp1
      have hs4 := S4 _ _ hsa1
      have ww := hw _ (getD_mem (Str.empty : Str) (show (0 + (i : Int)).toNat < ws.length by omega))
      walk_at "rd"
      refine ite3 (fun e => ?_) (fun e => ?_)
      · walk_at "rd"
        rename_i pp hpp
        have SQ := same_new hpp (H := H4) (.tup [.str (ws.getD (0 + (i : Int)).toNat Str.empty), .int (zs.getD (0 + (i : Int)).toNat 0)])
        refine ⟨⟨cs ++ [(ws.getD (0 + (i : Int)).toNat Str.empty, zs.getD (0 + (i : Int)).toNat 0)], S4.trans SQ, ?_, fun x hx => ?_, by rw [List.length_append]; show _ + 1 ≤ _; omega⟩⟩
        · rw [List.map_append]
          exact (tv.mono SQ.t).append (.cons (.tup (xs := [.str (ws.getD (0 + (i : Int)).toNat Str.empty), .int (zs.getD (0 + (i : Int)).toNat 0)]) upd_same (.cons (.str _) (.cons (.int _) .nil))) .nil)
        · rcases List.mem_append.mp hx with hx | hx
          · exact ok x hx
          · rw [List.mem_singleton.mp hx]; exact ww
      · walk_at "rd"
        exact ⟨⟨cs, S4, tv, ok, by omega⟩⟩
    · rintro ys H4 ⟨⟨cs, S4, tv, ok, lc⟩⟩ pr hpr
      walk_at "rd"
      have SR := same_new hpr (H := H4) (.lst ys)
      have i3 : Int.toNat 3 = 3 := rfl
      refine q _ n' pr cs bg' (fun c o nc e => SR _ _ (S4 _ _ (SB1 _ _ nc e))) (SR _ _ (S4 _ _ hb3)) ?_ ⟨ys, upd_same, tv.mono SR.t⟩ ok (by omega)
      cases e : H pr with
      | none => rfl
      | some o =>
        by_cases eb : pr = b
        · rw [eb] at hpr; rw [S4 _ _ hb3] at hpr; cases hpr
        · rw [S4 _ _ (SB1 _ _ eb e)] at hpr; cases hpr

theorem ok_law_question (T : Tx K mg) : FnOk P w K mg base (CXe P w) 2 T.f_law_question T.d_law_question ["_law_bag", "_law_columns_here", "_law_pool_here", "_law_some"] (sp_question19 K) := by
  have sc := sc_law_question
  refine T.F_law_question.okx sc (fun vs H Q E h => ?_) (fun cdv A outer s H vs Q E hr h => ?_)
  · obtain ⟨b, ca, pa, sa, n, xs, cs, ns, ws, rfl, hb, bg, hc, tv, gc, hpa, l7, hsa, wd, w4, nc, np, ns', q⟩ := h
    rfl
  obtain ⟨b, ca, pa, sa, n, xs, cs, ns, ws, rfl, hb, bg, hc, tv, gc, hpa, l7, hsa, wd, w4, nc, np, ns', q⟩ := h
  have hu := hr.units0
  have hu2 := hr.units
  refine ⟨_, (@pss_cons _ _ _ _ _ (@ps_mid _ _ _ (@ps_set _ _ 4 _ _ _ _ sc.nd rfl (by first | exact Or.inl rfl | exact Or.inr rfl) (pe_call (ok_law_draw T) (hr.mono (by decide)) rfl T.m_law_draw T.F_law_draw.kp T.b_law_draw .nil (pass_e fun _ _ z => z) (pa_cons (pv 0) (pa_cons (pe_callB call_len_seq rfl T.z_len bt_len (pa_cons (pv 1) pa_nil)) pa_nil))) (by rfl) (by first | exact .inl rfl | exact .inr rfl | assumption)))
      (@pss_cons _ _ _ _ _ (@ps_if _ _ _ _ _ _ _ _ (@pt_cmpR _ _ _ _ _ _ _ _ op_eqS (@pe_ix _ _ _ _ _ _ _ ix_tup (@pe_ix _ _ _ _ _ _ _ ix_list (pv 1) (pv 4) (fun _ _ => rfl)) pe_int (fun _ _ => rfl)) pe_str (nomark _)) (@pss_one _ _ _ (@ps_ret _ _ _ _ (pe_tup (pa_cons pe_str (pa_cons (pv 4) (pa_cons (@pe_ix _ _ _ _ _ _ _ ix_list (pv 3) (pe_call (ok_law_draw T) (hr.mono (by decide)) rfl T.m_law_draw T.F_law_draw.kp T.b_law_draw .nil (pass_e fun _ _ z => z) (pa_cons (pv 0) (pa_cons pe_int pa_nil))) (fun _ _ => rfl)) pa_nil)) se_c)))) pss_nil)
      (@pss_one _ _ _ (@ps_ret _ _ _ _ (pe_tup (pa_cons pe_str (pa_cons (pv 4) (pa_cons (@pe_ix _ _ _ _ _ _ _ ix_list (pv 2) (pe_call (ok_law_draw T) (hr.mono (by decide)) rfl T.m_law_draw T.F_law_draw.kp T.b_law_draw .nil (pass_e fun _ _ z => z) (pa_cons (pv 0) (pa_cons pe_int pa_nil))) (fun _ _ => rfl)) pa_nil)) se_c)))))), ?_⟩
  walk_at "kx"
  have hlen : xs.length = cs.length := by have := tv.length; rw [List.length_map] at this; exact this
  have g1 := gc.lo
  have g6 := gc.hi
  have wl : (ws.map V.str).length = ws.length := List.length_map _
  have nl : (ns.map V.int).length = ns.length := List.length_map _
  have n1' : ca ≠ b := Ne.symm nc
  have n2' : pa ≠ b := Ne.symm np
  have n3' : sa ≠ b := Ne.symm ns'
  refine ⟨fun σ' H1 => Iv (∃ (n' : Int × Int) (d : Int), Bg n' ∧ (0 ≤ d ∧ d < (cs.length : Int)) ∧ σ' = [some (.ref b), some (.ref ca), some (.ref pa), some (.ref sa), some (.int d)] ∧ H1 = upd H b (.lst (bgL n'))), ?_, ?_⟩
  · walk_at "rd"
    rename_i n' d bg' hd
    exact ⟨⟨n', d, bg', ⟨hd.1, by rw [← hlen]; exact hd.2⟩, rfl, rfl⟩⟩
  rintro σ' H1 ⟨⟨n', d, bg', hd, rfl, rfl⟩⟩
  obtain ⟨x, hx⟩ : ∃ x, xs[d.toNat]? = some x := ⟨_, List.getElem?_eq_getElem (by omega)⟩
  obtain ⟨dd, hdd, t1⟩ := tv.get hx
  rw [List.getElem?_map] at hdd
  obtain ⟨c, hc', rfl⟩ := Option.map_eq_some_iff.mp hdd
  obtain ⟨ap, u, v, rfl, hap, v1, v2⟩ := t1.pair
  obtain rfl := v1.strs
  obtain rfl := v2.strs
  have ex : atI xs d = some (.ref ap) := by
    have e : atI xs ((d.toNat : Nat) : Int) = some (.ref ap) := atI_nat hx
    rw [show ((d.toNat : Nat) : Int) = d by omega] at e
    exact e
  have nab : ap ≠ b := ne_of hap hb (by intro z; cases z)
  have ed : ((d.toNat : Nat) : Int) = d := by omega
  walk_at "rd"
  refine ite3 (fun hw => ?_) (fun hw => ?_)
  · walk_at "rd"
    rename_i n2 d2 bg2 hd2 p hp
    obtain ⟨npb, hp⟩ := upd_none hp
    obtain ⟨_, hp⟩ := upd_none hp
    refine q _ n2 p ⟨"is", d.toNat, .inr (ws.getD d2.toNat Str.empty)⟩ bg2 (fun e o ne ee => ?_) (by rw [upd_ne (Ne.symm npb)]; exact upd_same) hp (by rw [upd_same]; unfold qV; rw [ed]; rfl) ⟨c, hc', .inr ⟨rfl, hw, _, rfl, wd.ok _ (getD_mem (Str.empty : Str) (by omega))⟩⟩
    rw [upd_ne (ne_of_none ee hp), upd_ne ne, upd_ne ne]
    exact ee
  · have hn : c.2 = "number" := (gc.so c (List.mem_of_getElem? hc')).resolve_right hw
    walk_at "rd"
    rename_i n2 d2 bg2 hd2 p hp
    obtain ⟨npb, hp⟩ := upd_none hp
    obtain ⟨_, hp⟩ := upd_none hp
    refine q _ n2 p ⟨"most", d.toNat, .inl (ns.getD d2.toNat 0)⟩ bg2 (fun e o ne ee => ?_) (by rw [upd_ne (Ne.symm npb)]; exact upd_same) hp (by rw [upd_same]; unfold qV; rw [ed]; rfl) ⟨c, hc', .inl ⟨rfl, hn, _, rfl⟩⟩
    rw [upd_ne (ne_of_none ee hp), upd_ne ne, upd_ne ne]
    exact ee

theorem ok_law_drawn0 (T : Tx K mg) : FnOk P w K mg base (CXe P w) (0 + 3) T.f_law_drawn T.d_law_drawn ["_law_bag", "_law_columns_here", "_law_pool_here", "_law_some", "_law_deep"] (sp_drawn K 0) := by
  have sc := sc_law_drawn
  refine T.F_law_drawn.okx sc (fun vs H Q E h => ?_) (fun cdv A outer s H vs Q E hr h => ?_)
  · obtain ⟨b, ca, pa, sa, n, xs, cs, ns, ws, e, rfl, ee, hb, bg, st, q⟩ := h
    rfl
  obtain ⟨b, ca, pa, sa, n, xs, cs, ns, ws, e, rfl, ee, hb, bg, st, q⟩ := h
  have hu := hr.units0
  have hu2 := hr.units
  refine ⟨_, (@pss_cons _ _ _ _ _ (@ps_mid _ _ _ (@ps_set _ _ 5 _ _ _ _ sc.nd rfl (by first | exact Or.inl rfl | exact Or.inr rfl) (pe_call (ok_law_counted T) (hr.mono (by decide)) rfl T.m_law_counted T.F_law_counted.kp T.b_law_counted .nil (pass_e fun _ _ z => z) (pa_cons (pv 0) (pa_cons (pv 3) pa_nil))) (by rfl) (by first | exact .inl rfl | exact .inr rfl | assumption)))
      (@pss_cons _ _ _ _ _ (@ps_if _ _ _ _ _ _ _ _ (PW.pt (pw_or (@pt_cmpR _ _ _ _ _ _ _ _ op_eqI (pv 4) pe_int (nomark _)) (pw_or (@pt_cmpR _ _ _ _ _ _ _ _ op_eqI (@pe_ix _ _ _ _ _ _ _ ix_list (pv 0) pe_int (fun _ _ => rfl)) pe_int (nomark _)) (pw_or1 (@pt_cmpR _ _ _ _ _ _ _ _ op_eqI (pe_call (ok_law_draw T) (hr.mono (by decide)) rfl T.m_law_draw T.F_law_draw.kp T.b_law_draw .nil (pass_e fun _ _ z => z) (pa_cons (pv 0) (pa_cons pe_int pa_nil))) pe_int (nomark _)))))) (@pss_one _ _ _ (@ps_ret _ _ _ _ (pe_tup (pa_cons (pv 5) (pa_cons pe_non (pa_cons pe_non (pa_cons pe_non pa_nil))))))) pss_nil)
      (@pss_cons _ _ _ _ _ (ps_asg (@pe_op _ _ _ _ _ _ _ _ op_sub (@pe_ix _ _ _ _ _ _ _ ix_list (pv 0) pe_int (fun _ _ => rfl)) pe_int) (pg_sub (pv 0) pe_int set_list))
      (@pss_cons _ _ _ _ _ (@ps_mid _ _ _ (@ps_set _ _ 6 _ _ _ _ sc.nd rfl (by first | exact Or.inl rfl | exact Or.inr rfl) (pe_call (ok_law_question T) (hr.mono (by decide)) rfl T.m_law_question T.F_law_question.kp T.b_law_question .nil (pass_e fun _ _ z => z) (pa_cons (pv 0) (pa_cons (pv 1) (pa_cons (pv 2) (pa_cons (pv 3) pa_nil))))) (by rfl) (by first | exact .inl rfl | exact .inr rfl | assumption)))
      (@pss_cons _ _ _ _ _ ps_never
      (@pss_cons _ _ _ _ _ (@ps_if _ _ _ _ _ _ _ _ (@pt_cmpR _ _ _ _ _ _ _ _ op_eqI (pe_call (ok_law_draw T) (hr.mono (by decide)) rfl T.m_law_draw T.F_law_draw.kp T.b_law_draw .nil (pass_e fun _ _ z => z) (pa_cons (pv 0) (pa_cons pe_int pa_nil))) pe_int (nomark _)) (@pss_one _ _ _ (@ps_ret _ _ _ _ (pe_tup (pa_cons (pv 5) (pa_cons (pv 6) (pa_cons (pv 7) (pa_cons (pv 7) pa_nil))))))) pss_nil)
      (@pss_one _ _ _ ps_never))))))), ?_⟩
  walk_at "kx"
  obtain ⟨hc, tv, gc, hp, l7, hs, wd, w4, nc, np, ns'⟩ := id st
  have wok := wd.ok
  refine ⟨fun σ' H1 => Iv (∃ (n1 : Int × Int) (l : Addr) (c1 : List (Str × Int)), σ' = [some (.ref b), some (.ref ca), some (.ref pa), some (.ref sa), some (.int e), some (.ref l), none, none] ∧ Bg n1 ∧ SameB b H H1 ∧ H1 b = some (.lst (bgL n1)) ∧ l ≠ b ∧ Cn K H1 l c1 ∧ (∀ c ∈ c1, isW c.1 = true) ∧ c1.length ≤ 60), ?_, ?_⟩
  · walk_at "rd"
    rename_i H1 n1 l c1 bg1 S1 hb1 hl0 cn wc lc
    exact ⟨⟨n1, l, c1, rfl, bg1, S1, hb1, Ne.symm (ne_of_none hb hl0), cn, wc, lc⟩⟩
  rintro σ' H1 ⟨⟨n1, l, c1, rfl, bg1, S1, hb1, nlb, cn, wc, lc⟩⟩
  have st1 := st.sb S1 hb
  have hb1' : H1 b = some (.lst [.int n1.1, .int n1.2]) := hb1
  have leaf : ∀ H2 (n2 : Int × Int) pp, Bg n2 → SameB b H1 H2 → H2 b = some (.lst (bgL n2)) → H2 pp = none → Q (.ref pp) (upd H2 pp (.tup [.ref l, .non, .non, .non])) := fun H2 n2 pp b2 s2 h2 hpp => by
    have SP := same_new hpp (H := H2) (.tup [.ref l, .non, .non, .non])
    have npb : pp ≠ b := Ne.symm (ne_of_none h2 hpp)
    obtain ⟨ys, c2, c3⟩ := cn
    have cn2 : Cn K H2 l c1 := ⟨ys, s2 _ _ nlb c2, c3.mono (s2.t hb1)⟩
    exact q _ n2 _ (.lf c1) b2 (fun c o nc e => SP _ _ (s2 _ _ nc (S1 _ _ nc e))) (SP _ _ h2) (.lf (del_at upd_same npb) ((cn2.same SP).del (SP _ _ h2) nlb)) (.lf wc lc) (Nat.zero_le _)
  walk_at "rd"
  rename_i pp hpp
  exact leaf H1 n1 pp bg1 (SameB.refl b H1) hb1 hpp

theorem ok_law_drawnS (T : Tx K mg) (d : Nat) (ih : FnOk P w K mg base (CXe P w) (d + 3) T.f_law_drawn T.d_law_drawn ["_law_bag", "_law_columns_here", "_law_pool_here", "_law_some", "_law_deep"] (sp_drawn K d)) : FnOk P w K mg base (CXe P w) (d + 1 + 3) T.f_law_drawn T.d_law_drawn ["_law_bag", "_law_columns_here", "_law_pool_here", "_law_some", "_law_deep"] (sp_drawn K (d + 1)) := by
  have sc := sc_law_drawn
  refine T.F_law_drawn.okx sc (fun vs H Q E h => ?_) (fun cdv A outer s H vs Q E hr h => ?_)
  · obtain ⟨b, ca, pa, sa, n, xs, cs, ns, ws, e, rfl, ee, hb, bg, st, q⟩ := h
    rfl
  obtain ⟨b, ca, pa, sa, n, xs, cs, ns, ws, e, rfl, ee, hb, bg, st, q⟩ := h
  have hu := hr.units0
  have hu2 := hr.units
  refine ⟨_, (@pss_cons _ _ _ _ _ (@ps_mid _ _ _ (@ps_set _ _ 5 _ _ _ _ sc.nd rfl (by first | exact Or.inl rfl | exact Or.inr rfl) (pe_call (ok_law_counted T) (hr.mono (by omega)) rfl T.m_law_counted T.F_law_counted.kp T.b_law_counted .nil (pass_e fun _ _ z => z) (pa_cons (pv 0) (pa_cons (pv 3) pa_nil))) (by rfl) (by first | exact .inl rfl | exact .inr rfl | assumption)))
      (@pss_cons _ _ _ _ _ (@ps_if _ _ _ _ _ _ _ _ (PW.pt (pw_or (@pt_cmpR _ _ _ _ _ _ _ _ op_eqI (pv 4) pe_int (nomark _)) (pw_or (@pt_cmpR _ _ _ _ _ _ _ _ op_eqI (@pe_ix _ _ _ _ _ _ _ ix_list (pv 0) pe_int (fun _ _ => rfl)) pe_int (nomark _)) (pw_or1 (@pt_cmpR _ _ _ _ _ _ _ _ op_eqI (pe_call (ok_law_draw T) (hr.mono (by omega)) rfl T.m_law_draw T.F_law_draw.kp T.b_law_draw .nil (pass_e fun _ _ z => z) (pa_cons (pv 0) (pa_cons pe_int pa_nil))) pe_int (nomark _)))))) (@pss_one _ _ _ (@ps_ret _ _ _ _ (pe_tup (pa_cons (pv 5) (pa_cons pe_non (pa_cons pe_non (pa_cons pe_non pa_nil))))))) pss_nil)
      (@pss_cons _ _ _ _ _ (ps_asg (@pe_op _ _ _ _ _ _ _ _ op_sub (@pe_ix _ _ _ _ _ _ _ ix_list (pv 0) pe_int (fun _ _ => rfl)) pe_int) (pg_sub (pv 0) pe_int set_list))
      (@pss_cons _ _ _ _ _ (@ps_mid _ _ _ (@ps_set _ _ 6 _ _ _ _ sc.nd rfl (by first | exact Or.inl rfl | exact Or.inr rfl) (pe_call (ok_law_question T) (hr.mono (by omega)) rfl T.m_law_question T.F_law_question.kp T.b_law_question .nil (pass_e fun _ _ z => z) (pa_cons (pv 0) (pa_cons (pv 1) (pa_cons (pv 2) (pa_cons (pv 3) pa_nil))))) (by rfl) (by first | exact .inl rfl | exact .inr rfl | assumption)))
      (@pss_cons _ _ _ _ _ (@ps_mid _ _ _ (@ps_set _ _ 7 _ _ _ _ sc.nd rfl (by first | exact Or.inl rfl | exact Or.inr rfl) (pe_call ih (hr.mono (by omega)) rfl T.m_law_drawn T.F_law_drawn.kp T.b_law_drawn .nil (pass_e fun _ _ z => z) (pa_cons (pv 0) (pa_cons (pv 1) (pa_cons (pv 2) (pa_cons (pv 3) (pa_cons (@pe_op _ _ _ _ _ _ _ _ op_sub (pv 4) pe_int) pa_nil)))))) (by rfl) (by first | exact .inl rfl | exact .inr rfl | assumption)))
      (@pss_cons _ _ _ _ _ (@ps_if _ _ _ _ _ _ _ _ (@pt_cmpR _ _ _ _ _ _ _ _ op_eqI (pe_call (ok_law_draw T) (hr.mono (by omega)) rfl T.m_law_draw T.F_law_draw.kp T.b_law_draw .nil (pass_e fun _ _ z => z) (pa_cons (pv 0) (pa_cons pe_int pa_nil))) pe_int (nomark _)) (@pss_one _ _ _ (@ps_ret _ _ _ _ (pe_tup (pa_cons (pv 5) (pa_cons (pv 6) (pa_cons (pv 7) (pa_cons (pv 7) pa_nil))))))) pss_nil)
      (@pss_one _ _ _ (@ps_ret _ _ _ _ (pe_tup (pa_cons (pv 5) (pa_cons (pv 6) (pa_cons (pv 7) (pa_cons (pe_call ih (hr.mono (by omega)) rfl T.m_law_drawn T.F_law_drawn.kp T.b_law_drawn .nil (pass_e fun _ _ z => z) (pa_cons (pv 0) (pa_cons (pv 1) (pa_cons (pv 2) (pa_cons (pv 3) (pa_cons (@pe_op _ _ _ _ _ _ _ _ op_sub (pv 4) pe_int) pa_nil)))))) pa_nil))))))))))))), ?_⟩
  walk_at "kx"
  obtain ⟨hc, tv, gc, hp, l7, hs, wd, w4, nc, np, ns'⟩ := id st
  have wok := wd.ok
  refine ⟨fun σ' H1 => Iv (∃ (n1 : Int × Int) (l : Addr) (c1 : List (Str × Int)), σ' = [some (.ref b), some (.ref ca), some (.ref pa), some (.ref sa), some (.int e), some (.ref l), none, none] ∧ Bg n1 ∧ SameB b H H1 ∧ H1 b = some (.lst (bgL n1)) ∧ l ≠ b ∧ Cn K H1 l c1 ∧ (∀ c ∈ c1, isW c.1 = true) ∧ c1.length ≤ 60), ?_, ?_⟩
  · walk_at "rd"
    rename_i H1 n1 l c1 bg1 S1 hb1 hl0 cn wc lc
    exact ⟨⟨n1, l, c1, rfl, bg1, S1, hb1, Ne.symm (ne_of_none hb hl0), cn, wc, lc⟩⟩
  rintro σ' H1 ⟨⟨n1, l, c1, rfl, bg1, S1, hb1, nlb, cn, wc, lc⟩⟩
  have st1 := st.sb S1 hb
  have hb1' : H1 b = some (.lst [.int n1.1, .int n1.2]) := hb1
  have leaf : ∀ H2 (n2 : Int × Int) pp, Bg n2 → SameB b H1 H2 → H2 b = some (.lst (bgL n2)) → H2 pp = none → Q (.ref pp) (upd H2 pp (.tup [.ref l, .non, .non, .non])) := fun H2 n2 pp b2 s2 h2 hpp => by
    have SP := same_new hpp (H := H2) (.tup [.ref l, .non, .non, .non])
    have npb : pp ≠ b := Ne.symm (ne_of_none h2 hpp)
    obtain ⟨ys, c2, c3⟩ := cn
    have cn2 : Cn K H2 l c1 := ⟨ys, s2 _ _ nlb c2, c3.mono (s2.t hb1)⟩
    exact q _ n2 _ (.lf c1) b2 (fun c o nc e => SP _ _ (s2 _ _ nc (S1 _ _ nc e))) (SP _ _ h2) (.lf (del_at upd_same npb) ((cn2.same SP).del (SP _ _ h2) nlb)) (.lf wc lc) (Nat.zero_le _)
  have hsB : ∀ o : HO, SameB b H1 (upd H1 b o) := fun o c u nc e => by rw [upd_ne nc]; exact e
  walk_at "rd"
  refine ite3 (fun e1 => ?_) (fun e1 => ?_)
  · walk_at "rd"
    rename_i pp hpp
    exact leaf H1 n1 pp bg1 (SameB.refl b H1) hb1 hpp
  · walk_at "rd"
    rename_i n2 d2 bg2 hd2
    refine ite3 (fun e2 => ?_) (fun e2 => ?_)
    · walk_at "rd"
      rename_i pp hpp
      exact leaf _ n2 pp bg2 (hsB _) upd_same hpp
    · walk_at "rd"
      have hbB : upd (upd H1 b (.lst (bgL n2))) b (.lst ((bgL n2).set (Int.toNat 1) ((fun i j => V.int (i - j)) n2.2 1))) b = some (.lst (bgL (n2.1, n2.2 - 1))) := upd_same
      have SB2 : SameB b H1 (upd (upd H1 b (.lst (bgL n2))) b (.lst ((bgL n2).set (Int.toNat 1) ((fun i j => V.int (i - j)) n2.2 1)))) := fun c u nc e => by rw [upd_ne nc, upd_ne nc]; exact e
      have bgB : Bg (n2.1, n2.2 - 1) := bg2
      generalize upd (upd H1 b (.lst (bgL n2))) b (.lst ((bgL n2).set (Int.toNat 1) ((fun i j => V.int (i - j)) n2.2 1))) = H2 at hbB SB2 ⊢
      generalize (n2.1, n2.2 - 1) = n3 at hbB bgB
      obtain ⟨hc2, tv2, _, hp2, _, hs2, _, _, _, _, _⟩ := st1.sb SB2 hb1
      refine ⟨fun σ' H3 => Iv (∃ (n4 : Int × Int) (qa : Addr) (qq : Qs), σ' = [some (.ref b), some (.ref ca), some (.ref pa), some (.ref sa), some (.int e), some (.ref l), some (.ref qa), none] ∧ Bg n4 ∧ SameB b H2 H3 ∧ H3 b = some (.lst (bgL n4)) ∧ H3 qa = some (.tup (qV qq)) ∧ QOk cs qq), ?_, ?_⟩
      · walk_at "rd"
        rename_i H3 n4 qa qq bg4 S3 hb3 hqa0 hqa qo
        exact ⟨⟨n4, qa, qq, rfl, bg4, S3, hb3, hqa, qo⟩⟩
      rintro σ' H3 ⟨⟨n4, qa, qq, rfl, bg4, S3, hb3, hqa, qo⟩⟩
      have S13 : SameB b H1 H3 := fun c u nc e => S3 _ _ nc (SB2 _ _ nc e)
      have st3 := st1.sb S13 hb1
      have ed : e - 1 = (d : Nat) := by omega
      refine ⟨fun σ' H4 => Iv (∃ (n5 : Int × Int) (v1 : V) (t1 : NT), σ' = [some (.ref b), some (.ref ca), some (.ref pa), some (.ref sa), some (.int e), some (.ref l), some (.ref qa), some v1] ∧ Bg n5 ∧ SameB b H3 H4 ∧ H4 b = some (.lst (bgL n5)) ∧ T4 K (del H4 b) v1 t1 ∧ Wq cs t1 ∧ t1.dp ≤ d), ?_, ?_⟩
      · walk_at "rd"
        rename_i H4 n5 v1 t1 bg5 S4 hb4 t4 w4' d4
        exact ⟨⟨n5, v1, t1, rfl, bg5, S4, hb4, t4, w4', d4⟩⟩
      rintro σ' H4 ⟨⟨n5, v1, t1, rfl, bg5, S4, hb4, t4, wq1, d4⟩⟩
      have S14 : SameB b H1 H4 := fun c u nc e => S4 _ _ nc (S13 _ _ nc e)
      have st4 := st1.sb S14 hb1
      have fork : ∀ H5 (n6 : Int × Int) v2 t2 pp, Bg n6 → SameB b H4 H5 → H5 b = some (.lst (bgL n6)) → T4 K (del H5 b) v2 t2 → Wq cs t2 → t2.dp ≤ d → H5 pp = none → Q (.ref pp) (upd H5 pp (.tup [.ref l, .ref qa, v1, v2])) := fun H5 n6 v2 t2 pp b6 s5 h5 tt2 wq2 dd2 hpp => by
        have SP := same_new hpp (H := H5) (.tup [.ref l, .ref qa, v1, v2])
        have npb : pp ≠ b := Ne.symm (ne_of_none h5 hpp)
        have s15 : SameB b H1 H5 := fun c u nc e => s5 _ _ nc (S14 _ _ nc e)
        obtain ⟨ys, c2, c3⟩ := cn
        have cn2 : Cn K H5 l c1 := ⟨ys, s15 _ _ nlb c2, c3.mono (s15.t hb1)⟩
        have nqb : qa ≠ b := ne_of hqa hb3 (by intro z; cases z)
        have hq5 : H5 qa = some (.tup (qV qq)) := s5 _ _ nqb (S4 _ _ nqb hqa)
        exact q _ n6 _ (.fk c1 qq t1 t2) b6 (fun c o nc e => SP _ _ (s15 _ _ nc (S1 _ _ nc e))) (SP _ _ h5) (.fk (del_at upd_same npb) ((cn2.same SP).del (SP _ _ h5) nlb) (del_at (SP _ _ hq5) nqb) ((t4.same (del_sb s5)).same (del_mono b SP)) (tt2.same (del_mono b SP))) (.fk wc lc qo wq1 wq2) (by show 1 + max t1.dp t2.dp ≤ d + 1; omega)
      walk_at "rd"
      rename_i n6 d6 bg6 hd6
      have hsB4 : ∀ o : HO, SameB b H4 (upd H4 b o) := fun o c u nc e => by rw [upd_ne nc]; exact e
      refine ite3 (fun e3 => ?_) (fun e3 => ?_)
      · walk_at "rd"
        rename_i pp hpp
        exact fork _ n6 v1 t1 pp bg6 (hsB4 _) upd_same (t4.same (del_sb (hsB4 _))) wq1 d4 hpp
      · have st5 := st4.sb (hsB4 (.lst (bgL n6))) hb4
        have hb5 := upd_same (H := H4) (a := b) (o := .lst (bgL n6))
        have S45 := hsB4 (.lst (bgL n6))
        generalize upd H4 b (.lst (bgL n6)) = H5 at st5 hb5 S45 ⊢
        walk_at "rd"
        rename_i H6 n7 v2 t2 bg7 S6 hb6 t6 wq2 d6' pp hpp
        exact fork H6 n7 v2 t2 pp bg7 (fun c u nc e => S6 _ _ nc (S45 _ _ nc e)) hb6 t6 wq2 d6' hpp

theorem ok_law_drawnA (T : Tx K mg) : ∀ d : Nat, FnOk P w K mg base (CXe P w) (d + 3) T.f_law_drawn T.d_law_drawn ["_law_bag", "_law_columns_here", "_law_pool_here", "_law_some", "_law_deep"] (sp_drawn K d) := by
  intro d
  induction d with
  | zero => exact ok_law_drawn0 T
  | succ d ih => exact ok_law_drawnS T d ih
theorem ok_law_drawn (T : Tx K mg) : FnOk P w K mg base (CXe P w) (5 + 3) T.f_law_drawn T.d_law_drawn ["_law_bag", "_law_columns_here", "_law_pool_here", "_law_some", "_law_deep"] (sp_drawn K 5) := by exact ok_law_drawnA T 5

theorem ok_law_long (T : Tx K mg) : FnOk P w K mg base (CXe P w) 3 T.f_law_long T.d_law_long ["_law_bag", "_law_columns_here", "_law_pool_here", "_law_some", "_law_deep"] (sp_long17 K) := by
  have sc := sc_law_long
  refine T.F_law_long.okx sc (fun vs H Q E h => ?_) (fun cdv A outer s H vs Q E hr h => ?_)
  · obtain ⟨b, ca, pa, sa, n, xs, cs, ns, ws, e, rfl, e0, e20, hb, bg, st, q⟩ := h
    rfl
  obtain ⟨b, ca, pa, sa, n, xs, cs, ns, ws, e, rfl, e0, e20, hb, bg, st, q⟩ := h
  have hu := hr.units0
  have hu2 := hr.units
  refine ⟨_, (@pss_cons _ _ _ _ _ (@ps_mid _ _ _ (@ps_set _ _ 5 _ _ _ _ sc.nd rfl (by first | exact Or.inl rfl | exact Or.inr rfl) (pe_tup (pa_cons (pe_call (ok_law_counted T) (hr.mono (by decide)) rfl T.m_law_counted T.F_law_counted.kp T.b_law_counted .nil (pass_e fun _ _ z => z) (pa_cons (pv 0) (pa_cons (pv 3) pa_nil))) (pa_cons pe_non (pa_cons pe_non (pa_cons pe_non pa_nil))))) (by rfl) (by first | exact .inl rfl | exact .inr rfl | assumption)))
      (@pss_cons _ _ _ _ _ (ps_for powx rfl (pi_range1 rfl T.z_range (pa_cons (pv 4) pa_nil)) (pg_name (i := 6) sc.nd rfl (by first | exact Or.inl rfl | exact Or.inr rfl))
      (@pss_cons _ _ _ _ _ (@ps_mid _ _ _ (@ps_set _ _ 7 _ _ _ _ sc.nd rfl (by first | exact Or.inl rfl | exact Or.inr rfl) (pe_tup (pa_cons (pe_call (ok_law_counted T) (hr.mono (by decide)) rfl T.m_law_counted T.F_law_counted.kp T.b_law_counted .nil (pass_e fun _ _ z => z) (pa_cons (pv 0) (pa_cons (pv 3) pa_nil))) (pa_cons pe_non (pa_cons pe_non (pa_cons pe_non pa_nil))))) (by rfl) (by first | exact .inl rfl | exact .inr rfl | assumption)))
      (@pss_cons _ _ _ _ _ (@ps_mid _ _ _ (@ps_set _ _ 8 _ _ _ _ sc.nd rfl (by first | exact Or.inl rfl | exact Or.inr rfl) (pe_call (ok_law_question T) (hr.mono (by decide)) rfl T.m_law_question T.F_law_question.kp T.b_law_question .nil (pass_e fun _ _ z => z) (pa_cons (pv 0) (pa_cons (pv 1) (pa_cons (pv 2) (pa_cons (pv 3) pa_nil))))) (by rfl) (by first | exact .inl rfl | exact .inr rfl | assumption)))
      (@pss_one _ _ _ (@ps_if _ _ _ _ _ _ _ _ (@pt_cmpR _ _ _ _ _ _ _ _ op_eqI (pe_call (ok_law_draw T) (hr.mono (by decide)) rfl T.m_law_draw T.F_law_draw.kp T.b_law_draw .nil (pass_e fun _ _ z => z) (pa_cons (pv 0) (pa_cons pe_int pa_nil))) pe_int (nomark _)) (@pss_one _ _ _ (@ps_set _ _ 5 _ _ _ _ sc.nd rfl (by first | exact Or.inl rfl | exact Or.inr rfl) (pe_tup (pa_cons (pe_call (ok_law_counted T) (hr.mono (by decide)) rfl T.m_law_counted T.F_law_counted.kp T.b_law_counted .nil (pass_e fun _ _ z => z) (pa_cons (pv 0) (pa_cons (pv 3) pa_nil))) (pa_cons (pv 8) (pa_cons (pv 5) (pa_cons (pv 7) pa_nil))))) (by rfl) (by first | exact .inl rfl | exact .inr rfl | assumption))) (@pss_one _ _ _ (@ps_set _ _ 5 _ _ _ _ sc.nd rfl (by first | exact Or.inl rfl | exact Or.inr rfl) (pe_tup (pa_cons (pe_call (ok_law_counted T) (hr.mono (by decide)) rfl T.m_law_counted T.F_law_counted.kp T.b_law_counted .nil (pass_e fun _ _ z => z) (pa_cons (pv 0) (pa_cons (pv 3) pa_nil))) (pa_cons (pv 8) (pa_cons (pv 7) (pa_cons (pv 5) pa_nil))))) (by rfl) (by first | exact .inl rfl | exact .inr rfl | assumption))))))))
      (@pss_one _ _ _ (@ps_ret _ _ _ _ (pv 5))))), ?_⟩
  walk_at "kx"
  have wok := st.wd.ok
  have ge := st.gc
  refine ⟨fun σ' H1 => Iv (∃ (n1 : Int × Int) (v : V) (t : NT), σ' = [some (.ref b), some (.ref ca), some (.ref pa), some (.ref sa), some (.int e), some v, none, none, none] ∧ Bg n1 ∧ SameB b H H1 ∧ H1 b = some (.lst (bgL n1)) ∧ T4 K (del H1 b) v t ∧ Wq cs t ∧ t.dp ≤ 0 ∧ t.sz ≤ 1), ?_, ?_⟩
  · obtain ⟨hc, tv, gc, hp, l7, hs, wd, w4, nc, np, ns'⟩ := id st
    walk_at "rd"
    rename_i H1 n1 l c1 bg1 S1 hb1 hl0 cn wc lc pp hpp
    exact ⟨⟨n1, .ref pp, .lf c1, rfl, bg1, S1.tr (sb_new hpp), kp hb1 hpp, t4_leaf hb1 (Ne.symm (ne_of_none hb hl0)) cn hpp, .lf wc lc, Nat.le_refl _, Nat.le_refl _⟩⟩
  rintro σ' H1 ⟨⟨n1, v, t, rfl, bg1, S1, hb1, t1, wq1, d1, z1⟩⟩
  walk_at "rd"
  refine for_range (n := e.toNat) (fun i σ H' => Iv (∃ (n' : Int × Int) (v : V) (t : NT) (o6 o7 o8 : Option V), σ = [some (.ref b), some (.ref ca), some (.ref pa), some (.ref sa), some (.int e), some v, o6, o7, o8] ∧ Bg n' ∧ SameB b H H' ∧ H' b = some (.lst (bgL n')) ∧ T4 K (del H' b) v t ∧ Wq cs t ∧ t.dp ≤ i ∧ t.sz ≤ 2 * i + 1)) ⟨⟨n1, v, t, _, _, _, rfl, bg1, S1, hb1, t1, wq1, d1, z1⟩⟩ ?_ ?_
  · clear t1 wq1 d1 z1 S1 hb1 bg1
    rintro i σ H' hi ⟨⟨n', v, t, o6, o7, o8, rfl, bg', S, hb', t4, wq, dp, zp⟩⟩
    have st1 := st.sb S hb
    refine ⟨fun σ' H2 => Iv (∃ (n2 : Int × Int) (u : V) (c2 : List (Str × Int)), σ' = [some (.ref b), some (.ref ca), some (.ref pa), some (.ref sa), some (.int e), some v, some (.int (0 + (i : Int))), some u, o8] ∧ Bg n2 ∧ SameB b H' H2 ∧ H2 b = some (.lst (bgL n2)) ∧ T4 K (del H2 b) u (.lf c2) ∧ (∀ c ∈ c2, isW c.1 = true) ∧ c2.length ≤ 60), ?_, ?_⟩
    · obtain ⟨hc, tv, gc, hp, l7, hs, wd, w4, nc, np, ns'⟩ := id st1
      walk_at "rd"
      rename_i H2 n2 l c2 bg2 S2 hb2 hl0 cn wc lc pp hpp
      exact ⟨⟨n2, .ref pp, c2, rfl, bg2, S2.tr (sb_new hpp), kp hb2 hpp, t4_leaf hb2 (Ne.symm (ne_of_none hb' hl0)) cn hpp, wc, lc⟩⟩
    rintro σ' H2 ⟨⟨n2, u, c2, rfl, bg2, S2, hb2, u4, wc2, lc2⟩⟩
    have st2 := st1.sb S2 hb'
    refine ⟨fun σ' H3 => Iv (∃ (n3 : Int × Int) (qa : Addr) (qq : Qs), σ' = [some (.ref b), some (.ref ca), some (.ref pa), some (.ref sa), some (.int e), some v, some (.int (0 + (i : Int))), some u, some (.ref qa)] ∧ Bg n3 ∧ SameB b H2 H3 ∧ H3 b = some (.lst (bgL n3)) ∧ H3 qa = some (.tup (qV qq)) ∧ QOk cs qq), ?_, ?_⟩
    · obtain ⟨hc, tv, gc, hp, l7, hs, wd, w4, nc, np, ns'⟩ := id st2
      walk_at "rd"
      rename_i H3 n3 qa qq bg3 S3 hb3 hq0 hqa qo
      exact ⟨⟨n3, qa, qq, rfl, bg3, S3, hb3, hqa, qo⟩⟩
    rintro σ' H3 ⟨⟨n3, qa, qq, rfl, bg3, S3, hb3, hqa, qo⟩⟩
    have nqb : qa ≠ b := ne_of hqa hb3 (by intro z; cases z)
    have st3 := st2.sb S3 hb2
    have S23 := S2.tr S3
    walk_at "rd"
    rename_i n4 d4 bg4 hd4
    have st4 := st3.sb (sb_at (o := .lst (bgL n4))) hb3
    have hb4 := upd_same (H := H3) (a := b) (o := .lst (bgL n4))
    have S34 : SameB b H3 (upd H3 b (.lst (bgL n4))) := sb_at
    have hq4 := S34 _ _ nqb hqa
    generalize upd H3 b (.lst (bgL n4)) = H4 at st4 hb4 S34 hq4 ⊢
    have S4 := S23.tr S34
    have v4 := t4.same (del_sb S4)
    have w4 := u4.same (del_sb (S3.tr S34))
    refine ite3 (fun e1 => ?_) (fun e1 => ?_)
    · obtain ⟨hc, tv, gc, hp, l7, hs, wd, w4', nc, np, ns'⟩ := id st4
      walk_at "rd"
      rename_i H5 n5 l c5 bg5 S5 hb5 hl0 cn wc lc pp hpp
      exact ⟨⟨n5, .ref pp, .fk c5 qq t (.lf c2), _, _, _, rfl, bg5, ((S.tr S4).tr S5).tr (sb_new hpp), kp hb5 hpp, t4_fork hb5 (Ne.symm (ne_of_none hb4 hl0)) cn (S5 _ _ nqb hq4) (v4.same (del_sb S5)) (w4.same (del_sb S5)) hpp, .fk wc lc qo wq (.lf wc2 lc2), by show 1 + max t.dp 0 ≤ i + 1; omega, by show 1 + t.sz + 1 ≤ 2 * (i + 1) + 1; omega⟩⟩
    · obtain ⟨hc, tv, gc, hp, l7, hs, wd, w4', nc, np, ns'⟩ := id st4
      walk_at "rd"
      rename_i H5 n5 l c5 bg5 S5 hb5 hl0 cn wc lc pp hpp
      exact ⟨⟨n5, .ref pp, .fk c5 qq (.lf c2) t, _, _, _, rfl, bg5, ((S.tr S4).tr S5).tr (sb_new hpp), kp hb5 hpp, t4_fork hb5 (Ne.symm (ne_of_none hb4 hl0)) cn (S5 _ _ nqb hq4) (w4.same (del_sb S5)) (v4.same (del_sb S5)) hpp, .fk wc lc qo (.lf wc2 lc2) wq, by show 1 + max 0 t.dp ≤ i + 1; omega, by show 1 + 1 + t.sz ≤ 2 * (i + 1) + 1; omega⟩⟩
  · rintro σ H' ⟨⟨n', v, t, o6, o7, o8, rfl, bg', S, hb', t4, wq, dp, zp⟩⟩
    walk_at "rd"
    exact q _ n' v t bg' S hb' t4 wq (by omega) (by omega)

theorem ok_law_built0 (T : Tx K mg) : FnOk P w K mg base (CXe P w) (0 + 5) T.f_law_built T.d_law_built ["_law_drawn_here"] (sp_built T.c_Leaf T.c_Fork K 0) := by
  have sc := sc_law_built
  refine T.F_law_built.okx sc (fun vs H Q E h => ?_) (fun cdv A outer s H vs Q E hr h => ?_)
  · obtain ⟨v, cc, t, rfl, t4, wq, td, d20, q⟩ := h
    rfl
  obtain ⟨v, cc, t, rfl, t4, wq, td, d20, q⟩ := h
  have hu := hr.units0
  have hu2 := hr.units
  refine ⟨_, (@pss_cons _ _ _ _ _ (@ps_set _ _ 1 _ _ _ _ sc.nd rfl (by first | exact Or.inl rfl | exact Or.inr rfl) (pe_callTy call_list_of rfl T.z_list bt_list (pa_cons (@pe_ix _ _ _ _ _ _ _ ix_tup (pv 0) pe_int (fun _ _ => rfl)) pa_nil)) (by rfl) (by first | exact .inl rfl | exact .inr rfl | assumption))
      (@pss_cons _ _ _ _ _ (@ps_if _ _ _ _ _ _ _ _ (@pt_cmpR _ _ _ _ _ _ _ _ op_isN (@pe_ix _ _ _ _ _ _ _ ix_tup (pv 0) pe_int (fun _ _ => rfl)) pe_non (nomark _)) (@pss_one _ _ _ (@ps_set _ _ 2 _ _ _ _ sc.nd rfl (by first | exact Or.inl rfl | exact Or.inr rfl) (pe_make T.M_Leaf (ok_Node___init__ T) (hr.mono (by decide)) rfl T.m_Leaf T.b_Node___init__ .nil (pass_e fun _ _ z => z) (pa_cons (pv 1) pa_nil)) (by rfl) (by first | exact .inl rfl | exact .inr rfl | assumption))) (@pss_cons _ _ _ _ _ ps_never
      (@pss_cons _ _ _ _ _ (@ps_set _ _ 4 _ _ _ _ sc.nd rfl (by first | exact Or.inl rfl | exact Or.inr rfl) (pv 3) (by rfl) (by first | exact .inl rfl | exact .inr rfl | assumption))
      (@pss_cons _ _ _ _ _ (@ps_mid _ _ _ (@ps_if _ _ _ _ _ _ _ _ (@pt_cmpR _ _ _ _ _ _ _ _ (op_neD hu2) (@pe_ix _ _ _ _ _ _ _ ix_tup (pv 0) pe_int (fun _ _ => rfl)) (@pe_ix _ _ _ _ _ _ _ ix_tup (pv 0) pe_int (fun _ _ => rfl)) (nomark _)) (@pss_one _ _ _ ps_never) pss_nil))
      (@pss_one _ _ _ (@ps_set _ _ 2 _ _ _ _ sc.nd rfl (by first | exact Or.inl rfl | exact Or.inr rfl) (pe_make T.M_Fork (ok_Fork___init__ T) (hr.mono (by decide)) rfl T.m_Fork T.b_Fork___init__ .nil (pass_e fun _ _ z => z) (pa_cons (pv 1) (pa_cons (@pe_ix _ _ _ _ _ _ _ ix_tup (pv 0) pe_int (fun _ _ => rfl)) (pa_cons (pv 3) (pa_cons (pv 4) pa_nil))))) (by rfl) (by first | exact .inl rfl | exact .inr rfl | assumption)))))))
      (@pss_cons _ _ _ _ _ (ps_expr (pe_bm0 PySem.F.plainAttrs_list PySem.F.slot_list_clear PySem.F.type_list_clear mt_clear (pv 1)))
      (@pss_one _ _ _ (@ps_ret _ _ _ _ (pv 2)))))), ?_⟩
  walk_at "kx"
  have C1 := T.C_Leaf
  have C2 := T.C_Fork
  have N0 : NoAttr K T.c_Leaf "counted" := T.nLc
  have N1 : NoAttr K T.c_Fork "counted" := T.nFcd
  have N2 : NoAttr K T.c_Fork "question" := T.nFqn
  have N3 : NoAttr K T.c_Fork "yes" := T.nFys
  have N4 : NoAttr K T.c_Fork "no" := T.nFno
  have N5 : NoAttr K T.c_Fork "leaf_count" := T.nFlt
  have N6 : NoAttr K T.c_Fork "depth" := T.nFdh
  cases t with
  | lf ds =>
    cases t4 with
    | @lf pp l _ h1 cn =>
      obtain ⟨xs, hl, tl⟩ := id cn
      walk_at "rd"
      rename_i l1 hl1 x dx hx hdx ndx
      have hx0 := (upd_none hx).2
      have hx' : upd (upd H l1 (.lst xs)) dx (.own x) x = none := by rw [upd_ne (Ne.symm ndx)]; exact hx
      refine ⟨.inl rfl, kp (kp upd_same hdx) hx', fun l2 hl2 => ⟨rfl, ?_⟩⟩
      have nlx : l2 ≠ x := Ne.symm (ne_of_none upd_same hl2)
      have S := ((((same_new hl1 (H := H) (.lst xs)).new hdx (.own x)).new hx' (.ins T.c_Leaf dx [])).new hl2 (.lst xs)).upd hx0 (.ins T.c_Leaf dx [("counted", .ref l2)])
      have n1x : l1 ≠ x := ne_of_none upd_same hx
      have n12 : l1 ≠ l2 := ne_of_none (kp (kp upd_same hdx) hx') hl2
      have k1 : upd (upd (upd (upd (upd H l1 (.lst xs)) dx (.own x)) x (.ins T.c_Leaf dx [])) l2 (.lst xs)) x (.ins T.c_Leaf dx [("counted", .ref l2)]) l1 = some (.lst xs) := by rw [upd_ne n1x]; exact kp (kp (kp upd_same hdx) hx') hl2
      have k2 : upd (upd (upd (upd (upd H l1 (.lst xs)) dx (.own x)) x (.ins T.c_Leaf dx [])) l2 (.lst xs)) x (.ins T.c_Leaf dx [("counted", .ref l2)]) l2 = some (.lst xs) := by rw [upd_ne nlx]; exact upd_same
      have k3 := upd_same (H := upd (upd (upd (upd H l1 (.lst xs)) dx (.own x)) x (.ins T.c_Leaf dx [])) l2 (.lst xs)) (a := x) (o := .ins T.c_Leaf dx [("counted", .ref l2)])
      generalize upd (upd (upd (upd (upd H l1 (.lst xs)) dx (.own x)) x (.ins T.c_Leaf dx [])) l2 (.lst xs)) x (.ins T.c_Leaf dx [("counted", .ref l2)]) = H5 at S k1 k2 k3 ⊢
      walk_at "rd"
      have S5 := S.upd hl1 (.lst [])
      have kx : upd H5 l1 (.lst []) x = some (.ins T.c_Leaf dx [("counted", .ref l2)]) := by rw [upd_ne (Ne.symm n1x)]; exact k3
      have kl : upd H5 l1 (.lst []) l2 = some (.lst xs) := by rw [upd_ne (Ne.symm n12)]; exact k2
      have hl20 : H l2 = none := by
        cases e : H l2 with
        | none => rfl
        | some o => rw [(((same_new hl1 (H := H) (.lst xs)).new hdx (.own x)).new hx' (.ins T.c_Leaf dx [])) _ _ e] at hl2; cases hl2
      exact q _ _ S5 (.lf kx ⟨xs, kl, tl.mono S5.t⟩) (.lf (dl_at kx fun zs e => by rw [hx0] at e; cases e) ⟨xs, dl_at kl fun zs e => (by rw [hl20] at e; cases e), tl.mono fun aa ys e => dl_at (S5 _ _ e) fun zs e2 => by rw [e] at e2; cases e2⟩)
  | fk ds qq y n => exact absurd td (by show ¬ 1 + max y.dp n.dp ≤ 0; omega)

theorem ok_law_builtS (T : Tx K mg) (d : Nat) (ih : FnOk P w K mg base (CXe P w) (d + 5) T.f_law_built T.d_law_built ["_law_drawn_here"] (sp_built T.c_Leaf T.c_Fork K d)) : FnOk P w K mg base (CXe P w) (d + 1 + 5) T.f_law_built T.d_law_built ["_law_drawn_here"] (sp_built T.c_Leaf T.c_Fork K (d + 1)) := by
  have sc := sc_law_built
  refine T.F_law_built.okx sc (fun vs H Q E h => ?_) (fun cdv A outer s H vs Q E hr h => ?_)
  · obtain ⟨v, cc, t, rfl, t4, wq, td, d20, q⟩ := h
    rfl
  obtain ⟨v, cc, t, rfl, t4, wq, td, d20, q⟩ := h
  have hu := hr.units0
  have hu2 := hr.units
  refine ⟨_, (@pss_cons _ _ _ _ _ (@ps_set _ _ 1 _ _ _ _ sc.nd rfl (by first | exact Or.inl rfl | exact Or.inr rfl) (pe_callTy call_list_of rfl T.z_list bt_list (pa_cons (@pe_ix _ _ _ _ _ _ _ ix_tup (pv 0) pe_int (fun _ _ => rfl)) pa_nil)) (by rfl) (by first | exact .inl rfl | exact .inr rfl | assumption))
      (@pss_cons _ _ _ _ _ (@ps_if _ _ _ _ _ _ _ _ (@pt_cmpR _ _ _ _ _ _ _ _ op_isN (@pe_ix _ _ _ _ _ _ _ ix_tup (pv 0) pe_int (fun _ _ => rfl)) pe_non (nomark _)) (@pss_one _ _ _ (@ps_set _ _ 2 _ _ _ _ sc.nd rfl (by first | exact Or.inl rfl | exact Or.inr rfl) (pe_make T.M_Leaf (ok_Node___init__ T) (hr.mono (by omega)) rfl T.m_Leaf T.b_Node___init__ .nil (pass_e fun _ _ z => z) (pa_cons (pv 1) pa_nil)) (by rfl) (by first | exact .inl rfl | exact .inr rfl | assumption))) (@pss_cons _ _ _ _ _ (@ps_set _ _ 3 _ _ _ _ sc.nd rfl (by first | exact Or.inl rfl | exact Or.inr rfl) (pe_call ih (hr.mono (by omega)) rfl T.m_law_built T.F_law_built.kp T.b_law_built .nil (pass_e fun _ _ z => z) (pa_cons (@pe_ix _ _ _ _ _ _ _ ix_tup (pv 0) pe_int (fun _ _ => rfl)) pa_nil)) (by rfl) (by first | exact .inl rfl | exact .inr rfl | assumption))
      (@pss_cons _ _ _ _ _ (@ps_set _ _ 4 _ _ _ _ sc.nd rfl (by first | exact Or.inl rfl | exact Or.inr rfl) (pv 3) (by rfl) (by first | exact .inl rfl | exact .inr rfl | assumption))
      (@pss_cons _ _ _ _ _ (@ps_mid _ _ _ (@ps_if _ _ _ _ _ _ _ _ (@pt_cmpR _ _ _ _ _ _ _ _ (op_neD hu2) (@pe_ix _ _ _ _ _ _ _ ix_tup (pv 0) pe_int (fun _ _ => rfl)) (@pe_ix _ _ _ _ _ _ _ ix_tup (pv 0) pe_int (fun _ _ => rfl)) (nomark _)) (@pss_one _ _ _ (@ps_set _ _ 4 _ _ _ _ sc.nd rfl (by first | exact Or.inl rfl | exact Or.inr rfl) (pe_call ih (hr.mono (by omega)) rfl T.m_law_built T.F_law_built.kp T.b_law_built .nil (pass_e fun _ _ z => z) (pa_cons (@pe_ix _ _ _ _ _ _ _ ix_tup (pv 0) pe_int (fun _ _ => rfl)) pa_nil)) (by rfl) (by first | exact .inl rfl | exact .inr rfl | assumption))) pss_nil))
      (@pss_one _ _ _ (@ps_set _ _ 2 _ _ _ _ sc.nd rfl (by first | exact Or.inl rfl | exact Or.inr rfl) (pe_make T.M_Fork (ok_Fork___init__ T) (hr.mono (by omega)) rfl T.m_Fork T.b_Fork___init__ .nil (pass_e fun _ _ z => z) (pa_cons (pv 1) (pa_cons (@pe_ix _ _ _ _ _ _ _ ix_tup (pv 0) pe_int (fun _ _ => rfl)) (pa_cons (pv 3) (pa_cons (pv 4) pa_nil))))) (by rfl) (by first | exact .inl rfl | exact .inr rfl | assumption)))))))
      (@pss_cons _ _ _ _ _ (ps_expr (pe_bm0 PySem.F.plainAttrs_list PySem.F.slot_list_clear PySem.F.type_list_clear mt_clear (pv 1)))
      (@pss_one _ _ _ (@ps_ret _ _ _ _ (pv 2)))))), ?_⟩
  walk_at "kx"
  have C1 := T.C_Leaf
  have C2 := T.C_Fork
  have N0 : NoAttr K T.c_Leaf "counted" := T.nLc
  have N1 : NoAttr K T.c_Fork "counted" := T.nFcd
  have N2 : NoAttr K T.c_Fork "question" := T.nFqn
  have N3 : NoAttr K T.c_Fork "yes" := T.nFys
  have N4 : NoAttr K T.c_Fork "no" := T.nFno
  have N5 : NoAttr K T.c_Fork "leaf_count" := T.nFlt
  have N6 : NoAttr K T.c_Fork "depth" := T.nFdh
  cases t with
  | lf ds =>
    cases t4 with
    | @lf pp l _ h1 cn =>
      obtain ⟨xs, hl, tl⟩ := id cn
      walk_at "rd"
      rename_i l1 hl1 x dx hx hdx ndx
      have hx0 := (upd_none hx).2
      have hx' : upd (upd H l1 (.lst xs)) dx (.own x) x = none := by rw [upd_ne (Ne.symm ndx)]; exact hx
      refine ⟨.inl rfl, kp (kp upd_same hdx) hx', fun l2 hl2 => ⟨rfl, ?_⟩⟩
      have nlx : l2 ≠ x := Ne.symm (ne_of_none upd_same hl2)
      have S := ((((same_new hl1 (H := H) (.lst xs)).new hdx (.own x)).new hx' (.ins T.c_Leaf dx [])).new hl2 (.lst xs)).upd hx0 (.ins T.c_Leaf dx [("counted", .ref l2)])
      have n1x : l1 ≠ x := ne_of_none upd_same hx
      have n12 : l1 ≠ l2 := ne_of_none (kp (kp upd_same hdx) hx') hl2
      have k1 : upd (upd (upd (upd (upd H l1 (.lst xs)) dx (.own x)) x (.ins T.c_Leaf dx [])) l2 (.lst xs)) x (.ins T.c_Leaf dx [("counted", .ref l2)]) l1 = some (.lst xs) := by rw [upd_ne n1x]; exact kp (kp (kp upd_same hdx) hx') hl2
      have k2 : upd (upd (upd (upd (upd H l1 (.lst xs)) dx (.own x)) x (.ins T.c_Leaf dx [])) l2 (.lst xs)) x (.ins T.c_Leaf dx [("counted", .ref l2)]) l2 = some (.lst xs) := by rw [upd_ne nlx]; exact upd_same
      have k3 := upd_same (H := upd (upd (upd (upd H l1 (.lst xs)) dx (.own x)) x (.ins T.c_Leaf dx [])) l2 (.lst xs)) (a := x) (o := .ins T.c_Leaf dx [("counted", .ref l2)])
      generalize upd (upd (upd (upd (upd H l1 (.lst xs)) dx (.own x)) x (.ins T.c_Leaf dx [])) l2 (.lst xs)) x (.ins T.c_Leaf dx [("counted", .ref l2)]) = H5 at S k1 k2 k3 ⊢
      walk_at "rd"
      have S5 := S.upd hl1 (.lst [])
      have kx : upd H5 l1 (.lst []) x = some (.ins T.c_Leaf dx [("counted", .ref l2)]) := by rw [upd_ne (Ne.symm n1x)]; exact k3
      have kl : upd H5 l1 (.lst []) l2 = some (.lst xs) := by rw [upd_ne (Ne.symm n12)]; exact k2
      have hl20 : H l2 = none := by
        cases e : H l2 with
        | none => rfl
        | some o => rw [(((same_new hl1 (H := H) (.lst xs)).new hdx (.own x)).new hx' (.ins T.c_Leaf dx [])) _ _ e] at hl2; cases hl2
      exact q _ _ S5 (.lf kx ⟨xs, kl, tl.mono S5.t⟩) (.lf (dl_at kx fun zs e => by rw [hx0] at e; cases e) ⟨xs, dl_at kl fun zs e => (by rw [hl20] at e; cases e), tl.mono fun aa ys e => dl_at (S5 _ _ e) fun zs e2 => by rw [e] at e2; cases e2⟩)
  | fk ds qq y n =>
    cases t4 with
    | @fk pp l qa _ _ v1 v2 _ _ h1 cn hq ty tn =>
      cases wq with
      | fk wc lc qo wy wn =>
        obtain ⟨xs, hl, tl⟩ := id cn
        have dy : y.dp ≤ d := by have : 1 + max y.dp n.dp ≤ d + 1 := td; omega
        have dn : n.dp ≤ d := by have : 1 + max y.dp n.dp ≤ d + 1 := td; omega
        walk_at "rd"
        rename_i l1 hl1
        have S1 := same_new hl1 (H := H) (.lst xs)
        refine ⟨ty.same S1, wy, dy, by have : 1 + max y.dp n.dp ≤ 20 := d20; omega, fun H2 u1 S2 n1 nn1 => ?_⟩
        have S12 := S1.trans S2
        have h2 := S12 _ _ h1
        have hl2 := S2 _ _ (upd_same (H := H) (a := l1) (o := .lst xs))
        have dy20 : y.dp ≤ 20 := by have : 1 + max y.dp n.dp ≤ 20 := d20; omega
        have dn20 : n.dp ≤ 20 := by have : 1 + max y.dp n.dp ≤ 20 := d20; omega
        walk_at "rd"
        refine ⟨fun σ' H3 => Iv (∃ (u2 : V), σ' = [some (.ref pp), some (.ref l1), none, some u1, some u2] ∧ Same H2 H3 ∧ ND T.c_Leaf T.c_Fork K H3 u2 n ∧ NDn T.c_Leaf T.c_Fork K (upd H l1 (.lst xs)) H3 u2 n), ?_, ?_⟩
        · walk_at "rd"
          refine ⟨tD n, tD y, (tn.same S12).dv, (ty.same S12).dv, ((shpT wn).mono (by omega)).shaped, ((shpT wy).mono (by omega)).shaped, ?_⟩
          walk_at "rd"
          by_cases e : n = y
          · subst e
            rw [(t_eqv n n).mpr rfl]
            walk_at "rd"
            exact ⟨⟨u1, rfl, Same.refl _, n1, nn1⟩⟩
          · have ev : PyData.eqv (tD n) (tD y) = false := by rw [Bool.eq_false_iff]; exact fun z => e ((t_eqv n y).mp z)
            rw [ev]
            walk_at "rd"
            refine ⟨tn.same S12, wn, dn, dn20, fun H3 u2 S3 n2 nn2 => ?_⟩
            walk_at "rd"
            exact ⟨⟨u2, rfl, S3, n2, nn2.same fun aa o e => dl_at (dl_no e).2 fun zs e2 => (dl_no e).1 zs (S2 _ _ e2)⟩⟩
        rintro σ' H3 ⟨⟨u2, rfl, S3, n2, nn2⟩⟩
        have S13 := S12.trans S3
        have h3 := S13 _ _ h1
        have hl3 := S3 _ _ hl2
        walk_at "rd"
        rename_i x dx hx hdx ndx
        have hx' : upd H3 dx (.own x) x = none := by rw [upd_ne (Ne.symm ndx)]; exact hx
        have S4 := (same_new hdx (H := H3) (.own x)).new hx' (.ins T.c_Fork dx [])
        refine ⟨(n1.same S3).same S4, n2.same S4, fun H5 l2 S5 hl20 hx5 hl25 => ⟨rfl, ?_⟩⟩
        have S35 : Same H3 H5 := fun b o e => S5 _ _ (ne_of_none e hx) (S4 _ _ e)
        have hl5 := S35 _ _ hl3
        have hl30 : H3 l2 = none := S4.free hl20
        walk_at "rd"
        have S6 := (S13.trans S35).upd hl1 (.lst [])
        have hx0 : H x = none := S13.free hx
        have hl0 : H l2 = none := S13.free hl30
        have D : ∀ H9, Same H9 H3 → Same (dlH (upd H l1 (.lst xs)) H9) (dlH H (upd H5 l1 (.lst []))) := fun H9 s9 aa o e => by
          obtain ⟨hn', e'⟩ := dl_no e
          have na : aa ≠ l1 := fun z => hn' xs (by rw [z]; exact upd_same)
          refine dl_at (by rw [upd_ne na]; exact S35 _ _ (s9 _ _ e')) fun zs e2 => hn' zs (by rw [upd_ne na]; exact e2)
        have c1 := ND.same nn1 (D H2 S3)
        have c2 := ND.same nn2 (D H3 (Same.refl _))
        have nx1 : x ≠ l1 := Ne.symm (ne_of_none hl3 hx)
        have nl2 : l2 ≠ l1 := Ne.symm (ne_of_none hl3 hl30)
        have kx : upd H5 l1 (.lst []) x = _ := (upd_ne nx1).trans hx5
        have kl : upd H5 l1 (.lst []) l2 = some (.lst xs) := (upd_ne nl2).trans hl25
        have kq := S6 _ _ hq
        exact q _ _ S6 (.fk kx ⟨xs, kl, tl.mono S6.t⟩ kq (c1.same (dl_same _ _)) (c2.same (dl_same _ _))) (.fk (dl_at kx fun zs e => (by rw [hx0] at e; cases e)) ⟨xs, dl_at kl fun zs e => (by rw [hl0] at e; cases e), tl.mono fun aa ys e => dl_at (S6 _ _ e) fun zs e2 => (by rw [e] at e2; cases e2)⟩ (dl_at kq fun zs e => (by rw [hq] at e; cases e)) c1 c2)

theorem ok_law_builtA (T : Tx K mg) : ∀ d : Nat, FnOk P w K mg base (CXe P w) (d + 5) T.f_law_built T.d_law_built ["_law_drawn_here"] (sp_built T.c_Leaf T.c_Fork K d) := by
  intro d
  induction d with
  | zero => exact ok_law_built0 T
  | succ d ih => exact ok_law_builtS T d ih
theorem ok_law_built (T : Tx K mg) : FnOk P w K mg base (CXe P w) (32 + 5) T.f_law_built T.d_law_built ["_law_drawn_here"] (sp_built T.c_Leaf T.c_Fork K 32) := by exact ok_law_builtA T 32

theorem ok_law_spots0 (T : Tx K mg) : FnOk P w K mg base (CXe P w) (0 + 1) T.f_law_spots T.d_law_spots ["_law_drawn_here", "_law_place"] (sp_spots K 0) := by
  have sc := sc_law_spots
  refine T.F_law_spots.okx sc (fun vs H Q E h => ?_) (fun cdv A outer s H vs Q E hr h => ?_)
  · obtain ⟨v, pw, t, rfl, t4, td, tz, lw, q⟩ := h
    rfl
  obtain ⟨v, pw, t, rfl, t4, td, tz, lw, q⟩ := h
  have hu := hr.units0
  have hu2 := hr.units
  refine ⟨_, (@pss_cons _ _ _ _ _ (@ps_if _ _ _ _ _ _ _ _ (@pt_cmpR _ _ _ _ _ _ _ _ op_isN (@pe_ix _ _ _ _ _ _ _ ix_tup (pv 0) pe_int (fun _ _ => rfl)) pe_non (nomark _)) (@pss_one _ _ _ (@ps_ret _ _ _ _ (@pe_lst _ _ _ _ (pa_cons (pe_tup (pa_cons (pv 1) (pa_cons (pv 0) pa_nil))) pa_nil)))) pss_nil)
      (@pss_one _ _ _ ps_never)), ?_⟩
  walk_at "kx"
  cases t4 with
  | @lf p l ds h1 cn =>
    walk_at "rd"
    rename_i pp hpp pl hpl
    have S := (same_new hpp (H := H) (.tup [.str pw, .ref p])).new hpl (.lst [.ref pp])
    exact q _ pl _ S (upd_none hpl).2 upd_same (.cons (kp upd_same hpl) (.lf (S _ _ h1) (cn.same S)) .nil)
  | fk h1 => exact absurd td (by show ¬ 1 + max _ _ ≤ 0; omega)

theorem ok_law_spotsS (T : Tx K mg) (d : Nat) (ih : FnOk P w K mg base (CXe P w) (d + 1) T.f_law_spots T.d_law_spots ["_law_drawn_here", "_law_place"] (sp_spots K d)) : FnOk P w K mg base (CXe P w) (d + 1 + 1) T.f_law_spots T.d_law_spots ["_law_drawn_here", "_law_place"] (sp_spots K (d + 1)) := by
  have sc := sc_law_spots
  refine T.F_law_spots.okx sc (fun vs H Q E h => ?_) (fun cdv A outer s H vs Q E hr h => ?_)
  · obtain ⟨v, pw, t, rfl, t4, td, tz, lw, q⟩ := h
    rfl
  obtain ⟨v, pw, t, rfl, t4, td, tz, lw, q⟩ := h
  have hu := hr.units0
  have hu2 := hr.units
  refine ⟨_, (@pss_cons _ _ _ _ _ (@ps_if _ _ _ _ _ _ _ _ (@pt_cmpR _ _ _ _ _ _ _ _ op_isN (@pe_ix _ _ _ _ _ _ _ ix_tup (pv 0) pe_int (fun _ _ => rfl)) pe_non (nomark _)) (@pss_one _ _ _ (@ps_ret _ _ _ _ (@pe_lst _ _ _ _ (pa_cons (pe_tup (pa_cons (pv 1) (pa_cons (pv 0) pa_nil))) pa_nil)))) pss_nil)
      (@pss_one _ _ _ (@ps_ret _ _ _ _ (@pe_op _ _ _ _ _ _ _ _ op_cat (@pe_op _ _ _ _ _ _ _ _ op_cat (@pe_lst _ _ _ _ (pa_cons (pe_tup (pa_cons (pv 1) (pa_cons (pv 0) pa_nil))) pa_nil)) (pe_call ih (hr.mono (by omega)) rfl T.m_law_spots T.F_law_spots.kp T.b_law_spots .nil (pass_e fun _ _ z => z) (pa_cons (@pe_ix _ _ _ _ _ _ _ ix_tup (pv 0) pe_int (fun _ _ => rfl)) (pa_cons (@pe_op _ _ _ _ _ _ _ _ op_add_str (pv 1) pe_str) pa_nil)))) (pe_call ih (hr.mono (by omega)) rfl T.m_law_spots T.F_law_spots.kp T.b_law_spots .nil (pass_e fun _ _ z => z) (pa_cons (@pe_ix _ _ _ _ _ _ _ ix_tup (pv 0) pe_int (fun _ _ => rfl)) (pa_cons (@pe_op _ _ _ _ _ _ _ _ op_add_str (pv 1) pe_str) pa_nil))))))), ?_⟩
  walk_at "kx"
  cases t4 with
  | @lf p l ds h1 cn =>
    walk_at "rd"
    rename_i pp hpp pl hpl
    have S := (same_new hpp (H := H) (.tup [.str pw, .ref p])).new hpl (.lst [.ref pp])
    exact q _ pl _ S (upd_none hpl).2 upd_same (.cons (kp upd_same hpl) (.lf (S _ _ h1) (cn.same S)) .nil)
  | @fk p l qa ds qq v1 v2 y n h1 cn hq ty tn =>
    have ly := len_y
    have ln := len_n
    have dy : 1 + max y.dp n.dp ≤ d + 1 := td
    have sz : 1 + y.sz + n.sz ≤ 100 := tz
    have lw' : pw.length + (1 + max y.dp n.dp) ≤ 100 := lw
    walk_at "rd"
    rename_i pp hpp pl hpl
    have S := (same_new hpp (H := H) (.tup [.str pw, .ref p])).new hpl (.lst [.ref pp])
    have hl1 := upd_same (H := upd H pp (.tup [.str pw, .ref p])) (a := pl) (o := .lst [.ref pp])
    have hp1 : upd (upd H pp (.tup [.str pw, .ref p])) pl (.lst [.ref pp]) pp = _ := kp upd_same hpl
    generalize upd (upd H pp (.tup [.str pw, .ref p])) pl (.lst [.ref pp]) = H1 at S hl1 hp1 ⊢
    refine ⟨ty.same S, by omega, by omega, by rw [lenA]; omega, fun H2 q2 xs2 S2 hq20 hq2 sp2 => ?_⟩
    have l2 := sp2.length
    rw [NT.sp_len] at l2
    have hl2 := S2 _ _ hl1
    walk_at "rd"
    refine ⟨szB (by show 1 + xs2.length ≤ _; omega), fun p3 hp3 => ?_⟩
    have SS := S.trans S2
    have S3 := same_new hp3 (H := H2) (.lst ([.ref pp] ++ xs2))
    have hl3 := upd_same (H := H2) (a := p3) (o := .lst ([.ref pp] ++ xs2))
    generalize upd H2 p3 (.lst ([.ref pp] ++ xs2)) = H3 at S3 hl3 ⊢
    have h13 := S3 _ _ (SS _ _ h1)
    walk_at "rd"
    refine ⟨tn.same (SS.trans S3), by omega, by omega, by rw [lenA]; omega, fun H4 q4 xs4 S4 hq40 hq4 sp4 => ?_⟩
    have l4 := sp4.length
    rw [NT.sp_len] at l4
    have hl4 := S4 _ _ hl3
    walk_at "rd"
    refine ⟨szB (by rw [List.length_append]; show 1 + xs2.length + xs4.length ≤ _; omega), fun p5 hp5 => ?_⟩
    have S5 := same_new hp5 (H := H4) (.lst ([.ref pp] ++ xs2 ++ xs4))
    have S25 := (S3.trans S4).trans S5
    have SA := SS.trans S25
    refine q _ p5 _ SA (((SS.trans S3).trans S4).free hp5) upd_same ?_
    exact Sps.append (Sps.append (.cons (S25 _ _ (S2 _ _ hp1)) (.fk (SA _ _ h1) (cn.same SA) (SA _ _ hq) (ty.same SA) (tn.same SA)) .nil) (sp2.same S25)) (sp4.same S5)

theorem ok_law_spotsA (T : Tx K mg) : ∀ d : Nat, FnOk P w K mg base (CXe P w) (d + 1) T.f_law_spots T.d_law_spots ["_law_drawn_here", "_law_place"] (sp_spots K d) := by
  intro d
  induction d with
  | zero => exact ok_law_spots0 T
  | succ d ih => exact ok_law_spotsS T d ih
theorem ok_law_spots (T : Tx K mg) : FnOk P w K mg base (CXe P w) (32 + 1) T.f_law_spots T.d_law_spots ["_law_drawn_here", "_law_place"] (sp_spots K 32) := by exact ok_law_spotsA T 32

theorem ok_law_whole (T : Tx K mg) : FnOk P w K mg base (CXe P w) 1 T.f_law_whole T.d_law_whole ["_law_found"] sp_law_whole := by
  have sc := sc_law_whole
  refine T.F_law_whole.okx sc (fun vs H Q E h => ?_) (fun cdv A outer s H vs Q E hr h => ?_)
  · obtain ⟨i, rfl, q⟩ := h
    rfl
  obtain ⟨i, rfl, q⟩ := h
  have hu := hr.units0
  have hu2 := hr.units
  refine ⟨_, (@pss_one _ _ _ (@ps_ret _ _ _ _ (pe_and (pe_callB call_isi rfl T.z_isinstance bt_isinstance (pa_cons (pv 0) (pa_cons (pe_bltn (v := .ty "int") rfl T.z_int bt_int rfl) pa_nil))) (pe_one (pe_not (pe_callB call_isi rfl T.z_isinstance bt_isinstance (pa_cons (pv 0) (pa_cons (pe_bltn (v := .ty "bool") rfl T.z_bool bt_bool rfl) pa_nil)))))))), ?_⟩
  walk_at "kx"
  walk_at "rd"
  exact q

theorem ok_law_same (T : Tx K mg) : FnOk P w K mg base (CXe P w) 1 T.f_law_same T.d_law_same ["_law_found", "_law_drawn_here"] (sp_same17 T.c_Leaf T.c_Fork K) := by
  have sc := sc_law_same
  refine T.F_law_same.okx sc (fun vs H Q E h => ?_) (fun cdv A outer s H vs Q E hr h => ?_)
  · obtain ⟨u, v, cs, t, rfl, nd, t4, wq, q⟩ := h
    rfl
  obtain ⟨u, v, cs, t, rfl, nd, t4, wq, q⟩ := h
  have hu := hr.units0
  have hu2 := hr.units
  refine ⟨_, (@pss_cons _ _ _ _ _ (@ps_if _ _ _ _ _ _ _ _ (PW.pt (pw_or (pt_not (pt_val (pe_callB call_isiO rfl T.z_isinstance bt_isinstance (pa_cons (pv 0) (pa_cons (pe_glob (v := .ref T.c_Node) rfl T.m_Node rfl) pa_nil))))) (pw_or (pt_not (pt_val (pe_callB call_isi rfl T.z_isinstance bt_isinstance (pa_cons (pe_fld (pv 0) rfl) (pa_cons (pe_bltn (v := .ty "list") rfl T.z_list bt_list rfl) pa_nil))))) (pw_or1 (@pt_cmpR _ _ _ _ _ _ _ _ (op_neD hu2) (pe_fld (pv 0) rfl) (@pe_ix _ _ _ _ _ _ _ ix_tup (pv 1) pe_int (fun _ _ => rfl)) (nomark _)))))) (@pss_one _ _ _ (@ps_ret _ _ _ _ pe_bl)) pss_nil)
      (@pss_cons _ _ _ _ _ (@ps_if _ _ _ _ _ _ _ _ (@pt_cmpR _ _ _ _ _ _ _ _ op_isN (@pe_ix _ _ _ _ _ _ _ ix_tup (pv 1) pe_int (fun _ _ => rfl)) pe_non (nomark _)) (@pss_one _ _ _ (@ps_ret _ _ _ _ (pe_and (pe_callB call_isiO rfl T.z_isinstance bt_isinstance (pa_cons (pv 0) (pa_cons (pe_glob (v := .ref T.c_Leaf) rfl T.m_Leaf rfl) pa_nil))) (pe_one (pe_not (pe_callB call_isiO rfl T.z_isinstance bt_isinstance (pa_cons (pv 0) (pa_cons (pe_glob (v := .ref T.c_Fork) rfl T.m_Fork rfl) pa_nil)))))))) pss_nil)
      (@pss_cons _ _ _ _ _ (@ps_if _ _ _ _ _ _ _ _ (PW.pt (pw_or (pt_not (pt_val (pe_callB call_isiO rfl T.z_isinstance bt_isinstance (pa_cons (pv 0) (pa_cons (pe_glob (v := .ref T.c_Fork) rfl T.m_Fork rfl) pa_nil))))) (pw_or (pt_val (pe_callB call_isiO rfl T.z_isinstance bt_isinstance (pa_cons (pv 0) (pa_cons (pe_glob (v := .ref T.c_Leaf) rfl T.m_Leaf rfl) pa_nil)))) (pw_or1 (@pt_cmpR _ _ _ _ _ _ _ _ (op_neD hu2) (pe_fld (pv 0) rfl) (@pe_ix _ _ _ _ _ _ _ ix_tup (pv 1) pe_int (fun _ _ => rfl)) (nomark _)))))) (@pss_one _ _ _ (@ps_ret _ _ _ _ pe_bl)) pss_nil)
      (@pss_one _ _ _ (@ps_ret _ _ _ _ (pe_and (pe_callB call_isiO rfl T.z_isinstance bt_isinstance (pa_cons (pe_fld (pv 0) rfl) (pa_cons (pe_glob (v := .ref T.c_Node) rfl T.m_Node rfl) pa_nil))) (pe_one (pe_callB call_isiO rfl T.z_isinstance bt_isinstance (pa_cons (pe_fld (pv 0) rfl) (pa_cons (pe_glob (v := .ref T.c_Node) rfl T.m_Node rfl) pa_nil)))))))))), ?_⟩
  walk_at "kx"
  have C1 := T.C_Leaf
  have C2 := T.C_Fork
  have N0 : NoAttr K T.c_Leaf "counted" := T.nLc
  have N1 : NoAttr K T.c_Fork "counted" := T.nFcd
  have N2 : NoAttr K T.c_Fork "question" := T.nFqn
  have N3 : NoAttr K T.c_Fork "yes" := T.nFys
  have N4 : NoAttr K T.c_Fork "no" := T.nFno
  have N5 : NoAttr K T.c_Fork "leaf_count" := T.nFlt
  have N6 : NoAttr K T.c_Fork "depth" := T.nFdh
  have t1 : ∀ {H : Hp} {a dx fs}, H a = some (.ins T.c_Leaf dx fs) → TyOf K H (.ref a) (.ref T.c_Leaf) := fun h => .ins h C1 T.clL T.ogt T.otk T.omL
  have t2 : ∀ {H : Hp} {a dx fs}, H a = some (.ins T.c_Fork dx fs) → TyOf K H (.ref a) (.ref T.c_Fork) := fun h => .ins h C2 T.clF T.ogt T.otk T.omF
  have k1 := T.kLF
  have k2 := T.kFF
  have k3 := T.kLN
  have k4 := T.kFN
  have k5 := T.kLL
  have k6 := T.kFL
  cases t4 with
  | @lf p l ds h1 cn =>
    cases nd with
    | @lf x dx l2 _ hx cn2 =>
      have ty := t1 hx
      obtain ⟨xs, a1, b1⟩ := id cn
      obtain ⟨ys, a2, b2⟩ := id cn2
      walk_at "rd"
      refine ⟨.list (ds.map cD), .list (ds.map cD), .lst (SqL.of a2) b2.dv, .lst (SqL.of a1) b1.dv, (shpCs wq.c).shaped, (shpCs wq.c).shaped, ?_⟩
      rw [cs_eqv]
      walk_at "rd"
      exact q
  | @fk p l qa ds qq v1 v2 y n h1 cn hq ty' tn =>
    cases nd with
    | @fk x dx l2 qa2 _ _ u1 u2 _ _ hx cn2 hq2 n1 n2 =>
      have ty := t2 hx
      obtain ⟨xs, a1, b1⟩ := id cn
      obtain ⟨ys, a2, b2⟩ := id cn2
      have isN : ∀ {v : V} {t : NT}, ND T.c_Leaf T.c_Fork K H v t → ∃ c, TyOf K H v c ∧ PySem.W.kitOne K c (.ref T.c_Node) = some true := fun h => by
        cases h with
        | lf h _ => exact ⟨_, t1 h, k3⟩
        | fk h _ _ _ _ => exact ⟨_, t2 h, k4⟩
      obtain ⟨c1, ty1, kn1⟩ := isN n1
      obtain ⟨c2, ty2, kn2⟩ := isN n2
      walk_at "rd"
      refine ⟨.list (ds.map cD), .list (ds.map cD), .lst (SqL.of a2) b2.dv, .lst (SqL.of a1) b1.dv, (shpCs wq.c).shaped, (shpCs wq.c).shaped, ?_⟩
      rw [cs_eqv]
      walk_at "rd"
      refine ⟨qD qq, qD qq, dvQ hq2, dvQ hq, ((shpQ wq.q).mono (by decide)).shaped, ((shpQ wq.q).mono (by decide)).shaped, ?_⟩
      rw [q_eqv]
      walk_at "rd"
      exact q

theorem ok_law_looked (T : Tx K mg) : FnOk P w K mg base (CXe P w) 34 T.f_law_looked T.d_law_looked ["_law_found", "_law_drawn_here"] (sp_looked17 T.c_Leaf T.c_Fork K) := by
  have sc := sc_law_looked
  refine T.F_law_looked.okx sc (fun vs H Q E h => ?_) (fun cdv A outer s H vs Q E hr h => ?_)
  · obtain ⟨u, v, t, rfl, nd, t4, tz, td, q⟩ := h
    rfl
  obtain ⟨u, v, t, rfl, nd, t4, tz, td, q⟩ := h
  have hu := hr.units0
  have hu2 := hr.units
  refine ⟨_, (@pss_cons _ _ _ _ _ (@ps_set _ _ 2 _ _ _ _ sc.nd rfl (by first | exact Or.inl rfl | exact Or.inr rfl) (pe_call (ok_law_spots T) (hr.mono (by decide)) rfl T.m_law_spots T.F_law_spots.kp T.b_law_spots .nil (pass_e fun _ _ z => z) (pa_cons (pv 1) (pa_cons pe_str pa_nil se_c))) (by rfl) (by first | exact .inl rfl | exact .inr rfl | assumption))
      (@pss_cons _ _ _ _ _ (@ps_mid _ _ _ (@ps_set _ _ 3 _ _ _ _ sc.nd rfl (by first | exact Or.inl rfl | exact Or.inr rfl) (pe_callB call_sortedS rfl T.z_sorted bt_sorted (pa_cons (pe_lc (ts := ["_law_spot"]) (js := []) (LcOk.of rfl) rfl (pi_list (pv 2)) (fun _ _ _ _ => (pg_name (i := 0) (nodup_of rfl) rfl (Or.inl rfl))) (fun _ _ _ _ => (pf_one (@pt_cmpR _ _ _ _ _ _ _ _ op_isN (@pe_ix _ _ _ _ _ _ _ ix_tup (@pe_ix _ _ _ _ _ _ _ ix_tup (pv 0) pe_int (fun _ _ => rfl)) pe_int (fun _ _ => rfl)) pe_non (nomark _)))) (fun _ _ _ _ => (@pe_ix _ _ _ _ _ _ _ ix_tup (pv 0) pe_int (fun _ _ => rfl)))) pa_nil)) (by rfl) (by first | exact .inl rfl | exact .inr rfl | assumption)))
      (@pss_cons _ _ _ _ _ (@ps_mid _ _ _ (@ps_set _ _ 4 _ _ _ _ sc.nd rfl (by first | exact Or.inl rfl | exact Or.inr rfl) (pe_meth20 (pv 0) T.C_Leaf T.M_Leaf_leaves (ok_Leaf_leaves T) (hr.mono (by decide)) T.b_Leaf_leaves T.C_Fork T.M_Fork_leaves (ok_Fork_leaves T) (hr.mono (by decide)) T.b_Fork_leaves (pass_e fun _ _ z => z)) (by rfl) (by first | exact .inl rfl | exact .inr rfl | assumption)))
      (@pss_cons _ _ _ _ _ (@ps_mid _ _ _ (@ps_set _ _ 5 _ _ _ _ sc.nd rfl (by first | exact Or.inl rfl | exact Or.inr rfl) (pe_meth20 (pv 0) T.C_Leaf T.M_Leaf_deep (ok_Leaf_deep T) (hr.mono (by decide)) T.b_Leaf_deep T.C_Fork T.M_Fork_deep (ok_Fork_deep T) (hr.mono (by decide)) T.b_Fork_deep (pass_e fun _ _ z => z)) (by rfl) (by first | exact .inl rfl | exact .inr rfl | assumption)))
      (@pss_cons _ _ _ _ _ (@ps_if _ _ _ _ _ _ _ _ (PW.pt (pw_or (pt_not (pt_val (pe_call (ok_law_whole T) (hr.mono (by decide)) rfl T.m_law_whole T.F_law_whole.kp T.b_law_whole .nil (pass_e fun _ _ z => z) (pa_cons (pv 4) pa_nil)))) (pw_or (@pt_cmpR _ _ _ _ _ _ _ _ op_ne (pv 4) (pe_callB call_len_seq rfl T.z_len bt_len (pa_cons (pv 3) pa_nil)) (nomark _)) (pw_or1 (pt_not (pt_val (pe_call (ok_law_whole T) (hr.mono (by decide)) rfl T.m_law_whole T.F_law_whole.kp T.b_law_whole .nil (pass_e fun _ _ z => z) (pa_cons (pv 5) pa_nil)))))))) (@pss_one _ _ _ (@ps_ret _ _ _ _ pe_bl)) pss_nil)
      (@pss_cons _ _ _ _ _ (@ps_mid _ _ _ (@ps_if _ _ _ _ _ _ _ _ (@pt_cmpR _ _ _ _ _ _ _ _ op_ne (pv 5) (pe_callB (call_max1 rfl) rfl T.z_max bt_max (pa_cons (pe_lc (ts := ["_law_spot"]) (js := []) (LcOk.of rfl) rfl (pi_list (pv 2)) (fun _ _ _ _ => (pg_name (i := 0) (nodup_of rfl) rfl (Or.inl rfl))) (fun _ _ _ _ => pf_nil) (fun _ _ _ _ => (pe_callB call_len_str rfl T.z_len bt_len (pa_cons (@pe_ix _ _ _ _ _ _ _ ix_tup (pv 0) pe_int (fun _ _ => rfl)) pa_nil)))) pa_nil)) (nomark _)) (@pss_one _ _ _ (@ps_ret _ _ _ _ pe_bl)) pss_nil))
      (@pss_cons _ _ _ _ _ (@ps_mid _ _ _ (@ps_set _ _ 6 _ _ _ _ sc.nd rfl (by first | exact Or.inl rfl | exact Or.inr rfl) (pe_meth20 (pv 0) T.C_Leaf T.M_Leaf_places (ok_Leaf_places T) (hr.mono (by decide)) T.b_Leaf_places T.C_Fork T.M_Fork_places (ok_Fork_places T) (hr.mono (by decide)) T.b_Fork_places (pass_e fun _ _ z => z)) (by rfl) (by first | exact .inl rfl | exact .inr rfl | assumption)))
      (@pss_cons _ _ _ _ _ (@ps_if _ _ _ _ _ _ _ _ (PW.pt (pw_or (pt_not (pt_val (pe_callB call_isi rfl T.z_isinstance bt_isinstance (pa_cons (pv 6) (pa_cons (pe_bltn (v := .ty "list") rfl T.z_list bt_list rfl) pa_nil))))) (pw_or1 (@pt_cmpR _ _ _ _ _ _ _ _ (op_neD hu2) (pv 6) (pv 3) (nomark _))))) (@pss_one _ _ _ (@ps_ret _ _ _ _ pe_bl)) pss_nil)
      (@pss_cons _ _ _ _ _ (ps_expr (pe_bm0 PySem.F.plainAttrs_list PySem.F.slot_list_clear PySem.F.type_list_clear mt_clear (pv 6)))
      (@pss_one _ _ _ (@ps_ret _ _ _ _ (pe_cmpR (op_eqD hu2) (pe_meth20 (pv 0) T.C_Leaf T.M_Leaf_places (ok_Leaf_places T) (hr.mono (by decide)) T.b_Leaf_places T.C_Fork T.M_Fork_places (ok_Fork_places T) (hr.mono (by decide)) T.b_Fork_places (pass_e fun _ _ z => z)) (pv 3) (nomark _))))))))))))), ?_⟩
  walk_at "kx"
  have C1 := T.C_Leaf
  have C2 := T.C_Fork
  have N0 : NoAttr K T.c_Leaf "counted" := T.nLc
  have N1 : NoAttr K T.c_Fork "counted" := T.nFcd
  have N2 : NoAttr K T.c_Fork "question" := T.nFqn
  have N3 : NoAttr K T.c_Fork "yes" := T.nFys
  have N4 : NoAttr K T.c_Fork "no" := T.nFno
  have N5 : NoAttr K T.c_Fork "leaf_count" := T.nFlt
  have N6 : NoAttr K T.c_Fork "depth" := T.nFdh
  have e0 : ("" : Str).length = 0 := by decide +kernel
  have lvz := t.lv_sz
  walk_at "rd"
  rename_i H1 sa xs1 S1 hsa0 hsa sp1
  have hl1 := sp1.length
  have hl2 := t.sp_len ""
  have nd1 := nd.same S1
  have lpl := t.pl_len ""
  have l64 : (lfs (t.sp "")).length < 64 := by have := (t.pl_perm "").length_eq; omega
  refine ⟨fun σ' H2 => Iv (∃ fa : Addr, σ' = [some u, some v, some (.ref sa), some (.ref fa), none, none, none] ∧ Same H1 H2 ∧ H2 fa = some (.lst ((t.pl "").map V.str))), ?_, ?_⟩
  · walk_at "rd"
    refine lc_list (K := K) (a := sa) (xs := xs1) (fun i ys H' => Iv (H' = H1 ∧ ys = (lfs ((t.sp "").take i)).map V.str)) ⟨⟨rfl, rfl⟩⟩ (fun i ys H' hi z => ⟨by rw [z.o.1]; exact SqL.of hsa, ?_⟩) ?_ ?_
    · rw [z.o.2, List.length_map]
      have a1 := lfs_le ((t.sp "").take i)
      rw [List.length_take] at a1
      exact small1000 (by omega)
    · rintro i x ys H' hi ⟨⟨rfl, rfl⟩⟩
      have il : i + 1 ≤ xs1.length := (List.getElem?_eq_some_iff.mp hi).1
      obtain ⟨p, v', pw, u', rfl, hts, hp, t4'⟩ := sp1.get hi
      cases t4' with
      | lf h1 h2 =>
        walk_at "rd"
        refine ⟨⟨rfl, ?_⟩⟩
        rw [List.take_add_one, hts, lfs_app, List.map_append]
        rfl
      | fk h1 h2 h3 h4 h5 =>
        walk_at "rd"
        refine ⟨⟨rfl, ?_⟩⟩
        rw [List.take_add_one, hts, lfs_app, List.map_append]
        exact (List.append_nil _).symm
    · rintro ys H' ⟨⟨rfl, rfl⟩⟩ p hp
      rw [hl1, List.take_length]
      walk_at "rd"
      rename_i fa ws' hfa pm so
      obtain rfl : ws' = t.pl "" := sorted_one so (pw_sorted (t.pl_up _)) (pm.trans (t.pl_perm _))
      exact ⟨⟨fa, rfl, (same_new hp _).new hfa _, upd_same⟩⟩
  rintro σ' H2 ⟨⟨fa, rfl, S2, hf⟩⟩
  have nd2 := nd1.same S2
  have hsa2 := S2 _ _ hsa
  have sp2 := sp1.same S2
  have S02 := S1.trans S2
  clear hsa sp1 nd1 nd t4 hsa0
  refine ⟨fun σ' H3 => Iv (H3 = H2 ∧ σ' = [some u, some v, some (.ref sa), some (.ref fa), some (.int (t.lv : Nat)), none, none]), ?_, ?_⟩
  · walk_at "rd"
    refine nd_leaves nd2 ?_
    walk_at "rd"
    exact ⟨⟨rfl, rfl⟩⟩
  rintro σ' H3 ⟨⟨rfl, rfl⟩⟩
  refine ⟨fun σ' H4 => Iv (H4 = H3 ∧ σ' = [some u, some v, some (.ref sa), some (.ref fa), some (.int (t.lv : Nat)), some (.int (t.dp : Nat)), none]), ?_, ?_⟩
  · walk_at "rd"
    refine nd_deep nd2 ?_
    walk_at "rd"
    exact ⟨⟨rfl, rfl⟩⟩
  rintro σ' H4 ⟨⟨rfl, rfl⟩⟩
  have lm : ((t.pl "").map V.str).length = t.lv := by rw [List.length_map]; exact lpl
  walk_at "rd"
  refine iteNS (show V.int _ = V.int _ by rw [lm]) ?_
  walk_at "rd"
  refine ⟨fun σ' H5 => Iv (Same H4 H5 ∧ σ' = [some u, some v, some (.ref sa), some (.ref fa), some (.int (t.lv : Nat)), some (.int (t.dp : Nat)), none]), ?_, ?_⟩
  · walk_at "rd"
    refine lc_list (K := K) (a := sa) (xs := xs1) (fun i ys H' => Iv (H' = H4 ∧ ys = (((t.sp "").take i).map fun s => (s.1.length : Int)).map V.int)) ⟨⟨rfl, rfl⟩⟩ (fun i ys H' hi z => ⟨by rw [z.o.1]; exact SqL.of hsa2, by rw [z.o.2, List.length_map, List.length_map, List.length_take]; exact small1000 (by omega)⟩) ?_ ?_
    · rintro i x ys H' hi ⟨⟨rfl, rfl⟩⟩
      have il : i + 1 ≤ xs1.length := (List.getElem?_eq_some_iff.mp hi).1
      obtain ⟨p, v', pw, u', rfl, hts, hp, t4'⟩ := sp2.get hi
      have lpw : pw.length ≤ sizeLine := szB (by have := (NT.sp_le hts).1; omega)
      walk_at "rd"
      refine ⟨⟨rfl, ?_⟩⟩
      rw [List.take_add_one, hts, List.map_append, List.map_append]
      rfl
    · rintro ys H' ⟨⟨rfl, rfl⟩⟩ p hp
      rw [hl1, List.take_length]
      walk_at "rd"
      refine ⟨t.sp_ne, ?_⟩
      rw [NT.deep_mx]
      walk_at "rd"
      refine iteNS rfl ?_
      walk_at "rd"
      exact ⟨⟨same_new hp _, rfl⟩⟩
  rintro σ' H5 ⟨⟨S5, rfl⟩⟩
  have nd5 := nd2.same S5
  have hf5 := S5 _ _ hf
  have S05 := S02.trans S5
  clear nd2 hf hsa2 sp2 S02
  refine ⟨fun σ' H6 => Iv (∃ pa : Addr, σ' = [some u, some v, some (.ref sa), some (.ref fa), some (.int (t.lv : Nat)), some (.int (t.dp : Nat)), some (.ref pa)] ∧ Same H5 H6 ∧ H5 pa = none ∧ H6 pa = some (.lst ((t.pl "").map V.str))), ?_, ?_⟩
  · walk_at "rd"
    refine nd_places nd5 (by omega) fun H6 pa S6 hpa0 hpa => ?_
    walk_at "rd"
    exact ⟨⟨pa, rfl, S6, hpa0, hpa⟩⟩
  rintro σ' H6 ⟨⟨pa, rfl, S6, hpa0, hpa⟩⟩
  have hf6 := S6 _ _ hf5
  have shp : Shp 64 (.list ((t.pl "").map PyData.str)) := shpSs (t.pl_ok "" (by intro c hc; rw [show cds ("" : Str) = [] by decide +kernel] at hc; cases hc))
  have S7 := S6.upd hpa0 (.lst [])
  have hf7 := S7 _ _ hf5
  have nd7 := nd5.same S7
  walk_at "rd"
  refine ⟨.list ((t.pl "").map PyData.str), .list ((t.pl "").map PyData.str), .lst (SqL.of hpa) (dvSs _), .lst (SqL.of hf6) (dvSs _), shp.shaped, shp.shaped, ?_⟩
  rw [strs_eqv, decide_eq_true rfl]
  walk_at "rd"
  refine nd_places nd7 (by omega) fun H8 pb S8 hpb0 hpb => ?_
  have hf8 := S8 _ _ hf7
  walk_at "rd"
  refine ⟨.list ((t.pl "").map PyData.str), .list ((t.pl "").map PyData.str), .lst (SqL.of hpb) (dvSs _), .lst (SqL.of hf8) (dvSs _), shp.shaped, shp.shaped, ?_⟩
  rw [strs_eqv, decide_eq_true rfl]
  exact q _ ((S05.trans S7).trans S8)

theorem ok_law (T : Tx K mg) : FnOk P w K mg base (CXe P w) 38 T.f_law T.d_law ["_law_script"] (sp_law K) := by
  have sc := sc_law
  refine T.F_law.okx sc (fun vs H Q E h => ?_) (fun cdv A outer s H vs Q E hr h => ?_)
  · obtain ⟨a, n0, rfl, hS, hl, q⟩ := h
    rfl
  obtain ⟨a, n0, rfl, hS, hl, q⟩ := h
  have hu := hr.units0
  have hu2 := hr.units
  refine ⟨_, (@pss_cons _ _ _ _ _ (@ps_set _ _ 1 _ _ _ _ sc.nd rfl (by first | exact Or.inl rfl | exact Or.inr rfl) (pe_callB call_sortedS rfl T.z_sorted bt_sorted (pa_cons (pe_call (ok_law_words T) (hr.mono (by decide)) rfl T.m_law_words T.F_law_words.kp T.b_law_words .nil (pass_e fun _ _ z => z) (pa_cons (pe_call (ok_law_cell T) (hr.mono (by decide)) rfl T.m_law_cell T.F_law_cell.kp T.b_law_cell .nil (pass_e fun _ _ z => z) (pa_cons (pv 0) (pa_cons pe_int pa_nil))) (pa_cons pe_int pa_nil))) pa_nil)) (by rfl) (by first | exact .inl rfl | exact .inr rfl | assumption))
      (@pss_cons _ _ _ _ _ (@ps_set _ _ 2 _ _ _ _ sc.nd rfl (by first | exact Or.inl rfl | exact Or.inr rfl) (pe_call (ok_law_pool T) (hr.mono (by decide)) rfl T.m_law_pool T.F_law_pool.kp T.b_law_pool .nil (pass_e fun _ _ z => z) (pa_cons (pe_call (ok_law_cell T) (hr.mono (by decide)) rfl T.m_law_cell T.F_law_cell.kp T.b_law_cell .nil (pass_e fun _ _ z => z) (pa_cons (pv 0) (pa_cons pe_int pa_nil))) pa_nil)) (by rfl) (by first | exact .inl rfl | exact .inr rfl | assumption))
      (@pss_cons _ _ _ _ _ (@ps_mid _ _ _ (@ps_set _ _ 3 _ _ _ _ sc.nd rfl (by first | exact Or.inl rfl | exact Or.inr rfl) (@pe_lst _ _ _ _ (pa_cons (pe_call (ok_law_start T) (hr.mono (by decide)) rfl T.m_law_start T.F_law_start.kp T.b_law_start .nil (pass_e fun _ _ z => z) (pa_cons (@pe_lst _ _ _ _ (pa_cons pe_int pa_nil)) (pa_cons (pe_call (ok_law_cell T) (hr.mono (by decide)) rfl T.m_law_cell T.F_law_cell.kp T.b_law_cell .nil (pass_e fun _ _ z => z) (pa_cons (pv 0) (pa_cons pe_int pa_nil))) pa_nil))) (pa_cons pe_int pa_nil))) (by rfl) (by first | exact .inl rfl | exact .inr rfl | assumption)))
      (@pss_cons _ _ _ _ _ (@ps_mid _ _ _ (@ps_set _ _ 4 _ _ _ _ sc.nd rfl (by first | exact Or.inl rfl | exact Or.inr rfl) (pe_call (ok_law_columns T) (hr.mono (by decide)) rfl T.m_law_columns T.F_law_columns.kp T.b_law_columns .nil (pass_e fun _ _ z => z) (pa_cons (pv 3) (pa_cons (pv 1) (pa_cons (@pe_op _ _ _ _ _ _ _ _ op_add pe_int (pe_call (ok_law_draw T) (hr.mono (by decide)) rfl T.m_law_draw T.F_law_draw.kp T.b_law_draw .nil (pass_e fun _ _ z => z) (pa_cons (pv 3) (pa_cons pe_int pa_nil)))) pa_nil)))) (by rfl) (by first | exact .inl rfl | exact .inr rfl | assumption)))
      (@pss_cons _ _ _ _ _ (ps_for powx rfl (pi_list (@pe_op _ _ _ _ _ _ _ _ op_cat (@pe_lst _ _ _ _ (pa_cons (pe_call (ok_law_cell T) (hr.mono (by decide)) rfl T.m_law_cell T.F_law_cell.kp T.b_law_cell .nil (pass_e fun _ _ z => z) (pa_cons (pv 0) (pa_cons pe_int pa_nil))) pa_nil)) (pe_slice sl_list (pv 0) (po_some pe_int) (po_some pe_int)))) (pg_name (i := 5) sc.nd rfl (by first | exact Or.inl rfl | exact Or.inr rfl))
      (@pss_cons _ _ _ _ _ (@ps_mid _ _ _ (@ps_set _ _ 3 _ _ _ _ sc.nd rfl (by first | exact Or.inl rfl | exact Or.inr rfl) (@pe_lst _ _ _ _ (pa_cons (pe_call (ok_law_start T) (hr.mono (by decide)) rfl T.m_law_start T.F_law_start.kp T.b_law_start .nil (pass_e fun _ _ z => z) (pa_cons (@pe_lst _ _ _ _ (pa_cons pe_int pa_nil)) (pa_cons (pv 5) pa_nil))) (pa_cons pe_int pa_nil))) (by rfl) (by first | exact .inl rfl | exact .inr rfl | assumption)))
      (@pss_cons _ _ _ _ _ (@ps_mid _ _ _ (@ps_set _ _ 6 _ _ _ _ sc.nd rfl (by first | exact Or.inl rfl | exact Or.inr rfl) (pe_call (ok_law_drawn T) (hr.mono (by decide)) rfl T.m_law_drawn T.F_law_drawn.kp T.b_law_drawn .nil (pass_e fun _ _ z => z) (pa_cons (pv 3) (pa_cons (pv 4) (pa_cons (pv 2) (pa_cons (pv 1) (pa_cons pe_int pa_nil)))))) (by rfl) (by first | exact .inl rfl | exact .inr rfl | assumption)))
      (@pss_cons _ _ _ _ _ (@ps_mid _ _ _ (@ps_if _ _ _ _ _ _ _ _ (@pt_cmpR _ _ _ _ _ _ _ _ op_eqI (@pe_op _ _ _ _ _ _ _ _ op_mod (@pe_op _ _ _ _ _ _ _ _ op_fdivB (pv 5) pe_int) pe_int) pe_int (nomark _)) (@pss_one _ _ _ (@ps_set _ _ 6 _ _ _ _ sc.nd rfl (by first | exact Or.inl rfl | exact Or.inr rfl) (pe_call (ok_law_long T) (hr.mono (by decide)) rfl T.m_law_long T.F_law_long.kp T.b_law_long .nil (pass_e fun _ _ z => z) (pa_cons (pv 3) (pa_cons (pv 4) (pa_cons (pv 2) (pa_cons (pv 1) (pa_cons (@pe_op _ _ _ _ _ _ _ _ op_mod (@pe_op _ _ _ _ _ _ _ _ op_fdivB (pv 5) pe_int) pe_int) pa_nil)))))) (by rfl) (by first | exact .inl rfl | exact .inr rfl | assumption))) pss_nil))
      (@pss_cons _ _ _ _ _ (@ps_mid _ _ _ (@ps_set _ _ 7 _ _ _ _ sc.nd rfl (by first | exact Or.inl rfl | exact Or.inr rfl) (pe_call (ok_law_built T) (hr.mono (by decide)) rfl T.m_law_built T.F_law_built.kp T.b_law_built .nil (pass_e fun _ _ z => z) (pa_cons (pv 6) pa_nil)) (by rfl) (by first | exact .inl rfl | exact .inr rfl | assumption)))
      (@pss_one _ _ _ (ps_for powx rfl (pi_list (pe_call (ok_law_spots T) (hr.mono (by decide)) rfl T.m_law_spots T.F_law_spots.kp T.b_law_spots .nil (pass_e fun _ _ z => z) (pa_cons (pv 6) (pa_cons pe_str pa_nil se_c)))) (pg_tup rfl (pgs_cons (pg_name (i := 8) sc.nd rfl (by first | exact Or.inl rfl | exact Or.inr rfl)) (pgs_cons (pg_name (i := 9) sc.nd rfl (by first | exact Or.inl rfl | exact Or.inr rfl)) pgs_nil)))
      (@pss_cons _ _ _ _ _ (@ps_set _ _ 10 _ _ _ _ sc.nd rfl (by first | exact Or.inl rfl | exact Or.inr rfl) (pe_meth2 (pv 7) T.C_Leaf T.M_Leaf_at (ok_Node_at T) (hr.mono (by decide)) T.b_Node_at T.C_Fork T.M_Fork_at (ok_Node_at T) (hr.mono (by decide)) T.b_Node_at (pass_e fun _ _ z => z) (pa_cons (pv 8) pa_nil)) (by rfl) (by first | exact .inl rfl | exact .inr rfl | assumption))
      (@pss_one _ _ _ (@ps_if _ _ _ _ _ _ _ _ (PW.pt (pw_or (pt_not (pt_val (pe_call (ok_law_same T) (hr.mono (by decide)) rfl T.m_law_same T.F_law_same.kp T.b_law_same .nil (pass_e fun _ _ z => z) (pa_cons (pv 10) (pa_cons (pv 9) pa_nil))))) (pw_or1 (pt_not (pt_val (pe_call (ok_law_looked T) (hr.mono (by decide)) rfl T.m_law_looked T.F_law_looked.kp T.b_law_looked .nil (pass_e fun _ _ z => z) (pa_cons (pv 10) (pa_cons (pv 9) pa_nil)))))))) (@pss_one _ _ _ (@ps_ret _ _ _ _ pe_bl)) pss_nil))))))))))
      (@pss_one _ _ _ (@ps_ret _ _ _ _ pe_bl))))))), ?_⟩
  walk_at "kx"
  walk_at "rd"
  rename_i v0 ws0 H0 p1 w6 wd S1 hp1 h1 sa ws hsa pm so v1 ns pa l7 hpa
  refine ⟨fun σ' H1 => Iv (∃ (sa pa b : Addr) (ns : List Int) (ws : List Str) (n : Int × Int), σ' = [some (.ref a), some (.ref sa), some (.ref pa), some (.ref b), none, none, none, none, none, none, none] ∧ Bg n ∧ H1 b = some (.lst (bgL n)) ∧ H1 sa = some (.lst (ws.map V.str)) ∧ Wds ws ∧ ws.length = 6 ∧ H1 pa = some (.lst (ns.map V.int)) ∧ ns.length = 7 ∧ b ≠ sa ∧ b ≠ pa ∧ SqF K H1 a (n0.map V.int)), ?_, ?_⟩
  · walk_at "rd"
    rename_i z hz v2 sv lo hi b hb
    have wl := pm.length_eq
    exact ⟨⟨sa, pa, b, ns, ws, (sv, 12), rfl, ⟨by show (_ : Int) < sv; omega, hi⟩, upd_same, kp (kp (kp upd_same hpa) hz) hb, wd.perm pm, by omega, kp (kp upd_same hz) hb, l7, Ne.symm (ne_of_none (kp (kp upd_same hpa) hz) hb), Ne.symm (ne_of_none (kp upd_same hz) hb), ((((hS.same S1).new hsa).new hpa).new hz).new hb⟩⟩
  clear w6 wd pm so l7 hpa hsa h1 hp1 S1
  rintro σ' H1 ⟨⟨sa, pa, b, ns, ws, n, rfl, bg, hb, hsa, wd, w6, hpa, l7, b1, b2, hS1⟩⟩
  clear hS
  refine ⟨fun σ' H2 => Iv (∃ (ca : Addr) (xs : List V) (cs : List (Str × Str)) (n : Int × Int), σ' = [some (.ref a), some (.ref sa), some (.ref pa), some (.ref b), some (.ref ca), none, none, none, none, none, none] ∧ Bg n ∧ H2 b = some (.lst (bgL n)) ∧ S19 K H2 b ca pa sa xs cs ns ws ∧ SqF K H2 a (n0.map V.int)), ?_, ?_⟩
  · walk_at "rd"
    rename_i n1 d bg1 hd H2 n2 ca xs cs bg2 sb hb2 hca hc tv gc
    have sb2 : SameB b H1 H2 := sb_at.tr sb
    exact ⟨⟨ca, xs, cs, n2, rfl, bg2, hb2, ⟨hc, tv, gc, sb2 _ _ (Ne.symm b2) hpa, l7, sb2 _ _ (Ne.symm b1) hsa, wd, by omega, ne_of_none upd_same hca, b2, b1⟩, SqF.sb sb2 hb hS1⟩⟩
  rintro σ' H2 ⟨⟨ca, xs, cs, n, rfl, bg, hb, st, hS2⟩⟩
  clear hS1 hsa hpa
  obtain ⟨ms, em, lm⟩ := cut_ints n0 (some 4) (some 10)
  walk_at "rd"
  rename_i c3 l0 hl0
  refine ⟨(hS2.new hl0).sq, fun l1 hl1 => ?_⟩
  rw [em]
  have h00 : upd (upd H2 l0 (.lst [.int c3])) l1 (.lst (ms.map V.int)) l0 = some (.lst [.int c3]) := kp upd_same hl1
  walk_at "rd"
  refine ⟨szB (by rw [List.length_map]; show 1 + ms.length ≤ _; omega), fun ls hls => ?_⟩
  have S6 : Same H2 (upd (upd (upd H2 l0 (.lst [.int c3])) l1 (.lst (ms.map V.int))) ls (.lst ([.int c3] ++ ms.map V.int))) := ((same_new hl0 _).new hl1 _).new hls _
  have hl6 : upd (upd (upd H2 l0 (.lst [.int c3])) l1 (.lst (ms.map V.int))) ls (.lst ([.int c3] ++ ms.map V.int)) ls = some (.lst ([.int c3] ++ ms.map V.int)) := upd_same
  generalize upd (upd (upd H2 l0 (.lst [.int c3])) l1 (.lst (ms.map V.int))) ls (.lst ([.int c3] ++ ms.map V.int)) = H6 at S6 hl6 ⊢
  have st6 := st.sb (sb_of S6) hb
  clear h00 hS2 st
  refine ⟨ls, rfl, ⟨_, SqL.of hl6⟩, ?_⟩
  refine for_list (K := K) (a := ls) (xs := [.int c3] ++ ms.map V.int) (fun i σ H' => Iv (∃ (vb : V) (o5 o6 o7 o8 o9 o10 : Option V), σ = [some (.ref a), some (.ref sa), some (.ref pa), some vb, some (.ref ca), o5, o6, o7, o8, o9, o10] ∧ Same H6 H')) ⟨⟨_, _, _, _, _, _, _, rfl, Same.refl _⟩⟩ (fun i σ H' _ y => by obtain ⟨⟨_, _, _, _, _, _, _, _, s⟩⟩ := y; exact SqL.of (s _ _ hl6)) ?_ ?_
  · rintro i x σ H' hx ⟨⟨vb, o5, o6, o7, o8, o9, o10, rfl, S⟩⟩
    obtain ⟨c, rfl⟩ : ∃ c : Int, x = .int c := by
      have hm := List.mem_of_getElem? hx
      rw [show [V.int c3] ++ ms.map V.int = (c3 :: ms).map V.int from rfl] at hm
      obtain ⟨c, _, e⟩ := List.mem_map.mp hm
      exact ⟨c, e.symm⟩
    refine ⟨fun σ' H7 => Iv (∃ (b2 : Addr) (n : Int × Int), σ' = [some (.ref a), some (.ref sa), some (.ref pa), some (.ref b2), some (.ref ca), some (.int c), o6, o7, o8, o9, o10] ∧ Bg n ∧ H7 b2 = some (.lst (bgL n)) ∧ S19 K H7 b2 ca pa sa xs cs ns ws ∧ Same H' H7 ∧ H' b2 = none), ?_, ?_⟩
    · walk_at "rd"
      rename_i z0 hz0 sv lo hi b2 hb2
      have hb20 : H' b2 = none := (upd_none hb2).2
      have SN := (same_new hz0 (H := H') (.lst [.int 0])).new hb2 (.lst (bgL (sv, 12)))
      exact ⟨⟨b2, (sv, 12), rfl, ⟨by show (_ : Int) < sv; omega, hi⟩, upd_same, st6.nb (S.trans SN) (S.free hb20), SN, hb20⟩⟩
    rintro σ' H7 ⟨⟨b2, n, rfl, bg, hb7, st7, S7, hb0⟩⟩
    refine ⟨fun σ' H8 => Iv (∃ (v : V) (t : NT) (n : Int × Int), σ' = [some (.ref a), some (.ref sa), some (.ref pa), some (.ref b2), some (.ref ca), some (.int c), some v, o7, o8, o9, o10] ∧ Bg n ∧ H8 b2 = some (.lst (bgL n)) ∧ S19 K H8 b2 ca pa sa xs cs ns ws ∧ T4 K (del H8 b2) v t ∧ Wq cs t ∧ t.dp ≤ 20 ∧ t.sz ≤ 63 ∧ Same H' H8), ?_, ?_⟩
    · walk_at "rd"
      rename_i H8 n8 v t bg8 sb hb8 t4 wq dp
      exact ⟨⟨v, t, n8, rfl, bg8, hb8, st7.sb sb hb7, t4, wq, by omega, NT.sz63 dp, same_sb S7 hb0 sb⟩⟩
    clear bg hb7 st7 S7
    rintro σ' H8 ⟨⟨v, t, n, rfl, bg, hb8, st8, t4, wq, dp, tz, S8⟩⟩
    refine ⟨fun σ' H9 => Iv (∃ (v : V) (t : NT) (n : Int × Int), σ' = [some (.ref a), some (.ref sa), some (.ref pa), some (.ref b2), some (.ref ca), some (.int c), some v, o7, o8, o9, o10] ∧ Bg n ∧ H9 b2 = some (.lst (bgL n)) ∧ S19 K H9 b2 ca pa sa xs cs ns ws ∧ T4 K (del H9 b2) v t ∧ Wq cs t ∧ t.dp ≤ 20 ∧ t.sz ≤ 63 ∧ Same H' H9), ?_, ?_⟩
    · walk_at "rd"
      refine ite3 (fun _ => ?_) (fun _ => ?_)
      · walk_at "rd"
        rename_i H9 n9 v t bg9 sb hb9 t4 wq dp tz
        exact ⟨⟨v, t, n9, rfl, bg9, hb9, st8.sb sb hb8, t4, wq, dp, tz, same_sb S8 hb0 sb⟩⟩
      · walk_at "rd"
        exact ⟨⟨v, t, n, rfl, bg, hb8, st8, t4, wq, dp, tz, S8⟩⟩
    clear bg hb8 st8 t4 wq dp tz S8
    rintro σ' H9 ⟨⟨v, t, n, rfl, bg, hb9, st9, t4', wq, dp, tz, S9⟩⟩
    have t4 := t4'.same (del_same H9 b2)
    clear bg hb9 st9 t4'
    refine ⟨fun σ' H10 => Iv (∃ u : V, σ' = [some (.ref a), some (.ref sa), some (.ref pa), some (.ref b2), some (.ref ca), some (.int c), some v, some u, o8, o9, o10] ∧ Same H9 H10 ∧ ND T.c_Leaf T.c_Fork K H10 u t), ?_, ?_⟩
    · walk_at "rd"
      rename_i H5 u S5 nd nn
      exact ⟨⟨u, rfl, S5, nd⟩⟩
    rintro σ' H10 ⟨⟨u, rfl, S10, nd⟩⟩
    have t10 := t4.same S10
    have S010 := (S.trans S9).trans S10
    clear t4 S9 S10 S
    have e0 : ("" : Str).length = 0 := by decide +kernel
    walk_at "rd"
    rename_i H11 q1 xq S11 hq0 hq sp
    have nd11 := nd.same S11
    refine for_list (K := K) (a := q1) (xs := xq) (fun j σ H' => Iv (∃ (o8 o9 o10 : Option V), σ = [some (.ref a), some (.ref sa), some (.ref pa), some (.ref b2), some (.ref ca), some (.int c), some v, some u, o8, o9, o10] ∧ Same H11 H')) ⟨⟨_, _, _, rfl, Same.refl _⟩⟩ (fun i σ H' _ y => by obtain ⟨⟨_, _, _, _, s⟩⟩ := y; exact SqL.of (s _ _ hq)) ?_ ?_
    · rintro j x σ H12 hx ⟨⟨o8, o9, o10, rfl, S12⟩⟩
      obtain ⟨p, v', pw, u', rfl, hts, hp, t4'⟩ := sp.get hx
      obtain ⟨z1, z2, go⟩ := NT.sp_le hts
      have nd12 := nd11.same S12
      have hp12 := S12 _ _ hp
      have t12 := t4'.same S12
      have wq' := wq.go go
      walk_at "rd"
      refine nd_at nd12 (by omega) go (fun k hk => by walk_at "rd"; exact hk) fun v2 nd2 => ?_
      walk_at "rd"
      rename_i H13 S13
      exact ⟨⟨_, _, _, rfl, S12.trans S13⟩⟩
    · rintro σ H12 ⟨⟨o8, o9, o10, rfl, S12⟩⟩
      exact ⟨⟨_, _, _, _, _, _, _, rfl, (S010.trans S11).trans S12⟩⟩
  · rintro σ H' ⟨⟨vb, o5, o6, o7, o8, o9, o10, rfl, _⟩⟩
    walk_at "rd"
    exact q _

end

theorem fin {K : PySem.W.Frag} {h : Heap} {mg : Str → Option Value} {fa f0 f1 f2 f3 f4 f5 f6 f7 f8 f9 f10 f11 f12 f13 f14 f15 f16 f17 f18 f19 f20 f21 f22 f23 f24 f25 f26 c_NoPlace c_Node c_Leaf c_Fork : Addr} (X : K.In h) (G : h.Ns mainGlobals mg) (hfa : mg "law" = some (.ref fa))
    {od0 an0 od1 an1 od2 an2 od3 an3 od4 an4 od5 an5 od6 an6 od7 an7 od8 an8 od9 an9 od10 an10 od11 an11 od12 an12 od13 an13 od14 an14 od15 an15 od16 an16 od17 an17 od18 an18 od19 an19 od20 an20 od21 an21 od22 an22 od23 an23 od24 an24 od25 an25 od26 an26 : Option Addr} {sl0 sl1 sl2 sl3 sl4 sl5 sl6 sl7 sl8 sl9 sl10 sl11 sl12 sl13 sl14 sl15 sl16 sl17 sl18 sl19 sl20 sl21 sl22 sl23 sl24 sl25 sl26 : Array (Option Value)} {oc0 kV0 dc0 pm0 cd0 ct0 oc1 kV1 dc1 pm1 cd1 ct1 oc2 kV2 dc2 pm2 cd2 ct2 oc3 kV3 dc3 pm3 cd3 ct3 oc4 kV4 dc4 pm4 cd4 ct4 oc5 kV5 dc5 pm5 cd5 ct5 oc6 kV6 dc6 pm6 cd6 ct6 oc7 kV7 dc7 pm7 cd7 ct7 oc8 kV8 dc8 pm8 cd8 ct8 oc9 kV9 dc9 pm9 cd9 ct9 oc10 kV10 dc10 pm10 cd10 ct10 oc11 kV11 dc11 pm11 cd11 ct11 oc12 kV12 dc12 pm12 cd12 ct12 oc13 kV13 dc13 pm13 cd13 ct13 oc14 kV14 dc14 pm14 cd14 ct14 oc15 kV15 dc15 pm15 cd15 ct15 oc16 kV16 dc16 pm16 cd16 ct16 oc17 kV17 dc17 pm17 cd17 ct17 oc18 kV18 dc18 pm18 cd18 ct18 oc19 kV19 dc19 pm19 cd19 ct19 oc20 kV20 dc20 pm20 cd20 ct20 oc21 kV21 dc21 pm21 cd21 ct21 oc22 kV22 dc22 pm22 cd22 ct22 oc23 kV23 dc23 pm23 cd23 ct23 oc24 kV24 dc24 pm24 cd24 ct24 oc25 kV25 dc25 pm25 cd25 ct25 oc26 kV26 dc26 pm26 cd26 ct26 : Value}
    (a_NoPlace : PySem.W.nsIn K mainGlobals "NoPlace" = some (some (.ref c_NoPlace)))
    (a_Node : PySem.W.nsIn K mainGlobals "Node" = some (some (.ref c_Node)))
    (pg_Node : PySem.W.plainGet K c_Node Str.empty = true)
    (hd_Node : PySem.W.hasDictIn K c_Node = true)
    (po_Node : PySem.W.plainOver K c_Node = true)
    (sa_Node : PySem.W.findIn K (.ref c_Node) "__setattr__" = some (some (.builtin "object.__setattr__")))
    (a_Leaf : PySem.W.nsIn K mainGlobals "Leaf" = some (some (.ref c_Leaf)))
    (pg_Leaf : PySem.W.plainGet K c_Leaf Str.empty = true)
    (hd_Leaf : PySem.W.hasDictIn K c_Leaf = true)
    (po_Leaf : PySem.W.plainOver K c_Leaf = true)
    (sa_Leaf : PySem.W.findIn K (.ref c_Leaf) "__setattr__" = some (some (.builtin "object.__setattr__")))
    (a_Fork : PySem.W.nsIn K mainGlobals "Fork" = some (some (.ref c_Fork)))
    (pg_Fork : PySem.W.plainGet K c_Fork Str.empty = true)
    (hd_Fork : PySem.W.hasDictIn K c_Fork = true)
    (po_Fork : PySem.W.plainOver K c_Fork = true)
    (sa_Fork : PySem.W.findIn K (.ref c_Fork) "__setattr__" = some (some (.builtin "object.__setattr__")))
    (a0 : PySem.W.findIn K (.ref c_Node) "__init__" = some (some (.ref f0)))
    (i0 : PySem.W.isFn K (.ref f0) = true)
    (mk_Node : PySem.W.makesIn K c_Node = true)
    (kc_Node : PySem.W.keepIn K (.ref c_Node) = true)
    (l0 : K.lookup f0 = some ⟨oc0, od0, .func (PySem.W.fnOf "__init__" "Node.__init__" (defArgs s_Node___init__) (defBody s_Node___init__) (defScope s_Node___init__) .none kV0 dc0 pm0 an0 cd0 ct0), sl0⟩)
    (k_c0 : PySem.W.codeIn K cd0 "Node.__init__" = true)
    (k_k0 : PySem.W.keepIn K (.ref f0) = true)
    (a1 : PySem.W.findIn K (.ref c_Leaf) "below" = some (some (.ref f1)))
    (i1 : PySem.W.isFn K (.ref f1) = true)
    (l1 : K.lookup f1 = some ⟨oc1, od1, .func (PySem.W.fnOf "below" "Leaf.below" (defArgs s_Leaf_below) (defBody s_Leaf_below) (defScope s_Leaf_below) .none kV1 dc1 pm1 an1 cd1 ct1), sl1⟩)
    (k_c1 : PySem.W.codeIn K cd1 "Leaf.below" = true)
    (k_k1 : PySem.W.keepIn K (.ref f1) = true)
    (a2 : PySem.W.findIn K (.ref c_Leaf) "leaves" = some (some (.ref f2)))
    (i2 : PySem.W.isFn K (.ref f2) = true)
    (l2 : K.lookup f2 = some ⟨oc2, od2, .func (PySem.W.fnOf "leaves" "Leaf.leaves" (defArgs s_Leaf_leaves) (defBody s_Leaf_leaves) (defScope s_Leaf_leaves) .none kV2 dc2 pm2 an2 cd2 ct2), sl2⟩)
    (k_c2 : PySem.W.codeIn K cd2 "Leaf.leaves" = true)
    (k_k2 : PySem.W.keepIn K (.ref f2) = true)
    (a3 : PySem.W.findIn K (.ref c_Leaf) "deep" = some (some (.ref f3)))
    (i3 : PySem.W.isFn K (.ref f3) = true)
    (l3 : K.lookup f3 = some ⟨oc3, od3, .func (PySem.W.fnOf "deep" "Leaf.deep" (defArgs s_Leaf_deep) (defBody s_Leaf_deep) (defScope s_Leaf_deep) .none kV3 dc3 pm3 an3 cd3 ct3), sl3⟩)
    (k_c3 : PySem.W.codeIn K cd3 "Leaf.deep" = true)
    (k_k3 : PySem.W.keepIn K (.ref f3) = true)
    (a4 : PySem.W.findIn K (.ref c_Leaf) "places" = some (some (.ref f4)))
    (i4 : PySem.W.isFn K (.ref f4) = true)
    (l4 : K.lookup f4 = some ⟨oc4, od4, .func (PySem.W.fnOf "places" "Leaf.places" (defArgs s_Leaf_places) (defBody s_Leaf_places) (defScope s_Leaf_places) .none kV4 dc4 pm4 an4 cd4 ct4), sl4⟩)
    (k_c4 : PySem.W.codeIn K cd4 "Leaf.places" = true)
    (k_k4 : PySem.W.keepIn K (.ref f4) = true)
    (a5 : PySem.W.findIn K (.ref c_Fork) "below" = some (some (.ref f5)))
    (i5 : PySem.W.isFn K (.ref f5) = true)
    (l5 : K.lookup f5 = some ⟨oc5, od5, .func (PySem.W.fnOf "below" "Fork.below" (defArgs s_Fork_below) (defBody s_Fork_below) (defScope s_Fork_below) .none kV5 dc5 pm5 an5 cd5 ct5), sl5⟩)
    (k_c5 : PySem.W.codeIn K cd5 "Fork.below" = true)
    (k_k5 : PySem.W.keepIn K (.ref f5) = true)
    (a6 : PySem.W.findIn K (.ref c_Fork) "leaves" = some (some (.ref f6)))
    (i6 : PySem.W.isFn K (.ref f6) = true)
    (l6 : K.lookup f6 = some ⟨oc6, od6, .func (PySem.W.fnOf "leaves" "Fork.leaves" (defArgs s_Fork_leaves) (defBody s_Fork_leaves) (defScope s_Fork_leaves) .none kV6 dc6 pm6 an6 cd6 ct6), sl6⟩)
    (k_c6 : PySem.W.codeIn K cd6 "Fork.leaves" = true)
    (k_k6 : PySem.W.keepIn K (.ref f6) = true)
    (a7 : PySem.W.findIn K (.ref c_Fork) "deep" = some (some (.ref f7)))
    (i7 : PySem.W.isFn K (.ref f7) = true)
    (l7 : K.lookup f7 = some ⟨oc7, od7, .func (PySem.W.fnOf "deep" "Fork.deep" (defArgs s_Fork_deep) (defBody s_Fork_deep) (defScope s_Fork_deep) .none kV7 dc7 pm7 an7 cd7 ct7), sl7⟩)
    (k_c7 : PySem.W.codeIn K cd7 "Fork.deep" = true)
    (k_k7 : PySem.W.keepIn K (.ref f7) = true)
    (a8 : PySem.W.findIn K (.ref c_Fork) "places" = some (some (.ref f8)))
    (i8 : PySem.W.isFn K (.ref f8) = true)
    (l8 : K.lookup f8 = some ⟨oc8, od8, .func (PySem.W.fnOf "places" "Fork.places" (defArgs s_Fork_places) (defBody s_Fork_places) (defScope s_Fork_places) .none kV8 dc8 pm8 an8 cd8 ct8), sl8⟩)
    (k_c8 : PySem.W.codeIn K cd8 "Fork.places" = true)
    (k_k8 : PySem.W.keepIn K (.ref f8) = true)
    (a9 : PySem.W.findIn K (.ref c_Fork) "__init__" = some (some (.ref f9)))
    (i9 : PySem.W.isFn K (.ref f9) = true)
    (mk_Fork : PySem.W.makesIn K c_Fork = true)
    (kc_Fork : PySem.W.keepIn K (.ref c_Fork) = true)
    (l9 : K.lookup f9 = some ⟨oc9, od9, .func (PySem.W.fnOf "__init__" "Fork.__init__" (defArgs s_Fork___init__) (defBody s_Fork___init__) (defScope s_Fork___init__) .none kV9 dc9 pm9 an9 cd9 ct9), sl9⟩)
    (k_c9 : PySem.W.codeIn K cd9 "Fork.__init__" = true)
    (k_k9 : PySem.W.keepIn K (.ref f9) = true)
    (a10 : PySem.W.findIn K (.ref c_Node) "at" = some (some (.ref f10)))
    (i10 : PySem.W.isFn K (.ref f10) = true)
    (l10 : K.lookup f10 = some ⟨oc10, od10, .func (PySem.W.fnOf "at" "Node.at" (defArgs s_Node_at) (defBody s_Node_at) (defScope s_Node_at) .none kV10 dc10 pm10 an10 cd10 ct10), sl10⟩)
    (k_c10 : PySem.W.codeIn K cd10 "Node.at" = true)
    (k_k10 : PySem.W.keepIn K (.ref f10) = true)
    (a11 : PySem.W.nsIn K mainGlobals "_law_cell" = some (some (.ref f11)))
    (l11 : K.lookup f11 = some ⟨oc11, od11, .func (PySem.W.fnOf "_law_cell" "_law_cell" (defArgs s_law_cell) (defBody s_law_cell) (defScope s_law_cell) .none kV11 dc11 pm11 an11 cd11 ct11), sl11⟩)
    (k_c11 : PySem.W.codeIn K cd11 "_law_cell" = true)
    (k_k11 : PySem.W.keepIn K (.ref f11) = true)
    (a12 : PySem.W.nsIn K mainGlobals "_law_draw" = some (some (.ref f12)))
    (l12 : K.lookup f12 = some ⟨oc12, od12, .func (PySem.W.fnOf "_law_draw" "_law_draw" (defArgs s_law_draw) (defBody s_law_draw) (defScope s_law_draw) .none kV12 dc12 pm12 an12 cd12 ct12), sl12⟩)
    (k_c12 : PySem.W.codeIn K cd12 "_law_draw" = true)
    (k_k12 : PySem.W.keepIn K (.ref f12) = true)
    (a13 : PySem.W.nsIn K mainGlobals "_law_start" = some (some (.ref f13)))
    (l13 : K.lookup f13 = some ⟨oc13, od13, .func (PySem.W.fnOf "_law_start" "_law_start" (defArgs s_law_start) (defBody s_law_start) (defScope s_law_start) .none kV13 dc13 pm13 an13 cd13 ct13), sl13⟩)
    (k_c13 : PySem.W.codeIn K cd13 "_law_start" = true)
    (k_k13 : PySem.W.keepIn K (.ref f13) = true)
    (a14 : PySem.W.nsIn K mainGlobals "_law_words" = some (some (.ref f14)))
    (l14 : K.lookup f14 = some ⟨oc14, od14, .func (PySem.W.fnOf "_law_words" "_law_words" (defArgs s_law_words) (defBody s_law_words) (defScope s_law_words) .none kV14 dc14 pm14 an14 cd14 ct14), sl14⟩)
    (k_c14 : PySem.W.codeIn K cd14 "_law_words" = true)
    (k_k14 : PySem.W.keepIn K (.ref f14) = true)
    (a15 : PySem.W.nsIn K mainGlobals "_law_pool" = some (some (.ref f15)))
    (l15 : K.lookup f15 = some ⟨oc15, od15, .func (PySem.W.fnOf "_law_pool" "_law_pool" (defArgs s_law_pool) (defBody s_law_pool) (defScope s_law_pool) .none kV15 dc15 pm15 an15 cd15 ct15), sl15⟩)
    (k_c15 : PySem.W.codeIn K cd15 "_law_pool" = true)
    (k_k15 : PySem.W.keepIn K (.ref f15) = true)
    (a16 : PySem.W.nsIn K mainGlobals "_law_columns" = some (some (.ref f16)))
    (l16 : K.lookup f16 = some ⟨oc16, od16, .func (PySem.W.fnOf "_law_columns" "_law_columns" (defArgs s_law_columns) (defBody s_law_columns) (defScope s_law_columns) .none kV16 dc16 pm16 an16 cd16 ct16), sl16⟩)
    (k_c16 : PySem.W.codeIn K cd16 "_law_columns" = true)
    (k_k16 : PySem.W.keepIn K (.ref f16) = true)
    (a17 : PySem.W.nsIn K mainGlobals "_law_counted" = some (some (.ref f17)))
    (l17 : K.lookup f17 = some ⟨oc17, od17, .func (PySem.W.fnOf "_law_counted" "_law_counted" (defArgs s_law_counted) (defBody s_law_counted) (defScope s_law_counted) .none kV17 dc17 pm17 an17 cd17 ct17), sl17⟩)
    (k_c17 : PySem.W.codeIn K cd17 "_law_counted" = true)
    (k_k17 : PySem.W.keepIn K (.ref f17) = true)
    (a18 : PySem.W.nsIn K mainGlobals "_law_question" = some (some (.ref f18)))
    (l18 : K.lookup f18 = some ⟨oc18, od18, .func (PySem.W.fnOf "_law_question" "_law_question" (defArgs s_law_question) (defBody s_law_question) (defScope s_law_question) .none kV18 dc18 pm18 an18 cd18 ct18), sl18⟩)
    (k_c18 : PySem.W.codeIn K cd18 "_law_question" = true)
    (k_k18 : PySem.W.keepIn K (.ref f18) = true)
    (a19 : PySem.W.nsIn K mainGlobals "_law_drawn" = some (some (.ref f19)))
    (l19 : K.lookup f19 = some ⟨oc19, od19, .func (PySem.W.fnOf "_law_drawn" "_law_drawn" (defArgs s_law_drawn) (defBody s_law_drawn) (defScope s_law_drawn) .none kV19 dc19 pm19 an19 cd19 ct19), sl19⟩)
    (k_c19 : PySem.W.codeIn K cd19 "_law_drawn" = true)
    (k_k19 : PySem.W.keepIn K (.ref f19) = true)
    (a20 : PySem.W.nsIn K mainGlobals "_law_long" = some (some (.ref f20)))
    (l20 : K.lookup f20 = some ⟨oc20, od20, .func (PySem.W.fnOf "_law_long" "_law_long" (defArgs s_law_long) (defBody s_law_long) (defScope s_law_long) .none kV20 dc20 pm20 an20 cd20 ct20), sl20⟩)
    (k_c20 : PySem.W.codeIn K cd20 "_law_long" = true)
    (k_k20 : PySem.W.keepIn K (.ref f20) = true)
    (a21 : PySem.W.nsIn K mainGlobals "_law_built" = some (some (.ref f21)))
    (l21 : K.lookup f21 = some ⟨oc21, od21, .func (PySem.W.fnOf "_law_built" "_law_built" (defArgs s_law_built) (defBody s_law_built) (defScope s_law_built) .none kV21 dc21 pm21 an21 cd21 ct21), sl21⟩)
    (k_c21 : PySem.W.codeIn K cd21 "_law_built" = true)
    (k_k21 : PySem.W.keepIn K (.ref f21) = true)
    (a22 : PySem.W.nsIn K mainGlobals "_law_spots" = some (some (.ref f22)))
    (l22 : K.lookup f22 = some ⟨oc22, od22, .func (PySem.W.fnOf "_law_spots" "_law_spots" (defArgs s_law_spots) (defBody s_law_spots) (defScope s_law_spots) .none kV22 dc22 pm22 an22 cd22 ct22), sl22⟩)
    (k_c22 : PySem.W.codeIn K cd22 "_law_spots" = true)
    (k_k22 : PySem.W.keepIn K (.ref f22) = true)
    (a23 : PySem.W.nsIn K mainGlobals "_law_whole" = some (some (.ref f23)))
    (l23 : K.lookup f23 = some ⟨oc23, od23, .func (PySem.W.fnOf "_law_whole" "_law_whole" (defArgs s_law_whole) (defBody s_law_whole) (defScope s_law_whole) .none kV23 dc23 pm23 an23 cd23 ct23), sl23⟩)
    (k_c23 : PySem.W.codeIn K cd23 "_law_whole" = true)
    (k_k23 : PySem.W.keepIn K (.ref f23) = true)
    (a24 : PySem.W.nsIn K mainGlobals "_law_same" = some (some (.ref f24)))
    (l24 : K.lookup f24 = some ⟨oc24, od24, .func (PySem.W.fnOf "_law_same" "_law_same" (defArgs s_law_same) (defBody s_law_same) (defScope s_law_same) .none kV24 dc24 pm24 an24 cd24 ct24), sl24⟩)
    (k_c24 : PySem.W.codeIn K cd24 "_law_same" = true)
    (k_k24 : PySem.W.keepIn K (.ref f24) = true)
    (a25 : PySem.W.nsIn K mainGlobals "_law_looked" = some (some (.ref f25)))
    (l25 : K.lookup f25 = some ⟨oc25, od25, .func (PySem.W.fnOf "_law_looked" "_law_looked" (defArgs s_law_looked) (defBody s_law_looked) (defScope s_law_looked) .none kV25 dc25 pm25 an25 cd25 ct25), sl25⟩)
    (k_c25 : PySem.W.codeIn K cd25 "_law_looked" = true)
    (k_k25 : PySem.W.keepIn K (.ref f25) = true)
    (a26 : PySem.W.nsIn K mainGlobals "law" = some (some (.ref f26)))
    (l26 : K.lookup f26 = some ⟨oc26, od26, .func (PySem.W.fnOf "law" "law" (defArgs s_law) (defBody s_law) (defScope s_law) .none kV26 dc26 pm26 an26 cd26 ct26), sl26⟩)
    (k_c26 : PySem.W.codeIn K cd26 "law" = true)
    (k_k26 : PySem.W.keepIn K (.ref f26) = true)
    (ia_Leaf_init : PySem.W.findIn K (.ref c_Leaf) "__init__" = some (some (.ref f0)))
    (ii_Leaf_init : PySem.W.isFn K (.ref f0) = true)
    (imk_Leaf : PySem.W.makesIn K c_Leaf = true)
    (ikc_Leaf : PySem.W.keepIn K (.ref c_Leaf) = true)
    (ia_Leaf_at : PySem.W.findIn K (.ref c_Leaf) "at" = some (some (.ref f10)))
    (ii_Leaf_at : PySem.W.isFn K (.ref f10) = true)
    (ia_Fork_at : PySem.W.findIn K (.ref c_Fork) "at" = some (some (.ref f10)))
    (ii_Fork_at : PySem.W.isFn K (.ref f10) = true)
    (sg_Node_init : PySem.W.specialIn K (.ref c_Node) "__getattribute__" = some (some (.builtin "type.__getattribute__")))
    (rd_Node_init : PySem.W.readsIn K c_Node (.type "type") = true)
    (fc_Node_init : PySem.W.findCls K (.ref c_Node) (.type "type") "__init__" = some (.val (.ref f0)))
    (z_bool : PySem.W.nsIn K mainGlobals "bool" = some none)
    (z_int : PySem.W.nsIn K mainGlobals "int" = some none)
    (z_isinstance : PySem.W.nsIn K mainGlobals "isinstance" = some none)
    (z_len : PySem.W.nsIn K mainGlobals "len" = some none)
    (z_list : PySem.W.nsIn K mainGlobals "list" = some none)
    (z_max : PySem.W.nsIn K mainGlobals "max" = some none)
    (z_range : PySem.W.nsIn K mainGlobals "range" = some none)
    (z_sorted : PySem.W.nsIn K mainGlobals "sorted" = some none)
    (hnLc : PySem.W.findIn K (.ref c_Leaf) "counted" = some none)
    (hnFcd : PySem.W.findIn K (.ref c_Fork) "counted" = some none)
    (hnFqn : PySem.W.findIn K (.ref c_Fork) "question" = some none)
    (hnFys : PySem.W.findIn K (.ref c_Fork) "yes" = some none)
    (hnFno : PySem.W.findIn K (.ref c_Fork) "no" = some none)
    (hnFlt : PySem.W.findIn K (.ref c_Fork) "leaf_count" = some none)
    (hnFdh : PySem.W.findIn K (.ref c_Fork) "depth" = some none)
    (hclL : PySem.W.findIn K (.ref c_Leaf) "__class__" = some (some (.builtin "object.__class__")))
    (hclF : PySem.W.findIn K (.ref c_Fork) "__class__" = some (some (.builtin "object.__class__")))
    (hogt : PySem.W.specialIn K (.builtin "object.__class__") "__get__" = some (some (.builtin "getset_descriptor.__get__")))
    (hotk : PySem.W.takesIn K (.builtin "object.__class__") = some true)
    (homL : PySem.W.mroIn K c_Leaf (.type "object") = some true)
    (homF : PySem.W.mroIn K c_Fork (.type "object") = some true)
    (hkLF : PySem.W.kitOne K (.ref c_Leaf) (.ref c_Fork) = some false)
    (hkFF : PySem.W.kitOne K (.ref c_Fork) (.ref c_Fork) = some true)
    (hkLL : PySem.W.kitOne K (.ref c_Leaf) (.ref c_Leaf) = some true)
    (hkFL : PySem.W.kitOne K (.ref c_Fork) (.ref c_Leaf) = some false)
    (hkLN : PySem.W.kitOne K (.ref c_Leaf) (.ref c_Node) = some true)
    (hkFN : PySem.W.kitOne K (.ref c_Fork) (.ref c_Node) = some true)
    : ∃ T : Tx K mg, T.f_law = fa ∧ ∀ (s : Shared) (u : Value), BindsTo s T.d_law ⟨[u], []⟩ [("_law_script", u)] := by
  have e := hfa.symm.trans (PySem.W.mg_of X G a26)
  cases e
  have F0 := fun_mk (st := s_Node___init__) l0 k_c0 k_k0
  have b0 := F0.binds (ps := ["self", "counted"]) fun _ _ _ _ _ _ us hl => match us, hl with | [_, _], _ => rfl
  have F1 := fun_mk (st := s_Leaf_below) l1 k_c1 k_k1
  have b1 := F1.binds (ps := ["self", "sign"]) fun _ _ _ _ _ _ us hl => match us, hl with | [_, _], _ => rfl
  have F2 := fun_mk (st := s_Leaf_leaves) l2 k_c2 k_k2
  have b2 := F2.binds (ps := ["self"]) fun _ _ _ _ _ _ us hl => match us, hl with | [_], _ => rfl
  have F3 := fun_mk (st := s_Leaf_deep) l3 k_c3 k_k3
  have b3 := F3.binds (ps := ["self"]) fun _ _ _ _ _ _ us hl => match us, hl with | [_], _ => rfl
  have F4 := fun_mk (st := s_Leaf_places) l4 k_c4 k_k4
  have b4 := F4.binds (ps := ["self"]) fun _ _ _ _ _ _ us hl => match us, hl with | [_], _ => rfl
  have F5 := fun_mk (st := s_Fork_below) l5 k_c5 k_k5
  have b5 := F5.binds (ps := ["self", "sign"]) fun _ _ _ _ _ _ us hl => match us, hl with | [_, _], _ => rfl
  have F6 := fun_mk (st := s_Fork_leaves) l6 k_c6 k_k6
  have b6 := F6.binds (ps := ["self"]) fun _ _ _ _ _ _ us hl => match us, hl with | [_], _ => rfl
  have F7 := fun_mk (st := s_Fork_deep) l7 k_c7 k_k7
  have b7 := F7.binds (ps := ["self"]) fun _ _ _ _ _ _ us hl => match us, hl with | [_], _ => rfl
  have F8 := fun_mk (st := s_Fork_places) l8 k_c8 k_k8
  have b8 := F8.binds (ps := ["self"]) fun _ _ _ _ _ _ us hl => match us, hl with | [_], _ => rfl
  have F9 := fun_mk (st := s_Fork___init__) l9 k_c9 k_k9
  have b9 := F9.binds (ps := ["self", "counted", "question", "yes", "no"]) fun _ _ _ _ _ _ us hl => match us, hl with | [_, _, _, _, _], _ => rfl
  have F10 := fun_mk (st := s_Node_at) l10 k_c10 k_k10
  have b10 := F10.binds (ps := ["self", "place"]) fun _ _ _ _ _ _ us hl => match us, hl with | [_, _], _ => rfl
  have F11 := fun_mk (st := s_law_cell) l11 k_c11 k_k11
  have b11 := F11.binds (ps := ["_law_script", "_law_k"]) fun _ _ _ _ _ _ us hl => match us, hl with | [_, _], _ => rfl
  have F12 := fun_mk (st := s_law_draw) l12 k_c12 k_k12
  have b12 := F12.binds (ps := ["_law_bag", "_law_many"]) fun _ _ _ _ _ _ us hl => match us, hl with | [_, _], _ => rfl
  have F13 := fun_mk (st := s_law_start) l13 k_c13 k_k13
  have b13 := F13.binds (ps := ["_law_bag", "_law_cell_here"]) fun _ _ _ _ _ _ us hl => match us, hl with | [_, _], _ => rfl
  have F14 := fun_mk (st := s_law_words) l14 k_c14 k_k14
  have b14 := F14.binds (ps := ["_law_cell_here", "_law_many"]) fun _ _ _ _ _ _ us hl => match us, hl with | [_, _], _ => rfl
  have F15 := fun_mk (st := s_law_pool) l15 k_c15 k_k15
  have b15 := F15.binds (ps := ["_law_cell_here"]) fun _ _ _ _ _ _ us hl => match us, hl with | [_], _ => rfl
  have F16 := fun_mk (st := s_law_columns) l16 k_c16 k_k16
  have b16 := F16.binds (ps := ["_law_bag", "_law_some", "_law_many"]) fun _ _ _ _ _ _ us hl => match us, hl with | [_, _, _], _ => rfl
  have F17 := fun_mk (st := s_law_counted) l17 k_c17 k_k17
  have b17 := F17.binds (ps := ["_law_bag", "_law_some"]) fun _ _ _ _ _ _ us hl => match us, hl with | [_, _], _ => rfl
  have F18 := fun_mk (st := s_law_question) l18 k_c18 k_k18
  have b18 := F18.binds (ps := ["_law_bag", "_law_columns_here", "_law_pool_here", "_law_some"]) fun _ _ _ _ _ _ us hl => match us, hl with | [_, _, _, _], _ => rfl
  have F19 := fun_mk (st := s_law_drawn) l19 k_c19 k_k19
  have b19 := F19.binds (ps := ["_law_bag", "_law_columns_here", "_law_pool_here", "_law_some", "_law_deep"]) fun _ _ _ _ _ _ us hl => match us, hl with | [_, _, _, _, _], _ => rfl
  have F20 := fun_mk (st := s_law_long) l20 k_c20 k_k20
  have b20 := F20.binds (ps := ["_law_bag", "_law_columns_here", "_law_pool_here", "_law_some", "_law_deep"]) fun _ _ _ _ _ _ us hl => match us, hl with | [_, _, _, _, _], _ => rfl
  have F21 := fun_mk (st := s_law_built) l21 k_c21 k_k21
  have b21 := F21.binds (ps := ["_law_drawn_here"]) fun _ _ _ _ _ _ us hl => match us, hl with | [_], _ => rfl
  have F22 := fun_mk (st := s_law_spots) l22 k_c22 k_k22
  have b22 := F22.binds (ps := ["_law_drawn_here", "_law_place"]) fun _ _ _ _ _ _ us hl => match us, hl with | [_, _], _ => rfl
  have F23 := fun_mk (st := s_law_whole) l23 k_c23 k_k23
  have b23 := F23.binds (ps := ["_law_found"]) fun _ _ _ _ _ _ us hl => match us, hl with | [_], _ => rfl
  have F24 := fun_mk (st := s_law_same) l24 k_c24 k_k24
  have b24 := F24.binds (ps := ["_law_found", "_law_drawn_here"]) fun _ _ _ _ _ _ us hl => match us, hl with | [_, _], _ => rfl
  have F25 := fun_mk (st := s_law_looked) l25 k_c25 k_k25
  have b25 := F25.binds (ps := ["_law_found", "_law_drawn_here"]) fun _ _ _ _ _ _ us hl => match us, hl with | [_, _], _ => rfl
  have F26 := fun_mk (st := s_law) l26 k_c26 k_k26
  have b26 := F26.binds (ps := ["_law_script"]) fun _ _ _ _ _ _ us hl => match us, hl with | [_], _ => rfl
  exact ⟨⟨c_NoPlace, PySem.W.mg_of X G a_NoPlace, c_Node, PySem.W.mg_of X G a_Node, ⟨pg_Node, hd_Node, po_Node, sa_Node⟩, c_Leaf, PySem.W.mg_of X G a_Leaf, ⟨pg_Leaf, hd_Leaf, po_Leaf, sa_Leaf⟩, c_Fork, PySem.W.mg_of X G a_Fork, ⟨pg_Fork, hd_Fork, po_Fork, sa_Fork⟩, _, _, F0, b0, ⟨mk_Node, a0, i0, kc_Node⟩, _, _, F1, b1, ⟨a1, i1, k_k1⟩, _, _, F2, b2, ⟨a2, i2, k_k2⟩, _, _, F3, b3, ⟨a3, i3, k_k3⟩, _, _, F4, b4, ⟨a4, i4, k_k4⟩, _, _, F5, b5, ⟨a5, i5, k_k5⟩, _, _, F6, b6, ⟨a6, i6, k_k6⟩, _, _, F7, b7, ⟨a7, i7, k_k7⟩, _, _, F8, b8, ⟨a8, i8, k_k8⟩, _, _, F9, b9, ⟨mk_Fork, a9, i9, kc_Fork⟩, _, _, F10, b10, ⟨a10, i10, k_k10⟩, _, _, F11, b11, PySem.W.mg_of X G a11, _, _, F12, b12, PySem.W.mg_of X G a12, _, _, F13, b13, PySem.W.mg_of X G a13, _, _, F14, b14, PySem.W.mg_of X G a14, _, _, F15, b15, PySem.W.mg_of X G a15, _, _, F16, b16, PySem.W.mg_of X G a16, _, _, F17, b17, PySem.W.mg_of X G a17, _, _, F18, b18, PySem.W.mg_of X G a18, _, _, F19, b19, PySem.W.mg_of X G a19, _, _, F20, b20, PySem.W.mg_of X G a20, _, _, F21, b21, PySem.W.mg_of X G a21, _, _, F22, b22, PySem.W.mg_of X G a22, _, _, F23, b23, PySem.W.mg_of X G a23, _, _, F24, b24, PySem.W.mg_of X G a24, _, _, F25, b25, PySem.W.mg_of X G a25, _, _, F26, b26, PySem.W.mg_of X G a26, ⟨imk_Leaf, ia_Leaf_init, ii_Leaf_init, ikc_Leaf⟩, ⟨ia_Leaf_at, ii_Leaf_at, k_k10⟩, ⟨ia_Fork_at, ii_Fork_at, k_k10⟩, ⟨sg_Node_init, rd_Node_init, fc_Node_init, k_k0⟩, PySem.W.mg_none_of X G z_bool, PySem.W.mg_none_of X G z_int, PySem.W.mg_none_of X G z_isinstance, PySem.W.mg_none_of X G z_len, PySem.W.mg_none_of X G z_list, PySem.W.mg_none_of X G z_max, PySem.W.mg_none_of X G z_range, PySem.W.mg_none_of X G z_sorted, hnLc, hnFcd, hnFqn, hnFys, hnFno, hnFlt, hnFdh, hclL, hclF, hogt, hotk, homL, homF, hkLF, hkFF, hkLL, hkFL, hkLN, hkFN⟩, rfl, fun s u => .of_eq rfl⟩

end Lw
open PySem PySem.W PyProof.Rows
set_option maxRecDepth 100000 in
set_option maxHeartbeats 0 in
theorem PySem.Challenge.cw_prunepath_k17_trees_looked_at_holds : PySem.Challenge.rw_prunepath_k17_trees_looked_at.Holds := by
  w_on; o_law; k_head; (case hw => w_witness2)
  k_fill
  refine L2.walk_ofX (l := PySem.Challenge.rw_prunepath_k17_trees_looked_at) (n := 63) (k := 38) (x := "_law_script") (sp := Lw.sp_law) rfl (by decide) rfl ⟨rfl, by decide, by decide, rfl⟩ (fun w h Y => PySem.W.kIn_of Y) ?F ?S
  case F =>
    intro w mg fa h KX G hmg
    have T : ∃ T : Lw.Tx (L2.KOf KX) mg, T.f_law = fa ∧ ∀ (s : Shared) (u : Value), BindsTo s T.d_law ⟨[u], []⟩ [("_law_script", u)] := by
      dsimp only [L2.KOf]
      refine' Lw.fin KX G hmg ?ga_NoPlace ?ga_Node ?gpg_Node ?ghd_Node ?gpo_Node ?gsa_Node ?ga_Leaf ?gpg_Leaf ?ghd_Leaf ?gpo_Leaf ?gsa_Leaf ?ga_Fork ?gpg_Fork ?ghd_Fork ?gpo_Fork ?gsa_Fork ?ga0 ?gi0 ?gmk_Node ?gkc_Node ?gl0 ?gk_c0 ?gk_k0 ?ga1 ?gi1 ?gl1 ?gk_c1 ?gk_k1 ?ga2 ?gi2 ?gl2 ?gk_c2 ?gk_k2 ?ga3 ?gi3 ?gl3 ?gk_c3 ?gk_k3 ?ga4 ?gi4 ?gl4 ?gk_c4 ?gk_k4 ?ga5 ?gi5 ?gl5 ?gk_c5 ?gk_k5 ?ga6 ?gi6 ?gl6 ?gk_c6 ?gk_k6 ?ga7 ?gi7 ?gl7 ?gk_c7 ?gk_k7 ?ga8 ?gi8 ?gl8 ?gk_c8 ?gk_k8 ?ga9 ?gi9 ?gmk_Fork ?gkc_Fork ?gl9 ?gk_c9 ?gk_k9 ?ga10 ?gi10 ?gl10 ?gk_c10 ?gk_k10 ?ga11 ?gl11 ?gk_c11 ?gk_k11 ?ga12 ?gl12 ?gk_c12 ?gk_k12 ?ga13 ?gl13 ?gk_c13 ?gk_k13 ?ga14 ?gl14 ?gk_c14 ?gk_k14 ?ga15 ?gl15 ?gk_c15 ?gk_k15 ?ga16 ?gl16 ?gk_c16 ?gk_k16 ?ga17 ?gl17 ?gk_c17 ?gk_k17 ?ga18 ?gl18 ?gk_c18 ?gk_k18 ?ga19 ?gl19 ?gk_c19 ?gk_k19 ?ga20 ?gl20 ?gk_c20 ?gk_k20 ?ga21 ?gl21 ?gk_c21 ?gk_k21 ?ga22 ?gl22 ?gk_c22 ?gk_k22 ?ga23 ?gl23 ?gk_c23 ?gk_k23 ?ga24 ?gl24 ?gk_c24 ?gk_k24 ?ga25 ?gl25 ?gk_c25 ?gk_k25 ?ga26 ?gl26 ?gk_c26 ?gk_k26 ?gia_Leaf_init ?gii_Leaf_init ?gimk_Leaf ?gikc_Leaf ?gia_Leaf_at ?gii_Leaf_at ?gia_Fork_at ?gii_Fork_at ?gsg_Node_init ?grd_Node_init ?gfc_Node_init ?gz_bool ?gz_int ?gz_isinstance ?gz_len ?gz_list ?gz_max ?gz_range ?gz_sorted ?ghnLc ?ghnFcd ?ghnFqn ?ghnFys ?ghnFno ?ghnFlt ?ghnFdh ?ghclL ?ghclF ?ghogt ?ghotk ?ghomL ?ghomF ?ghkLF ?ghkFF ?ghkLL ?ghkFL ?ghkLN ?ghkFN
      (case ga_NoPlace => first | k_is | k_exc | kit_is | kts_exm)
      (case ga_Node => first | k_is | k_exc | kit_is | kts_exm)
      (case gpg_Node => first | k_is | k_exc | kit_is | kts_exm)
      (case ghd_Node => first | k_is | k_exc | kit_is | kts_exm)
      (case gpo_Node => first | k_is | k_exc | kit_is | kts_exm)
      (case gsa_Node => first | k_is | k_exc | kit_is | kts_exm)
      (case ga_Leaf => first | k_is | k_exc | kit_is | kts_exm)
      (case gpg_Leaf => first | k_is | k_exc | kit_is | kts_exm)
      (case ghd_Leaf => first | k_is | k_exc | kit_is | kts_exm)
      (case gpo_Leaf => first | k_is | k_exc | kit_is | kts_exm)
      (case gsa_Leaf => first | k_is | k_exc | kit_is | kts_exm)
      (case ga_Fork => first | k_is | k_exc | kit_is | kts_exm)
      (case gpg_Fork => first | k_is | k_exc | kit_is | kts_exm)
      (case ghd_Fork => first | k_is | k_exc | kit_is | kts_exm)
      (case gpo_Fork => first | k_is | k_exc | kit_is | kts_exm)
      (case gsa_Fork => first | k_is | k_exc | kit_is | kts_exm)
      (case ga0 => first | k_is | k_exc | kit_is | kts_exm)
      (case gi0 => first | k_is | k_exc | kit_is | kts_exm)
      (case gmk_Node => first | k_is | k_exc | kit_is | kts_exm)
      (case gkc_Node => first | k_is | k_exc | kit_is | kts_exm)
      (case gl0 => first | k_is | k_exc | kit_is | kts_exm)
      (case gk_c0 => first | k_is | k_exc | kit_is | kts_exm)
      (case gk_k0 => first | k_is | k_exc | kit_is | kts_exm)
      (case ga1 => first | k_is | k_exc | kit_is | kts_exm)
      (case gi1 => first | k_is | k_exc | kit_is | kts_exm)
      (case gl1 => first | k_is | k_exc | kit_is | kts_exm)
      (case gk_c1 => first | k_is | k_exc | kit_is | kts_exm)
      (case gk_k1 => first | k_is | k_exc | kit_is | kts_exm)
      (case ga2 => first | k_is | k_exc | kit_is | kts_exm)
      (case gi2 => first | k_is | k_exc | kit_is | kts_exm)
      (case gl2 => first | k_is | k_exc | kit_is | kts_exm)
      (case gk_c2 => first | k_is | k_exc | kit_is | kts_exm)
      (case gk_k2 => first | k_is | k_exc | kit_is | kts_exm)
      (case ga3 => first | k_is | k_exc | kit_is | kts_exm)
      (case gi3 => first | k_is | k_exc | kit_is | kts_exm)
      (case gl3 => first | k_is | k_exc | kit_is | kts_exm)
      (case gk_c3 => first | k_is | k_exc | kit_is | kts_exm)
      (case gk_k3 => first | k_is | k_exc | kit_is | kts_exm)
      (case ga4 => first | k_is | k_exc | kit_is | kts_exm)
      (case gi4 => first | k_is | k_exc | kit_is | kts_exm)
      (case gl4 => first | k_is | k_exc | kit_is | kts_exm)
      (case gk_c4 => first | k_is | k_exc | kit_is | kts_exm)
      (case gk_k4 => first | k_is | k_exc | kit_is | kts_exm)
      (case ga5 => first | k_is | k_exc | kit_is | kts_exm)
      (case gi5 => first | k_is | k_exc | kit_is | kts_exm)
      (case gl5 => first | k_is | k_exc | kit_is | kts_exm)
      (case gk_c5 => first | k_is | k_exc | kit_is | kts_exm)
      (case gk_k5 => first | k_is | k_exc | kit_is | kts_exm)
      (case ga6 => first | k_is | k_exc | kit_is | kts_exm)
      (case gi6 => first | k_is | k_exc | kit_is | kts_exm)
      (case gl6 => first | k_is | k_exc | kit_is | kts_exm)
      (case gk_c6 => first | k_is | k_exc | kit_is | kts_exm)
      (case gk_k6 => first | k_is | k_exc | kit_is | kts_exm)
      (case ga7 => first | k_is | k_exc | kit_is | kts_exm)
      (case gi7 => first | k_is | k_exc | kit_is | kts_exm)
      (case gl7 => first | k_is | k_exc | kit_is | kts_exm)
      (case gk_c7 => first | k_is | k_exc | kit_is | kts_exm)
      (case gk_k7 => first | k_is | k_exc | kit_is | kts_exm)
      (case ga8 => first | k_is | k_exc | kit_is | kts_exm)
      (case gi8 => first | k_is | k_exc | kit_is | kts_exm)
      (case gl8 => first | k_is | k_exc | kit_is | kts_exm)
      (case gk_c8 => first | k_is | k_exc | kit_is | kts_exm)
      (case gk_k8 => first | k_is | k_exc | kit_is | kts_exm)
      (case ga9 => first | k_is | k_exc | kit_is | kts_exm)
      (case gi9 => first | k_is | k_exc | kit_is | kts_exm)
      (case gmk_Fork => first | k_is | k_exc | kit_is | kts_exm)
      (case gkc_Fork => first | k_is | k_exc | kit_is | kts_exm)
      (case gl9 => first | k_is | k_exc | kit_is | kts_exm)
      (case gk_c9 => first | k_is | k_exc | kit_is | kts_exm)
      (case gk_k9 => first | k_is | k_exc | kit_is | kts_exm)
      (case ga10 => first | k_is | k_exc | kit_is | kts_exm)
      (case gi10 => first | k_is | k_exc | kit_is | kts_exm)
      (case gl10 => first | k_is | k_exc | kit_is | kts_exm)
      (case gk_c10 => first | k_is | k_exc | kit_is | kts_exm)
      (case gk_k10 => first | k_is | k_exc | kit_is | kts_exm)
      (case ga11 => first | k_is | k_exc | kit_is | kts_exm)
      (case gl11 => first | k_is | k_exc | kit_is | kts_exm)
      (case gk_c11 => first | k_is | k_exc | kit_is | kts_exm)
      (case gk_k11 => first | k_is | k_exc | kit_is | kts_exm)
      (case ga12 => first | k_is | k_exc | kit_is | kts_exm)
      (case gl12 => first | k_is | k_exc | kit_is | kts_exm)
      (case gk_c12 => first | k_is | k_exc | kit_is | kts_exm)
      (case gk_k12 => first | k_is | k_exc | kit_is | kts_exm)
      (case ga13 => first | k_is | k_exc | kit_is | kts_exm)
      (case gl13 => first | k_is | k_exc | kit_is | kts_exm)
      (case gk_c13 => first | k_is | k_exc | kit_is | kts_exm)
      (case gk_k13 => first | k_is | k_exc | kit_is | kts_exm)
      (case ga14 => first | k_is | k_exc | kit_is | kts_exm)
      (case gl14 => first | k_is | k_exc | kit_is | kts_exm)
      (case gk_c14 => first | k_is | k_exc | kit_is | kts_exm)
      (case gk_k14 => first | k_is | k_exc | kit_is | kts_exm)
      (case ga15 => first | k_is | k_exc | kit_is | kts_exm)
      (case gl15 => first | k_is | k_exc | kit_is | kts_exm)
      (case gk_c15 => first | k_is | k_exc | kit_is | kts_exm)
      (case gk_k15 => first | k_is | k_exc | kit_is | kts_exm)
      (case ga16 => first | k_is | k_exc | kit_is | kts_exm)
      (case gl16 => first | k_is | k_exc | kit_is | kts_exm)
      (case gk_c16 => first | k_is | k_exc | kit_is | kts_exm)
      (case gk_k16 => first | k_is | k_exc | kit_is | kts_exm)
      (case ga17 => first | k_is | k_exc | kit_is | kts_exm)
      (case gl17 => first | k_is | k_exc | kit_is | kts_exm)
      (case gk_c17 => first | k_is | k_exc | kit_is | kts_exm)
      (case gk_k17 => first | k_is | k_exc | kit_is | kts_exm)
      (case ga18 => first | k_is | k_exc | kit_is | kts_exm)
      (case gl18 => first | k_is | k_exc | kit_is | kts_exm)
      (case gk_c18 => first | k_is | k_exc | kit_is | kts_exm)
      (case gk_k18 => first | k_is | k_exc | kit_is | kts_exm)
      (case ga19 => first | k_is | k_exc | kit_is | kts_exm)
      (case gl19 => first | k_is | k_exc | kit_is | kts_exm)
      (case gk_c19 => first | k_is | k_exc | kit_is | kts_exm)
      (case gk_k19 => first | k_is | k_exc | kit_is | kts_exm)
      (case ga20 => first | k_is | k_exc | kit_is | kts_exm)
      (case gl20 => first | k_is | k_exc | kit_is | kts_exm)
      (case gk_c20 => first | k_is | k_exc | kit_is | kts_exm)
      (case gk_k20 => first | k_is | k_exc | kit_is | kts_exm)
      (case ga21 => first | k_is | k_exc | kit_is | kts_exm)
      (case gl21 => first | k_is | k_exc | kit_is | kts_exm)
      (case gk_c21 => first | k_is | k_exc | kit_is | kts_exm)
      (case gk_k21 => first | k_is | k_exc | kit_is | kts_exm)
      (case ga22 => first | k_is | k_exc | kit_is | kts_exm)
      (case gl22 => first | k_is | k_exc | kit_is | kts_exm)
      (case gk_c22 => first | k_is | k_exc | kit_is | kts_exm)
      (case gk_k22 => first | k_is | k_exc | kit_is | kts_exm)
      (case ga23 => first | k_is | k_exc | kit_is | kts_exm)
      (case gl23 => first | k_is | k_exc | kit_is | kts_exm)
      (case gk_c23 => first | k_is | k_exc | kit_is | kts_exm)
      (case gk_k23 => first | k_is | k_exc | kit_is | kts_exm)
      (case ga24 => first | k_is | k_exc | kit_is | kts_exm)
      (case gl24 => first | k_is | k_exc | kit_is | kts_exm)
      (case gk_c24 => first | k_is | k_exc | kit_is | kts_exm)
      (case gk_k24 => first | k_is | k_exc | kit_is | kts_exm)
      (case ga25 => first | k_is | k_exc | kit_is | kts_exm)
      (case gl25 => first | k_is | k_exc | kit_is | kts_exm)
      (case gk_c25 => first | k_is | k_exc | kit_is | kts_exm)
      (case gk_k25 => first | k_is | k_exc | kit_is | kts_exm)
      (case ga26 => first | k_is | k_exc | kit_is | kts_exm)
      (case gl26 => first | k_is | k_exc | kit_is | kts_exm)
      (case gk_c26 => first | k_is | k_exc | kit_is | kts_exm)
      (case gk_k26 => first | k_is | k_exc | kit_is | kts_exm)
      (case gia_Leaf_init => first | k_is | k_exc | kit_is | kts_exm)
      (case gii_Leaf_init => first | k_is | k_exc | kit_is | kts_exm)
      (case gimk_Leaf => first | k_is | k_exc | kit_is | kts_exm)
      (case gikc_Leaf => first | k_is | k_exc | kit_is | kts_exm)
      (case gia_Leaf_at => first | k_is | k_exc | kit_is | kts_exm)
      (case gii_Leaf_at => first | k_is | k_exc | kit_is | kts_exm)
      (case gia_Fork_at => first | k_is | k_exc | kit_is | kts_exm)
      (case gii_Fork_at => first | k_is | k_exc | kit_is | kts_exm)
      (case gsg_Node_init => first | k_is | k_exc | kit_is | kts_exm)
      (case grd_Node_init => first | k_is | k_exc | kit_is | kts_exm)
      (case gfc_Node_init => first | k_is | k_exc | kit_is | kts_exm)
      (case gz_bool => first | k_is | k_exc | kit_is | kts_exm)
      (case gz_int => first | k_is | k_exc | kit_is | kts_exm)
      (case gz_isinstance => first | k_is | k_exc | kit_is | kts_exm)
      (case gz_len => first | k_is | k_exc | kit_is | kts_exm)
      (case gz_list => first | k_is | k_exc | kit_is | kts_exm)
      (case gz_max => first | k_is | k_exc | kit_is | kts_exm)
      (case gz_range => first | k_is | k_exc | kit_is | kts_exm)
      (case gz_sorted => first | k_is | k_exc | kit_is | kts_exm)
      (case ghnLc => first | k_is | k_exc | kit_is | kts_exm)
      (case ghnFcd => first | k_is | k_exc | kit_is | kts_exm)
      (case ghnFqn => first | k_is | k_exc | kit_is | kts_exm)
      (case ghnFys => first | k_is | k_exc | kit_is | kts_exm)
      (case ghnFno => first | k_is | k_exc | kit_is | kts_exm)
      (case ghnFlt => first | k_is | k_exc | kit_is | kts_exm)
      (case ghnFdh => first | k_is | k_exc | kit_is | kts_exm)
      (case ghclL => first | k_is | k_exc | kit_is | kts_exm)
      (case ghclF => first | k_is | k_exc | kit_is | kts_exm)
      (case ghogt => first | k_is | k_exc | kit_is | kts_exm)
      (case ghotk => first | k_is | k_exc | kit_is | kts_exm)
      (case ghomL => first | k_is | k_exc | kit_is | kts_exm)
      (case ghomF => first | k_is | k_exc | kit_is | kts_exm)
      (case ghkLF => first | k_is | k_exc | kit_is | kts_exm)
      (case ghkFF => first | k_is | k_exc | kit_is | kts_exm)
      (case ghkLL => first | k_is | k_exc | kit_is | kts_exm)
      (case ghkFL => first | k_is | k_exc | kit_is | kts_exm)
      (case ghkLN => first | k_is | k_exc | kit_is | kts_exm)
      (case ghkFN => first | k_is | k_exc | kit_is | kts_exm)
    obtain ⟨T, rfl, hb⟩ := T
    exact ⟨T.d_law, hb, fun base kb nb => Lw.ok_law T⟩
  case S => exact fun K H a ns hl hO hS => ⟨a, ns, rfl, L2.SqF.of_only hO hS, hl, fun _ => rfl⟩
