import PyProof.Rows.All
import Wide.All
import OpenK.AllK
import Wide.FinOn
import Lean
import PyProof.EqAt
import PyProof.EqKinds
import PyProof.TupleCall
import KE.KRevSl
import KE.KDictSum
import KE.BitLaws
import KE.KIntText
import KE.IntTextLaws
import KE.KSortTup
import PyProof.DictItems
import PyProof.DictItemsLoops
import PyProof.DictWalks
import PySem.Challenge.RW_prunepath_k35_whole_path_against_any
set_option Elab.async false
set_option linter.all false
set_option maxRecDepth 100000
namespace L2
open PySem PySem.Spec PyProof.Rows
abbrev Key:=Sum Int Str
def keyIs:Key→Value→Bool
 | .inl k,v=>Value.isInt k v
 | .inr x,v=>Value.isStrOf x v
def keyH (w:World) : Key→Int
 | .inl k=>hashInt k
 | .inr x=>hashStr w x
theorem keyIs_shape:∀ {k:Key}{v:Value},keyIs k v=true→(∃ i t,k=Sum.inl i∧v=Value.int i t)∨(∃ x t,k=Sum.inr x∧v=Value.str x t)
 | .inl i,v,h=>by
  obtain ⟨t,e⟩:=Value.isInt_shape (k:=i) (v:=v) h
  exact .inl ⟨i,t,rfl,e⟩
 | .inr x,v,h=>by
  obtain ⟨t,e⟩:=Value.isStrOf_shape (x:=x) (v:=v) h
  exact .inr ⟨x,t,rfl,e⟩
theorem keyIs_int (i:Int)(t:Tok) : keyIs (.inl i) (.int i t)=true:=by simp [keyIs,Value.isInt]
theorem keyIs_str (x:Str)(t:Tok) : keyIs (.inr x) (.str x t)=true:=by simp [keyIs,Value.isStrOf]
theorem key_ll (a b:Int) : decide ((Sum.inl a:Key)=Sum.inl b)=(a == b):=by
 by_cases e:a=b
 ·subst e; simp
 ·have h:¬ (Sum.inl a:Key)=Sum.inl b:=fun q=>e (Sum.inl.inj q)
  rw [decide_eq_false h]
  exact (beq_eq_false_iff_ne.mpr e).symm
theorem key_rr (a b:Str) : decide ((Sum.inr a:Key)=Sum.inr b)=decide (a=b):=by
 by_cases e:a=b
 ·subst e; simp
 ·have h:¬ (Sum.inr a:Key)=Sum.inr b:=fun q=>e (Sum.inr.inj q)
  rw [decide_eq_false h,decide_eq_false e]
theorem key_lr (a:Int)(b:Str) : decide ((Sum.inl a:Key)=Sum.inr b)=false:=decide_eq_false (fun q=>nomatch q)
theorem key_rl (a:Str)(b:Int) : decide ((Sum.inr a:Key)=Sum.inl b)=false:=decide_eq_false (fun q=>nomatch q)
def mixKind (prog:Program)(w:World) : PySem.KeyKind prog w Key where
 is:=keyIs
 hash:=keyH w
 inj:=fun v a b ha hb=>by
  rcases keyIs_shape ha with ⟨i,t,rfl,rfl⟩ | ⟨x,t,rfl,rfl⟩
  ·rcases keyIs_shape hb with ⟨j,u,rfl,e⟩ | ⟨y,u,rfl,e⟩
   ·injection e with e1 _; rw [e1]
   ·exact nomatch e
  ·rcases keyIs_shape hb with ⟨j,u,rfl,e⟩ | ⟨y,u,rfl,e⟩
   ·exact nomatch e
   ·injection e with e1 _; rw [e1]
 byValue:=fun k v h=>by
  rcases keyIs_shape h with ⟨i,t,rfl,rfl⟩ | ⟨x,t,rfl,rfl⟩ <;> rfl
 pyHash:=fun hv h=>by
  rcases keyIs_shape hv with ⟨i,t,rfl,rfl⟩ | ⟨x,t,rfl,rfl⟩
  ·exact wpAny_pyHash_int h
  ·exact wpAny_pyHash_str h
 eqBool:=fun hu hv h=>by
  rcases keyIs_shape hu with ⟨i,t,rfl,rfl⟩ | ⟨x,t,rfl,rfl⟩
  ·rcases keyIs_shape hv with ⟨j,u,rfl,rfl⟩ | ⟨y,u,rfl,rfl⟩
   ·rw [key_ll] at h; exact wpAny_eqBool_int h
   ·rw [key_lr] at h; exact SeqAt.EqAt.int_str i t y u _ _ _ _ h
  ·rcases keyIs_shape hv with ⟨j,u,rfl,rfl⟩ | ⟨y,u,rfl,rfl⟩
   ·rw [key_rl] at h; exact SeqAt.EqAt.str_int x t j u _ _ _ _ h
   ·rw [key_rr] at h; exact wpAny_eqBool_str h
 «strs» := fun k x t v h=>by
  rcases keyIs_shape h with ⟨i,u,rfl,e⟩ | ⟨y,u,rfl,e⟩
  ·exact nomatch e
  ·injection e with e1 _
   subst e1
   cases v <;> rfl
theorem mixKind_int (prog:Program)(w:World)(i:Int)(t:Tok) : (mixKind prog w).is (.inl i) (.int i t)=true:=keyIs_int i t
theorem mixKind_str (prog:Program)(w:World)(x:Str)(t:Tok) : (mixKind prog w).is (.inr x) (.str x t)=true:=keyIs_str x t
end L2
namespace L2
open PySem PySem.Spec PyProof.Rows
inductive V where
 | non | bl (b:Bool) | int (i:Int) | str (x:Str) | byt (b:Array UInt8) | flt (b:UInt64) | ref (a:Addr) | ty (n:String)
 deriving DecidableEq
def RelV:V→Value→Prop
 | .non,u=>u=Value.none
 | .bl b,u=>u=Value.bool b
 | .int i,u=>∃ t,u=Value.int i t
 | .str x,u=>∃ t,u=Value.str x t
 | .byt b,u=>∃ t,u=Value.bytes b t
 | .flt b,u=>∃ t,u=Value.float b t
 | .ref a,u=>u=Value.ref a
 | .ty n,u=>u=Value.type n
abbrev Vals:List V→List Value→Prop:=Paired RelV
theorem Vals.length {xs:List V}{us:List Value}(r:Vals xs us) : xs.length=us.length:=Paired.length r
theorem Vals.get:∀ {xs:List V}{us:List Value}{i:Nat}{x:V},Vals xs us→xs[i]? = some x→∃ u,us[i]? = some u∧RelV x u
 | _,_,_,_,.nil,e=>by simp at e
 | _,_,0,_,.cons r _,e=>by simp at e; subst e; exact ⟨_,rfl,r⟩
 | _,_,i + 1,x,.cons _ t,e=>by
  obtain ⟨u,h1,h2⟩:=Vals.get (i:=i) (x:=x) t (by simpa using e)
  exact ⟨u,by simpa using h1,h2⟩
theorem Vals.set {x:V}{u:Value}(r:RelV x u) : ∀ {xs:List V}{us:List Value}(i:Nat),Vals xs us→Vals (xs.set i x) (us.set i u)
 | _,_,_,.nil=>.nil
 | _,_,0,.cons _ t=>.cons r t
 | _,_,i + 1,.cons q t=>.cons q (Vals.set r i t)
theorem Vals.append:∀ {xs ys:List V}{us ws:List Value},Vals xs us→Vals ys ws→Vals (xs ++ ys) (us ++ ws)
 | _,_,_,_,.nil,s=>s
 | _,_,_,_,.cons r t,s=>.cons r (Vals.append t s)
theorem Vals.take:∀ {xs:List V}{us:List Value}(n:Nat),Vals xs us→Vals (xs.take n) (us.take n)
 | _,_,0,_=>.nil
 | _,_,_ + 1,.nil=>.nil
 | _,_,n + 1,.cons r t=>.cons r (Vals.take n t)
theorem Vals.drop:∀ {xs:List V}{us:List Value}(n:Nat),Vals xs us→Vals (xs.drop n) (us.drop n)
 | _,_,0,r=>r
 | _,_,_ + 1,.nil=>.nil
 | _,_,n + 1,.cons _ t=>Vals.drop n t
def RelO:Option V→Option Value→Prop
 | some v,some u=>RelV v u
 | none,none=>True
 | _,_=>False
def KV {κ:Type} : List (κ × V)→List (κ × Value)→Prop:=Paired fun (p:κ × V) (q:κ × Value)=>p.1=q.1∧RelV p.2 q.2
def kV:Key→V
 | .inl i=>.int i
 | .inr x=>.str x
inductive HO where
 | lst (xs:List V)
 | tup (xs:List V)
 | dK (kvs:List (Key × V)) | dT (kvs:List (List Key × V))
 | set (S:Int→Bool) (n:Nat)
 | ins (C dx:Addr) (fs:List (Str × V))
 | own (x:Addr)
 | xd (fs:List (Str × V))
 | met (f x:Addr)
 | rng (lo hi:Int)
 | frz (o:Obj) (u:HO)
 | tbl (ps:Array Value)
 | ext (φ:Heap→Prop)
abbrev Hp:=Addr→Option HO
def upd (H:Hp)(a:Addr)(o:HO) : Hp:=fun b=>if b=a then some o else H b
theorem upd_same {H:Hp}{a:Addr}{o:HO} : upd H a o a=some o:=by unfold upd; rw [if_pos rfl]
theorem upd_ne {H:Hp}{a b:Addr}{o:HO}(h:b ≠ a) : upd H a o b=H b:=by unfold upd; rw [if_neg h]
theorem ne_of {H:Hp}{a b:Addr}{o u:HO}(h:H a=some o)(h':H b=some u)(d:o ≠ u) : a ≠ b:=by
 intro e; subst e; rw [h] at h'; exact d (Option.some.inj h')
theorem ne_of_none {H:Hp}{a b:Addr}{o:HO}(h:H a=some o)(h':H b=none) : a ≠ b:=by
 intro e; subst e; rw [h] at h'; cases h'
section
variable (P:Program) (w:World)
def ObjOk (H:Hp)(h:Heap)(a:Addr) : HO→Prop
 | .lst xs=>xs.length≤sizeLine∧∃ (its:List Value) (n:Nat),Vals xs its∧h.get? a=some { cls:=.type "list", data:=.seq its.toArray n }
 | .tup xs=>xs.length≤sizeLine∧∃ its:List Value,Vals xs its∧IsTup h a its.toArray
 | .dK kvs=>kvs.length≤sizeLine∧(a == sysModules)=false∧∃ vs,KV kvs vs∧h.DictOf (mixKind P w) a vs
 | .dT kvs=>kvs.length≤sizeLine∧(a == sysModules)=false∧∃ xs:List (List Key × Addr × Value),
   Paired (fun (p:List Key × V) (q:List Key × Addr × Value)=>p.1=q.1∧H q.2.1=some (.tup (p.1.map kV))∧RelV p.2 q.2.2) kvs xs ∧
   ∃ o es ep,h.get? a=some o∧o.ExactDict∧o.data = .dict es ep∧es.toList=xs.map (entryOfKey (tupleKind (mixKind P w)))∧(xs.map (·.1)).Nodup
 | .set S n=>h.SetOf (intKind P w) a S n
 | .ins C dx fs=>H dx=some (.own a)∧fs.length≤1000∧dx ≠ a∧h.get? a=some (PySem.W.instObj C dx) ∧
   ∃ mA,h.Ns1 dx mA∧(∀ f,RelO (fs.lookup f) (mA f))∧PySem.Within mA (fs.map (·.1))
 | .own _=>∃ o,h.get? a=some o
 | .xd fs=>∃ mA,h.Ns1 a mA∧∀ f,RelO (fs.lookup f) (mA f)
 | .rng lo hi=>∃ t u v,h.get? a=some { cls:=.type "range", data:=.fields #[.int lo t,.int hi u,.int 1 v] }
 | .frz o u=>h.get? a=some o∧ObjOk H h a u
 | .tbl ps=>h.get? a=some { cls:=.none,data:=.fields ps }
 | .met f x=>h.get? a=some (PySem.W.methodObj (.ref f) (.ref x))
 | .ext φ=>φ h∧(∃ o,h.get? a=some o)∧∀ h1 h2:Heap,φ h1→(∀ o,h1.get? a=some o→h2.get? a=some o)→φ h2
def HOk (H:Hp)(h:Heap) : Prop:=∀ a o,H a=some o→ObjOk P w H h a o
end
section
variable {P:Program}{w:World}{H H':Hp}{h h':Heap}{a:Addr}{o:HO}
theorem ObjOk.lt (x:ObjOk P w H h a o) : a < h.objs.size:=by
 cases o with
 | lst xs=>obtain ⟨_,_,_,_,e⟩:=x; exact Heap.lt_size e
 | tup xs=>obtain ⟨_,_,_,p⟩:=x; exact p.lt
 | dK kvs=>obtain ⟨_,_,_,_,o,_,_,e,_⟩:=x; exact Heap.lt_size e
 | dT kvs=>obtain ⟨_,_,_,_,o,_,_,e,_⟩:=x; exact Heap.lt_size e
 | set S n=>obtain ⟨o,_,_,_,e,_⟩:=x; exact Heap.lt_size e
 | ins C dx fs=>obtain ⟨_,_,_,e,_⟩:=x; exact Heap.lt_size e
 | own y=>obtain ⟨_,e⟩:=x; exact Heap.lt_size e
 | xd fs=>obtain ⟨_,⟨_,_,_,e,_⟩,_⟩:=x; exact Heap.lt_size e
 | rng lo hi=>obtain ⟨_,_,_,e⟩:=x; exact Heap.lt_size e
 | frz ob u=>obtain ⟨e,_⟩:=x; exact Heap.lt_size e
 | tbl ps=>exact Heap.lt_size (show h.get? a=some _ from x)
 | met f y=>exact Heap.lt_size (show h.get? a=some _ from x)
 | ext φ=>obtain ⟨_,⟨_,e⟩,_⟩:=x; exact Heap.lt_size e
theorem Paired.mapP {α β:Type}{F G:α→β→Prop} : ∀ {l₁:List α}{l₂:List β},Paired F l₁ l₂→(∀ a b,F a b→G a b)→Paired G l₁ l₂
 | _,_,.nil,_=>.nil
 | _,_,.cons r t,f=>.cons (f _ _ r) (Paired.mapP t f)
theorem ObjOk.stay (x:ObjOk P w H h a o) (k:∀ b u,(b=a∨H b=some (.own a))→h.get? b=some u→h'.get? b=some u)
  (ho:∀ b,H b=some (.own a)→H' b=some (.own a)) (ht:∀ b xs,H b=some (.tup xs)→H' b=some (.tup xs)) : ObjOk P w H' h' a o:=by
 induction o with
 | lst xs=>obtain ⟨z,its,n,r,e⟩:=x; exact ⟨z,its,n,r,k _ _ (.inl rfl) e⟩
 | tup xs=>obtain ⟨z,its,r,ob,e,c⟩:=x; exact ⟨z,its,r,ob,k _ _ (.inl rfl) e,c⟩
 | dK kvs=>obtain ⟨z,y,vs,r,ob,es,ep,e,c⟩:=x; exact ⟨z,y,vs,r,ob,es,ep,k _ _ (.inl rfl) e,c⟩
 | dT kvs =>
  obtain ⟨z,y,xs,r,ob,es,ep,e,c⟩:=x
  exact ⟨z,y,xs,Paired.mapP r fun p q z=>⟨z.1,ht _ _ z.2.1,z.2.2⟩,ob,es,ep,k _ _ (.inl rfl) e,c⟩
 | set S n=>obtain ⟨ob,es,ep,t,e,c⟩:=x; exact ⟨ob,es,ep,t,k _ _ (.inl rfl) e,c⟩
 | ins C dx fs =>
  obtain ⟨d,z,ne,e,mA,⟨od,es,ep,e2,c⟩,r⟩:=x
  exact ⟨ho _ d,z,ne,k _ _ (.inl rfl) e,mA,⟨od,es,ep,k _ _ (.inr d) e2,c⟩,r⟩
 | own y=>obtain ⟨ob,e⟩:=x; exact ⟨ob,k _ _ (.inl rfl) e⟩
 | xd fs=>obtain ⟨mA,⟨od,es,ep,e,c⟩,r⟩:=x; exact ⟨mA,⟨od,es,ep,k _ _ (.inl rfl) e,c⟩,r⟩
 | rng lo hi=>obtain ⟨t,u,v,e⟩:=x; exact ⟨t,u,v,k _ _ (.inl rfl) e⟩
 | frz ob u ih=>obtain ⟨e,q⟩:=x; exact ⟨k _ _ (.inl rfl) e,ih q⟩
 | tbl ps =>
  have e:h.get? a=some { cls:=.none,data:=.fields ps }:=x
  show h'.get? a=some { cls:=.none,data:=.fields ps }
  exact k a _ (.inl rfl) e
 | met f y =>
  have e:h.get? a=some (PySem.W.methodObj (.ref f) (.ref y)):=x
  show h'.get? a=some (PySem.W.methodObj (.ref f) (.ref y))
  exact k a _ (.inl rfl) e
 | ext φ=>obtain ⟨p,⟨o,e⟩,st⟩:=x; exact ⟨st _ _ p fun o q=>k _ _ (.inl rfl) q,⟨o,k _ _ (.inl rfl) e⟩,st⟩
theorem HOk.lt (x:HOk P w H h)(e:H a=some o) : a < h.objs.size:=(x a o e).lt
theorem HOk.fresh (x:HOk P w H h)(e:h.objs.size≤a) : H a=none:=by
 cases q:H a with
 | none=>rfl
 | some u=>exact absurd (Nat.lt_of_lt_of_le (x.lt q) e) (Nat.lt_irrefl _)
theorem HOk.kept (x:HOk P w H h)(k:∀ b u,h.get? b=some u→h'.get? b=some u) : HOk P w H h':=fun a o e =>
 (x a o e).stay (fun b u _ q=>k b u q) (fun _ q=>q) fun _ _ q=>q
theorem HOk.laid (x:HOk P w H h)(k:∀ b u,h.get? b=some u→h'.get? b=some u)(hp:h.objs.size≤a)(new:ObjOk P w (upd H a o) h' a o) : HOk P w (upd H a o) h':=fun b u e=>by
 have hn:=x.fresh hp
 by_cases hb:b=a
 ·subst hb; rw [upd_same] at e; cases e; exact new
 ·rw [upd_ne hb] at e
  exact (x b u e).stay (fun c v _ q=>k c v q) (fun c q=>by rw [upd_ne (ne_of_none q hn)]; exact q) fun c xs q=>by rw [upd_ne (ne_of_none q hn)]; exact q
end
def Rd (H:Hp)(a:Addr)(u:HO) : Prop:=H a=some u∨∃ o,H a=some (.frz o u)
theorem Rd.ok {P:Program}{w:World}{H:Hp}{h:Heap}{a:Addr}{u:HO}(r:Rd H a u)(x:HOk P w H h) : ObjOk P w H h a u:=by
 rcases r with r | ⟨o,r⟩
 ·exact x a u r
 ·obtain ⟨_,q⟩:=x a _ r
  exact q
def Mut:Option HO→Prop
 | some (.lst _)=>True
 | some (.dK _)=>True
 | some (.dT _)=>True
 | some (.set _ _)=>True
 | some (.ins _ _ _)=>True
 | some (.ext _)=>True
 | _=>False
section
variable {P:Program}{w:World}{H:Hp}{h h':Heap}{x e:Addr}{o':HO}
theorem HOk.write (ok:HOk P w H h) (mu:Mut (H x)) (he:e=x∨H e=some (.own x)) (k:∀ b u,b ≠ e→h.get? b=some u→h'.get? b=some u) (heo:∃ u,h'.get? e=some u)
  (new:ObjOk P w (upd H x o') h' x o') : HOk P w (upd H x o') h':=fun b u q=>by
 have nown:∀ c y,H c=some (.own y)→c ≠ x:=fun c y r z=>by subst z; rw [r] at mu; exact mu
 have ntup:∀ c xs,H c=some (.tup xs)→c ≠ x:=fun c xs r z=>by subst z; rw [r] at mu; exact mu
 by_cases hb:b=x
 ·subst hb; rw [upd_same] at q; cases q; exact new
 ·rw [upd_ne hb] at q
  by_cases hbe:b=e
  ·have q':H b=some (.own x):=by
    rcases he with z | z
    ·exact absurd (hbe.trans z) hb
    ·rw [hbe]; exact z
   rw [q] at q'; cases q'
   obtain ⟨v,hv⟩:=heo
   exact ⟨v,by rw [hbe]; exact hv⟩
  ·refine (ok b u q).stay (fun c v hc r=>k c v ?_ r) (fun c r=>by rw [upd_ne (nown c b r)]; exact r) fun c xs r=>by rw [upd_ne (ntup c xs r)]; exact r
   rcases hc with rfl | hc
   ·exact hbe
   ·rintro rfl
    rcases he with z | z
    ·exact nown c b hc z
    ·rw [hc] at z; cases z; exact hb rfl
end
structure Un (fs ex:List Addr) (H H':Hp) (h h':Heap) : Prop where
 keep:∀ b o,h.get? b=some o→H b=none→b ∉ fs→b ∉ ex→h'.get? b=some o
 slot:∀ b o,h.get? b=some o→H b=none→b∈fs→b ∉ ex→∃ sl,h'.get? b=some { o with slots:=sl }
 free:∀ b o,h.get? b=some o→H b=none→b ∉ ex→H' b=none
 there:∀ b o,h.get? b=some o→b ∉ ex→∃ o',h'.get? b=some o'
 tups:∀ b xs,H b=some (.tup xs)→H' b=some (.tup xs)
 frzs:∀ b o u,H b=some (.frz o u)→H' b=some (.frz o u)
 tbls:∀ b ps,H b=some (.tbl ps)→∃ more,H' b=some (.tbl (ps ++ more))
section
variable {fs fs' ex ex':List Addr}{H H1 H2:Hp}{h h1 h2 h':Heap}{a x e:Addr}{o:HO}
theorem Un.any (u:Un fs ex H H1 h h1){b:Addr}{ob:Obj}(q:h.get? b=some ob)(n:H b=none)(hx:b ∉ ex) : ∃ sl,h1.get? b=some { ob with slots:=sl }:=by
 by_cases hb:b∈fs
 ·exact u.slot b ob q n hb hx
 ·exact ⟨ob.slots,u.keep b ob q n hb hx⟩
theorem Un.kept (k:∀ b u,h.get? b=some u→h'.get? b=some u) : Un fs ex H H h h' :=
 ⟨fun b ob q _ _ _=>k b ob q,fun b ob q _ _ _=>⟨ob.slots,k b ob q⟩,fun _ _ _ n _=>n,fun b ob q _=>⟨ob,k b ob q⟩,fun _ _ q=>q,fun _ _ _ q=>q,fun _ ps q=>⟨#[],by rw [q]; simp⟩⟩
theorem Un.refl:Un fs ex H H h h:=Un.kept fun _ _ q=>q
theorem Un.laid (k:∀ b u,h.get? b=some u→h'.get? b=some u)(hp:h.objs.size≤a)(hn:H a=none) : Un fs ex H (upd H a o) h h' where
 keep:=fun b u q _ _ _=>k b u q
 slot:=fun b u q _ _ _=>⟨u.slots,k b u q⟩
 free:=fun b u q n _=>by rw [upd_ne (Nat.ne_of_lt (Nat.lt_of_lt_of_le (Heap.lt_size q) hp))]; exact n
 there:=fun b u q _=>⟨u,k b u q⟩
 tups:=fun b xs q=>by rw [upd_ne (ne_of_none q hn)]; exact q
 frzs:=fun b u xs q=>by rw [upd_ne (ne_of_none q hn)]; exact q
 tbls:=fun b ps q=>⟨#[],by rw [upd_ne (ne_of_none q hn),q]; simp⟩
theorem Un.write (mu:Mut (H x))(he:e=x∨H e=some (.own x))(k:∀ b u,b ≠ e→h.get? b=some u→h'.get? b=some u)(heo:∃ u,h'.get? e=some u) : Un fs ex H (upd H x o) h h':=by
 have hx:∀ b,H b=none→b ≠ x:=fun b n z=>by subst z; rw [n] at mu; exact mu
 have hb:∀ b,H b=none→b ≠ e:=fun b n z=>by
  subst z
  rcases he with r | r
  ·exact hx b n r
  ·rw [n] at r; cases r
 have hm:∀ b u,H b=some u→¬ Mut (some u)→b ≠ x:=fun b u q nm z=>by subst z; rw [q] at mu; exact nm mu
 refine ⟨fun b u q n _ _=>k b u (hb b n) q,fun b u q n _ _=>⟨u.slots,k b u (hb b n) q⟩,fun b u q n _=>by rw [upd_ne (hx b n)]; exact n,fun b u q _=>?_,
  fun b xs q=>by rw [upd_ne (hm b _ q fun z=>z)]; exact q,fun b u xs q=>by rw [upd_ne (hm b _ q fun z=>z)]; exact q,fun b ps q=>⟨#[],by rw [upd_ne (hm b _ q fun z=>z),q]; simp⟩⟩
 by_cases hbe:b=e
 ·subst hbe; exact heo
 ·exact ⟨u,k b u hbe q⟩
end
def trk (h:Heap)(H:Hp) : List Addr:=(List.range h.objs.size).filter fun a=>(H a).isSome
def hidT (h:Heap)(H:Hp) : Heap:=PySem.W.hideAll h (trk h H)
theorem hidT_size (h:Heap)(H:Hp) : (hidT h H).objs.size=h.objs.size:=PySem.W.hideAll_size _ _
theorem hidT_get {h:Heap}{H:Hp}{b:Addr}{o:Obj}(e:h.get? b=some o)(n:H b=none) : (hidT h H).get? b=some o :=
 PySem.W.hideAll_get _ e fun hm=>by
  have q:(H b).isSome=true:=(List.mem_filter.mp hm).2
  rw [n] at q; simp at q
theorem of_hidT {h:Heap}{H:Hp}{b:Addr}{o:Obj}(e:(hidT h H).get? b=some o) : h.get? b=some o∧H b=none:=by
 have e':h.get? b=some o:=PySem.W.of_hideAll (trk h H) e
 refine ⟨e',?_⟩
 cases q:H b with
 | none=>rfl
 | some x =>
  have hm:b∈trk h H:=List.mem_filter.mpr ⟨List.mem_range.mpr (Heap.lt_size e'),by simp [q]⟩
  have z:(hidT h H).get? b=none:=PySem.W.hideAll_none (trk h H) hm
  rw [z] at e; cases e
def allNews (g h:Heap)(L:Addr) : List (Addr × Obj):=(List.range h.objs.size).filterMap fun a=>if a=L∨(g.get? a).isSome=true then none else (h.get? a).map fun o=>(a,o)
def rest (g h:Heap)(L d:Addr) : List (Addr × Obj):=(allNews g h L).filter fun p=>decide (p.1 ≠ d)
end L2
namespace L2
open PySem PySem.Spec PyProof.Rows
structure Mod (K:PySem.W.Frag) (mg:Str→Option Value) (base:Heap) : Prop where
 kin:K.In base
 glob:base.Ns mainGlobals mg
 blt:∃ mb,base.Ns builtinsNs mb∧∀ x:Str,x ≠ "__name__" → mb x=bootBuiltins x
 nolimit:base.NoLimit
structure Cx where
 prog:Program
 w:World
 K:PySem.W.Frag
 mg:Str→Option Value
 base:Heap
 A:Around
 N:List Str
 s₀:Shared
 H₀:Hp
 env:Env
 outer:List Env
 stack:List Env
 ex:List Addr
 fn:Str→Bool
 calm:Bool
 pn:List (Addr × Obj)
 xe:Value→Shared→Prop
def frs (l:List Env) : List Addr:=l.filterMap (·.frame)
abbrev Cx.fs (X:Cx) : List Addr:=frs X.outer
def Vis (sc:Scope)(x:Str) : Prop:=sc.names.lookup x=some .local∨sc.names.lookup x=some .cell∨sc.names.lookup x=some .free
def Loc (sc:Scope)(x:Str) : Prop:=sc.names.lookup x=some .local∨sc.names.lookup x=some .cell
def Look (env:Env)(h:Heap)(m:Str→Option Value)(x:Str)(u:Value) : Prop :=
 (env.kindOf x=some .local∧m x=some u)∨((env.kindOf x=some .cell∨env.kindOf x=some .free)∧∃ c,env.cells.lookup x=some c∧h.IsCell c (some u))
structure Cx.Ok (X:Cx) : Prop where
 mod:Mod X.K X.mg X.base
 kind:X.env.scope.kind = .function
 glob:X.env.globals=mainGlobals
 blt:X.env.builtins=builtinsNs
 above:X.s₀.heap.objs.size≤X.env.locals
 inj:∀ x y c,X.env.cells.lookup x=some c→X.env.cells.lookup y=some c→x=y
 has:∀ x,(X.env.kindOf x=some .cell∨X.env.kindOf x=some .free)→∃ c,X.env.cells.lookup x=some c
 cab:∀ x c,X.fn x=true→X.env.cells.lookup x=some c→X.s₀.heap.objs.size≤c
 hd:X.calm=true→X.A.handled=none
 frames:X.A.frames=some X.stack
 stk:X.stack=X.outer∨(X.stack=X.env :: X.outer∧X.env.frame=some X.env.locals)
 exf:∀ b∈X.ex,b ≠ X.env.locals∧∀ x c,X.env.cells.lookup x=some c→c ≠ b
 bs:∀ b o,X.base.get? b=some o→X.s₀.heap.get? b=some o∧X.H₀ b=none
 bsz:X.base.objs.size≤X.s₀.heap.objs.size
 noex:∀ b o,X.base.get? b=some o→b ∉ X.ex
 exfs:∀ b∈X.ex,b ∉ X.fs
 funs:X.s₀.heap.FunFrames X.base X.outer
 frf:∀ b∈X.fs,X.H₀ b=none
structure Inv (X:Cx) (pins:List (Addr × Obj)) (σ:List (Option V)) (H:Hp) (s:Shared) : Prop where
 ok:X.Ok
 os:s.os=X.s₀.os
 bare:AllBare s.gens
 base:Un X.fs X.ex X.H₀ H X.s₀.heap s.heap
 loc:∃ m,s.heap.Ns X.env.locals m∧∀ (i:Nat) (x:Str) (v:V),X.N[i]? = some x→σ[i]? = some (some v)→Vis X.env.scope x→∃ u,RelV v u∧Look X.env s.heap m x u
 cell:∀ x c,X.env.cells.lookup x=some c→∃ v,s.heap.IsCell c v
 free:H X.env.locals=none
 freeC:∀ x c,X.env.cells.lookup x=some c→H c=none
 pin:∀ p∈X.pn ++ pins,s.heap.get? p.1=some p.2∧H p.1=none∧p.1 ≠ X.env.locals∧p.1 ∉ X.fs∧∀ v,p.2.data ≠ .cell v
 hok:HOk X.prog X.w H s.heap
 len:σ.length=X.N.length
section
variable {X:Cx}{pins:List (Addr × Obj)}{σ:List (Option V)}{H H':Hp}{s:Shared}{h':Heap}
theorem Cx.Ok.nofr (ok:X.Ok){b:Addr}{o:Obj}(e:X.base.get? b=some o) : b ∉ X.fs:=fun hb=>by
 have:=(ok.funs.mem hb).1
 rw [e] at this; cases this
theorem Inv.bs (I:Inv X pins σ H s) : ∀ b o,X.base.get? b=some o→s.heap.get? b=some o∧H b=none:=fun b o e =>
 ⟨I.base.keep b o (I.ok.bs b o e).1 (I.ok.bs b o e).2 (I.ok.nofr e) (I.ok.noex b o e),I.base.free b o (I.ok.bs b o e).1 (I.ok.bs b o e).2 (I.ok.noex b o e)⟩
theorem Inv.bk (I:Inv X pins σ H s) : ∀ b o,X.base.get? b=some o→s.heap.get? b=some o:=fun b o e=>(I.bs b o e).1
theorem Inv.mod (I:Inv X pins σ H s) : Mod X.K X.mg X.base:=I.ok.mod
theorem Inv.kIn (I:Inv X pins σ H s) : X.K.In s.heap:=I.ok.mod.kin.keeps I.bk
theorem Inv.lt (I:Inv X pins σ H s) : X.env.locals < s.heap.objs.size:=let ⟨_,hn,_⟩:=I.loc; hn.lt
theorem Inv.sz (I:Inv X pins σ H s) : X.s₀.heap.objs.size≤s.heap.objs.size:=Nat.le_trans I.ok.above (Nat.le_of_lt I.lt)
theorem Inv.nofs (I:Inv X pins σ H s){a:Addr}(h:s.heap.objs.size≤a) : a ∉ X.fs:=fun hb=>by
 obtain ⟨_,o,ho,_⟩:=I.ok.funs.mem hb
 exact absurd (Nat.lt_of_lt_of_le (Heap.lt_size ho) (Nat.le_trans I.sz h)) (Nat.lt_irrefl _)
theorem Inv.cne (I:Inv X pins σ H s) : ∀ x c,X.env.cells.lookup x=some c→c ≠ X.env.locals:=fun x c e z=>by
 obtain ⟨v,o,ho,hd⟩:=I.cell x c e
 obtain ⟨m,⟨o',es,ep,ho',hd',_⟩,_⟩:=I.loc
 rw [z,ho'] at ho; cases ho; rw [hd'] at hd; cases hd
theorem Inv.funs (I:Inv X pins σ H s) : s.heap.FunFrames X.base X.outer:=by
 have all:∀ (l:List Env),(∀ b∈frs l,b∈X.fs)→X.s₀.heap.FunFrames X.base l→s.heap.FunFrames X.base l:=by
  intro l
  induction l with
  | nil=>intro _ _; trivial
  | cons env r ih =>
   intro hs hl
   obtain ⟨hk,⟨L,o,hf,hn,ho,hd⟩,hr⟩:=hl
   have hL:L∈X.fs:=hs L (by unfold frs; rw [List.filterMap_cons,hf]; exact List.mem_cons_self)
   obtain ⟨sl,e⟩:=I.base.slot L o ho (I.ok.frf L hL) hL fun z=>I.ok.exfs L z hL
   exact ⟨hk,⟨L,_,hf,hn,e,hd⟩,ih (fun b hb=>hs b (by unfold frs; rw [List.filterMap_cons,hf]; exact List.mem_cons_of_mem _ hb)) hr⟩
 exact all X.outer (fun _ hb=>hb) I.ok.funs
theorem Inv.stack (I:Inv X pins σ H s) : s.heap.FunFrames X.base X.stack:=by
 rcases I.ok.stk with e | ⟨e,hf⟩
 ·rw [e]; exact I.funs
 ·rw [e]
  obtain ⟨m,hn,_⟩:=I.loc
  refine .cons (by rw [I.ok.kind]; decide) hf hn ?_ I.funs
  exact Heap.get?_none_of_le (Nat.le_trans I.ok.bsz I.ok.above)
theorem Inv.stkSub (I:Inv X pins σ H s) : ∀ b∈frs X.stack,b∈X.env.locals :: X.fs:=fun b hb=>by
 rcases I.ok.stk with e | ⟨e,hf⟩
 ·rw [e] at hb; exact List.mem_cons_of_mem _ hb
 ·rw [e] at hb
  unfold frs at hb
  rw [List.filterMap_cons,hf] at hb
  exact hb
theorem Inv.stkFree (I:Inv X pins σ H s) : ∀ b∈frs X.stack,H b=none:=fun b hb=>by
 rcases List.mem_cons.mp (I.stkSub b hb) with e | hb
 ·rw [e]; exact I.free
 ·obtain ⟨_,o,ho,_⟩:=I.ok.funs.mem hb
  exact I.base.free b o ho (I.ok.frf b hb) fun z=>I.ok.exfs b z hb
theorem Inv.step {g':Array GenState}{t':Nat}{d':Drawn}{ch:List Addr}(I:Inv X pins σ H s)
  (hch:∀ b∈ch,(b∈X.ex∨X.s₀.heap.objs.size≤b)∧b ≠ X.env.locals∧(∀ x c,X.env.cells.lookup x=some c→c ≠ b)∧∀ p∈X.pn ++ pins,p.1 ≠ b)
  (keep:∀ b o,b ≠ X.env.locals→b ∉ X.fs→b ∉ ch→s.heap.get? b=some o→H b=none→h'.get? b=some o)
  (slot:∀ b o,b ≠ X.env.locals→b∈X.fs→b ∉ ch→s.heap.get? b=some o→H b=none→∃ sl,h'.get? b=some { o with slots:=sl }) (free:∀ b o,b ∉ ch→s.heap.get? b=some o→H b=none→H' b=none)
  (there:∀ b o,b ∉ ch→s.heap.get? b=some o→∃ o',h'.get? b=some o')
  (tups:∀ b xs,H b=some (.tup xs)→H' b=some (.tup xs)) (frzs:∀ b o u,H b=some (.frz o u)→H' b=some (.frz o u)) (tbls:∀ b ps,H b=some (.tbl ps)→∃ more,H' b=some (.tbl (ps ++ more)))
  (ns:∀ m,s.heap.Ns X.env.locals m→h'.Ns X.env.locals m) (hok:HOk X.prog X.w H' h') (hg:AllBare g') :
  Inv X pins σ H' { s with heap:=h',gens:=g',drawn:=d',toks:=t' }:=by
 have neL:∀ b o,X.s₀.heap.get? b=some o→b ≠ X.env.locals:=fun b o e=>Nat.ne_of_lt (Nat.lt_of_lt_of_le (Heap.lt_size e) I.ok.above)
 have neC:∀ b o,X.s₀.heap.get? b=some o→b ∉ X.ex→b ∉ ch:=fun b o e hx hb=>by
  rcases (hch b hb).1 with z | z
  ·exact hx z
  ·exact absurd (Nat.lt_of_lt_of_le (Heap.lt_size e) z) (Nat.lt_irrefl _)
 have cellK:∀ x c,X.env.cells.lookup x=some c→∀ v,s.heap.IsCell c v→h'.IsCell c v:=fun x c e v ⟨o,ho,hd⟩=>by
  have nch:c ∉ ch:=fun z=>(hch c z).2.2.1 x c e rfl
  by_cases hc:c∈X.fs
  ·obtain ⟨sl,q⟩:=slot c o (I.cne x c e) hc nch ho (I.freeC x c e)
   exact ⟨_,q,hd⟩
  ·exact ⟨o,keep c o (I.cne x c e) hc nch ho (I.freeC x c e),hd⟩
 refine ⟨I.ok,I.os,hg,⟨fun b o e n hb hx=>?_,fun b o e n hb hx=>?_,fun b o e n hx=>?_,fun b o e hx=>?_,fun b xs e=>tups b xs (I.base.tups b xs e),fun b o xs e=>frzs b o xs (I.base.frzs b o xs e),fun b ps e=>?_⟩,?_,fun x c e=>?_,?_,fun x c e=>?_,fun p hp=>?_,hok,I.len⟩
 ·exact keep b o (neL b o e) hb (neC b o e hx) (I.base.keep b o e n hb hx) (I.base.free b o e n hx)
 ·obtain ⟨sl,e1⟩:=I.base.slot b o e n hb hx
  obtain ⟨sl',e2⟩:=slot b _ (neL b o e) hb (neC b o e hx) e1 (I.base.free b o e n hx)
  exact ⟨sl',e2⟩
 ·obtain ⟨o',e1⟩:=I.base.there b o e hx
  exact free b o' (neC b o e hx) e1 (I.base.free b o e n hx)
 ·obtain ⟨o',e1⟩:=I.base.there b o e hx
  exact there b o' (neC b o e hx) e1
 ·obtain ⟨m1,e1⟩:=I.base.tbls b ps e
  obtain ⟨m2,e2⟩:=tbls b _ e1
  exact ⟨m1 ++ m2,by rw [e2,Array.append_assoc]⟩
 ·obtain ⟨m,hn,hl⟩:=I.loc
  refine ⟨m,ns m hn,fun i x v e1 e2 e3=>?_⟩
  obtain ⟨u,r,l⟩:=hl i x v e1 e2 e3
  refine ⟨u,r,?_⟩
  rcases l with l | ⟨k,c,e,z⟩
  ·exact .inl l
  ·exact .inr ⟨k,c,e,cellK x c e _ z⟩
 ·obtain ⟨v,z⟩:=I.cell x c e
  exact ⟨v,cellK x c e v z⟩
 ·obtain ⟨m,⟨o,_,_,ho,_⟩,_⟩:=I.loc
  exact free _ o (fun z=>(hch _ z).2.1 rfl) ho I.free
 ·obtain ⟨v,o,ho,hd⟩:=I.cell x c e
  exact free c o (fun z=>(hch c z).2.2.1 x c e rfl) ho (I.freeC x c e)
 ·obtain ⟨e,n,ne,nf,d⟩:=I.pin p hp
  have nch:p.1 ∉ ch:=fun z=>(hch p.1 z).2.2.2 p hp rfl
  exact ⟨keep p.1 p.2 ne nf nch e n,free p.1 p.2 nch e n,ne,nf,d⟩
theorem Inv.un {t':Nat}(I:Inv X pins σ H s)(u:Un X.fs [] H H' s.heap h')(hok:HOk X.prog X.w H' h') : Inv X pins σ H' { s with heap:=h',toks:=t' }:=by
 obtain ⟨m,⟨o,es,ep,ho,r⟩,_⟩:=id I.loc
 obtain ⟨sl,hL⟩:=u.any ho I.free (by simp)
 exact I.step (g':=s.gens) (d':=s.drawn) (ch:=[]) (fun _ z=>nomatch z) (fun b o _ hb _ e n=>u.keep b o e n hb (by simp)) (fun b o _ hb _ e n=>u.slot b o e n hb (by simp)) (fun b o _ e n=>u.free b o e n (by simp)) (fun b o _ e=>u.there b o e (by simp)) u.tups u.frzs u.tbls (fun m' hm=>by
  obtain ⟨o',es',ep',ho',r'⟩:=hm
  rw [ho] at ho'; cases ho'
  exact ⟨_,es',ep',hL,r'⟩) hok I.bare
theorem Inv.call {g':Array GenState}{t':Nat}{d':Drawn}{ch:List Addr}(I:Inv X pins σ H s) (u:Un (frs X.stack) ch H H' s.heap h') (hok:HOk X.prog X.w H' h') (hg:AllBare g')
  (hch:∀ b∈ch,(b∈X.ex∨X.s₀.heap.objs.size≤b)∧b ≠ X.env.locals∧(∀ x c,X.env.cells.lookup x=some c→c ≠ b)∧∀ p∈X.pn ++ pins,p.1 ≠ b) :
  Inv X pins σ H' { s with heap:=h',gens:=g',drawn:=d',toks:=t' }:=by
 obtain ⟨m,⟨o,es,ep,ho,r⟩,_⟩:=id I.loc
 obtain ⟨sl,hL⟩:=u.any ho I.free fun z=>(hch _ z).2.1 rfl
 exact I.step (ch:=ch) hch (fun b o hL hb hc e n=>u.keep b o e n (fun z=>(List.mem_cons.mp (I.stkSub b z)).elim hL hb) hc) (fun b o _ _ hc e n=>u.any e n hc) (fun b o hc e n=>u.free b o e n hc) (fun b o hc e=>u.there b o e hc) u.tups u.frzs u.tbls (fun m' hm=>by
  obtain ⟨o',es',ep',ho',r'⟩:=hm
  rw [ho] at ho'; cases ho'
  exact ⟨_,es',ep',hL,r'⟩) hok hg
theorem Inv.turned {t':Nat}{it:Addr}(I:Inv X pins σ H s) (k:∀ b o,b ≠ it→s.heap.get? b=some o→h'.get? b=some o) (hn:H it=none) (hL:it ≠ X.env.locals)
  (h1:it∈X.ex∨X.s₀.heap.objs.size≤it) (h2:∀ x c,X.env.cells.lookup x=some c→c ≠ it) (h3:∀ p∈X.pn ++ pins,p.1 ≠ it) : Inv X pins σ H { s with heap:=h',toks:=t' }:=by
 have nit:∀ b u,H b=some u→b ≠ it:=fun b u e z=>by rw [z,hn] at e; cases e
 refine I.step (g':=s.gens) (d':=s.drawn) (ch:=[it]) (fun b hb=>?_) (fun b o _ _ hc e _=>k b o (fun z=>hc (by simp [z])) e) (fun b o _ _ hc e _=>⟨o.slots,k b o (fun z=>hc (by simp [z])) e⟩) (fun _ _ _ _ n=>n)
  (fun b o hc e=>⟨o,k b o (fun z=>hc (by simp [z])) e⟩) (fun _ _ e=>e) (fun _ _ _ e=>e) (fun b ps e=>⟨#[],by rw [e]; simp⟩) (fun m hm=>?_) (fun b u e=>?_) I.bare
 ·have e:b=it:=by simpa using hb
  subst e
  exact ⟨h1,hL,h2,h3⟩
 ·obtain ⟨o,es,ep,ho,r⟩:=hm
  exact ⟨o,es,ep,k _ o (Ne.symm hL) ho,r⟩
 ·refine (I.hok b u e).stay (fun c v hc q=>k c v ?_ q) (fun _ q=>q) fun _ _ q=>q
  rcases hc with z | z
  ·rw [z]; exact nit b u e
  ·exact nit c _ z
theorem Inv.tok (I:Inv X pins σ H s)(t:Nat) : Inv X pins σ H { s with toks:=t }:=I.un (h':=s.heap) (t':=t) Un.refl I.hok
theorem Inv.kept {t':Nat}(I:Inv X pins σ H s)(k:∀ b u,s.heap.get? b=some u→h'.get? b=some u) : Inv X pins σ H { s with heap:=h',toks:=t' }:=I.un (Un.kept k) (I.hok.kept k)
theorem Inv.laid {a:Addr}{o:HO}{t':Nat}(I:Inv X pins σ H s) (k:∀ b u,s.heap.get? b=some u→h'.get? b=some u) (hp:s.heap.objs.size≤a) (new:ObjOk X.prog X.w (upd H a o) h' a o) :
  Inv X pins σ (upd H a o) { s with heap:=h',toks:=t' }:=I.un (Un.laid k hp (I.hok.fresh hp)) (I.hok.laid k hp new)
theorem Inv.write {x e:Addr}{o:HO}{t':Nat}(I:Inv X pins σ H s) (mu:Mut (H x)) (he:e=x∨H e=some (.own x)) (k:∀ b u,b ≠ e→s.heap.get? b=some u→h'.get? b=some u) (heo:∃ u,h'.get? e=some u)
  (new:ObjOk X.prog X.w (upd H x o) h' x o) : Inv X pins σ (upd H x o) { s with heap:=h',toks:=t' }:=I.un (Un.write mu he k heo) (I.hok.write mu he k heo new)
theorem Inv.weak {σ':List (Option V)}(I:Inv X pins σ H s)(hl:σ'.length=σ.length)(w:∀ (i:Nat) v,σ'[i]? = some (some v)→σ[i]? = some (some v)) : Inv X pins σ' H s :=
 ⟨I.ok,I.os,I.bare,I.base,let ⟨m,hn,hl'⟩:=I.loc; ⟨m,hn,fun i x v e1 e2 e3=>hl' i x v e1 (w i v e2) e3⟩,I.cell,I.free,I.freeC,I.pin,I.hok,hl.trans I.len⟩
theorem Inv.pins_of {pins':List (Addr × Obj)}(I:Inv X pins σ H s)(h:∀ p∈pins',s.heap.get? p.1=some p.2∧H p.1=none∧p.1 ≠ X.env.locals∧p.1 ∉ X.fs∧∀ v,p.2.data ≠ .cell v) : Inv X pins' σ H s :=
 ⟨I.ok,I.os,I.bare,I.base,I.loc,I.cell,I.free,I.freeC,fun p hp=>(List.mem_append.mp hp).elim (fun z=>I.pin p (List.mem_append_left _ z)) (h p),I.hok,I.len⟩
theorem nodup_ix {N:List Str}(hN:N.Nodup){i j:Nat}{x:Str}(a:N[i]? = some x)(b:N[j]? = some x) : i=j:=by
 obtain ⟨h1,e1⟩:=List.getElem?_eq_some_iff.mp a
 obtain ⟨h2,e2⟩:=List.getElem?_eq_some_iff.mp b
 exact (List.getElem_inj hN).mp (e1.trans e2.symm)
theorem store_ok2 {M:Model}{A:Around}{E:Value→Shared→Prop}{i:Nat}{x:Str}{v:V}{u:Value}{Q:Unit→Shared→Prop}(I:Inv X pins σ H s) (hN:X.N.Nodup) (hi:X.N[i]? = some x) (hx:Loc X.env.scope x) (r:RelV v u)
  (h:∀ s',Inv X pins (σ.set i (some v)) H s'→(∃ a,Heap.SameBut a s.heap s'.heap∧(a=X.env.locals∨X.env.cells.lookup x=some a))→Q () s') (hf:X.fn x=true∨X.env.scope.names.lookup x=some .local:=by first | exact .inl rfl | exact .inr rfl | assumption) : wpAny M A (storeName X.env x u) Q E s:=by
 obtain ⟨m,hn,hl⟩:=id I.loc
 have hcls:(X.env.scope.kind == .class || (X.env.scope.kind == .module && X.env.locals != X.env.globals))=false:=by rw [I.ok.kind]; rfl
 have hiσ:i < σ.length:=by rw [I.len]; exact (List.getElem?_eq_some_iff.mp hi).1
 have cne:=I.cne
 have tracked:∀ {a:Addr}{h':Heap},(∃ o,s.heap.get? a=some o∧H a=none)→Heap.SameBut a s.heap h'→HOk X.prog X.w H h':=fun {a h'} ha hs b ob e=>by
  obtain ⟨_,_,hfree⟩:=ha
  refine (I.hok b ob e).stay (fun c w' hc q=>(hs.2 c ?_).trans q) (fun _ q=>q) fun _ _ q=>q
  rintro rfl
  rcases hc with rfl | hc
  ·rw [hfree] at e; cases e
  ·rw [hfree] at hc; cases hc
 rcases hx with hk | hk
 ·refine wpAny_storeName_local hk hn (fun h' hn' hs=>?_) hcls
  obtain ⟨oL,_,_,hoL,_⟩:=id hn
  refine h _ ⟨I.ok,I.os,I.bare,⟨fun b o e n hb hx=>?_,fun b o e n hb hx=>?_,I.base.free,fun b o e hx=>?_,I.base.tups,I.base.frzs,I.base.tbls⟩,⟨_,hn',fun j y v' e1 e2 e3=>?_⟩,fun y c e=>?_,I.free,I.freeC,fun p hp=>?_,tracked ⟨oL,hoL,I.free⟩ hs,by simpa using I.len⟩ ⟨_,hs,.inl rfl⟩
  ·exact (hs.2 b (Nat.ne_of_lt (Nat.lt_of_lt_of_le (Heap.lt_size e) I.ok.above))).trans (I.base.keep b o e n hb hx)
  ·obtain ⟨sl,e1⟩:=I.base.slot b o e n hb hx
   exact ⟨sl,(hs.2 b (Nat.ne_of_lt (Nat.lt_of_lt_of_le (Heap.lt_size e) I.ok.above))).trans e1⟩
  ·obtain ⟨o',e1⟩:=I.base.there b o e hx
   exact ⟨o',(hs.2 b (Nat.ne_of_lt (Nat.lt_of_lt_of_le (Heap.lt_size e) I.ok.above))).trans e1⟩
  ·by_cases hj:j=i
   ·subst hj
    rw [hi] at e1; cases e1
    rw [List.getElem?_set_self hiσ] at e2
    cases e2
    exact ⟨u,r,.inl ⟨hk,by simp⟩⟩
   ·rw [List.getElem?_set_ne (Ne.symm hj)] at e2
    obtain ⟨u',r',q⟩:=hl j y v' e1 e2 e3
    refine ⟨u',r',?_⟩
    rcases q with ⟨k,e⟩ | ⟨k,c,e,z⟩
    ·refine .inl ⟨k,?_⟩
     have:y ≠ x:=fun e=>hj (nodup_ix hN e1 (e ▸ hi))
     simp [this,e]
    ·exact .inr ⟨k,c,e,z.sameBut hs (cne y c e)⟩
  ·obtain ⟨w',z⟩:=I.cell y c e
   exact ⟨w',z.sameBut hs (cne y c e)⟩
  ·obtain ⟨e,n,ne,nf,d⟩:=I.pin p hp
   exact ⟨(hs.2 p.1 ne).trans e,n,ne,nf,d⟩
 ·have hfn:X.fn x=true:=by
   rcases hf with z | z
   ·exact z
   ·rw [z] at hk; cases hk
  obtain ⟨c,hc⟩:=I.ok.has x (.inl hk)
  obtain ⟨w',z⟩:=I.cell x c hc
  refine wpAny_storeName_cell I.ok.kind hk hc z (fun h' hc' hs=>?_)
  obtain ⟨oc,hoc,hocd⟩:=id z
  refine h { s with heap:=h' } ⟨I.ok,I.os,I.bare,⟨fun b o e n hb hx=>?_,fun b o e n hb hx=>?_,I.base.free,fun b o e hx=>?_,I.base.tups,I.base.frzs,I.base.tbls⟩,⟨m,hn.sameBut hs (Ne.symm (cne x c hc)),fun j y v' e1 e2 e3=>?_⟩,fun y c' e=>?_,I.free,I.freeC,fun p hp=>?_,tracked ⟨oc,hoc,I.freeC x c hc⟩ hs,by simpa using I.len⟩ ⟨c,hs,.inr hc⟩
  ·exact (hs.2 b (Nat.ne_of_lt (Nat.lt_of_lt_of_le (Heap.lt_size e) (I.ok.cab x c hfn hc)))).trans (I.base.keep b o e n hb hx)
  ·obtain ⟨sl,e1⟩:=I.base.slot b o e n hb hx
   exact ⟨sl,(hs.2 b (Nat.ne_of_lt (Nat.lt_of_lt_of_le (Heap.lt_size e) (I.ok.cab x c hfn hc)))).trans e1⟩
  ·obtain ⟨o',e1⟩:=I.base.there b o e hx
   exact ⟨o',(hs.2 b (Nat.ne_of_lt (Nat.lt_of_lt_of_le (Heap.lt_size e) (I.ok.cab x c hfn hc)))).trans e1⟩
  ·by_cases hj:j=i
   ·subst hj
    rw [hi] at e1; cases e1
    rw [List.getElem?_set_self hiσ] at e2
    cases e2
    exact ⟨u,r,.inr ⟨.inl hk,c,hc,hc'⟩⟩
   ·rw [List.getElem?_set_ne (Ne.symm hj)] at e2
    obtain ⟨u',r',q⟩:=hl j y v' e1 e2 e3
    refine ⟨u',r',?_⟩
    rcases q with q | ⟨k,c',e,z'⟩
    ·exact .inl q
    ·refine .inr ⟨k,c',e,z'.sameBut hs ?_⟩
     rintro rfl
     exact hj (nodup_ix hN e1 (I.ok.inj _ _ _ e hc ▸ hi))
  ·by_cases hcc:c'=c
   ·subst hcc; exact ⟨_,hc'⟩
   ·obtain ⟨w2,z2⟩:=I.cell y c' e
    exact ⟨w2,z2.sameBut hs hcc⟩
  ·obtain ⟨e,n,ne,nf,d⟩:=I.pin p hp
   refine ⟨(hs.2 p.1 ?_).trans e,n,ne,nf,d⟩
   intro q
   rw [q,hoc] at e
   have q':oc=p.2:=Option.some.inj e
   exact d w' (by rw [← q']; exact hocd)
theorem store_ok {M:Model}{A:Around}{E:Value→Shared→Prop}{i:Nat}{x:Str}{v:V}{u:Value}{Q:Unit→Shared→Prop}(I:Inv X pins σ H s) (hN:X.N.Nodup) (hi:X.N[i]? = some x) (hx:Loc X.env.scope x) (r:RelV v u)
  (h:∀ s',Inv X pins (σ.set i (some v)) H s'→Q () s') (hf:X.fn x=true∨X.env.scope.names.lookup x=some .local:=by first | exact .inl rfl | exact .inr rfl | assumption) : wpAny M A (storeName X.env x u) Q E s :=
 store_ok2 I hN hi hx r (fun s' I' _=>h s' I') hf
theorem Inv.call' {s':Shared}{ch:List Addr}(I:Inv X pins σ H s) (ho:s'.os=s.os) (u:Un (frs X.stack) ch H H' s.heap s'.heap) (hok:HOk X.prog X.w H' s'.heap) (hg:AllBare s'.gens)
  (hch:∀ b∈ch,(b∈X.ex∨X.s₀.heap.objs.size≤b)∧b ≠ X.env.locals∧(∀ x c,X.env.cells.lookup x=some c→c ≠ b)∧∀ p∈X.pn ++ pins,p.1 ≠ b) : Inv X pins σ H' s':=by
 obtain ⟨h',g',d',t',o'⟩:=s'
 have e:o'=s.os:=ho
 subst e
 exact I.call (g':=g') (t':=t') (d':=d') u hok hg hch
end
abbrev XK:=Value→Option Addr→Hp→Prop
abbrev St:=List (Option V)
abbrev VK:=V→Hp→Prop
abbrev TE:=St→Hp→VK→Prop
abbrev TT:=St→Hp→(Bool→Hp→Prop)→Prop
abbrev TA:=St→Hp→(List V→Hp→Prop)→Prop
structure Ends where
 nx:St→Hp→Prop
 rt:VK
 bk:St→Hp→Prop:=fun _ _=>False
 ct:St→Hp→Prop:=fun _ _=>False
abbrev TS:=Ends→St→Hp→Prop
def EP (X:Cx)(pins:List (Addr × Obj))(σ:St)(Q:VK)(u:Value)(s':Shared) : Prop:=∃ v H',Inv X pins σ H' s'∧RelV v u∧Q v H'
def TP (X:Cx)(pins:List (Addr × Obj))(σ:St)(Q:Bool→Hp→Prop)(b:Bool)(s':Shared) : Prop:=∃ H',Inv X pins σ H' s'∧Q b H'
def AP (X:Cx)(pins:List (Addr × Obj))(σ:St)(Q:List V→Hp→Prop)(us:List Value)(s':Shared) : Prop:=∃ vs H',Inv X pins σ H' s'∧Vals vs us∧Q vs H'
def SP (X:Cx)(pins:List (Addr × Obj))(D:Ends)(f:Flow)(s':Shared) : Prop :=
 match f with
 | .next=>∃ σ' H',Inv X pins σ' H' s'∧D.nx σ' H'
 | .brk=>∃ σ' H',Inv X pins σ' H' s'∧D.bk σ' H'
 | .cont=>∃ σ' H',Inv X pins σ' H' s'∧D.ct σ' H'
 | .ret u=>∃ v σ' H',Inv X pins σ' H' s'∧RelV v u∧D.rt v H'
def PE (X:Cx)(e:Expr)(t:TE) : Prop :=
 ∀ (pins:List (Addr × Obj)) (s:Shared) (σ:St) (H:Hp) (Q:VK),Inv X pins σ H s→t σ H Q→wpAny (model X.prog X.w) X.A (eval e X.env) (EP X pins σ Q) X.xe s
def PT (X:Cx)(e:Expr)(t:TT) : Prop :=
 ∀ (pins:List (Addr × Obj)) (s:Shared) (σ:St) (H:Hp) (Q:Bool→Hp→Prop),Inv X pins σ H s→t σ H Q→wpAny (model X.prog X.w) X.A (isTrue e X.env (eval e X.env)) (TP X pins σ Q) X.xe s
def PW (X:Cx)(e:Expr)(t:TT) : Prop :=
 ∀ (whole:Sem Value) (pins:List (Addr × Obj)) (s:Shared) (σ:St) (H:Hp) (Q:Bool→Hp→Prop),Inv X pins σ H s→t σ H Q→wpAny (model X.prog X.w) X.A (isTrue e X.env whole) (TP X pins σ Q) X.xe s
theorem PW.pt {X:Cx}{e:Expr}{t:TT}(h:PW X e t) : PT X e t:=h _
def PA (X:Cx)(es:List Expr)(t:TA) : Prop :=
 ∀ (pos:Pos) (pins:List (Addr × Obj)) (s:Shared) (σ:St) (H:Hp) (Q:List V→Hp→Prop),Inv X pins σ H s→t σ H Q→wpAny (model X.prog X.w) X.A (spliced (backTo pos (starEach es X.env))) (AP X pins σ Q) X.xe s
def PS (X:Cx)(st:Stmt)(t:TS) : Prop :=
 ∀ (pins:List (Addr × Obj)) (s:Shared) (σ:St) (H:Hp) (D:Ends),Inv X pins σ H s→t D σ H→wpAny (model X.prog X.w) X.A (exec st X.env) (SP X pins D) X.xe s
def PSs (X:Cx)(st:List Stmt)(t:TS) : Prop :=
 ∀ (pins:List (Addr × Obj)) (s:Shared) (σ:St) (H:Hp) (D:Ends),Inv X pins σ H s→t D σ H→wpAny (model X.prog X.w) X.A (execs st X.env) (SP X pins D) X.xe s
theorem thn {α:Type}{t:Sem α}{Q Q':α→Shared→Prop}{M:Model}{A:Around}{E:Value→Shared→Prop}{s:Shared}(h:wpAny M A t Q E s)(hQ:∀ a s,Q a s→Q' a s) : wpAny M A t Q' E s:=wpAny_mono h hQ fun _ _ x=>x
end L2
namespace L2
open PySem PySem.Spec PyProof.Rows
section
variable {X:Cx}
def tVar (i:Nat) : TE:=fun σ H Q=>∃ v,σ[i]? = some (some v)∧Q v H
def tC (v:V) : TE:=fun _ H Q=>Q v H
theorem pe_var {i:Nat}{x:Str}{pos:Pos}(hN:X.N[i]? = some x)(hv:Vis X.env.scope x)(hd:(x == ("__debug__" : Str))=false:=by decide)(hcd:(x == ("__classdict__" : Str))=false:=by decide) : PE X (.Name x pos) (tVar i):=by
 intro pins s σ H Q I h
 obtain ⟨v,e,h⟩:=h
 obtain ⟨m,hn,hl⟩:=I.loc
 obtain ⟨u,r,l⟩:=hl i x v hN e hv
 have fin:EP X pins σ Q u s:=⟨v,H,I,r,h⟩
 rcases l with ⟨hk,hm⟩ | ⟨hk,c,hc,hcell⟩
 ·exact wpAny_Name (wpAny_loadName_local I.ok.kind hk hn hm fin) hd
 ·rcases hk with hk | hk
  ·exact wpAny_Name (wpAny_loadName_cell I.ok.kind hk hc hcell fin) hd
  ·exact wpAny_Name (wpAny_loadName_free I.ok.kind hk hc hcell fin hcd) hd
theorem pe_int {i j pos} : PE X (.Constant (.int i) j pos) (tC (.int i)):=fun _ _ _ H _ I h=>wpAny_Constant_int ⟨.int i,H,I.tok _,⟨_,rfl⟩,h⟩
theorem pe_bl {b j pos} : PE X (.Constant (.bool b) j pos) (tC (.bl b)):=fun _ _ _ H _ I h=>Constant_bool ⟨.bl b,H,I,rfl,h⟩
theorem pe_str {x j pos} : PE X (.Constant (.str x) j pos) (tC (.str x)):=fun _ _ _ H _ I h=>Calls.Constant_str ⟨.str x,H,I.tok _,⟨_,rfl⟩,h⟩
def Gl (X:Cx)(x:Str) : Prop:=X.env.kindOf x=some .globalImplicit
theorem ld_glob {E:Value→Shared→Prop}{pins:List (Addr × Obj)}{s:Shared}{σ:St}{H:Hp}{x:Str}{u:Value}{pos:Pos}{Q:Value→Shared→Prop}(I:Inv X pins σ H s) (hg:Gl X x) (hm:X.mg x=some u) (h:Q u s)
  (hd:(x == ("__debug__" : Str))=false:=by decide) : wpAny (model X.prog X.w) X.A (eval (.Name x pos) X.env) Q E s :=
 Calls.Name_function_global I.ok.kind hg (Calls.loadGlobal_global (by rw [I.ok.glob]; exact I.mod.glob.keeps I.bk) hm h) hd
theorem ld_blt {E:Value→Shared→Prop}{pins:List (Addr × Obj)}{s:Shared}{σ:St}{H:Hp}{x:Str}{u:Value}{pos:Pos}{Q:Value→Shared→Prop}(I:Inv X pins σ H s) (hg:Gl X x) (hm:X.mg x=none) (hv:bootBuiltins x=some u) (h:Q u s)
  (hn:x ≠ "__name__" := by decide) (hd:(x == ("__debug__" : Str))=false:=by decide) : wpAny (model X.prog X.w) X.A (eval (.Name x pos) X.env) Q E s:=by
 obtain ⟨mb,h1,h2⟩:=I.mod.blt
 exact Calls.Name_function_global I.ok.kind hg (Calls.loadGlobal_builtin (by rw [I.ok.glob]; exact I.mod.glob.keeps I.bk) hm (by rw [I.ok.blt]; exact h1.keeps I.bk) ((h2 x hn).trans hv) h) hd
theorem pe_glob {x:Str}{v:V}{u:Value}{pos:Pos}(hg:Gl X x)(hm:X.mg x=some u)(r:RelV v u)(hd:(x == ("__debug__" : Str))=false:=by decide) : PE X (.Name x pos) (tC v) :=
 fun _ _ _ H _ I h=>ld_glob I hg hm ⟨v,H,I,r,h⟩ hd
theorem pe_bltn {x:Str}{v:V}{u:Value}{pos:Pos}(hg:Gl X x)(hm:X.mg x=none)(hv:bootBuiltins x=some u)(r:RelV v u)(hn:x ≠ "__name__" := by decide)(hd:(x == ("__debug__" : Str))=false:=by decide) : PE X (.Name x pos) (tC v) :=
 fun _ _ _ H _ I h=>ld_blt I hg hm hv ⟨v,H,I,r,h⟩ hn hd
variable {a b:Expr}{ta tb:TE}{pos:Pos}
def tB (t:TE) : TT:=fun σ H Q=>t σ H fun x H1=>∃ c,x = .bl c∧Q c H1
theorem pt_val {e:Expr}{t:TE}(h:PE X e t)(he:∀ whole,isTrue e X.env whole=(do let v ← whole; standAt e.pos; holding [v] (truthy v)):=by intro _; rfl) : PT X e (tB t):=by
 intro pins s σ H Q I hw
 refine isTrue_plain (thn (h pins s σ H _ I hw) fun v s1 ⟨x,H1,I1,r1,q1⟩=>?_) (he _)
 obtain ⟨d,rfl,q⟩:=q1
 cases r1
 exact wpAny_truthy_bool ⟨H1,I1,q⟩
variable {tA tB':TT}{rest:List Expr}
def tAnd (t u:TT) : TT:=fun σ H Q=>t σ H fun c H1=>if c=true then u σ H1 Q else Q false H1
def tOr (t u:TT) : TT:=fun σ H Q=>t σ H fun c H1=>if c=true then Q true H1 else u σ H1 Q
def tNot (t:TT) : TT:=fun σ H Q=>t σ H fun c H1=>Q (!c) H1
theorem pw_and1 (ha:PT X a tA) : PW X (.BoolOp .And [a] pos) tA:=by
 intro wh pins s σ H Q I h
 refine isTrue_and (thn (ha pins s σ H Q I h) fun c s1 e=>?_)
 cases c with
 | true=>exact isTrue_and_nil e
 | false=>exact e
theorem pw_or1 (ha:PT X a tA) : PW X (.BoolOp .Or [a] pos) tA:=by
 intro wh pins s σ H Q I h
 refine isTrue_or (thn (ha pins s σ H Q I h) fun c s1 e=>?_)
 cases c with
 | false=>exact isTrue_or_nil e
 | true=>exact e
theorem pw_and (ha:PT X a tA)(hb:PW X (.BoolOp .And (b :: rest) pos) tB') : PW X (.BoolOp .And (a :: b :: rest) pos) (tAnd tA tB'):=by
 intro wh pins s σ H Q I h
 refine isTrue_and (thn (ha pins s σ H _ I h) fun c s1 ⟨H1,I1,q1⟩=>?_)
 cases c with
 | true=>exact hb wh pins s1 σ H1 Q I1 q1
 | false=>exact ⟨H1,I1,q1⟩
theorem pw_or (ha:PT X a tA)(hb:PW X (.BoolOp .Or (b :: rest) pos) tB') : PW X (.BoolOp .Or (a :: b :: rest) pos) (tOr tA tB'):=by
 intro wh pins s σ H Q I h
 refine isTrue_or (thn (ha pins s σ H _ I h) fun c s1 ⟨H1,I1,q1⟩=>?_)
 cases c with
 | true=>exact ⟨H1,I1,q1⟩
 | false=>exact hb wh pins s1 σ H1 Q I1 q1
theorem pt_not (ha:PT X a tA) : PT X (.UnaryOp .Not a pos) (tNot tA):=by
 intro pins s σ H Q I h
 exact isTrue_not (ha pins s σ H (fun c H1=>Q (!c) H1) I h)
end
end L2
namespace L2
open PySem PySem.Spec PyProof.Rows
def SqL (K:PySem.W.Frag)(H:Hp)(a:Addr)(xs:List V) : Prop :=
 Rd H a (.lst xs) ∨
  ∃ (o:Obj) (its:Array Value) (n:Nat),K.lookup a=some o∧o.cls = .type "list" ∧ o.dict=none∧o.data = .seq its n∧its.size≤sizeLine∧Vals xs its.toList
def SqT (K:PySem.W.Frag)(H:Hp)(a:Addr)(xs:List V) : Prop :=
 Rd H a (.tup xs) ∨
  ∃ (o:Obj) (its:Array Value) (n:Nat),K.lookup a=some o∧o.cls = .type "tuple" ∧ o.data = .seq its n∧its.size≤sizeLine∧Vals xs its.toList
def absV:Value→Option V
 | .none=>some .non
 | .bool b=>some (.bl b)
 | .int i _=>some (.int i)
 | .str x _=>some (.str x)
 | .bytes b _=>some (.byt b)
 | .float b _=>some (.flt b)
 | .ref a=>some (.ref a)
 | .type n=>some (.ty n)
 | _=>none
theorem RelV.abs {x:V}{u:Value}(r:RelV x u) : absV u=some x:=by
 cases x with
 | non=>cases r; rfl
 | bl _=>cases r; rfl
 | int _=>obtain ⟨t,rfl⟩:=r; rfl
 | str _=>obtain ⟨t,rfl⟩:=r; rfl
 | byt _=>obtain ⟨t,rfl⟩:=r; rfl
 | flt _=>obtain ⟨t,rfl⟩:=r; rfl
 | ref _=>cases r; rfl
 | ty _=>cases r; rfl
theorem RelV.inj {x y:V}{u:Value}(r:RelV x u)(q:RelV y u) : x=y:=Option.some.inj (r.abs.symm.trans q.abs)
theorem Vals.inj:∀ {xs ys:List V}{us:List Value},Vals xs us→Vals ys us→xs=ys
 | _,_,_,.nil,.nil=>rfl
 | _,_,_,.cons r t,.cons r' t'=>by rw [r.inj r',Vals.inj t t']
section
variable {X:Cx}{pins:List (Addr × Obj)}{σ:St}{H:Hp}{s:Shared}{a:Addr}{xs ys:List V}
theorem SqL.of {K:PySem.W.Frag}(h:H a=some (.lst xs)) : SqL K H a xs:=.inl (.inl h)
theorem SqT.of {K:PySem.W.Frag}(h:H a=some (.tup xs)) : SqT K H a xs:=.inl (.inl h)
theorem Inv.list (I:Inv X pins σ H s)(h:SqL X.K H a xs) : ∃ its:List Value,Vals xs its∧PlainL s.heap a its.toArray∧xs.length≤sizeLine:=by
 rcases h with h | ⟨o,its,n,hk,hc,hd,hs,hz,r⟩
 ·obtain ⟨z,its,n,r,e⟩:=h.ok I.hok
  exact ⟨its,r,⟨_,n,e,rfl,rfl,rfl⟩,z⟩
 ·refine ⟨its.toList,r,⟨o,n,I.kIn a o hk,hc,hd,by simpa using hs⟩,?_⟩
  have e:=r.length
  simp only [Array.length_toList] at e
  omega
theorem Inv.tuple (I:Inv X pins σ H s)(h:SqT X.K H a xs) : ∃ its:List Value,Vals xs its∧IsTup s.heap a its.toArray∧xs.length≤sizeLine:=by
 rcases h with h | ⟨o,its,n,hk,hc,hs,hz,r⟩
 ·obtain ⟨z,its,r,p⟩:=h.ok I.hok
  exact ⟨its,r,p,z⟩
 ·refine ⟨its.toList,r,⟨o,I.kIn a o hk,hc,n,by simpa using hs⟩,?_⟩
  have e:=r.length
  simp only [Array.length_toList] at e
  omega
theorem Inv.list_inj (I:Inv X pins σ H s)(h:SqL X.K H a xs)(h':SqL X.K H a ys) : xs=ys:=by
 obtain ⟨its,r,⟨o,n,e,_,_,d⟩,_⟩:=I.list h
 obtain ⟨its',r',⟨o',n',e',_,_,d'⟩,_⟩:=I.list h'
 rw [e] at e'; cases e'
 rw [d] at d'
 injection d' with d1 _
 have:its=its':=by simpa using congrArg Array.toList d1
 subst this
 exact r.inj r'
theorem Inv.tuple_inj (I:Inv X pins σ H s)(h:SqT X.K H a xs)(h':SqT X.K H a ys) : xs=ys:=by
 obtain ⟨its,r,⟨o,e,_,n,d⟩,_⟩:=I.tuple h
 obtain ⟨its',r',⟨o',e',_,n',d'⟩,_⟩:=I.tuple h'
 rw [e] at e'; cases e'
 rw [d] at d'
 injection d' with d1 _
 have:its=its':=by simpa using congrArg Array.toList d1
 subst this
 exact r.inj r'
end
section
variable {X:Cx}{pins:List (Addr × Obj)}{σ:St}{H:Hp}{s:Shared}{E:Value→Shared→Prop}
end
section
variable {X:Cx}{st:Stmt}{rest:List Stmt}{t u:TS}{e:Expr}{te:TE}{pos:Pos}
def tNext:TS:=fun D σ H=>D.nx σ H
def tSeq (t u:TS) : TS:=fun D σ H=>t { D with nx:=u D } σ H
theorem pss_nil:PSs X [] tNext:=fun _ _ σ H _ I h=>wpAny_execs_nil ⟨σ,H,I,h⟩
theorem pss_cons (h1:PS X st t)(h2:PSs X rest u) : PSs X (st :: rest) (tSeq t u):=by
 intro pins s σ H D I h
 refine wpAny_execs_cons (thn (h1 pins s σ H { D with nx:=u D } I h) fun f s1 q=>?_)
 cases f with
 | next =>
  obtain ⟨σ',H',I',q⟩:=q
  exact h2 pins s1 σ' H' D I' q
 | ret v=>exact q
 | brk=>exact q
 | cont=>exact q
theorem pss_one (h1:PS X st t) : PSs X [st] t:=by
 intro pins s σ H D I h
 refine wpAny_execs_cons (thn (h1 pins s σ H D I h) fun f s1 q=>?_)
 cases f with
 | next=>exact wpAny_execs_nil q
 | ret v=>exact q
 | brk=>exact q
 | cont=>exact q
theorem Inv.quiet {pins:List (Addr × Obj)}{σ:St}{H:Hp}{s:Shared}(I:Inv X pins σ H s) : interactive X.env=false:=by simp [interactive,I.ok.kind]
def tDrop (te:TE) : TS:=fun D σ H=>te σ H fun _ H1=>D.nx σ H1
theorem ps_expr (he:PE X e te)(hs:swapsWith e none pos.line X.env=pure false:=by rfl) : PS X (.Expr e pos) (tDrop te):=by
 intro pins s σ H D I h
 exact wpAny_Expr_any (thn (he pins s σ H _ I h) fun v s1 ⟨x,H1,I1,r1,q1⟩=>⟨σ,H1,I1,q1⟩) I.quiet hs
def tRet (te:TE) : TS:=fun D σ H=>te σ H D.rt
theorem ps_ret (he:PE X e te) : PS X (.Return (some e) pos) (tRet te):=by
 intro pins s σ H D I h
 exact wpAny_Return_some (thn (he pins s σ H _ I h) fun v s1 ⟨x,H1,I1,r1,q1⟩=>⟨x,σ,H1,I1,r1,q1⟩)
def tIfS (c:TT)(t u:TS) : TS:=fun D σ H=>c σ H fun b H1=>if b=true then t D σ H1 else u D σ H1
theorem ps_if {c:Expr}{a b:List Stmt}{tc:TT}(hc:PT X c tc)(ha:PSs X a t)(hb:PSs X b u) : PS X (.If c a b pos) (tIfS tc t u):=by
 intro pins s σ H D I h
 refine wpAny_If (thn (hc pins s σ H _ I h) fun d s1 ⟨H1,I1,q1⟩=>?_)
 cases d with
 | true=>exact ha pins s1 σ H1 D I1 q1
 | false=>exact hb pins s1 σ H1 D I1 q1
def tNever:TS:=fun _ _ _=>False
theorem ps_never:PS X st tNever:=fun _ _ _ _ _ _ h=>h.elim
end
abbrev TG:=V→St→Hp→(St→Hp→Prop)→Prop
abbrev TGs:=List V→St→Hp→(St→Hp→Prop)→Prop
def PG (X:Cx)(target:Expr)(t:TG) : Prop :=
 ∀ (pins:List (Addr × Obj)) (s:Shared) (σ:St) (H:Hp) (v:V) (u:Value) (Q:St→Hp→Prop),Inv X pins σ H s→RelV v u→t v σ H Q →
  wpAny (model X.prog X.w) X.A (assign target X.env u) (fun _ s'=>∃ σ' H',Inv X pins σ' H' s'∧Q σ' H') X.xe s
def PGs (X:Cx)(ts:List Expr)(t:TGs) : Prop :=
 ∀ (pins:List (Addr × Obj)) (s:Shared) (σ:St) (H:Hp) (vs:List V) (us:List Value) (Q:St→Hp→Prop),Inv X pins σ H s→Vals vs us→t vs σ H Q →
  wpAny (model X.prog X.w) X.A (assignInOrder ((assignEach ts X.env).map (·.2)) us) (fun _ s'=>∃ σ' H',Inv X pins σ' H' s'∧Q σ' H') X.xe s
abbrev TSet:=V→V→V→Hp→(Hp→Prop)→Prop
def PSet (X:Cx)(t:TSet) : Prop :=
 ∀ (pins:List (Addr × Obj)) (s:Shared) (σ:St) (H:Hp) (o i v:V) (ov iv u:Value) (Q:Hp→Prop),Inv X pins σ H s→RelV o ov→RelV i iv→RelV v u→t o i v H Q →
  wpAny (model X.prog X.w) X.A (setItem ov iv u) (fun _ s'=>∃ H',Inv X pins σ H' s'∧Q H') X.xe s
abbrev TIp:=V→V→Hp→VK→Prop
def PIp (X:Cx)(op:Operator)(t:TIp) : Prop :=
 ∀ (pins:List (Addr × Obj)) (s:Shared) (σ:St) (H:Hp) (x y:V) (v u:Value) (Q:VK),Inv X pins σ H s→RelV x v→RelV y u→t x y H Q →
  wpAny (model X.prog X.w) X.A (inplaceOp op v u) (EP X pins σ Q) X.xe s
section
variable {X:Cx}{pos:Pos}
def gName (i:Nat) : TG:=fun v σ H Q=>Q (σ.set i (some v)) H
theorem pg_name {i:Nat}{x:Str}(hN:X.N.Nodup)(hi:X.N[i]? = some x)(hx:Loc X.env.scope x)(hf:X.fn x=true∨X.env.scope.names.lookup x=some .local:=by first | exact .inl rfl | exact .inr rfl | assumption) : PG X (.Name x pos) (gName i):=by
 intro pins s σ H v u Q I r h
 exact wpAny_assign_Name (store_ok I hN hi hx r (fun s' I'=>⟨_,H,I',h⟩) hf)
def gNil:TGs:=fun vs σ H Q=>vs = []∧Q σ H
def gCons (t:TG)(u:TGs) : TGs:=fun vs σ H Q=>∃ v r,vs=v :: r∧t v σ H fun σ' H'=>u r σ' H' Q
theorem pgs_nil:PGs X [] gNil:=by
 intro pins s σ H vs us Q I r h
 obtain ⟨e,h⟩:=h
 subst e
 cases r
 exact assignInOrder_nil ⟨σ,H,I,h⟩
theorem pgs_cons {e:Expr}{es:List Expr}{t:TG}{u:TGs}(h1:PG X e t) (h2:PGs X es u)
  (hs:(assignEach (e :: es) X.env).map (·.2)=assign e X.env :: (assignEach es X.env).map (·.2):=by rfl) : PGs X (e :: es) (gCons t u):=by
 intro pins s σ H vs us Q I r h
 obtain ⟨v,vr,e1,h⟩:=h
 subst e1
 cases r with
 | cons r rr =>
  rw [hs]
  refine assignInOrder_cons (thn (h1 pins s σ H _ _ _ I r h) fun _ s1 ⟨σ1,H1,I1,q1⟩=>?_)
  exact h2 pins s1 σ1 H1 _ _ Q I1 rr q1
def gTup (K:PySem.W.Frag)(n:Nat)(t:TGs) : TG:=fun v σ H Q=>∃ a xs,v = .ref a∧SqT K H a xs∧xs.length=n∧t xs σ H Q
theorem pg_tup {es:List Expr}{k:Nat}{t:TGs}{n:Nat}(hc:X.calm=true) (h:PGs X es t)
  (hn:(assignEach es X.env).length=n:=by rfl) (hst:(assignEach es X.env).findIdx? (·.1)=none:=by rfl) : PG X (.Tuple es k pos) (gTup X.K n t):=by
 intro pins s σ H v u Q I r hw
 obtain ⟨a,xs,e1,hq,hl,hw⟩:=hw
 subst e1
 cases r
 obtain ⟨its,rv,ht,hz⟩:=I.tuple hq
 refine assign_Tuple_tuple (I.ok.hd hc) ht (by simp [hn,← hl,rv.length]) hst fun h' hx=>?_
 have I1:Inv X pins σ H { s with heap:=h' }:=I.kept (t':=s.toks) fun b o e=>hx b o (Nat.ne_of_lt (Heap.lt_size e)) e
 exact h pins _ σ H xs _ Q I1 (by simpa using rv) hw
def gSub (to ti:TE)(t:TSet) : TG:=fun v σ H Q=>to σ H fun o H1=>ti σ H1 fun i H2=>t o i v H2 fun H3=>Q σ H3
theorem pg_sub {o i:Expr}{to ti:TE}{t:TSet}(ho:PE X o to) (hi:PE X i ti) (hs:PSet X t)
  (ha:∀ v,assign (.Subscript o i pos) X.env v=(do
   let ov ← holding [v] (eval o X.env)
   let iv ← holding [v,ov] (eval i X.env)
   standAt pos
   holding [v,ov,iv] (setItem ov iv v)
   release [v,ov,iv] []):=by intro _; rfl) : PG X (.Subscript o i pos) (gSub to ti t):=by
 intro pins s σ H v u Q I r h
 rw [ha]
 refine wpAny_bind (wpAny_holding (thn (ho pins s σ H _ I h) fun ov s1 ⟨x,H1,I1,r1,q1⟩=>?_))
 refine wpAny_bind (wpAny_holding (thn (hi pins s1 σ H1 _ I1 q1) fun iv s2 ⟨y,H2,I2,r2,q2⟩=>?_))
 refine wpAny_bind (wpAny_standAt (wpAny_bind (wpAny_holding (thn (hs pins s2 σ H2 x y v ov iv u _ I2 r1 r2 r q2) fun _ s3 ⟨H3,I3,q3⟩=>?_))))
 exact wpAny_release ⟨σ,H3,I3,q3⟩
def tAsg (te:TE)(g:TG) : TS:=fun D σ H=>te σ H fun x H1=>g x σ H1 D.nx
theorem ps_asg {tg e:Expr}{te:TE}{g:TG}(he:PE X e te) (hg:PG X tg g) (hs:swapsWithSole [tg] e pos.line X.env=pure false:=by rfl) (hw:swappedStores [tg] e X.env=pure none:=by rfl)
  (h1:(assignEach [tg] X.env).map (·.2) = [assign tg X.env]:=by rfl) : PS X (.Assign [tg] e pos) (tAsg te g):=by
 intro pins s σ H D I h
 refine wpAny_Assign_stores (thn (he pins s σ H _ I h) fun v s1 ⟨x,H1,I1,r1,q1⟩=>?_) hs hw
 rw [h1]
 exact thn (hg pins s1 σ H1 x v _ I1 r1 q1) fun _ s2 q=>q
theorem ps_set {i:Nat}{x:Str}{e:Expr}{te:TE}{pos':Pos}(hN:X.N.Nodup) (hi:X.N[i]? = some x) (hx:Loc X.env.scope x) (he:PE X e te) (hs:swapsWith e (some (.Name x pos')) pos.line X.env=pure false:=by rfl) (hf:X.fn x=true∨X.env.scope.names.lookup x=some .local:=by first | exact .inl rfl | exact .inr rfl | assumption) :
  PS X (.Assign [.Name x pos'] e pos) (tAsg te (gName i)):=by
 intro pins s σ H D I h
 refine wpAny_Assign_Name (thn (he pins s σ H _ I h) fun v s1 ⟨y,H1,I1,r1,q1⟩=>?_) hs
 exact store_ok I1 hN hi hx r1 (fun s2 I2=>⟨_,H1,I2,q1⟩) hf
def tAug (i:Nat)(te:TE)(ti:TIp) : TS:=fun D σ H=>∃ x,σ[i]? = some (some x)∧te σ H fun y H1=>ti x y H1 fun z H2=>D.nx (σ.set i (some z)) H2
theorem ps_aug {i:Nat}{x:Str}{e:Expr}{te:TE}{op:Operator}{ti:TIp}{pos':Pos}(hN:X.N.Nodup) (hi:X.N[i]? = some x) (hx:Loc X.env.scope x) (he:PE X e te) (ho:PIp X op ti) (hf:X.fn x=true∨X.env.scope.names.lookup x=some .local:=by first | exact .inl rfl | exact .inr rfl | assumption) :
  PS X (.AugAssign (.Name x pos') op e pos) (tAug i te ti):=by
 intro pins s σ H D I h
 obtain ⟨v,e1,h⟩:=h
 obtain ⟨m,hn,hl⟩:=I.loc
 have vis:Vis X.env.scope x:=by rcases hx with k | k; exact .inl k; exact .inr (.inl k)
 obtain ⟨u,r,l⟩:=hl i x v hi e1 vis
 refine wpAny_AugAssign_Name ?_
 have go:wpAny (model X.prog X.w) X.A (eval e X.env) (fun w s₂=>wpAny (model X.prog X.w) X.A (inplaceOp op u w) (fun r s₃=>wpAny (model X.prog X.w) X.A (storeName X.env x r) (fun _=>SP X pins D .next) X.xe s₃) X.xe s₂) X.xe s:=by
  refine thn (he pins s σ H _ I h) fun w s1 ⟨y,H1,I1,r1,q1⟩=>?_
  refine thn (ho pins s1 σ H1 v y u w _ I1 r r1 q1) fun z s2 ⟨zv,H2,I2,r2,q2⟩=>?_
  exact store_ok I2 hN hi hx r2 (fun s3 I3=>⟨_,H2,I3,q2⟩) hf
 rcases l with ⟨hk,hm⟩ | ⟨hk,c,hc,hcell⟩
 ·exact wpAny_loadName_local I.ok.kind hk hn hm go
 ·rcases hk with hk | hk
  ·exact wpAny_loadName_cell I.ok.kind hk hc hcell go
  ·rcases hx with k | k
   ·have:X.env.scope.names.lookup x=some .free:=hk
    rw [k] at this; cases this
   ·have:X.env.scope.names.lookup x=some .free:=hk
    rw [k] at this; cases this
def tAugS (to ti te:TE)(tget:V→V→Hp→VK→Prop)(tip:TIp)(tset:TSet) : TS:=fun D σ H=>to σ H fun o H1=>ti σ H1 fun i H2=>tget o i H2 fun x H3=>te σ H3 fun y H4=>tip x y H4 fun z H5=>tset o i z H5 fun H6=>D.nx σ H6
def PGet (X:Cx)(t:V→V→Hp→VK→Prop) : Prop :=
 ∀ (pins:List (Addr × Obj)) (s:Shared) (σ:St) (H:Hp) (o i:V) (ov iv:Value) (Q:VK),Inv X pins σ H s→RelV o ov→RelV i iv→t o i H Q →
  wpAny (model X.prog X.w) X.A (getItem ov iv) (EP X pins σ Q) X.xe s
theorem ps_augS {o i e:Expr}{to ti te:TE}{tget:V→V→Hp→VK→Prop}{tip:TIp}{tset:TSet}{op:Operator}{tpos:Pos}(ho:PE X o to) (hi:PE X i ti) (hg:PGet X tget) (he:PE X e te) (hp:PIp X op tip) (hs:PSet X tset)
  (ha:∀ ov iv new,augStore i ov iv new=(do holding [new,ov,iv] (setItem ov iv new); release [new,ov,iv] []; pure .next):=by intros; rfl) : PS X (.AugAssign (.Subscript o i tpos) op e pos) (tAugS to ti te tget tip tset):=by
 intro pins s σ H D I h
 refine wpAny_AugAssign_SubscriptAny (thn (ho pins s σ H _ I h) fun ov s1 ⟨x1,H1,I1,r1,q1⟩=>?_) ha
 refine thn (hi pins s1 σ H1 _ I1 q1) fun iv s2 ⟨x2,H2,I2,r2,q2⟩=>?_
 refine thn (hg pins s2 σ H2 x1 x2 ov iv _ I2 r1 r2 q2) fun old s3 ⟨x3,H3,I3,r3,q3⟩=>?_
 refine thn (he pins s3 σ H3 _ I3 q3) fun v s4 ⟨x4,H4,I4,r4,q4⟩=>?_
 refine thn (hp pins s4 σ H4 x3 x4 old v _ I4 r3 r4 q4) fun new s5 ⟨x5,H5,I5,r5,q5⟩=>?_
 exact thn (hs pins s5 σ H5 x1 x2 x5 ov iv new _ I5 r1 r2 r5 q5) fun _ s6 ⟨H6,I6,q6⟩=>⟨σ,H6,I6,q6⟩
def ipI (f:Int→Int→Int) : TIp:=fun x y H Q=>∃ i j,x = .int i∧y = .int j∧Q (.int (f i j)) H
theorem ip_sub:PIp X .Sub (ipI fun i j=>i - j):=by
 intro pins s σ H x y v u Q I r1 r2 h
 obtain ⟨i,j,e1,e2,q⟩:=h
 subst e1; subst e2
 obtain ⟨t,rfl⟩:=r1
 obtain ⟨t',rfl⟩:=r2
 exact isub_int ⟨.int _,H,I.tok _,⟨_,rfl⟩,q⟩
end
section
variable {X:Cx}{pos:Pos}
def tWhile (c:TT)(tb:TS) : TS:=fun D σ H=>∃ W:Nat→St→Hp→Prop,(∃ m,W m σ H)∧∀ m σ H,W m σ H →
 c σ H fun b H1=>if b=true then ∃ N:St→Hp→Prop,(∀ σ' H',N σ' H'→∃ m',m' < m∧W m' σ' H')∧tb { D with nx:=N,ct:=N,bk:=D.nx } σ H1 else D.nx σ H1
theorem ps_while {c:Expr}{body:List Stmt}{tc:TT}{tb:TS}(hp:PassesOwn (model X.prog X.w) X.A X.env X.xe)(hc:PT X c tc)(hb:PSs X body tb) : PS X (.While c body [] pos) (tWhile tc tb):=by
 intro pins s σ H D I h
 obtain ⟨W,⟨m0,w0⟩,turn⟩:=h
 refine wpAny_While (codeAny_whileLoop (fun n s'=>∃ σ' H',Inv X pins σ' H' s'∧W n σ' H') ?_ m0 ⟨σ,H,I,w0⟩)
 rintro n s1 ⟨σ1,H1,I1,w1⟩
 refine wpAny_passesOwn hp (thn (hc pins s1 σ1 H1 _ I1 (turn n σ1 H1 w1)) fun b s2 ⟨H2,I2,q2⟩=>?_)
 cases b with
 | true =>
  obtain ⟨N,hN,q2⟩:=q2
  rw [if_pos rfl]
  refine wpAny_passesOwn hp (thn (hb pins s2 σ1 H2 _ I2 q2) fun f s3 q3=>?_)
  cases f with
  | next =>
   obtain ⟨σ3,H3,I3,n3⟩:=q3
   obtain ⟨m',hm,w3⟩:=hN σ3 H3 n3
   exact ⟨m',hm,σ3,H3,I3,w3⟩
  | cont =>
   obtain ⟨σ3,H3,I3,n3⟩:=q3
   obtain ⟨m',hm,w3⟩:=hN σ3 H3 n3
   exact ⟨m',hm,σ3,H3,I3,w3⟩
  | brk=>exact q3
  | ret v=>exact q3
 | false =>
  rw [if_neg Bool.false_ne_true]
  exact wpAny_execs_nil ⟨σ1,H2,I2,q2⟩
end
structure It where
 go:Nat→Hp→Prop
 yld:Nat→Hp→V→Hp→Prop
 stop:Nat→Hp→Prop
def FpOk (X:Cx)(pins:List (Addr × Obj))(H:Hp)(b:Addr) : Prop :=
 H b=none∧b ≠ X.env.locals∧b ∉ X.fs∧(b∈X.ex∨X.s₀.heap.objs.size≤b)∧(∀ x c,X.env.cells.lookup x=some c→c ≠ b)∧∀ p∈X.pn ++ pins,p.1 ≠ b
theorem Inv.fpOk {X:Cx}{pins:List (Addr × Obj)}{σ:St}{H H':Hp}{s:Shared}{b:Addr}(I:Inv X pins σ H s)(hb:s.heap.objs.size≤b)(hn:H' b=none) : FpOk X pins H' b:=by
 refine ⟨hn,Nat.ne_of_gt (Nat.lt_of_lt_of_le I.lt hb),I.nofs hb,.inr (Nat.le_trans I.sz hb),fun x c e z=>?_,fun p hp z=>?_⟩
 ·obtain ⟨v,q⟩:=I.cell x c e
  exact absurd (Nat.lt_of_lt_of_le q.lt (by rw [z]; exact hb)) (Nat.lt_irrefl _)
 ·exact absurd (Nat.lt_of_lt_of_le (Heap.lt_size (I.pin p hp).1) (by rw [z]; exact hb)) (Nat.lt_irrefl _)
structure Turn (P:Program) (w:World) (K:PySem.W.Frag) (tg:Expr) (J:It) (fp:List Addr) (it:Addr) (tn:Nat→Heap→Prop) : Prop where
 mem:it∈fp
 obj:∀ i h,tn i h→∀ b∈fp,∃ o,h.get? b=some o∧∀ v,o.data ≠ .cell v
 keep:∀ i h h',tn i h→(∀ b∈fp,∀ o,h.get? b=some o→h'.get? b=some o)→tn i h'
 item:∀ (X:Cx),X.prog=P→X.w=w→X.K=K→X.calm=true→∀ (i:Nat) (pins:List (Addr × Obj)) (s:Shared) (σ:St) (H:Hp) (E:Value→Shared→Prop),Inv X pins σ H s→(∀ b∈fp,FpOk X pins H b)→tn i s.heap→J.go i H →
  wpAny (model P w) X.A (pyNext (.ref it)) (fun r s1=>∃ u,r=some u ∧
   wpAny (model P w) X.A (letOwnedTupleGo tg (.ref it) u) (fun _ s2=>∃ x H',Inv X pins σ H' s2∧RelV x u∧J.yld i H x H'∧tn (i + 1) s2.heap∧∀ b∈fp,H' b=none) E s1) E s
 done:∀ (X:Cx),X.prog=P→X.w=w→X.K=K→X.calm=true→∀ (i:Nat) (pins:List (Addr × Obj)) (s:Shared) (σ:St) (H:Hp) (E:Value→Shared→Prop),Inv X pins σ H s→(∀ b∈fp,FpOk X pins H b)→tn i s.heap→J.stop i H →
  wpAny (model P w) X.A (pyNext (.ref it)) (fun r s1=>r=none∧Inv X pins σ H s1) E s
 self:∀ (A:Around) (i:Nat) (s:Shared) (Q:Value→Shared→Prop) (E:Value→Shared→Prop),tn i s.heap→Q (.ref it) s→wpAny (model P w) A (pyIter (.ref it)) Q E s
abbrev TI:=St→Hp→(It→Hp→Prop)→Prop
def PIE (X:Cx)(pins:List (Addr × Obj))(σ:St)(tg:Expr)(R:It→Hp→Prop)(itv:Value)(s2:Shared) : Prop :=
 ∃ (it:Addr) (fp:List Addr) (tn:Nat→Heap→Prop) (J:It) (H':Hp),itv = .ref it∧Inv X pins σ H' s2∧Turn X.prog X.w X.K tg J fp it tn∧tn 0 s2.heap∧(∀ b∈fp,FpOk X pins H' b)∧R J H'
def PI (X:Cx)(tg iter:Expr)(wi:TI) : Prop :=
 ∀ (pins:List (Addr × Obj)) (s:Shared) (σ:St) (H:Hp) (R:It→Hp→Prop),Inv X pins σ H s→wi σ H R →
  wpAny (model X.prog X.w) X.A (eval iter X.env) (fun v s1=>wpAny (model X.prog X.w) X.A (pyIter v) (PIE X pins σ tg R) X.xe s1) X.xe s
theorem go_of {M:Model}{A:Around}{E:Value→Shared→Prop}{s:Shared}{tg:Expr}{it:Addr}{u:Value}{o:Obj}{n:String}{vs:Array Value}{Q:Unit→Shared→Prop}(ho:s.heap.get? it=some o) (hc:o.cls = .type n) (hd:o.data = .fields vs)
    (hn : ["enumerate", "zip", "dict_itemiterator", "dict_reverseitemiterator", "odict_iterator", "itertools.zip_longest", "itertools.pairwise"].contains n=false) (hQ:Q () s) : wpAny M A (letOwnedTupleGo tg (.ref it) u) Q E s:=by
  unfold letOwnedTupleGo
  cases tg <;> first
    | exact wpAny_pure hQ
    | (cases u <;> first
        | exact wpAny_pure hQ
        | (refine wpAny_bind (wpAny_load ho ?_)
           rw [hc,hd]
           show wpAny M A (if (["enumerate", "zip", "dict_itemiterator", "dict_reverseitemiterator", "odict_iterator", "itertools.zip_longest", "itertools.pairwise"].contains n && vs[0]? == some (rawInt _))=true then _ else _) Q E s
           rw [if_neg (by intro h; rw [hn,Bool.false_and] at h; cases h)]
           exact wpAny_pure hQ))
def Itl (K:PySem.W.Frag)(a:Addr) : It :=
 ⟨fun i H=>∃ xs x,SqL K H a xs∧xs[i]? = some x,fun i H x H'=>H'=H∧∀ xs,SqL K H a xs→xs[i]? = some x,fun i H=>∃ xs,SqL K H a xs∧xs.length≤i⟩
def Itt (K:PySem.W.Frag)(a:Addr) : It :=
 ⟨fun i H=>∃ xs x,SqT K H a xs∧xs[i]? = some x,fun i H x H'=>H'=H∧∀ xs,SqT K H a xs→xs[i]? = some x,fun i H=>∃ xs,SqT K H a xs∧xs.length≤i⟩
def Itr (lo:Int)(n:Nat) : It:=⟨fun i _=>i < n,fun i H x H'=>H'=H∧x = .int (lo + i),fun i _=>n≤i⟩
theorem turn_list {P:Program}{w:World}{K:PySem.W.Frag}{tg:Expr}(a it:Addr) : Turn P w K tg (Itl K a) [it] it (fun i h=>h.IsListIter it a i) where
 mem:=by simp
 obj:=fun i h st b hb=>by
  have e:b=it:=by simpa using hb
  subst e
  obtain ⟨o,e,c,d⟩:=st
  exact ⟨o,e,fun v z=>by rw [d] at z; cases z⟩
 keep:=fun i h h' st k=>st.at fun o e=>k it (by simp) o e
 item:=by
  intro X hP hw hK hc i pins s σ H E I hf st hg
  subst hP hw hK
  obtain ⟨xs,x,hq,hx⟩:=hg
  obtain ⟨its,rv,p,hz⟩:=I.list hq
  obtain ⟨u,hu,ru⟩:=rv.get hx
  obtain ⟨f0,f1,f2,f3,f4,f5⟩:=hf it (by simp)
  refine wpAny_pyNext_list_item st p.isList (x:=u) (by simpa using hu) fun h' st' sb=>?_
  have I1:Inv X pins σ H { s with heap:=h' }:=I.turned (t':=s.toks) (fun b o hb e=>(sb.2 b hb).trans e) f0 f1 f3 f4 f5
  obtain ⟨o,e,c,d⟩:=id st'
  exact ⟨u,rfl,go_of (s:={ s with heap:=h' }) e c d (by decide) ⟨x,H,I1,ru,⟨rfl,fun ys hy=>by rw [I.list_inj hy hq]; exact hx⟩,st',fun b hb=>(hf b hb).1⟩⟩
 done:=by
  intro X hP hw hK hc i pins s σ H E I hf st hg
  subst hP hw hK
  obtain ⟨xs,hq,hx⟩:=hg
  obtain ⟨its,rv,p,hz⟩:=I.list hq
  obtain ⟨f0,f1,f2,f3,f4,f5⟩:=hf it (by simp)
  have hl:=rv.length
  exact wpAny_pyNext_list_end (I.ok.hd hc) st p.isList (by simp; omega) fun h' eb=>⟨rfl,I.turned (t':=s.toks) (fun b o hb e=>eb b o hb e) f0 f1 f3 f4 f5⟩
 self:=fun _ _ _ _ _ st h=>wpAny_pyIter_listiter st h
theorem turn_tuple {P:Program}{w:World}{K:PySem.W.Frag}{tg:Expr}(a it:Addr) : Turn P w K tg (Itt K a) [it] it (fun i h=>h.IsTupleIter it a i) where
 mem:=by simp
 obj:=fun i h st b hb=>by
  have e:b=it:=by simpa using hb
  subst e
  obtain ⟨o,e,c,d⟩:=st
  exact ⟨o,e,fun v z=>by rw [d] at z; cases z⟩
 keep:=fun i h h' st k=>st.at fun o e=>k it (by simp) o e
 item:=by
  intro X hP hw hK hc i pins s σ H E I hf st hg
  subst hP hw hK
  obtain ⟨xs,x,hq,hx⟩:=hg
  obtain ⟨its,rv,p,hz⟩:=I.tuple hq
  obtain ⟨u,hu,ru⟩:=rv.get hx
  obtain ⟨f0,f1,f2,f3,f4,f5⟩:=hf it (by simp)
  refine wpAny_pyNext_tuple_item st (show s.heap.IsTuple a its.toArray from p) (x:=u) (by simpa using hu) fun h' st' sb=>?_
  have I1:Inv X pins σ H { s with heap:=h' }:=I.turned (t':=s.toks) (fun b o hb e=>(sb.2 b hb).trans e) f0 f1 f3 f4 f5
  obtain ⟨o,e,c,d⟩:=id st'
  exact ⟨u,rfl,go_of (s:={ s with heap:=h' }) e c d (by decide) ⟨x,H,I1,ru,⟨rfl,fun ys hy=>by rw [I.tuple_inj hy hq]; exact hx⟩,st',fun b hb=>(hf b hb).1⟩⟩
 done:=by
  intro X hP hw hK hc i pins s σ H E I hf st hg
  subst hP hw hK
  obtain ⟨xs,hq,hx⟩:=hg
  obtain ⟨its,rv,p,hz⟩:=I.tuple hq
  obtain ⟨f0,f1,f2,f3,f4,f5⟩:=hf it (by simp)
  have hl:=rv.length
  exact wpAny_pyNext_tuple_end (I.ok.hd hc) st (show s.heap.IsTuple a its.toArray from p) (by simp; omega) fun h' eb=>⟨rfl,I.turned (t':=s.toks) (fun b o hb e=>eb b o hb e) f0 f1 f3 f4 f5⟩
 self:=fun _ _ _ _ _ st h=>wpAny_pyIter_tupleiter st h
theorem turn_range {P:Program}{w:World}{K:PySem.W.Frag}{tg:Expr}(it:Addr)(lo:Int)(n:Nat) : Turn P w K tg (Itr lo n) [it] it (fun i h=>IsRangeIter h it (lo + (i:Nat) * 1) ((n:Int) - (i:Nat)) 1) where
 mem:=by simp
 obj:=fun i h st b hb=>by
  have e:b=it:=by simpa using hb
  subst e
  exact ⟨_,st,fun v z=>by
   have z':Data.fields _=Data.cell v:=z
   cases z'⟩
 keep:=fun i h h' st k=>k it (by simp) _ st
 item:=by
  intro X hP hw hK hc i pins s σ H E I hf st hg
  subst hP hw hK
  obtain ⟨f0,f1,f2,f3,f4,f5⟩:=hf it (by simp)
  have W:=Walks.range (prog:=X.prog) (w:=X.w) (I.ok.hd hc) it lo 1 n
  refine W.item i s _ _ hg st fun v h' tk hv st' kk=>?_
  obtain ⟨t,rfl⟩:=hv
  have I1:Inv X pins σ H { s with heap:=h',toks:=tk }:=I.turned (fun b o hb e=>kk b o (by simpa using hb) e) f0 f1 f3 f4 f5
  refine ⟨_,rfl,go_of (s:={ s with heap:=h',toks:=tk }) (n := "range_iterator") st' rfl rfl (by decide) ⟨.int (lo + i),H,I1,⟨t,?_⟩,⟨rfl,rfl⟩,st',fun b hb=>(hf b hb).1⟩⟩
  rw [Int.mul_one]
 done:=by
  intro X hP hw hK hc i pins s σ H E I hf st hg
  subst hP hw hK
  obtain ⟨f0,f1,f2,f3,f4,f5⟩:=hf it (by simp)
  exact wpAny_pyNext_range_end (I.ok.hd hc) st (by have:n≤i:=hg; omega) fun h' eb=>⟨rfl,I.turned (t':=s.toks) (fun b o hb e=>eb b o hb e) f0 f1 f3 f4 f5⟩
 self:=fun _ _ _ _ _ st h=>wpAny_pyIter_rangeiter st h
end L2
namespace L2
open PySem PySem.Spec PyProof.Rows
section
variable {X:Cx}{tg:Expr}
def iList (K:PySem.W.Frag)(tl:TE) : TI:=fun σ H R=>tl σ H fun x H1=>∃ a,x = .ref a∧(∃ xs,SqL K H1 a xs)∧R (Itl K a) H1
def iTup (K:PySem.W.Frag)(tl:TE) : TI:=fun σ H R=>tl σ H fun x H1=>∃ a,x = .ref a∧(∃ xs,SqT K H1 a xs)∧R (Itt K a) H1
theorem pi_list {l:Expr}{tl:TE}(hl:PE X l tl) : PI X tg l (iList X.K tl):=by
 intro pins s σ H R I h
 refine thn (hl pins s σ H _ I h) fun v s1 ⟨x,H1,I1,r1,q1⟩=>?_
 obtain ⟨a,e,⟨xs,hq⟩,q⟩:=q1
 subst e
 cases r1
 obtain ⟨its,rv,p,hz⟩:=I1.list hq
 refine wpAny_pyIter_list p.isList ?_
 refine ⟨s1.heap.objs.size,[s1.heap.objs.size],_,_,H1,rfl,I1.kept (t':=s1.toks) fun b o e=>Heap.get?_push_of_some _ e,turn_list a _,⟨_,Heap.get?_push_size _ rfl,rfl,rfl⟩,fun b hb=>?_,q⟩
 have e:b=s1.heap.objs.size:=by simpa using hb
 subst e
 exact I1.fpOk (Nat.le_refl _) (I1.hok.fresh (Nat.le_refl _))
theorem pi_tup {l:Expr}{tl:TE}(hl:PE X l tl) : PI X tg l (iTup X.K tl):=by
 intro pins s σ H R I h
 refine thn (hl pins s σ H _ I h) fun v s1 ⟨x,H1,I1,r1,q1⟩=>?_
 obtain ⟨a,e,⟨xs,hq⟩,q⟩:=q1
 subst e
 cases r1
 obtain ⟨its,rv,p,hz⟩:=I1.tuple hq
 refine wpAny_pyIter_tuple (show s1.heap.IsTuple a its.toArray from p) ?_
 refine ⟨s1.heap.objs.size,[s1.heap.objs.size],_,_,H1,rfl,I1.kept (t':=s1.toks) fun b o e=>Heap.get?_push_of_some _ e,turn_tuple a _,⟨_,Heap.get?_push_size _ rfl,rfl,rfl⟩,fun b hb=>?_,q⟩
 have e:b=s1.heap.objs.size:=by simpa using hb
 subst e
 exact I1.fpOk (Nat.le_refl _) (I1.hok.fresh (Nat.le_refl _))
theorem range_it {pins:List (Addr × Obj)}{σ:St}{H:Hp}{s:Shared}{R:It→Hp→Prop}{E:Value→Shared→Prop}{lo hi:Int}{t u v:Tok}{tk:Nat}(I:Inv X pins σ H s) (h1 : -(2 ^ 62)≤lo) (h2:lo < 2 ^ 62) (h3 : -(2 ^ 62)≤hi) (h4:hi < 2 ^ 62)
  (q:R (Itr lo (hi - lo).toNat) H) : wpAny (model X.prog X.w) X.A (pyIter (.ref s.heap.objs.size)) (PIE X pins σ tg R) E { s with heap:=s.heap.push { cls:=.type "range", data:=.fields #[.int lo t,.int hi u,.int 1 v] },toks:=tk }:=by
 refine wpAny_pyIter_range (IsRange.new ..) (small_one h1 h2 h3 h4) ?_
 have I1:Inv X pins σ H { s with heap:=s.heap.push { cls:=.type "range", data:=.fields #[.int lo t,.int hi u,.int 1 v] },toks:=tk }:=I.kept fun b o e=>Heap.get?_push_of_some _ e
 refine ⟨(s.heap.push { cls:=.type "range", data:=.fields #[.int lo t,.int hi u,.int 1 v] }).objs.size,[(s.heap.push { cls:=.type "range", data:=.fields #[.int lo t,.int hi u,.int 1 v] }).objs.size],_,_,H,rfl,
  I1.kept (t':=tk) fun b o e=>Heap.get?_push_of_some _ e,turn_range _ lo (hi - lo).toNat,?_,fun b hb=>?_,q⟩
 ·have e1:lo + ((0:Nat) : Int) * 1=lo:=by simp
  have e2:(((hi - lo).toNat:Nat) : Int) - ((0:Nat) : Int)=Builtin.Range.rangeSize lo hi 1:=by rw [rangeSize_one]; split <;> omega
  show IsRangeIter _ _ (lo + ((0:Nat) : Int) * 1) ((((hi - lo).toNat:Nat) : Int) - ((0:Nat) : Int)) 1
  rw [e1,e2]
  exact Heap.get?_push_size _ rfl
 ·have e:b=(s.heap.push { cls:=.type "range", data:=.fields #[.int lo t,.int hi u,.int 1 v] }).objs.size:=by simpa using hb
  subst e
  exact I1.fpOk (Nat.le_refl _) (I1.hok.fresh (Nat.le_refl _))
def iRng1 (ta:TA) : TI:=fun σ H R=>ta σ H fun vs H1=>∃ j:Int,vs = [.int j] ∧ -(2 ^ 62)≤j∧j < 2 ^ 62∧R (Itr 0 j.toNat) H1
def iRng2 (ta:TA) : TI:=fun σ H R=>ta σ H fun vs H1=>∃ i j:Int,vs = [.int i,.int j]∧(-(2 ^ 62)≤i∧i < 2 ^ 62 ∧ -(2 ^ 62)≤j∧j < 2 ^ 62)∧R (Itr i (j - i).toNat) H1
theorem pi_range1 {a:Expr}{ta:TA}{p pos:Pos}(hg:Gl X "range")(hm:X.mg "range" = none)(ha:PA X [a] ta)(hs:starEach [a] X.env = [(false,eval a X.env)]:=by rfl) : PI X tg (.Call (.Name "range" p) [a] [] pos) (iRng1 ta):=by
 intro pins s σ H R I h
 refine Call_ (ld_blt I hg hm boot_range (PyProof.Rows.callWith_type1 (thn (ha pos pins s σ H _ I h) fun us s1 ⟨vs,H1,I1,r1,q1⟩=>?_) hs rfl))
 obtain ⟨j,e,q1,q2,q⟩:=q1
 subst e
 cases r1 with
 | cons r rr =>
  cases rr
  obtain ⟨t,rfl⟩:=r
  exact call_range_1 (range_it I1 (by omega) (by omega) q1 q2 (by simpa using q))
theorem pi_range2 {a b:Expr}{ta:TA}{p pos:Pos}(hg:Gl X "range") (hm:X.mg "range" = none) (ha:PA X [a,b] ta) (hs:starEach [a,b] X.env = [(false,eval a X.env),(false,eval b X.env)]:=by rfl) (hs2:starEach [b] X.env = [(false,eval b X.env)]:=by rfl) :
  PI X tg (.Call (.Name "range" p) [a,b] [] pos) (iRng2 ta):=by
 intro pins s σ H R I h
 refine Call_ (ld_blt I hg hm boot_range (PyProof.Rows.callWith_type1 (thn (ha pos pins s σ H _ I h) fun us s1 ⟨vs,H1,I1,r1,q1⟩=>?_) (by rw [hs,hs2]) (by rw [hs2]; rfl)))
 obtain ⟨i,j,e,⟨q1,q2,q3,q4⟩,q⟩:=q1
 subst e
 cases r1 with
 | cons r rr =>
  cases rr with
  | cons r' rr =>
   cases rr
   obtain ⟨t,rfl⟩:=r
   obtain ⟨t',rfl⟩:=r'
   exact call_range_2 (range_it I1 q1 q2 q3 q4 q)
def tFor (wi:TI)(g:TG)(tb:TS) : TS:=fun D σ H=>wi σ H fun J H1=>∃ W:Nat→Nat→St→Hp→Prop,(∃ m,W 0 m σ H1)∧∀ i m σ H,W i m σ H →
 (J.stop i H∧D.nx σ H)∨(J.go i H∧∃ N:St→Hp→Prop,(∀ σ' H',N σ' H'→∃ m',m' < m∧W (i + 1) m' σ' H')∧∀ x H',J.yld i H x H'→g x σ H' fun σ2 H2=>tb { D with nx:=N,ct:=N,bk:=D.nx } σ2 H2)
def pinsAt (fp:List Addr)(h:Heap) : List (Addr × Obj):=fp.filterMap fun b=>(h.get? b).map fun o=>(b,o)
theorem mem_pinsAt {fp:List Addr}{h:Heap}{b:Addr}{o:Obj}(hb:b∈fp)(e:h.get? b=some o) : (b,o)∈pinsAt fp h:=List.mem_filterMap.mpr ⟨b,hb,by rw [e]; rfl⟩
theorem of_pinsAt {fp:List Addr}{h:Heap}{p:Addr × Obj}(hp:p∈pinsAt fp h) : p.1∈fp∧h.get? p.1=some p.2:=by
 obtain ⟨b,hb,e⟩:=List.mem_filterMap.mp hp
 cases q:h.get? b with
 | none=>rw [q] at e; cases e
 | some o =>
  rw [q] at e
  have e':(b,o)=p:=Option.some.inj e
  subst e'
  exact ⟨hb,q⟩
theorem Inv.pinned {pins:List (Addr × Obj)}{σ:St}{H:Hp}{s:Shared}{fp:List Addr}(I:Inv X pins σ H s)(hf:∀ b∈fp,FpOk X pins H b)(ho:∀ b∈fp,∃ o,s.heap.get? b=some o∧∀ v,o.data ≠ .cell v) : Inv X (pins ++ pinsAt fp s.heap) σ H s :=
 I.pins_of fun p hp=>(List.mem_append.mp hp).elim (fun z=>I.pin p (List.mem_append_right _ z)) fun z=>by
  obtain ⟨hb,e⟩:=of_pinsAt z
  obtain ⟨f0,f1,f2,_⟩:=hf p.1 hb
  obtain ⟨o,e',d⟩:=ho p.1 hb
  rw [e] at e'; cases e'
  exact ⟨e,f0,f1,f2,d⟩
theorem Inv.unpinned {pins pl:List (Addr × Obj)}{σ:St}{H:Hp}{s:Shared}(I:Inv X (pins ++ pl) σ H s) : Inv X pins σ H s:=I.pins_of fun p hp=>I.pin p (List.mem_append_right _ (List.mem_append_left _ hp))
theorem ps_for {iter:Expr}{body:List Stmt}{wi:TI}{g:TG}{tb:TS}{pos:Pos}(hp:PassesOwn (model X.prog X.w) X.A X.env X.xe) (hc:X.calm=true) (hi:PI X tg iter wi) (hg:PG X tg g) (hb:PSs X body tb)
  (hs:∀ x,foldedSetIterable iter X.env x=pure x:=by intro _; rfl) : PS X (.For tg iter body [] pos) (tFor wi g tb):=by
 intro pins s σ H D I h
 refine wpAny_For (thn (hi pins s σ H _ I h) fun v s1 h1=>thn h1 fun itv s2 h2=>?_) hs
 obtain ⟨it,fp,tn,J,H2,e,I2,T,st2,f2,W,⟨m0,w0⟩,turn⟩:=h2
 subst e
 have stat:∀ {H':Hp},(∀ b∈fp,H' b=none)→∀ b∈fp,FpOk X pins H' b:=fun hn b hb=>⟨hn b hb,(f2 b hb).2⟩
 refine codeAny_forLoop_any (fun n s'=>∃ i σ' H',Inv X pins σ' H' s'∧tn i s'.heap∧(∀ b∈fp,H' b=none)∧W i n σ' H') ?_ m0 ⟨0,σ,H2,I2,st2,fun b hb=>(f2 b hb).1,w0⟩
 rintro n s3 ⟨i,σ3,H3,I3,st3,fr3,w3⟩
 rcases turn i n σ3 H3 w3 with ⟨stop,qn⟩ | ⟨go,N,hN,step⟩
 ·refine wpAny_passesOwn hp (thn (T.done X rfl rfl rfl hc i pins s3 σ3 H3 X.xe I3 (stat fr3) st3 stop) fun r s4 ⟨hr,I4⟩=>?_)
  subst hr
  exact wpAny_execs_nil ⟨σ3,H3,I4,qn⟩
 ·refine wpAny_passesOwn hp (thn (T.item X rfl rfl rfl hc i pins s3 σ3 H3 X.xe I3 (stat fr3) st3 go) fun r s4 ⟨u,hr,h4⟩=>?_)
  subst hr
  refine wpAny_passesOwn hp (thn h4 fun _ s5 ⟨x,H5,I5,r5,y5,st5,fr5⟩=>?_)
  have I5':=I5.pinned (stat fr5) (T.obj _ _ st5)
  refine wpAny_passesOwn hp (thn (hg _ s5 σ3 H5 x u _ I5' r5 (step x H5 y5)) fun _ s6 ⟨σ6,H6,I6,q6⟩=>?_)
  refine wpAny_passesOwn hp (thn (hb _ s6 σ6 H6 _ I6 q6) fun f s7 q7=>?_)
  have again:∀ {σ7:St}{H7:Hp},Inv X (pins ++ pinsAt fp s5.heap) σ7 H7 s7→N σ7 H7→∃ m,m < n∧∃ i σ' H',Inv X pins σ' H' s7∧tn i s7.heap∧(∀ b∈fp,H' b=none)∧W i m σ' H':=fun {σ7 H7} I7 n7=>by
   obtain ⟨m',hm,w7⟩:=hN σ7 H7 n7
   refine ⟨m',hm,i + 1,σ7,H7,I7.unpinned,T.keep _ _ _ st5 fun b hb o e=>(I7.pin (b,o) (List.mem_append_right _ (List.mem_append_right _ (mem_pinsAt hb e)))).1,fun b hb=>?_,w7⟩
   obtain ⟨o,e,d⟩:=T.obj _ _ st5 b hb
   exact (I7.pin (b,o) (List.mem_append_right _ (List.mem_append_right _ (mem_pinsAt hb e)))).2.1
  cases f with
  | next=>obtain ⟨σ7,H7,I7,n7⟩:=q7; exact again I7 n7
  | cont=>obtain ⟨σ7,H7,I7,n7⟩:=q7; exact again I7 n7
  | brk=>obtain ⟨σ7,H7,I7,q7⟩:=q7; exact ⟨σ7,H7,I7.unpinned,q7⟩
  | ret v=>obtain ⟨x7,σ7,H7,I7,r7,q7⟩:=q7; exact ⟨x7,σ7,H7,I7.unpinned,r7,q7⟩
end
theorem for_list {K:PySem.W.Frag}{a:Addr}{xs:List V}{g:TG}{tb:TS}{D:Ends}{σ:St}{H:Hp}(Pv:Nat→St→Hp→Prop) (h0:Pv 0 σ H) (hl:∀ i σ H,i≤xs.length→Pv i σ H→SqL K H a xs)
  (hs:∀ i x σ H,xs[i]? = some x→Pv i σ H→g x σ H fun σ2 H2=>tb { D with nx:=Pv (i + 1),ct:=Pv (i + 1),bk:=D.nx } σ2 H2) (hd:∀ σ H,Pv xs.length σ H→D.nx σ H) :
  ∃ W:Nat→Nat→St→Hp→Prop,(∃ m,W 0 m σ H)∧∀ i m σ H,W i m σ H →
   ((Itl K a).stop i H∧D.nx σ H)∨((Itl K a).go i H∧∃ N:St→Hp→Prop,(∀ σ' H',N σ' H'→∃ m',m' < m∧W (i + 1) m' σ' H')∧∀ x H',(Itl K a).yld i H x H'→g x σ H' fun σ2 H2=>tb { D with nx:=N,ct:=N,bk:=D.nx } σ2 H2):=by
 refine ⟨fun i m σ H=>m=xs.length - i∧i≤xs.length∧Pv i σ H,⟨xs.length,by simp,Nat.zero_le _,h0⟩,?_⟩
 rintro i m σ H ⟨rfl,hi,p⟩
 have q:=hl i σ H hi p
 by_cases hlt:i < xs.length
 ·refine .inr ⟨⟨xs,xs[i],q,by simp [hlt]⟩,Pv (i + 1),fun σ' H' p'=>⟨xs.length - (i + 1),by omega,rfl,hlt,p'⟩,fun x H' y=>?_⟩
  obtain ⟨e,y⟩:=y
  subst e
  exact hs i x σ _ (y xs q) p
 ·have e:i=xs.length:=by omega
  subst e
  exact .inl ⟨⟨xs,q,Nat.le_refl _⟩,hd σ H p⟩
theorem for_tup {K:PySem.W.Frag}{a:Addr}{xs:List V}{g:TG}{tb:TS}{D:Ends}{σ:St}{H:Hp}(Pv:Nat→St→Hp→Prop) (h0:Pv 0 σ H) (hl:∀ i σ H,i≤xs.length→Pv i σ H→SqT K H a xs)
  (hs:∀ i x σ H,xs[i]? = some x→Pv i σ H→g x σ H fun σ2 H2=>tb { D with nx:=Pv (i + 1),ct:=Pv (i + 1),bk:=D.nx } σ2 H2) (hd:∀ σ H,Pv xs.length σ H→D.nx σ H) :
  ∃ W:Nat→Nat→St→Hp→Prop,(∃ m,W 0 m σ H)∧∀ i m σ H,W i m σ H →
   ((Itt K a).stop i H∧D.nx σ H)∨((Itt K a).go i H∧∃ N:St→Hp→Prop,(∀ σ' H',N σ' H'→∃ m',m' < m∧W (i + 1) m' σ' H')∧∀ x H',(Itt K a).yld i H x H'→g x σ H' fun σ2 H2=>tb { D with nx:=N,ct:=N,bk:=D.nx } σ2 H2):=by
 refine ⟨fun i m σ H=>m=xs.length - i∧i≤xs.length∧Pv i σ H,⟨xs.length,by simp,Nat.zero_le _,h0⟩,?_⟩
 rintro i m σ H ⟨rfl,hi,p⟩
 have q:=hl i σ H hi p
 by_cases hlt:i < xs.length
 ·refine .inr ⟨⟨xs,xs[i],q,by simp [hlt]⟩,Pv (i + 1),fun σ' H' p'=>⟨xs.length - (i + 1),by omega,rfl,hlt,p'⟩,fun x H' y=>?_⟩
  obtain ⟨e,y⟩:=y
  subst e
  exact hs i x σ _ (y xs q) p
 ·have e:i=xs.length:=by omega
  subst e
  exact .inl ⟨⟨xs,q,Nat.le_refl _⟩,hd σ H p⟩
theorem for_range {lo:Int}{n:Nat}{g:TG}{tb:TS}{D:Ends}{σ:St}{H:Hp}(Pv:Nat→St→Hp→Prop) (h0:Pv 0 σ H)
  (hs:∀ i σ H,i < n→Pv i σ H→g (.int (lo + i)) σ H fun σ2 H2=>tb { D with nx:=Pv (i + 1),ct:=Pv (i + 1),bk:=D.nx } σ2 H2) (hd:∀ σ H,Pv n σ H→D.nx σ H) :
  ∃ W:Nat→Nat→St→Hp→Prop,(∃ m,W 0 m σ H)∧∀ i m σ H,W i m σ H →
   ((Itr lo n).stop i H∧D.nx σ H)∨((Itr lo n).go i H∧∃ N:St→Hp→Prop,(∀ σ' H',N σ' H'→∃ m',m' < m∧W (i + 1) m' σ' H')∧∀ x H',(Itr lo n).yld i H x H'→g x σ H' fun σ2 H2=>tb { D with nx:=N,ct:=N,bk:=D.nx } σ2 H2):=by
 refine ⟨fun i m σ H=>m=n - i∧i≤n∧Pv i σ H,⟨n,by simp,Nat.zero_le _,h0⟩,?_⟩
 rintro i m σ H ⟨rfl,hi,p⟩
 by_cases hlt:i < n
 ·refine .inr ⟨hlt,Pv (i + 1),fun σ' H' p'=>⟨n - (i + 1),by omega,rfl,hlt,p'⟩,fun x H' y=>?_⟩
  obtain ⟨e,y⟩:=y
  subst e y
  exact hs i σ _ hlt p
 ·have e:i=n:=by omega
  subst e
  exact .inl ⟨Nat.le_refl _,hd σ H p⟩
theorem while_by {c:TT}{tb:TS}{D:Ends}{σ:St}{H:Hp}(Pv:St→Hp→Prop) (μ:St→Hp→Nat) (h0:Pv σ H)
  (hs:∀ σ H,Pv σ H→c σ H fun b H1=>if b=true then tb { D with nx:=fun σ' H'=>Pv σ' H'∧μ σ' H' < μ σ H,ct:=fun σ' H'=>Pv σ' H'∧μ σ' H' < μ σ H,bk:=D.nx } σ H1 else D.nx σ H1)
  (mono:∀ σ H Q Q',(∀ b H1,Q b H1→Q' b H1)→c σ H Q→c σ H Q') : tWhile c tb D σ H:=by
 refine ⟨fun m σ H=>m=μ σ H∧Pv σ H,⟨_,rfl,h0⟩,?_⟩
 rintro m σ H ⟨rfl,p⟩
 refine mono σ H _ _ (fun b H1 q=>?_) (hs σ H p)
 cases b with
 | true=>exact ⟨_,fun σ' H' ⟨p',l⟩=>⟨_,l,rfl,p'⟩,q⟩
 | false=>exact q
end L2
namespace L2
open PySem PySem.Spec PyProof.Rows
abbrev R2:=V→V→Hp→VK→Prop
def OpR (X:Cx)(f:Value→Value→Sem Value)(r:R2) : Prop :=
 ∀ (pins:List (Addr × Obj)) (s:Shared) (σ:St) (H:Hp) (x y:V) (v u:Value) (Q:VK),Inv X pins σ H s→RelV x v→RelV y u→r x y H Q →
  wpAny (model X.prog X.w) X.A (f v u) (EP X pins σ Q) X.xe s
def UnR (X:Cx)(f:Value→Sem Value)(r:V→Hp→VK→Prop) : Prop :=
 ∀ (pins:List (Addr × Obj)) (s:Shared) (σ:St) (H:Hp) (x:V) (v:Value) (Q:VK),Inv X pins σ H s→RelV x v→r x H Q →
  wpAny (model X.prog X.w) X.A (f v) (EP X pins σ Q) X.xe s
def CallR (X:Cx)(f:Value)(r:List V→Hp→VK→Prop) : Prop :=
 ∀ (pins:List (Addr × Obj)) (s:Shared) (σ:St) (H:Hp) (xs:List V) (us:List Value) (Q:VK),Inv X pins σ H s→Vals xs us→r xs H Q →
  wpAny (model X.prog X.w) X.A (call f us) (EP X pins σ Q) X.xe s
def tOp (r:R2)(ta tb:TE) : TE:=fun σ H Q=>ta σ H fun x H1=>tb σ H1 fun y H2=>r x y H2 Q
def tUn (r:V→Hp→VK→Prop)(ta:TE) : TE:=fun σ H Q=>ta σ H fun x H1=>r x H1 Q
def rI (C:Int→Int→Prop)(g:Int→Int→V) : R2:=fun x y H Q=>∃ i j,x = .int i∧y = .int j∧C i j∧Q (g i j) H
def rI0 (g:Int→Int→V) : R2:=fun x y H Q=>∃ i j,x = .int i∧y = .int j∧Q (g i j) H
def rU (g:Int→V) : V→Hp→VK→Prop:=fun x H Q=>∃ i,x = .int i∧Q (g i) H
section
variable {X:Cx}{a b c:Expr}{ta tb tc:TE}{pos:Pos}
theorem binT (ha:PE X a ta) (hb:PE X b tb) {pins:List (Addr × Obj)}{s:Shared}{σ:St}{H:Hp}{R:V→V→Hp→Prop}(I:Inv X pins σ H s)
  (h:ta σ H fun x H1=>tb σ H1 fun y H2=>R x y H2) {Q:Value→Shared→Prop}{f:Value→Value→Sem Value}
  (hf:∀ v u s2 x y H2,Inv X pins σ H2 s2→RelV x v→RelV y u→R x y H2→wpAny (model X.prog X.w) X.A (f v u) Q X.xe s2) :
  wpAny (model X.prog X.w) X.A (eval a X.env) (fun v s₁=>wpAny (model X.prog X.w) X.A (eval b X.env) (fun u s₂=>wpAny (model X.prog X.w) X.A (f v u) Q X.xe s₂) X.xe s₁) X.xe s:=by
 refine thn (ha pins s σ H _ I h) fun v s1 ⟨x,H1,I1,r1,q1⟩=>?_
 refine thn (hb pins s1 σ H1 _ I1 q1) fun u s2 ⟨y,H2,I2,r2,q2⟩=>?_
 exact hf v u s2 x y H2 I2 r1 r2 q2
theorem pe_op {op:Operator}{r:R2}(ho:OpR X (binaryOp op) r)(ha:PE X a ta)(hb:PE X b tb) : PE X (.BinOp a op b pos) (tOp r ta tb):=by
 intro pins s σ H Q I h
 exact wpAny_BinOp (binT ha hb I h fun v u s2 x y H2 I2 rx ry q=>ho pins s2 σ H2 x y v u Q I2 rx ry q)
theorem pe_un {op:UnaryOp}{r:V→Hp→VK→Prop}(ho:UnR X (unaryOp op) r)(ha:PE X a ta) : PE X (.UnaryOp op a pos) (tUn r ta):=by
 intro pins s σ H Q I h
 exact UnaryOp_ (thn (ha pins s σ H _ I h) fun v s1 ⟨x,H1,I1,r1,q1⟩=>ho pins s1 σ H1 x v Q I1 r1 q1)
theorem opI {f:Value→Value→Sem Value}{C:Int→Int→Prop}{g:Int→Int→Int}
  (rule:∀ (i j:Int) (t u:Tok) (s:Shared) (Q:Value→Shared→Prop) (E:Value→Shared→Prop),C i j→Q (.int (g i j) s.toks) { s with toks:=s.toks + 1 }→wpAny (model X.prog X.w) X.A (f (.int i t) (.int j u)) Q E s) :
  OpR X f (rI C fun i j=>.int (g i j)):=by
 intro pins s σ H x y v u Q I rx ry h
 obtain ⟨i,j,rfl,rfl,hc,q⟩:=h
 obtain ⟨t,rfl⟩:=rx
 obtain ⟨t',rfl⟩:=ry
 exact rule i j t t' s _ _ hc ⟨.int (g i j),H,I.tok _,⟨_,rfl⟩,q⟩
theorem opI0 {f:Value→Value→Sem Value}{g:Int→Int→Int}
  (rule:∀ (i j:Int) (t u:Tok) (s:Shared) (Q:Value→Shared→Prop) (E:Value→Shared→Prop),Q (.int (g i j) s.toks) { s with toks:=s.toks + 1 }→wpAny (model X.prog X.w) X.A (f (.int i t) (.int j u)) Q E s) :
  OpR X f (rI0 fun i j=>.int (g i j)):=by
 intro pins s σ H x y v u Q I rx ry h
 obtain ⟨i,j,rfl,rfl,q⟩:=h
 obtain ⟨t,rfl⟩:=rx
 obtain ⟨t',rfl⟩:=ry
 exact rule i j t t' s _ _ ⟨.int (g i j),H,I.tok _,⟨_,rfl⟩,q⟩
theorem opB0 {f:Value→Value→Sem Value}{g:Int→Int→Bool}
  (rule:∀ (i j:Int) (t u:Tok) (s:Shared) (Q:Value→Shared→Prop) (E:Value→Shared→Prop),Q (.bool (g i j)) s→wpAny (model X.prog X.w) X.A (f (.int i t) (.int j u)) Q E s) :
  OpR X f (rI0 fun i j=>.bl (g i j)):=by
 intro pins s σ H x y v u Q I rx ry h
 obtain ⟨i,j,rfl,rfl,q⟩:=h
 obtain ⟨t,rfl⟩:=rx
 obtain ⟨t',rfl⟩:=ry
 exact rule i j t t' s _ _ ⟨.bl (g i j),H,I,rfl,q⟩
def CPow (i j:Int) : Prop:=0≤j∧j≤1000000∧i.natAbs < 2 ^ 64
theorem op_add:OpR X (binaryOp .Add) (rI0 fun i j=>.int (i + j)):=opI0 fun _ _ _ _ _ _ _ q=>add_int q
theorem op_sub:OpR X (binaryOp .Sub) (rI0 fun i j=>.int (i - j)):=opI0 fun _ _ _ _ _ _ _ q=>sub_int q
theorem op_mod:OpR X (binaryOp .Mod) (rI (fun _ j=>0 < j) fun i j=>.int (i % j)):=opI fun i j _ _ _ _ _ hc q=>by
 have h1:(0:Int) < j:=hc
 exact mod_int' (by omega) (by rw [Int.fmod_eq_emod_of_nonneg i (by omega)]; exact q)
theorem op_pow:OpR X (binaryOp .Pow) (rI CPow fun i j=>.int (i ^ j.toNat)):=opI fun _ _ _ _ _ _ _ hc q=>pow_int_small hc.1 hc.2.1 hc.2.2 q
theorem iop_sub:OpR X (inplaceOp .Sub) (rI0 fun i j=>.int (i - j)):=opI0 fun _ _ _ _ _ _ _ q=>isub_int q
theorem unI {f:Value→Sem Value}{g:Int→Int}
  (rule:∀ (i:Int) (t:Tok) (s:Shared) (Q:Value→Shared→Prop) (E:Value→Shared→Prop),Q (.int (g i) s.toks) { s with toks:=s.toks + 1 }→wpAny (model X.prog X.w) X.A (f (.int i t)) Q E s) :
  UnR X f (rU fun i=>.int (g i)):=by
 intro pins s σ H x v Q I rx h
 obtain ⟨i,rfl,q⟩:=h
 obtain ⟨t,rfl⟩:=rx
 exact rule i t s _ _ ⟨.int (g i),H,I.tok _,⟨_,rfl⟩,q⟩
theorem un_neg:UnR X (unaryOp .USub) (rU fun i=>.int (-i)):=unI fun _ _ _ _ _ q=>neg_int q
end
def scal:V→V→Bool
 | .non,.non=>true | .non,.int _=>true | .int _,.non=>true | .non,.bl _=>true | .bl _,.non=>true | .non,.str _=>true | .str _,.non=>true
 | .int _,.int _=>true | .bl _,.bl _=>true | .str _,.str _=>true | .byt _,.byt _=>true
 | .int _,.str _=>true | .str _,.int _=>true | .bl _,.str _=>true | .str _,.bl _=>true
 | _,_=>false
def rEq:R2:=fun x y H Q=>scal x y=true∧Q (.bl (decide (x=y))) H
def rNe:R2:=fun x y H Q=>scal x y=true∧Q (.bl (!decide (x=y))) H
theorem dec_int {i j:Int} : decide (V.int i=V.int j)=(i == j):=by
 rw [Bool.eq_iff_iff]
 simp
theorem dec_bl {i j:Bool} : decide (V.bl i=V.bl j)=(i == j):=by
 rw [Bool.eq_iff_iff]
 simp
theorem dec_str {i j:Str} : decide (V.str i=V.str j)=(i == j):=by
 rw [Bool.eq_iff_iff]
 simp
theorem dec_byt {i j:Array UInt8} : decide (V.byt i=V.byt j)=(i.toList == j.toList):=by
 rw [Bool.eq_iff_iff]
 cases i
 cases j
 simp
section
variable {X:Cx}{a b c:Expr}{ta tb tc:TE}{pos:Pos}
theorem fin_bl {pins:List (Addr × Obj)}{σ:St}{H:Hp}{s:Shared}{Q:VK}{k k':Bool}(I:Inv X pins σ H s)(q:Q (.bl k) H)(e:k=k') : EP X pins σ Q (.bool k') s:=by
 subst e
 exact ⟨.bl k,H,I,rfl,q⟩
theorem op_eq:OpR X (compareOp .Eq) rEq:=by
 intro pins s σ H x y v u Q I rx ry h
 obtain ⟨hs,q⟩:=h
 cases x with
 | non =>
  cases rx
  cases y with
  | non=>cases ry; exact PySem.EqNone.eq_none_none (fin_bl I q (by simp))
  | bl j=>cases ry; exact PySem.EqNone.eq_none_bool (fin_bl I q (by simp))
  | int j=>obtain ⟨t',rfl⟩:=ry; exact PySem.EqNone.eq_none_int (fin_bl I q (by simp))
  | str j=>obtain ⟨t',rfl⟩:=ry; exact PySem.EqNone.eq_none_str (fin_bl I q (by simp))
  | _=>exact absurd (show false=true from hs) Bool.false_ne_true
 | bl i =>
  cases rx
  cases y with
  | non=>cases ry; exact PySem.EqNone.eq_bool_none (fin_bl I q (by simp))
  | bl j=>cases ry; exact eq_bool (fin_bl I q dec_bl)
  | str j=>obtain ⟨t',rfl⟩:=ry; exact PySem.EqMixed.eq_bool_str (fin_bl I q (by simp))
  | _=>exact absurd (show false=true from hs) Bool.false_ne_true
 | int i =>
  obtain ⟨t,rfl⟩:=rx
  cases y with
  | non=>cases ry; exact PySem.EqNone.eq_int_none (fin_bl I q (by simp))
  | int j=>obtain ⟨t',rfl⟩:=ry; exact eq_int (fin_bl I q dec_int)
  | str j=>obtain ⟨t',rfl⟩:=ry; exact PySem.EqMixed.eq_int_str (fin_bl I q (by simp))
  | _=>exact absurd (show false=true from hs) Bool.false_ne_true
 | str i =>
  obtain ⟨t,rfl⟩:=rx
  cases y with
  | non=>cases ry; exact PySem.EqNone.eq_str_none (fin_bl I q (by simp))
  | bl j=>cases ry; exact PySem.EqMixed.eq_str_bool (fin_bl I q (by simp))
  | int j=>obtain ⟨t',rfl⟩:=ry; exact PySem.EqMixed.eq_str_int (fin_bl I q (by simp))
  | str j=>obtain ⟨t',rfl⟩:=ry; exact eq_str (fin_bl I q dec_str)
  | _=>exact absurd (show false=true from hs) Bool.false_ne_true
 | byt i =>
  obtain ⟨t,rfl⟩:=rx
  cases y with
  | byt j=>obtain ⟨t',rfl⟩:=ry; exact PySem.W.eq_bytes (fin_bl I q dec_byt)
  | _=>exact absurd (show false=true from hs) Bool.false_ne_true
 | _=>cases y <;> exact absurd (show false=true from hs) Bool.false_ne_true
theorem op_ne:OpR X (compareOp .NotEq) rNe:=by
 intro pins s σ H x y v u Q I rx ry h
 obtain ⟨hs,q⟩:=h
 cases x with
 | non =>
  cases rx
  cases y with
  | non=>cases ry; exact PySem.EqNone.ne_none_none (fin_bl I q (by simp))
  | bl j=>cases ry; exact PySem.EqNone.ne_none_bool (fin_bl I q (by simp))
  | int j=>obtain ⟨t',rfl⟩:=ry; exact PySem.EqNone.ne_none_int (fin_bl I q (by simp))
  | str j=>obtain ⟨t',rfl⟩:=ry; exact PySem.EqNone.ne_none_str (fin_bl I q (by simp))
  | _=>exact absurd (show false=true from hs) Bool.false_ne_true
 | bl i =>
  cases rx
  cases y with
  | non=>cases ry; exact PySem.EqNone.ne_bool_none (fin_bl I q (by simp))
  | bl j=>cases ry; exact ne_bool (fin_bl I q (congrArg not dec_bl))
  | str j=>obtain ⟨t',rfl⟩:=ry; exact PySem.EqMixed.ne_bool_str (fin_bl I q (by simp))
  | _=>exact absurd (show false=true from hs) Bool.false_ne_true
 | int i =>
  obtain ⟨t,rfl⟩:=rx
  cases y with
  | non=>cases ry; exact PySem.EqNone.ne_int_none (fin_bl I q (by simp))
  | int j=>obtain ⟨t',rfl⟩:=ry; exact ne_int (fin_bl I q (congrArg not dec_int))
  | str j=>obtain ⟨t',rfl⟩:=ry; exact PySem.EqMixed.ne_int_str (fin_bl I q (by simp))
  | _=>exact absurd (show false=true from hs) Bool.false_ne_true
 | str i =>
  obtain ⟨t,rfl⟩:=rx
  cases y with
  | non=>cases ry; exact PySem.EqNone.ne_str_none (fin_bl I q (by simp))
  | bl j=>cases ry; exact PySem.EqMixed.ne_str_bool (fin_bl I q (by simp))
  | int j=>obtain ⟨t',rfl⟩:=ry; exact PySem.EqMixed.ne_str_int (fin_bl I q (by simp))
  | str j=>obtain ⟨t',rfl⟩:=ry; exact ne_str (fin_bl I q (congrArg not dec_str))
  | _=>exact absurd (show false=true from hs) Bool.false_ne_true
 | byt i =>
  obtain ⟨t,rfl⟩:=rx
  cases y with
  | byt j=>obtain ⟨t',rfl⟩:=ry; exact PySem.W.ne_bytes (fin_bl I q (congrArg not dec_byt))
  | _=>exact absurd (show false=true from hs) Bool.false_ne_true
 | _=>cases y <;> exact absurd (show false=true from hs) Bool.false_ne_true
theorem op_lt:OpR X (compareOp .Lt) (rI0 fun i j=>.bl (decide (i < j))):=opB0 fun _ _ _ _ _ _ _ q=>lt_int q
theorem op_gt:OpR X (compareOp .Gt) (rI0 fun i j=>.bl (decide (j < i))):=opB0 fun _ _ _ _ _ _ _ q=>gt_int q
theorem op_ge:OpR X (compareOp .GtE) (rI0 fun i j=>.bl (decide (j≤i))):=opB0 fun _ _ _ _ _ _ _ q=>ge_int q
theorem nomark (b:Expr){op:CmpOp}(h:op ≠ .In:=by decide)(h2:op ≠ .NotIn:=by decide) : behindInMarks op b=false:=by
 have e1:(op == CmpOp.In)=false:=by cases op <;> first | rfl | exact absurd rfl h
 have e2:(op == CmpOp.NotIn)=false:=by cases op <;> first | rfl | exact absurd rfl h2
 cases b <;> simp [behindInMarks,e1,e2]
theorem pe_cmpR {op:CmpOp}{r:R2}(ho:OpR X (compareOp op) r)(ha:PE X a ta)(hb:PE X b tb)(hm:behindInMarks op b=false) : PE X (.Compare a [op] [b] pos) (tOp r ta tb):=by
 intro pins s σ H Q I h
 exact wpAny_Compare1 (binT ha hb I h fun v u s2 x y H2 I2 rx ry q=>ho pins s2 σ H2 x y v u Q I2 rx ry q) hm
def tTest (t:TE) : TT:=fun σ H Q=>t σ H fun x H'=>∃ k,x = .bl k∧Q k H'
theorem pt_cmpR {op:CmpOp}{r:R2}(ho:OpR X (compareOp op) r)(ha:PE X a ta)(hb:PE X b tb)(hm:behindInMarks op b=false) : PT X (.Compare a [op] [b] pos) (tTest (tOp r ta tb)):=by
 intro pins s σ H Q I h
 refine wpAny_isTrue_Compare1 (thn (ha pins s σ H _ I h) fun v s1 ⟨x,H1,I1,r1,q1⟩=>thn (hb pins s1 σ H1 _ I1 q1) fun u s2 ⟨y,H2,I2,r2,q2⟩ =>
  thn (ho pins s2 σ H2 x y v u _ I2 r1 r2 q2) fun c s3 ⟨z,H3,I3,r3,k,e,q3⟩=>?_) hm
 subst e
 cases r3
 exact wpAny_truthy_bool ⟨H3,I3,q3⟩
theorem line63:(sizeLine:Nat) < 2 ^ 63:=by rw [sizeLine_eq]; decide
theorem op_add_str:OpR X (binaryOp .Add) (fun x y H Q=>∃ i j,x = .str i∧y = .str j∧i.length + j.length≤sizeLine∧Q (.str (i ++ j)) H):=by
 intro pins s σ H x y v u Q I rx ry h
 obtain ⟨i,j,rfl,rfl,hz,q⟩:=h
 obtain ⟨t,rfl⟩:=rx
 obtain ⟨t',rfl⟩:=ry
 exact add_str (fun t' tk=>⟨.str (i ++ j),H,I.tok _,⟨_,rfl⟩,q⟩) hz
theorem vals1 {x:V}{us:List Value}(r:Vals [x] us) : ∃ u,us = [u]∧RelV x u:=by
 cases r with
 | cons r1 r2=>cases r2; exact ⟨_,rfl,r1⟩
theorem vals2 {x y:V}{us:List Value}(r:Vals [x,y] us) : ∃ u w',us = [u,w']∧RelV x u∧RelV y w':=by
 cases r with
 | cons r1 r2 =>
  cases r2 with
  | cons r3 r4=>cases r4; exact ⟨_,_,rfl,r1,r3⟩
theorem call_abs:CallR X (.builtin "abs") (fun xs H Q=>∃ i,xs = [.int i]∧Q (.int (if i < 0 then -i else i)) H):=by
 intro pins s σ H xs us Q I r h
 obtain ⟨i,rfl,q⟩:=h
 obtain ⟨u,rfl,t,rfl⟩:=vals1 r
 exact call_abs_int fun u tk=>⟨.int (if i < 0 then -i else i),H,I.tok _,⟨_,rfl⟩,q⟩
theorem call_int1:CallR X (.type "int") (fun xs H Q=>(∃ i,xs = [.int i]∧Q (.int i) H)∨∃ k,xs = [.bl k]∧Q (.int (if k then 1 else 0)) H):=by
 intro pins s σ H xs us Q I r h
 rcases h with ⟨i,rfl,q⟩ | ⟨k,rfl,q⟩
 ·obtain ⟨u,rfl,t,rfl⟩:=vals1 r
  exact call_int_int ⟨.int i,H,I,⟨_,rfl⟩,q⟩
 ·obtain ⟨u,rfl,r1⟩:=vals1 r
  cases r1
  exact call_int_bool ⟨.int (if k then 1 else 0),H,I.tok _,⟨_,rfl⟩,q⟩
end
end L2
namespace L2
open PySem PySem.Spec PyProof.Rows
structure ObjM (h:Heap) (x dx C:Addr) (mA:Str→Option Value) : Prop where
 obj:h.get? x=some (PySem.W.instObj C dx)
 ns:h.Ns1 dx mA
 ne:dx ≠ x
theorem lookIn_ns {h:Heap}{dx:Addr}{mA:Str→Option Value}(n:h.Ns1 dx mA) : ∃ od,h.get? dx=some od∧∀ name,PySem.W.lookIn name od=some (mA name):=by
 obtain ⟨o,es,ep,ho,hd,hk,_,hm⟩:=n
 refine ⟨o,ho,fun name=>?_⟩
 have e:=hm name
 unfold nsFind findBy at e
 rw [← Array.find?_toList] at e
 unfold PySem.W.lookIn
 rw [hd]
 dsimp only
 split
 ·rename_i y q
  rw [q] at e
  exact congrArg some e
 ·rename_i q
  rw [q] at e
  have a:es.toList.any (·.refKey)=false:=by
   rw [List.any_eq_false]
   intro y hy
   obtain ⟨z,t,hkey⟩:=hk y (Array.mem_toList_iff.mp hy)
   simp [DictEntry.refKey,hkey]
  have a':¬ es.toList.any (·.refKey)=true:=by rw [a]; exact Bool.false_ne_true
  rw [if_neg a']
  exact congrArg some e
theorem ObjM.look {h:Heap}{x dx C:Addr}{mA:Str→Option Value}(I:ObjM h x dx C mA) : ∃ od,PySem.W.InstAt h x (PySem.W.instObj C dx) C (some od)∧∀ name,PySem.W.lookIn name od=some (mA name) :=
 let ⟨od,ho,hl⟩:=lookIn_ns I.ns
 ⟨od,⟨I.obj,rfl,rfl,ho⟩,hl⟩
section
variable {prog:Program}{w:World}{A:Around}{E:Value→Shared→Prop}{s:Shared}{K:PySem.W.Frag}{x dx C f:Addr}{mA:Str→Option Value}{name:Str}{v:Value}
end
theorem RelO.some_of {v:V}{o:Option Value}(r:RelO (some v) o) : ∃ u,o=some u∧RelV v u:=by
 cases o with
 | none=>exact (show False from r).elim
 | some u=>exact ⟨u,rfl,r⟩
section
variable {P:Program}{w:World}{H H':Hp}{h h':Heap}{a C dx:Addr}{fs fs':List (Str × V)}
theorem ins_get (hok:HOk P w H h)(e:H a=some (.ins C dx fs)) : ∃ mA,ObjM h a dx C mA∧(∀ f,RelO (fs.lookup f) (mA f))∧PySem.Within mA (fs.map (·.1))∧fs.length≤1000∧H dx=some (.own a):=by
 obtain ⟨d,z,ne,ob,mA,n,r,q⟩:=(show ObjOk P w H h a (.ins C dx fs) from hok a _ e)
 exact ⟨mA,⟨ob,n,ne⟩,r,q,z,d⟩
end
structure Cls (K:PySem.W.Frag) (C:Addr) : Prop where
 pg:PySem.W.plainGet K C Str.empty=true
 hd:PySem.W.hasDictIn K C=true
 po:PySem.W.plainOver K C=true
 sa:PySem.W.findIn K (.ref C) "__setattr__" = some (some (.builtin "object.__setattr__"))
theorem Cls.get {K:PySem.W.Frag}{C:Addr}(c:Cls K C)(f:Str) : PySem.W.plainGet K C f=true:=c.pg
def NoAttr (K:PySem.W.Frag)(C:Addr)(f:Str) : Prop:=PySem.W.findIn K (.ref C) f=some none
structure Con (K:PySem.W.Frag) (C:Addr) (f:Str) (v:V) (u:Value) : Prop where
 at_:PySem.W.findIn K (.ref C) f=some (some u)
 rel:RelV v u
 get:PySem.W.specialIn K u "__get__" = some none
 cp:PySem.W.copiedNames.contains f=false
structure Meth (K:PySem.W.Frag) (C:Addr) (m:Str) (f:Addr) : Prop where
 at_:PySem.W.findIn K (.ref C) m=some (some (.ref f))
 fn:PySem.W.isFn K (.ref f)=true
 kp:PySem.W.keepIn K (.ref f)=true
section
variable {X:Cx}{pins:List (Addr × Obj)}{σ:St}{H:Hp}{s:Shared}{a C dx:Addr}{fs:List (Str × V)}{f:Str}{v:V}{A:Around}{E:Value→Shared→Prop}
end
section
variable {X:Cx}{o e value:Expr}{f:Str}{pos pos' tpos:Pos}{ta tv:TE}
end
section
variable {X:Cx}{pins:List (Addr × Obj)}{σ:St}{H:Hp}{s:Shared}{A:Around}{E:Value→Shared→Prop}{Q:Value→Shared→Prop}{c:Value}{b:Bool}
inductive TyOf (K:PySem.W.Frag) (H:Hp) : V→Value→Prop where
 | non:TyOf K H .non (.type "NoneType")
 | bl (x:Bool) : TyOf K H (.bl x) (.type "bool")
 | int (i:Int) : TyOf K H (.int i) (.type "int")
 | str (x:Str) : TyOf K H (.str x) (.type "str")
 | flt (x:UInt64) : TyOf K H (.flt x) (.type "float")
 | lst {a:Addr}{xs:List V}(e:H a=some (.lst xs)) : TyOf K H (.ref a) (.type "list")
 | frz {a:Addr}{o:Obj}{xs:List V}(e:H a=some (.frz o (.lst xs))) : TyOf K H (.ref a) (.type "list")
 | tup {a:Addr}{xs:List V}(e:H a=some (.tup xs)) : TyOf K H (.ref a) (.type "tuple")
 | dK {a:Addr}{kvs:List (Key × V)}(e:H a=some (.dK kvs)) : TyOf K H (.ref a) (.type "dict")
 | dT {a:Addr}{kvs:List (List Key × V)}(e:H a=some (.dT kvs)) : TyOf K H (.ref a) (.type "dict")
 | ins {a C dx:Addr}{fs:List (Str × V)}(e:H a=some (.ins C dx fs)) (cl:Cls K C) (ha:PySem.W.findIn K (.ref C) "__class__" = some (some (.builtin "object.__class__")))
   (hn:PySem.W.specialIn K (.builtin "object.__class__") "__get__" = some (some (.builtin "getset_descriptor.__get__"))) (htk:PySem.W.takesIn K (.builtin "object.__class__")=some true)
   (hm:PySem.W.mroIn K C (.type "object")=some true) : TyOf K H (.ref a) (.ref C)
theorem isinst_ok {x:V}{u t:Value}(I:Inv X pins σ H s) (rx:RelV x u) (ty:TyOf X.K H x t) (e:PySem.W.kitOne X.K t c=some b) (h:∀ tk,Q (.bool b) { s with toks:=tk }) :
  wpAny (model X.prog X.w) A (call (.builtin "isinstance") [u,c]) Q E s:=by
 cases ty with
 | non=>cases (show u=Value.none from rx); exact PySem.W.kia_one PySem.W.kitx_none I.kIn True.intro e (fun z=>nomatch z) h
 | bl y=>cases (show u=Value.bool y from rx); exact PySem.W.kia_one PySem.W.kitx_bool I.kIn True.intro e (fun z=>nomatch z) h
 | int i=>obtain ⟨t,q⟩:=(show ∃ t,u=Value.int i t from rx); cases q; exact PySem.W.kia_one PySem.W.kitx_int I.kIn True.intro e (fun z=>nomatch z) h
 | str y=>obtain ⟨t,q⟩:=(show ∃ t,u=Value.str y t from rx); cases q; exact PySem.W.kia_one PySem.W.kitx_str I.kIn True.intro e (fun z=>nomatch z) h
 | flt y=>obtain ⟨t,q⟩:=(show ∃ t,u=Value.float y t from rx); cases q; exact PySem.W.kia_one PySem.W.kitx_float I.kIn True.intro e (fun z=>nomatch z) h
 | @lst a xs ea =>
  cases (show u=Value.ref a from rx)
  obtain ⟨_,_,n,_,h1⟩:=(show ObjOk X.prog X.w H s.heap a (.lst xs) from I.hok a _ ea)
  exact PySem.W.kia_one PySem.W.kitx_list I.kIn ⟨_,h1,rfl⟩ e (fun z=>nomatch z) h
 | @frz a ob xs ea =>
  cases (show u=Value.ref a from rx)
  obtain ⟨_,_,_,n,_,h1⟩:=(show ObjOk X.prog X.w H s.heap a (.frz ob (.lst xs)) from I.hok a _ ea)
  exact PySem.W.kia_one PySem.W.kitx_list I.kIn ⟨_,h1,rfl⟩ e (fun z=>nomatch z) h
 | @tup a xs ea =>
  cases (show u=Value.ref a from rx)
  obtain ⟨_,_,_,p⟩:=(show ObjOk X.prog X.w H s.heap a (.tup xs) from I.hok a _ ea)
  obtain ⟨o,h1,h2,_⟩:=p
  exact PySem.W.kia_one PySem.W.kitx_tuple I.kIn ⟨o,h1,h2⟩ e (fun z=>nomatch z) h
 | @dK a kvs ea =>
  cases (show u=Value.ref a from rx)
  obtain ⟨_,_,vs,_,p⟩:=(show ObjOk X.prog X.w H s.heap a (.dK kvs) from I.hok a _ ea)
  obtain ⟨o,es,ep,h1,h2,_⟩:=p
  exact PySem.W.kia_one PySem.W.kitx_dict I.kIn ⟨o,h1,h2.1⟩ e (fun z=>nomatch z) h
 | @dT a kvs ea =>
  cases (show u=Value.ref a from rx)
  obtain ⟨_,_,xs,_,o,es,ep,h1,h2,_⟩:=(show ObjOk X.prog X.w H s.heap a (.dT kvs) from I.hok a _ ea)
  exact PySem.W.kia_one PySem.W.kitx_dict I.kIn ⟨o,h1,h2.1⟩ e (fun z=>nomatch z) h
 | @ins a C dx fs ea cl ha hn htk hm =>
  cases (show u=Value.ref a from rx)
  obtain ⟨mA,O,_⟩:=ins_get I.hok ea
  obtain ⟨od,J,_⟩:=O.look
  exact PySem.W.kia_one (PySem.W.kitx_own (cl.get _) cl.hd ha hn htk hm) I.kIn J e (fun z=>nomatch z) h
end
end L2
namespace L2
open PySem PySem.Spec PyProof.Rows
structure Room (k:Nat) (A:Around) : Prop where
 hd:A.handled=none
 dp:A.depth + 3 * k + 5 < recursionLimit
 un:A.units + 16 * k + 200 < cLine
 gd:A.guards=some []
theorem Room.mono {j k:Nat}{A:Around}(r:Room k A)(h:j≤k) : Room j A:=⟨r.hd,by have:=r.dp; omega,by have:=r.un; omega,r.gd⟩
theorem Room.deeper {k:Nat}{A:Around}(r:Room (k + 1) A)(env:Env) : Room k (A.deeper env) :=
 ⟨r.hd,by have:=r.dp; show A.depth + 1 + 3 * k + 5 < _; omega,by have:=r.un; show A.units + 3 + 16 * k + 200 < _; omega,r.gd⟩
theorem make_depth {A:Around}{C:Addr}{us:List Value}{kw:List (Str × Value)} : (A.under (.builtin "type.__call__" ⟨.ref C :: us,kw⟩)).depth=A.depth + 1:=by
 first | rfl | simp [Around.under,Code.weight,Code.isCreation,Code.isGuard,Code.isCaller,Code.frames,Code.isFrame,guardIds]
theorem make_units {A:Around}{C:Addr}{us:List Value}{kw:List (Str × Value)} : (A.under (.builtin "type.__call__" ⟨.ref C :: us,kw⟩)).units=A.units + 1:=by
 first | rfl | simp [Around.under,Code.cUnits,Code.frames,Code.isFrame]
theorem Room.make {k:Nat}{A:Around}(r:Room (k + 1) A)(C:Addr)(us:List Value)(kw:List (Str × Value)) : Room k (A.under (.builtin "type.__call__" ⟨.ref C :: us,kw⟩)) :=
 ⟨r.hd,by have:=r.dp; rw [make_depth]; omega,by have:=r.un; rw [make_units]; omega,by have:=r.gd; first | exact this | simpa [Around.under,Code.isGuard,guardIds] using this⟩
theorem Room.depth {k:Nat}{A:Around}(r:Room k A) : A.depth < recursionLimit:=by have:=r.dp; omega
theorem Room.units {k:Nat}{A:Around}(r:Room k A) : A.units + 64 < cLine:=by have:=r.un; omega
theorem Room.units0 {k:Nat}{A:Around}(r:Room k A) : A.units < cLine:=by have:=r.un; omega
def tNil:TA:=fun _ H Q=>Q [] H
def tCons (ta:TE)(tr:TA) : TA:=fun σ H Q=>ta σ H fun x H1=>tr σ H1 fun xs H2=>Q (x :: xs) H2
section
variable {X:Cx}{e:Expr}{es:List Expr}{te:TE}{t:TA}{pos:Pos}
theorem pa_nil:PA X [] tNil:=fun _ _ _ _ H Q I h=>Calls.spliced_nil ⟨[],H,I,.nil,h⟩
theorem pa_cons (ha:PE X e te)(hr:PA X es t)(hs:starEach (e :: es) X.env=(false,eval e X.env) :: starEach es X.env:=by rfl) : PA X (e :: es) (tCons te t):=by
 intro pos pins s σ H Q I h
 rw [hs]
 show wpAny _ _ (spliced ((false,eval e X.env) :: backTo pos (starEach es X.env))) _ _ s
 refine Calls.spliced_cons (thn (ha pins s σ H _ I h) fun u s1 ⟨x,H1,I1,r1,q1⟩=>?_)
 exact thn (hr pos pins s1 σ H1 _ I1 q1) fun us s2 ⟨xs,H2,I2,r2,q2⟩=>⟨x :: xs,H2,I2,.cons r1 r2,q2⟩
def tTup (t:TA) : TE:=fun σ H Q=>t σ H fun xs H1=>xs.length≤sizeLine∧∀ p,H1 p=none→Q (.ref p) (upd H1 p (.tup xs))
def tLst (t:TA) : TE:=fun σ H Q=>t σ H fun xs H1=>xs.length≤sizeLine∧∀ p,H1 p=none→Q (.ref p) (upd H1 p (.lst xs))
theorem pe_tup {x1}(h:PA X es t) : PE X (.Tuple es x1 pos) (tTup t):=by
 intro pins s σ H Q I hq
 refine wpAny_Tuple_spliced (thn (h pos pins s σ H _ I hq) fun us s1 ⟨xs,H1,I1,r,z,q⟩=>⟨by rw [← r.length]; exact z,?_⟩)
 have hf:H1 s1.heap.objs.size=none:=I1.hok.fresh (Nat.le_refl _)
 refine ⟨.ref s1.heap.objs.size,upd H1 s1.heap.objs.size (.tup xs),I1.laid (t':=s1.toks) (fun b u e=>Heap.get?_push_of_some _ e) (Nat.le_refl _) ?_,rfl,q _ hf⟩
 exact ⟨z,us,r,⟨_,Heap.get?_push_size _ rfl,rfl,_,rfl⟩⟩
theorem pe_lst (h:PA X es t) : PE X (.List es pos) (tLst t):=by
 intro pins s σ H Q I hq
 refine wpAny_List_spliced (thn (h pos pins s σ H _ I hq) fun us s1 ⟨xs,H1,I1,r,z,q⟩=>⟨by rw [← r.length]; exact z,?_⟩)
 have hf:H1 s1.heap.objs.size=none:=I1.hok.fresh (Nat.le_refl _)
 refine ⟨.ref s1.heap.objs.size,upd H1 s1.heap.objs.size (.lst xs),I1.laid (t':=s1.toks) (fun b u e=>Heap.get?_push_of_some _ e) (Nat.le_refl _) ?_,rfl,q _ hf⟩
 exact ⟨z,us,0,r,Heap.get?_push_size _ rfl⟩
end
abbrev Sp:=List V→Hp→VK→XK→Prop
abbrev CXT:=List Env→Hp→Shared→XK→Value→Shared→Prop
structure Env0 (P:Program) (w:World) (K:PySem.W.Frag) (mg:Str→Option Value) (base:Heap) (A:Around) (outer:List Env) (s:Shared) (H:Hp) : Prop where
 frames:A.frames=some outer
 mod:Mod K mg base
 bs:∀ b o,base.get? b=some o→s.heap.get? b=some o∧H b=none
 bsz:base.objs.size≤s.heap.objs.size
 funs:s.heap.FunFrames base outer
 frf:∀ b∈frs outer,H b=none
 hok:HOk P w H s.heap
 bare:AllBare s.gens
def CE (outer:List Env)(P:Program)(w:World)(H:Hp)(s:Shared)(Q:VK)(u:Value)(s':Shared) : Prop :=
 ∃ v H',s'.os=s.os∧AllBare s'.gens∧Un (frs outer) [] H H' s.heap s'.heap∧HOk P w H' s'.heap∧RelV v u∧Q v H'
def CR (CX:CXT)(outer:List Env)(P:Program)(w:World)(H:Hp)(s:Shared)(Q:VK)(E:XK)(r:Result)(s':Shared) : Prop :=
 match r with
 | .ok (.ret u)=>CE outer P w H s Q u s'
 | .ok _=>False
 | .error e=>CX outer H s E e s'
structure FnOk (P:Program) (w:World) (K:PySem.W.Frag) (mg:Str→Option Value) (base:Heap) (CX:CXT) (k:Nat) (f:Addr) (fd:FuncData) (ps:List Str) (sp:Sp) : Prop where
 len:∀ vs H Q E,sp vs H Q E→vs.length=ps.length
 run:∀ (A:Around) (outer:List Env) (s:Shared) (H:Hp) (args:Args) (us:List Value) (vs:List V) (Q:VK) (E:XK),Room k A→Env0 P w K mg base A outer s H→BindsTo s fd args (ps.zip us)→Vals vs us→sp vs H Q E →
  codeAny (model P w) A (.call (.ref f) args) (CR CX outer P w H s Q E) s
theorem Env0.make {P:Program}{w:World}{K:PySem.W.Frag}{mg:Str→Option Value}{base:Heap}{A:Around}{outer:List Env}{s:Shared}{H:Hp}(e:Env0 P w K mg base A outer s H) (C:Addr) (us:List Value) (kw:List (Str × Value)) :
  Env0 P w K mg base (A.under (.builtin "type.__call__" ⟨.ref C :: us,kw⟩)) outer s H:=⟨by first | exact e.frames | (simpa [Around.under,Code.envs,Code.isFrame,pushEnvs] using e.frames),e.mod,e.bs,e.bsz,e.funs,e.frf,e.hok,e.bare⟩
section
variable {X:Cx}{pins:List (Addr × Obj)}{σ:St}{H:Hp}{s s':Shared}
theorem Inv.env0 (I:Inv X pins σ H s) : Env0 X.prog X.w X.K X.mg X.base X.A X.stack s H :=
 ⟨I.ok.frames,I.ok.mod,I.bs,Nat.le_trans I.ok.bsz I.sz,I.stack,I.stkFree,I.hok,I.bare⟩
theorem Inv.after {Q:VK}{u:Value}(I:Inv X pins σ H s)(h:CE X.stack X.prog X.w H s Q u s') : EP X pins σ Q u s':=by
 obtain ⟨v,H',os,bare,un,hok,r,q⟩:=h
 obtain ⟨hh,g,d,t,os'⟩:=s'
 obtain rfl:os'=s.os:=os
 exact ⟨v,H',I.call (h':=hh) (g':=g) (d':=d) (t':=t) (ch:=[]) un hok bare (fun b z=>absurd z (by simp)),r,q⟩
end
def tCall (sp:Sp)(dvs:List V)(E:XK)(t:TA) : TE:=fun σ H Q=>t σ H fun vs H1=>sp (vs ++ dvs) H1 Q E
def Binds (K:PySem.W.Frag)(fd:FuncData)(ps:List Str)(ds:List Value) : Prop :=
 ∀ (s:Shared) (us:List Value),K.In s.heap→(us ++ ds).length=ps.length→BindsTo s fd ⟨us,[]⟩ (ps.zip (us ++ ds))
theorem Binds.all {K:PySem.W.Frag}{fd:FuncData}{ps:List Str}(h:∀ us:List Value,us.length=ps.length→bindArgs fd ⟨us,[]⟩=pure (ps.zip us)) : Binds K fd ps []:=fun s us _ hl=>by
 rw [List.append_nil] at hl ⊢
 exact .of_eq (h us hl)
def Passes (CX:CXT)(X:Cx)(E:XK) : Prop:=∀ (pins:List (Addr × Obj)) (σ:St) (H:Hp) (s:Shared) (e:Value) (s':Shared),Inv X pins σ H s→CX X.stack H s E e s'→X.xe e s'
section
variable {X:Cx}{CX:CXT}{k:Nat}{f C:Addr}{fd:FuncData}{ps:List Str}{sp:Sp}{dvs:List V}{ds:List Value}{E:XK}{x m:Str}{p pos apos:Pos}{e o:Expr}{es:List Expr}{ta:TE}{t:TA}
theorem run_fn {pins:List (Addr × Obj)}{σ:St}{H:Hp}{s:Shared}{Q:VK}{us:List Value}{vs:List V}(F:FnOk X.prog X.w X.K X.mg X.base CX k f fd ps sp) (hr:Room k X.A) (hb:Binds X.K fd ps ds) (hd:Vals dvs ds) (hx:Passes CX X E)
  (I:Inv X pins σ H s) (r:Vals vs us) (h:sp (vs ++ dvs) H Q E) : wpAny (model X.prog X.w) X.A (call (.ref f) us) (EP X pins σ Q) X.xe s:=by
 have r2:Vals (vs ++ dvs) (us ++ ds):=r.append hd
 have hl:(us ++ ds).length=ps.length:=by rw [← r2.length]; exact F.len _ _ _ _ h
 refine wpAny_call (codeAny_mono (F.run X.A X.stack s H ⟨us,[]⟩ (us ++ ds) (vs ++ dvs) Q E hr I.env0 (hb s us I.kIn hl) r2 h) fun r s' hq=>?_)
 cases r with
 | error e=>exact hx pins σ H s e s' I hq
 | ok fl =>
  cases fl with
  | ret u=>exact I.after hq
  | next=>exact False.elim hq
  | brk=>exact False.elim hq
  | cont=>exact False.elim hq
theorem pe_call (F:FnOk X.prog X.w X.K X.mg X.base CX k f fd ps sp) (hr:Room k X.A) (hg:Gl X x) (hm:X.mg x=some (.ref f)) (hk:PySem.W.keepIn X.K (.ref f)=true) (hb:Binds X.K fd ps ds) (hd:Vals dvs ds) (hx:Passes CX X E)
  (ha:PA X (e :: es) t) (hdb:(x == ("__debug__" : Str))=false:=by decide) (he:starEach (e :: es) X.env=(false,eval e X.env) :: starEach es X.env:=by rfl) (hpl:(backTo pos (starEach es X.env)).any (·.1)=false:=by rfl) :
  PE X (.Call (.Name x p) (e :: es) [] pos) (tCall sp dvs E t):=by
 intro pins s σ H Q I h
 refine wpAny_Call_Name_kw (ld_glob I hg hm ?_ hdb)
 refine PySem.W.callWith_K (h₀:=X.base) I.ok.mod.kin hk (thn (ha pos pins s σ H _ I h) fun us s1 ⟨vs,H1,I1,r,q⟩=>⟨I1.kIn,?_⟩) he hpl
 exact run_fn F hr hb hd hx I1 r q
structure Mk (K:PySem.W.Frag) (C f:Addr) : Prop where
 makes:PySem.W.makesIn K C=true
 init:PySem.W.findIn K (.ref C) "__init__" = some (some (.ref f))
 fn:PySem.W.isFn K (.ref f)=true
 kp:PySem.W.keepIn K (.ref C)=true
end
section
variable {X:Cx}{CX:CXT}{k:Nat}{f C:Addr}{fd:FuncData}{ps ks:List Str}{sp:Sp}{E:XK}{x m:Str}{p pos apos kpos:Pos}{e o:Expr}{es:List Expr}{kws:List Keyword}{te ta:TE}{t tk:TA}{nm:Option Str}
structure KBinds (K:PySem.W.Frag) (fd:FuncData) (ps ks:List Str) (g:List Value→List Value→List Value) (gV:List V→List V→List V) : Prop where
 to:∀ (s:Shared) (us ws:List Value),K.In s.heap→(g us ws).length=ps.length→BindsTo s fd ⟨us,ks.zip ws⟩ (ps.zip (g us ws))
 rel:∀ {vs:List V}{us:List Value}{zs:List V}{ws:List Value},Vals vs us→Vals zs ws→Vals (gV vs zs) (g us ws)
variable {g:List Value→List Value→List Value}{gV:List V→List V→List V}
end
structure FnScope (N P:List Str) (sc:Scope) : Prop where
 kind:sc.kind = .function
 co:sc.isCoroutine=false
 gen:sc.isGenerator=false
 nd:N.Nodup
 pre:N.take P.length=P
 par:∀ x∈P,sc.names.lookup x=some .local∨sc.names.lookup x=some .cell
 nofree:∀ y∈sc.names,y.2 ≠ .free
theorem bindL_out {kindOf:Str→Option NameKind}{x:Str} : ∀ {binds:List (Str × Value)}{m:Str→Option Value},(∀ v,(x,v) ∉ binds)→bindL kindOf binds m x=m x
 | [],_,_=>rfl
 | (n,v) :: r,m,h=>by
  unfold bindL
  rw [bindL_out fun w hw=>h w (List.mem_cons_of_mem _ hw)]
  split
  ·have:x ≠ n:=by rintro rfl; exact h v List.mem_cons_self
   simp [this]
  ·rfl
theorem bindC_out {kindOf:Str→Option NameKind}{x:Str} : ∀ {binds:List (Str × Value)}{m:Str→Option Value},(∀ v,(x,v) ∉ binds)→bindC kindOf binds m x=m x
 | [],_,_=>rfl
 | (n,v) :: r,m,h=>by
  unfold bindC
  rw [bindC_out fun w hw=>h w (List.mem_cons_of_mem _ hw)]
  split
  ·rfl
  ·have:x ≠ n:=by rintro rfl; exact h v List.mem_cons_self
   simp [this]
theorem bindL_get {kindOf:Str→Option NameKind}{x:Str}{v:Value} : ∀ {P:List Str}{vs:List Value}{i:Nat}{m:Str→Option Value},P.Nodup→P[i]? = some x→vs[i]? = some v→kindOf x=some .local →
  bindL kindOf (P.zip vs) m x=some v
 | [],_,_,_,_,h,_,_=>by simp at h
 | _ :: _,[],_,_,_,_,h,_=>by simp at h
 | p :: P,w :: vs,0,m,nd,h1,h2,hk=>by
  simp at h1 h2; subst h1; subst h2
  show bindL kindOf ((p,w) :: P.zip vs) m p=_
  unfold bindL
  rw [bindL_out fun v hv=>(List.nodup_cons.mp nd).1 (List.of_mem_zip hv).1,if_pos hk]
  simp
 | p :: P,w :: vs,i + 1,m,nd,h1,h2,hk=>by
  show bindL kindOf ((p,w) :: P.zip vs) m x=_
  unfold bindL
  exact bindL_get (i:=i) (List.nodup_cons.mp nd).2 (by simpa using h1) (by simpa using h2) hk
theorem bindC_get {kindOf:Str→Option NameKind}{x:Str}{v:Value} : ∀ {P:List Str}{vs:List Value}{i:Nat}{m:Str→Option Value},P.Nodup→P[i]? = some x→vs[i]? = some v→kindOf x ≠ some .local →
  bindC kindOf (P.zip vs) m x=some v
 | [],_,_,_,_,h,_,_=>by simp at h
 | _ :: _,[],_,_,_,_,h,_=>by simp at h
 | p :: P,w :: vs,0,m,nd,h1,h2,hk=>by
  simp at h1 h2; subst h1; subst h2
  show bindC kindOf ((p,w) :: P.zip vs) m p=_
  unfold bindC
  rw [bindC_out fun v hv=>(List.nodup_cons.mp nd).1 (List.of_mem_zip hv).1,if_neg hk]
  simp
 | p :: P,w :: vs,i + 1,m,nd,h1,h2,hk=>by
  show bindC kindOf ((p,w) :: P.zip vs) m x=_
  unfold bindC
  exact bindC_get (i:=i) (List.nodup_cons.mp nd).2 (by simpa using h1) (by simpa using h2) hk
def start (N:List Str)(vs:List V) : St:=vs.map some ++ List.replicate (N.length - vs.length) none
def cxOf (CX:CXT)(P:Program)(w:World)(K:PySem.W.Frag)(mg:Str→Option Value)(base:Heap)(N:List Str)(qual:Str)(scope:Scope)(f:Addr)(cd:Value)(A:Around)(outer:List Env)(s:Shared)(H:Hp)(E:XK) : Cx where
 prog:=P
 w:=w
 K:=K
 mg:=mg
 base:=base
 A:=A.deeper (envOfC qual scope s.heap.objs.size f cd)
 N:=N
 s₀:=s
 H₀:=H
 env:=envOfC qual scope s.heap.objs.size f cd
 outer:=outer
 stack:=envOfC qual scope s.heap.objs.size f cd :: outer
 ex:=[]
 calm:=true
 fn:=fun _=>true
 pn:=[]
 xe:=fun e s'=>wpAny (model P w) (A.deeper (envOfC qual scope s.heap.objs.size f cd)) (leaving (envOfC qual scope s.heap.objs.size f cd) e) (fun _ s''=>CX outer H s E e s'') (fun e' s''=>CX outer H s E e' s'') s'
theorem cell_has {sc:Scope}{n:Nat}{x:Str}(h:sc.names.lookup x=some .cell) : ∃ c,(cellsFrom n sc.names []).lookup x=some c:=by
 have q:=PySem.W.cellsFrom_some sc.names n [] (.inl h)
 exact Option.isSome_iff_exists.mp q
theorem inv_start {CX:CXT}{P:Program}{w:World}{K:PySem.W.Frag}{mg:Str→Option Value}{base:Heap}{N ps:List Str}{qual:Str}{scope:Scope}{f:Addr}{cd:Value}{A:Around}{outer:List Env}{s s1:Shared}{H:Hp}{E:XK}{us:List Value}{vs:List V}
  (S:FnScope N ps scope) (hd:A.handled=none) (e0:Env0 P w K mg base A outer s H) (hl:vs.length=ps.length) (r:Vals vs us)
  (x:InCallC s s.heap.objs.size (bindL (envOfC qual scope s.heap.objs.size f cd).kindOf (ps.zip us) fun _=>none) (cellsFrom (s.heap.objs.size + 1) scope.names []) (bindC (envOfC qual scope s.heap.objs.size f cd).kindOf (ps.zip us) fun _=>none) s1) :
  Inv (cxOf CX P w K mg base N qual scope f cd A outer s H E) [] (start N vs) H s1:=by
 have hpl:ps.length≤N.length:=by have:=congrArg List.length S.pre; rw [List.length_take] at this; omega
 obtain ⟨h1,tk,rfl,hk⟩:=x.done
 have noA:∀ b:Addr,b ∉ (cxOf CX P w K mg base N qual scope f cd A outer s H E).ex:=fun b z=>absurd (show b∈([] : List Addr) from z) (by simp)
 refine ⟨⟨e0.mod,S.kind,rfl,rfl,Nat.le_refl _,fun y z c h1 h2=>?_,fun y hy=>?_,fun y c _ h=>?_,fun _=>hd,Around.frames_deeper e0.frames,.inr ⟨rfl,rfl⟩,fun b z=>absurd z (noA b),e0.bs,e0.bsz,fun b _ _=>noA b,fun b z=>absurd z (noA b),e0.funs,e0.frf⟩,
  rfl,e0.bare,Un.kept hk,⟨_,x.toInCall.ns,fun i y v h1 h2 h3=>?_⟩,fun y c h=>⟨_,x.cell y c h⟩,e0.hok.fresh (Nat.le_refl _),fun y c h=>?_,fun p hp=>absurd (show p∈([] : List (Addr × Obj)) from hp) (by simp),e0.hok.kept hk,?_⟩
 ·exact name_of_addr x.apart (PySem.mem_of_lookup h1) (PySem.mem_of_lookup h2)
 ·have hy:scope.names.lookup y=some .cell∨scope.names.lookup y=some .free:=hy
  rcases hy with hy | hy
  ·exact cell_has hy
  ·exact absurd rfl (S.nofree _ (PySem.mem_of_lookup hy))
 ·exact Nat.le_of_lt (x.above y c (PySem.mem_of_lookup h))
 ·have hi:i < vs.length:=by
   unfold start at h2
   by_cases hi:i < vs.length
   ·exact hi
   ·rw [List.getElem?_append_right (by simpa using hi)] at h2
    rw [List.getElem?_replicate] at h2
    split at h2 <;> cases h2
  have ha:vs[i]? = some v:=by
   unfold start at h2
   rw [List.getElem?_append_left (by simpa using hi),List.getElem?_map] at h2
   cases e:vs[i]? with
   | none=>rw [e] at h2; cases h2
   | some a=>rw [e] at h2; cases h2; rfl
  obtain ⟨u,hu,rv⟩:=r.get ha
  have hp:ps[i]? = some y:=by
   rw [← S.pre,List.getElem?_take_of_lt (by omega)]; exact h1
  have ndP:ps.Nodup:=by rw [← S.pre]; exact S.nd.sublist (List.take_sublist _ _)
  refine ⟨u,rv,?_⟩
  rcases S.par y (List.mem_of_getElem? hp) with k | k
  ·exact .inl ⟨k,bindL_get ndP hp hu k⟩
  ·obtain ⟨c,e⟩:=cell_has (n:=s.heap.objs.size + 1) k
   refine .inr ⟨.inl k,c,e,?_⟩
   have q:=x.cell y c e
   rw [bindC_get ndP hp hu (by show scope.names.lookup y ≠ _; rw [k]; decide)] at q
   exact q
 ·exact e0.hok.fresh (Nat.le_of_lt (x.above y c (PySem.mem_of_lookup h)))
 ·unfold start
  show _=N.length
  rw [List.length_append,List.length_map,List.length_replicate]
  omega
theorem fn_of {CX:CXT}{P:Program}{w:World}{K:PySem.W.Frag}{mg:Str→Option Value}{base:Heap}{k:Nat}{f:Addr}{name qual:Str}{params:Arguments}{body:List Stmt}{scope:Scope}{dV kV doc pm cdv ct oc:Value}{an od:Option Addr}
  {osl:Array (Option Value)}{N ps:List Str}{sp:Sp}(lk:K.lookup f=some ⟨oc,od,.func (PySem.W.fnOf name qual params body scope dV kV doc pm an cdv ct),osl⟩) (hcd:PySem.W.codeIn K cdv qual=true) (S:FnScope N ps scope)
  (len:∀ vs H Q E,sp vs H Q E→vs.length=ps.length)
  (hbody:∀ (A:Around) (outer:List Env) (s:Shared) (H:Hp) (vs:List V) (Q:VK) (E:XK),Room k (A.deeper (envOfC qual scope s.heap.objs.size f cdv))→sp vs H Q E →
   ∃ t,PSs (cxOf CX P w K mg base N qual scope f cdv A outer s H E) body t∧t { nx:=fun _ H'=>Q .non H',rt:=Q } (start N vs) H) :
  FnOk P w K mg base CX (k + 1) f (PySem.W.fnOf name qual params body scope dV kV doc pm an cdv ct) ps sp:=by
 refine ⟨len,fun A outer s H args us vs Q E hr e0 hb r hsp=>?_⟩
 have hl:=len _ _ _ _ hsp
 have KX:K.In s.heap:=e0.mod.kin.keeps fun b o e=>(e0.bs b o e).1
 have lim:s.heap.NoLimit:=e0.mod.nolimit.keeps fun b o e=>(e0.bs b o e).1
 have hkind:∀ y∈ps.zip us,scope.names.lookup y.1=some .local∨(scope.names.lookup y.1=some .cell∧((cellsFrom (s.heap.objs.size + 1) scope.names []).lookup y.1).isSome=true):=fun ⟨n,v⟩ hy=>by
  rcases S.par n (List.of_mem_zip hy).1 with q | q
  ·exact .inl q
  ·exact .inr ⟨q,PySem.W.cellsFrom_some _ _ _ (.inl q)⟩
 refine codeAny_call_function hr.depth (KX _ _ lk) rfl S.co S.gen rfl (PySem.W.codeRec_of KX hcd) (hb _ _ _ _ ?_)
 refine wpAny_newFunctionEnv_cells S.kind hkind fun env he s1 x=>?_
 subst he
 refine ⟨lim.keeps x.toInCall.keep,codeAny_func ?_⟩
 obtain ⟨t,ht,hq⟩:=hbody A outer s H vs Q E (hr.deeper _) hsp
 have I:Inv (cxOf CX P w K mg base N qual scope f cdv A outer s H E) [] (start N vs) H s1:=inv_start S hr.hd e0 hl r x
 refine wpAny_mono (ht [] s1 (start N vs) H _ I hq) (fun fl s' hs=>?_) fun e s' hs=>hs
 have fin:∀ {σ':St}{H':Hp}{v:V}{u:Value},Inv (cxOf CX P w K mg base N qual scope f cdv A outer s H E) [] σ' H' s'→RelV v u→Q v H'→CE outer P w H s Q u s' :=
  fun {σ' H' v u} J rv q=>⟨v,H',J.os,J.bare,J.base,J.hok,rv,q⟩
 cases fl with
 | ret u =>
  obtain ⟨v,σ',H',J,rv,q⟩:=hs
  exact fin J rv q
 | next =>
  obtain ⟨σ',H',J,q⟩:=hs
  exact fin (v:=V.non) (u:=Value.none) J rfl q
 | brk =>
  obtain ⟨_,_,_,q⟩:=hs
  exact False.elim q
 | cont =>
  obtain ⟨_,_,_,q⟩:=hs
  exact False.elim q
end L2
namespace L2
open PySem PySem.Spec PyProof.Rows
section
variable {X:Cx}{x:Str}{p pos:Pos}{e:Expr}{es:List Expr}{t:TA}{id T:String}{r:List V→Hp→VK→Prop}
def tCB (r:List V→Hp→VK→Prop)(t:TA) : TE:=fun σ H Q=>t σ H fun vs H1=>r vs H1 Q
theorem pe_callB (hc:CallR X (.builtin id) r) (hg:Gl X x) (hm:X.mg x=none) (hv:bootBuiltins x=some (.builtin id)) (ha:PA X (e :: es) t) (hn:x ≠ "__name__" := by decide) (hdb:(x == ("__debug__" : Str))=false:=by decide)
  (he:starEach (e :: es) X.env=(false,eval e X.env) :: starEach es X.env:=by rfl) (hpl:(backTo pos (starEach es X.env)).any (·.1)=false:=by rfl) : PE X (.Call (.Name x p) (e :: es) [] pos) (tCB r t):=by
 intro pins s σ H Q I h
 refine wpAny_Call_Name_kw (ld_blt I hg hm hv ?_ hn hdb)
 exact PyProof.Rows.callWith_builtin1 (thn (ha pos pins s σ H _ I h) fun us s1 ⟨vs,H1,I1,r1,q1⟩=>hc pins s1 σ H1 vs us Q I1 r1 q1) he hpl
theorem pe_callTy (hc:CallR X (.type T) r) (hg:Gl X x) (hm:X.mg x=none) (hv:bootBuiltins x=some (.type T)) (ha:PA X (e :: es) t) (hn:x ≠ "__name__" := by decide) (hdb:(x == ("__debug__" : Str))=false:=by decide)
  (he:starEach (e :: es) X.env=(false,eval e X.env) :: starEach es X.env:=by rfl) (hpl:(backTo pos (starEach es X.env)).any (·.1)=false:=by rfl) : PE X (.Call (.Name x p) (e :: es) [] pos) (tCB r t):=by
 intro pins s σ H Q I h
 refine wpAny_Call_Name_kw (ld_blt I hg hm hv ?_ hn hdb)
 exact PyProof.Rows.callWith_type1 (thn (ha pos pins s σ H _ I h) fun us s1 ⟨vs,H1,I1,r1,q1⟩=>hc pins s1 σ H1 vs us Q I1 r1 q1) he hpl
end
end L2
namespace HT
open PySem PyProof.Rows
section
open PySem.SeqAt
open PySem.AutoSeq1 (wpAny_loadPart')
open PySem.MeetsSeq PySem.MeetsSeq2 PySem.MeetsSeq3
end
section
variable {prog:Program}{w:World}{A:Around}{E:Value→Shared→Prop}{s:Shared}
def sIx (n d:Nat) : Option Int→Nat
 | none=>d
 | some v=>if v < 0 then (v + (n:Int)).toNat else min v.toNat n
theorem sIx_nat (n d k:Nat) : sIx n d (some (k:Int))=min k n:=by
 show (if (k:Int) < 0 then ((k:Int) + (n:Int)).toNat else min (k:Int).toNat n)=min k n
 rw [if_neg (by omega),Int.toNat_natCast]
end
end HT
namespace L2
open PySem PySem.Spec PyProof.Rows
abbrev TO:=St→Hp→(Option Int→Hp→Prop)→Prop
def PO (X:Cx)(e:Option Expr)(t:TO) : Prop :=
 ∀ (pins:List (Addr × Obj)) (s:Shared) (σ:St) (H:Hp) (Q:Option Int→Hp→Prop),Inv X pins σ H s→t σ H Q →
  wpAny (model X.prog X.w) X.A (evalPart e X.env) (fun u s'=>∃ o H',Inv X pins σ H' s'∧IsPart u o∧Q o H') X.xe s
def tNoPart:TO:=fun _ H Q=>Q none H
def tPart (t:TE) : TO:=fun σ H Q=>t σ H fun x H1=>∃ i,x = .int i∧Q (some i) H1
section
variable {X:Cx}{e:Expr}{te:TE}{lo hi:Option Expr}{tl th:TO}{pos p2:Pos}
theorem po_none:PO X none tNoPart:=by
 intro pins s σ H Q I h
 rw [evalPart_none]
 exact wpAny_pure ⟨none,H,I,.none,h⟩
theorem po_some (h:PE X e te) : PO X (some e) (tPart te):=by
 intro pins s σ H Q I hw
 rw [evalPart_some]
 refine thn (h pins s σ H _ I hw) fun u s1 ⟨x,H1,I1,r1,q1⟩=>?_
 obtain ⟨i,rfl,q⟩:=q1
 obtain ⟨t,rfl⟩:=r1
 exact ⟨some i,H1,I1,.int i t,q⟩
def SlR (X:Cx)(r:V→Option Int→Option Int→Hp→VK→Prop) : Prop :=
 ∀ (pins:List (Addr × Obj)) (s:Shared) (σ:St) (H:Hp) (x:V) (v vl vu:Value) (lo hi:Option Int) (sl:Addr) (Q:VK),Inv X pins σ H s→RelV x v→s.heap.IsSliceOf sl vl vu .none→IsPart vl lo→IsPart vu hi→r x lo hi H Q →
  ∃ T id,typeLookup (.type T) "__getitem__" = pure (some (.builtin id))∧s.TypeIs v T∧wpAny (model X.prog X.w) X.A (getItem v (.ref sl)) (EP X pins σ Q) X.xe s
def tSl (r:V→Option Int→Option Int→Hp→VK→Prop)(te:TE)(tl th:TO) : TE:=fun σ H Q=>te σ H fun x H1=>tl σ H1 fun l H2=>th σ H2 fun u H3=>r x l u H3 Q
theorem pe_slice {r:V→Option Int→Option Int→Hp→VK→Prop}(hr:SlR X r)(he:PE X e te)(hl:PO X lo tl)(hu:PO X hi th) : PE X (.Subscript e (.Slice lo hi none p2) pos) (tSl r te tl th):=by
 intro pins s σ H Q I h
 refine Subscript_ (thn (he pins s σ H _ I h) fun v s1 ⟨x,H1,I1,r1,q1⟩=>?_)
 refine wpAny_Slice (thn (hl pins s1 σ H1 _ I1 q1) fun vl s2 ⟨l,H2,I2,pl,q2⟩=>thn (hu pins s2 σ H2 _ I2 q2) fun vu s3 ⟨u,H3,I3,pu,q3⟩=>?_)
 rw [evalPart_none]
 refine wpAny_pure ?_
 have I4:Inv X pins σ H3 { s3 with heap:=s3.heap.push { cls:=.type "slice", data:=.fields #[vl,vu,.none] } }:=I3.kept (t':=s3.toks) fun b ob q=>Heap.get?_push_of_some _ q
 obtain ⟨T,id,hT,ht,hg⟩:=hr pins { s3 with heap:=s3.heap.push { cls:=.type "slice", data:=.fields #[vl,vu,.none] } } σ H3 x v vl vu l u s3.heap.objs.size Q I4 r1 (Heap.IsSliceOf.new ..) pl pu q3
 show wpAny (model X.prog X.w) X.A (subscriptTail e (.Slice lo hi none p2) v (.ref s3.heap.objs.size)) (EP X pins σ Q) X.xe { s3 with heap:=s3.heap.push { cls:=.type "slice", data:=.fields #[vl,vu,.none] } }
 exact tail_any (ops:=[.ref s3.heap.objs.size,v]) ht hT hg (by with_unfolding_all rfl)
def cutV (xs:List V)(lo hi:Option Int) : List V:=(xs.drop (HT.sIx xs.length 0 lo)).take (HT.sIx xs.length xs.length hi - HT.sIx xs.length 0 lo)
theorem cutV_length (xs:List V)(lo hi:Option Int) : (cutV xs lo hi).length≤xs.length:=by
 unfold cutV
 rw [List.length_take,List.length_drop]
 omega
end
end L2
namespace L2
open PySem PySem.Spec PyProof.Rows
def ixN (n:Nat)(i:Int) : Option Nat:=if 0≤i then (if i < n then some i.toNat else none) else if -(n:Int)≤i then some (i + n).toNat else none
def atI {α:Type}(xs:List α)(i:Int) : Option α:=(ixN xs.length i).bind fun j=>xs[j]?
theorem ixN_seq {n:Nat}{i:Int}{j:Nat}(h:ixN n i=some j) : seqIndex? i n=some j∧j < n ∧ -(n:Int)≤i∧i < n:=by
 unfold ixN at h
 by_cases h0:0≤i
 ·rw [if_pos h0] at h
  by_cases h1:i < n
  ·rw [if_pos h1] at h
   have e:i.toNat=j:=Option.some.inj h
   exact ⟨by rw [seqIndex_of h0 h1,e],by omega,by omega,h1⟩
  ·rw [if_neg h1] at h; cases h
 ·rw [if_neg h0] at h
  by_cases h1 : -(n:Int)≤i
  ·rw [if_pos h1] at h
   have e:(i + n).toNat=j:=Option.some.inj h
   exact ⟨by rw [seqIndex_neg (by omega) h1,e],by omega,h1,by omega⟩
  ·rw [if_neg h1] at h; cases h
theorem atI_get {α:Type}{xs:List α}{i:Int}{v:α}(h:atI xs i=some v) : ∃ j,seqIndex? i xs.length=some j∧xs[j]? = some v∧j < xs.length ∧ -(xs.length:Int)≤i∧i < xs.length:=by
 unfold atI at h
 cases e:ixN xs.length i with
 | none=>rw [e] at h; cases h
 | some j =>
  rw [e] at h
  obtain ⟨h1,h2,h3,h4⟩:=ixN_seq e
  exact ⟨j,h1,h,h2,h3,h4⟩
theorem atI_nat {α:Type}{xs:List α}{j:Nat}{v:α}(h:xs[j]? = some v) : atI xs (j:Int)=some v:=by
 have hj:j < xs.length:=(List.getElem?_eq_some_iff.mp h).1
 have e:ixN xs.length (j:Int)=some j:=by
  unfold ixN
  rw [if_pos (by omega),if_pos (by omega)]; simp
 unfold atI; rw [e]; exact h
def PlainIx (b:Expr) : Prop:=∀ o i,subscripted b false o i=operate [o,i] (getItem o i)
def IxR (X:Cx)(r:R2) : Prop :=
 ∀ (value slice:Expr) (pins:List (Addr × Obj)) (s:Shared) (σ:St) (H:Hp) (x y:V) (v u:Value) (Q:VK),Inv X pins σ H s→RelV x v→RelV y u→r x y H Q →
  subscripted slice false v u=operate [v,u] (getItem v u)→wpAny (model X.prog X.w) X.A (subscriptTail value slice v u) (EP X pins σ Q) X.xe s
def MtR (X:Cx)(id:String)(r:V→List V→Hp→VK→Prop) : Prop :=
 ∀ (pins:List (Addr × Obj)) (s:Shared) (σ:St) (H:Hp) (x:V) (xs:List V) (v:Value) (us:List Value) (Q:VK),Inv X pins σ H s→RelV x v→Vals xs us→r x xs H Q →
  wpAny (model X.prog X.w) X.A (call (.builtin id) (v :: us)) (EP X pins σ Q) X.xe s
section
variable {X:Cx}{a b:Expr}{ta tb:TE}{pos:Pos}
theorem pe_ix {r:R2}(hr:IxR X r)(ha:PE X a ta)(hb:PE X b tb)(hs:PlainIx b) : PE X (.Subscript a b pos) (tOp r ta tb):=by
 intro pins s σ H Q I h
 exact Subscript_ (binT ha hb I h fun v u s2 x y H2 I2 rx ry q=>hr a b pins s2 σ H2 x y v u Q I2 rx ry q (hs _ _))
def rIxL (K:PySem.W.Frag) : R2:=fun x y H Q=>∃ p xs i v,x = .ref p∧y = .int i∧SqL K H p xs∧atI xs i=some v∧Q v H
def rIxT (K:PySem.W.Frag) : R2:=fun x y H Q=>∃ p xs i v,x = .ref p∧y = .int i∧SqT K H p xs∧atI xs i=some v∧Q v H
theorem ix_list:IxR X (rIxL X.K):=by
 intro value slice pins s σ H x y v u Q I rx ry h hs
 obtain ⟨p,xs,i,z,rfl,rfl,hq,he,q⟩:=h
 cases rx
 obtain ⟨t,rfl⟩:=ry
 obtain ⟨its,r,pl,hz⟩:=I.list hq
 obtain ⟨j,h1,h2,h3,h4,h5⟩:=atI_get he
 obtain ⟨w,ew,rw'⟩:=r.get h2
 have hl:=r.length
 have hn:=line63
 have fin:EP X pins σ Q w s:=⟨z,H,I,rw',q⟩
 by_cases h0:0≤i
 ·have hj:i.toNat=j:=by
   rw [seqIndex_of h0 h5] at h1
   exact Option.some.inj h1
  exact item_listR pl.isList h0 (by omega) (by rw [hj]; simpa using ew) fin hs
 ·have hj:(i + (its.toArray.size:Int)).toNat=j:=by
   rw [seqIndex_neg (by omega) h4] at h1
   rw [List.size_toArray,← hl]
   exact Option.some.inj h1
  exact subscriptTail_builtinR (x:=w) pl.isList.typeIs slot_list_getitem.lookup
   (wpAny_getItem_list_neg (Q:=fun r s'=>r=w∧EP X pins σ Q r s') pl.isList (by omega) (by rw [List.size_toArray] <;> omega) (by omega) (by rw [hj]; simpa using ew) ⟨rfl,fin⟩) hs
theorem ix_tup:IxR X (rIxT X.K):=by
 intro value slice pins s σ H x y v u Q I rx ry h hs
 obtain ⟨p,xs,i,z,rfl,rfl,hq,he,q⟩:=h
 cases rx
 obtain ⟨t,rfl⟩:=ry
 obtain ⟨its,r,pl,hz⟩:=I.tuple hq
 obtain ⟨j,h1,h2,h3,h4,h5⟩:=atI_get he
 obtain ⟨w,ew,rw'⟩:=r.get h2
 have hl:=r.length
 have hn:=line63
 have fin:EP X pins σ Q w s:=⟨z,H,I,rw',q⟩
 exact subscriptTail_builtinR (x:=w) pl.typeIs slot_tuple_getitem.lookup
  (getItem_tuple (j:=j) (Q:=fun r s'=>r=w∧EP X pins σ Q r s') pl (by omega) (by omega) (by rw [List.size_toArray,← hl]; exact h1) (by simpa using ew) ⟨rfl,fin⟩) hs
theorem mapSeq_set (its:List Value)(n j:Nat)(u:Value) : Obj.mapSeq (·.setIfInBounds j u) { cls:=.type "list", data:=.seq its.toArray n } = { cls:=.type "list", data:=.seq (its.set j u).toArray n }:=by
 simp [Obj.mapSeq]
theorem Inv.lst {pins:List (Addr × Obj)}{σ:St}{H:Hp}{s:Shared}{p:Addr}{xs:List V}(I:Inv X pins σ H s) (h:H p=some (.lst xs)) :
  ∃ (its:List Value) (n:Nat),Vals xs its∧s.heap.get? p=some { cls:=.type "list", data:=.seq its.toArray n }∧xs.length≤sizeLine:=by
 obtain ⟨z,its,n,r,e⟩:=I.hok p _ h
 exact ⟨its,n,r,e,z⟩
theorem Inv.lstUpd {pins:List (Addr × Obj)}{σ:St}{H:Hp}{s:Shared}{p:Addr}{xs ys:List V}{its its':List Value}{n n':Nat}{f:Obj→Obj}(I:Inv X pins σ H s) (h:H p=some (.lst xs))
  (ho:s.heap.get? p=some { cls:=.type "list", data:=.seq its.toArray n }) (hf:f { cls:=.type "list", data:=.seq its.toArray n } = { cls:=.type "list", data:=.seq its'.toArray n' }) (r:Vals ys its') (hz:ys.length≤sizeLine) (t:Nat) :
  Inv X pins σ (upd H p (.lst ys)) { s with heap:=s.heap.update p f,toks:=t }:=by
 have e:(s.heap.update p f).get? p=some { cls:=.type "list", data:=.seq its'.toArray n' }:=by
  rw [Heap.get?_update_self f ho (by rw [hf] <;> rfl),hf]
 refine I.write (x:=p) (e:=p) (by rw [h]; trivial) (.inl rfl) (fun b u hb q=>(Heap.get?_update_other _ _ (Ne.symm hb)).trans q) ⟨_,e⟩ ?_
 exact ⟨hz,its',n',r,e⟩
def rSetL:V→V→V→Hp→(Hp→Prop)→Prop:=fun o i v H Q=>∃ p xs k j,o = .ref p∧i = .int k∧H p=some (.lst xs)∧ixN xs.length k=some j∧Q (upd H p (.lst (xs.set j v)))
theorem set_list:PSet X rSetL:=by
 intro pins s σ H o i v ov iv u Q I ro ri rv h
 obtain ⟨p,xs,k,j,rfl,rfl,hp,hj,q⟩:=h
 cases ro
 obtain ⟨t,rfl⟩:=ri
 obtain ⟨its,n,r,ho,hz⟩:=I.lst hp
 obtain ⟨h1,h2,h3,h4⟩:=ixN_seq hj
 have hl:=r.length
 have hn:=line63
 have I':Inv X pins σ (upd H p (.lst (xs.set j v))) { s with heap:=s.heap.update p (Obj.mapSeq (·.setIfInBounds j u)) } :=
  I.lstUpd hp ho (mapSeq_set its n j u) (r.set rv j) (by rw [List.length_set]; exact hz) s.toks
 by_cases h0:0≤k
 ·have hk:k.toNat=j:=by
   rw [seqIndex_of h0 h4] at h1
   exact Option.some.inj h1
  exact PySem.W.ki_setAt ho h0 (by omega) (by rw [List.size_toArray,← hl]; exact h4) (by rw [hk]; exact ⟨_,I',q⟩)
 ·have hk:(k + (its.toArray.size:Int)).toNat=j:=by
   rw [seqIndex_neg (by omega) h3] at h1
   rw [List.size_toArray,← hl]
   exact Option.some.inj h1
  exact PySem.W.ki_setBack ho (by omega) (by rw [List.size_toArray,← hl]; exact h3) (by omega) (by rw [hk]; exact ⟨_,I',q⟩)
theorem slice_bounds (lo hi:Option Int)(n:Nat) : (sliceBounds lo hi none n).1=((HT.sIx n 0 lo:Nat) : Int)∧(sliceBounds lo hi none n).2.1=((HT.sIx n n hi:Nat) : Int)∧(sliceBounds lo hi none n).2.2=1:=by
 refine ⟨?_,?_,rfl⟩
 ·cases lo with
  | none=>simp [sliceBounds,HT.sIx]
  | some i =>
   simp only [sliceBounds,HT.sIx,Option.getD_none,show (1:Int) > 0 by decide,if_true]
   by_cases h:i < 0
   ·simp only [h,if_true] <;> omega
   ·simp only [h,if_false] <;> omega
 ·cases hi with
  | none=>simp [sliceBounds,HT.sIx]
  | some i =>
   simp only [sliceBounds,HT.sIx,Option.getD_none,show (1:Int) > 0 by decide,if_true]
   by_cases h:i < 0
   ·simp only [h,if_true] <;> omega
   ·simp only [h,if_false] <;> omega
theorem slicePick_cut (its:List Value)(lo hi:Option Int) : slicePick its.toArray lo hi none=((its.drop (HT.sIx its.length 0 lo)).take (HT.sIx its.length its.length hi - HT.sIx its.length 0 lo)).toArray:=by
 obtain ⟨h1,h2,h3⟩:=slice_bounds lo hi its.toArray.size
 unfold slicePick
 rw [h1,h2,h3]
 simp only [sliceRange_one,pick_run,List.size_toArray] <;> rfl
def rSlL (K:PySem.W.Frag) : V→Option Int→Option Int→Hp→VK→Prop:=fun x lo hi H Q=>∃ a xs,x = .ref a∧SqL K H a xs∧∀ p,H p=none→Q (.ref p) (upd H p (.lst (cutV xs lo hi)))
theorem sl_list:SlR X (rSlL X.K):=by
 intro pins s σ H x v vl vu lo hi sl Q I rx hs pl pu h
 obtain ⟨a,xs,rfl,hx,q⟩:=h
 cases rx
 obtain ⟨its,r,ht,hz⟩:=I.list hx
 have hlen:=r.length
 refine ⟨"list", _,slot_list_getitem.lookup,ht.isList.typeIs,?_⟩
 refine wpAny_getItem_list_slice ht.isList hs pl pu .none (by simp) ?_ (by rw [List.size_toArray] <;> omega)
 rw [slicePick_cut,← hlen]
 refine ⟨.ref s.heap.objs.size,_,I.laid (t':=s.toks) (o:=.lst (cutV xs lo hi)) (fun b ob q=>Heap.get?_push_of_some _ q) (Nat.le_refl _) ?_,rfl,q _ (I.hok.fresh (Nat.le_refl _))⟩
 exact ⟨Nat.le_trans (cutV_length xs lo hi) hz,_,0,(r.drop (HT.sIx xs.length 0 lo)).take (HT.sIx xs.length xs.length hi - HT.sIx xs.length 0 lo),Heap.get?_push_size _ rfl⟩
def flatV:V→Bool
 | .non=>true
 | .bl _=>true
 | .int _=>true
 | .str _=>true
 | _=>false
def eqV:V→V→Bool
 | .non,.non=>true
 | .bl a,.bl b=>a == b
 | .bl a,.int b=>(if a then 1 else 0) == b
 | .int a,.bl b=>a == (if b then 1 else 0)
 | .int a,.int b=>a == b
 | .str a,.str b=>a == b
 | _,_=>false
theorem eqAt_V {A:Around}{s:Shared}{y x:V}{u v:Value}(ry:RelV y u)(rx:RelV x v)(fy:flatV y=true)(fx:flatV x=true) : SeqAt.EqAt A s u v (eqV y x):=by
 cases y with
 | non =>
  cases ry
  cases x with
  | non=>cases rx; exact SeqAt.EqAt.same _
  | bl b=>cases rx; exact SeqAt.EqAt.none_bool b
  | int b=>obtain ⟨t,rfl⟩:=rx; exact SeqAt.EqAt.none_int b t
  | str b=>obtain ⟨t,rfl⟩:=rx; exact SeqAt.EqAt.none_str b t
  | _=>exact absurd (show false=true from fx) Bool.false_ne_true
 | bl a =>
  cases ry
  cases x with
  | non=>cases rx; exact SeqAt.EqAt.bool_none a
  | bl b=>cases rx; exact SeqAt.EqAt.bool_bool a b
  | int b=>obtain ⟨t,rfl⟩:=rx; exact SeqAt.EqAt.bool_int a b t
  | str b=>obtain ⟨t,rfl⟩:=rx; exact SeqAt.EqAt.bool_str a b t
  | _=>exact absurd (show false=true from fx) Bool.false_ne_true
 | int a =>
  obtain ⟨t',rfl⟩:=ry
  cases x with
  | non=>cases rx; exact SeqAt.EqAt.int_none a t'
  | bl b=>cases rx; exact SeqAt.EqAt.int_bool a t' b
  | int b=>obtain ⟨t,rfl⟩:=rx; exact SeqAt.EqAt.int_int a t' b t
  | str b=>obtain ⟨t,rfl⟩:=rx; exact SeqAt.EqAt.int_str a t' b t
  | _=>exact absurd (show false=true from fx) Bool.false_ne_true
 | str a =>
  obtain ⟨t',rfl⟩:=ry
  cases x with
  | non=>cases rx; exact SeqAt.EqAt.str_none a t'
  | bl b=>cases rx; exact SeqAt.EqAt.str_bool a t' b
  | int b=>obtain ⟨t,rfl⟩:=rx; exact SeqAt.EqAt.str_int a t' b t
  | str b=>obtain ⟨t,rfl⟩:=rx; exact SeqAt.EqAt.str_str a t' b t
  | _=>exact absurd (show false=true from fx) Bool.false_ne_true
 | _=>exact absurd (show false=true from fy) Bool.false_ne_true
def eqU (x:V)(u:Value) : Bool:=match u with
 | .none=>eqV .non x
 | .bool b=>eqV (.bl b) x
 | .int i _=>eqV (.int i) x
 | .str z _=>eqV (.str z) x
 | _=>false
theorem eqU_of {x y:V}{u:Value}(r:RelV y u)(f:flatV y=true) : eqU x u=eqV y x:=by
 cases y with
 | non=>cases r; rfl
 | bl b=>cases r; rfl
 | int i=>obtain ⟨t,rfl⟩:=r; rfl
 | str z=>obtain ⟨t,rfl⟩:=r; rfl
 | _=>exact absurd (show false=true from f) Bool.false_ne_true
theorem any_eqU {x:V} : ∀ {xs:List V}{us:List Value},Vals xs us→xs.all flatV=true→us.any (eqU x)=xs.any fun y=>eqV y x
 | _,_,.nil,_=>rfl
 | y :: xs,u :: us,.cons r t,f=>by
  rw [List.all_cons,Bool.and_eq_true] at f
  rw [List.any_cons,List.any_cons,eqU_of r f.1,any_eqU t f.2]
theorem mem_eqAt {A:Around}{s:Shared}{x:V}{v:Value}(rx:RelV x v)(fx:flatV x=true) : ∀ {xs:List V}{us:List Value},Vals xs us→xs.all flatV=true→∀ u∈us,SeqAt.EqAt A s u v (eqU x u)
 | _,_,.nil,_=>fun u hu=>by cases hu
 | y :: xs,u :: us,.cons r t,f=>fun u' hu=>by
  rw [List.all_cons,Bool.and_eq_true] at f
  rcases List.mem_cons.mp hu with rfl | hu
  ·rw [eqU_of r f.1]; exact eqAt_V r rx f.1 fx
  ·exact mem_eqAt rx fx t f.2 u' hu
def inV (x:V)(xs:List V) : Bool:=xs.any fun y=>eqV y x
def rIn (K:PySem.W.Frag)(neg:Bool) : R2:=fun x y H Q=>∃ p xs,y = .ref p∧(SqL K H p xs∨SqT K H p xs)∧flatV x=true∧xs.all flatV=true∧Q (.bl (if neg then !inV x xs else inV x xs)) H
theorem op_notIn_seq:OpR X (compareOp .NotIn) (rIn X.K true):=by
 intro pins s σ H x y v u Q I rx ry h
 obtain ⟨p,xs,rfl,hq,fx,fs,q⟩:=h
 cases ry
 rcases hq with hq | hq
 ·obtain ⟨its,r,pl,hz⟩:=I.list hq
  refine SeqAt.notIn_listAt (eqU x) pl.isList (fun w hw=>mem_eqAt rx fx r fs w (by simpa using hw)) ⟨.bl _,H,I,rfl,?_⟩
  rw [show its.toArray.any (eqU x)=its.any (eqU x) by simp,any_eqU r fs]
  exact q
 ·obtain ⟨its,r,pl,hz⟩:=I.tuple hq
  refine SeqAt.notIn_tupleAt (eqU x) pl (fun w hw=>mem_eqAt rx fx r fs w (by simpa using hw)) ⟨.bl _,H,I,rfl,?_⟩
  rw [show its.toArray.any (eqU x)=its.any (eqU x) by simp,any_eqU r fs]
  exact q
theorem call_len_seq:CallR X (.builtin "len") (fun xs H Q=>∃ p ys,xs = [.ref p]∧(SqL X.K H p ys∨SqT X.K H p ys)∧Q (.int ys.length) H):=by
 intro pins s σ H xs us Q I r h
 obtain ⟨p,ys,rfl,hq,q⟩:=h
 obtain ⟨u,rfl,rx⟩:=vals1 r
 cases rx
 have hn:=line63
 rcases hq with hq | hq
 ·obtain ⟨its,r',pl,hz⟩:=I.list hq
  have hlen:=r'.length
  exact Calls.call_len_list pl.isList (by simp only [List.size_toArray] <;> omega) ⟨.int ys.length,H,I.tok _,⟨s.toks + 1,by rw [List.size_toArray,hlen]⟩,q⟩
 ·obtain ⟨its,r',pl,hz⟩:=I.tuple hq
  have hlen:=r'.length
  exact len_tuple pl (by simp only [List.size_toArray] <;> omega) ⟨.int ys.length,H,I.tok _,⟨s.toks + 1,by rw [List.size_toArray,hlen]⟩,q⟩
theorem call_len_str:CallR X (.builtin "len") (fun xs H Q=>∃ z,xs = [.str z]∧z.length≤sizeLine∧Q (.int z.length) H):=by
 intro pins s σ H xs us Q I r h
 obtain ⟨z,rfl,hz,q⟩:=h
 obtain ⟨u,rfl,t,rfl⟩:=vals1 r
 have hn:=line63
 exact len_str (by omega) ⟨.int z.length,H,I.tok _,⟨_,rfl⟩,q⟩
theorem call_list_of:CallR X (.type "list") (fun xs H Q=>∃ p ys,xs = [.ref p]∧(SqL X.K H p ys∨SqT X.K H p ys)∧∀ l,H l=none→Q (.ref l) (upd H l (.lst ys))):=by
 intro pins s σ H xs us Q I r h
 obtain ⟨p,ys,rfl,hq,q⟩:=h
 obtain ⟨u,rfl,rx⟩:=vals1 r
 cases rx
 have fin:∀ (its:List Value),Vals ys its→ys.length≤sizeLine→∀ (h':Heap) (c':Nat),(∀ b o',s.heap.get? b=some o'→h'.get? b=some o') →
   h'.get? s.heap.objs.size=some { cls:=.type "list", dict:=none,data:=.seq its.toArray c',slots := #[] }→EP X pins σ Q (.ref s.heap.objs.size) { s with heap:=h' }:=fun its r' hz h' c' kp e =>
  ⟨.ref s.heap.objs.size,_,I.laid (t':=s.toks) kp (Nat.le_refl _) (show ObjOk X.prog X.w _ h' _ (.lst ys) from ⟨hz,its,c',r',e⟩),rfl,q _ (I.hok.fresh (Nat.le_refl _))⟩
 rcases hq with hq | hq
 ·obtain ⟨its,r',pl,hz⟩:=I.list hq
  have hlen:=r'.length
  obtain ⟨o,ho,hc,n,hd⟩:=pl.isList
  exact call_list_seq p (.inl rfl) ho hc hd (fun h' c' kp e=>fin its r' hz h' c' kp e) (by simp only [List.size_toArray] <;> omega)
 ·obtain ⟨its,r',pl,hz⟩:=I.tuple hq
  have hlen:=r'.length
  obtain ⟨o,ho,hc,n,hd⟩:=pl
  exact call_list_seq p (.inr rfl) ho hc hd (fun h' c' kp e=>fin its r' hz h' c' kp e) (by simp only [List.size_toArray] <;> omega)
def tyV (K:PySem.W.Frag)(T:String)(x:V)(H:Hp) : Prop:=match x with
 | .str _=>T = "str"
 | .int _=>T = "int"
 | .ref p=>(T = "list" ∧ ∃ xs,SqL K H p xs)∨(T = "tuple" ∧ ∃ o,K.lookup p=some o∧o.cls = .type "tuple" ∧ o.dict=none) ∨
   (T = "dict" ∧ ((∃ kvs,H p=some (.dK kvs))∨∃ kvs,H p=some (.dT kvs)))∨(T = "set" ∧ ∃ S n,H p=some (.set S n))
 | _=>False
theorem tyV_is {pins:List (Addr × Obj)}{σ:St}{H:Hp}{s:Shared}{T:String}{x:V}{v:Value}(I:Inv X pins σ H s) (r:RelV x v) (ty:tyV X.K T x H) :
  s.TypeIs v T∧∀ a,v = .ref a→∃ ob,s.heap.get? a=some ob∧ob.dict=none:=by
 cases x with
 | str z =>
  obtain ⟨t,rfl⟩:=r
  cases (show T = "str" from ty)
  exact ⟨typeIs_str s z t,fun _ e=>nomatch e⟩
 | int i =>
  obtain ⟨t,rfl⟩:=r
  cases (show T = "int" from ty)
  exact ⟨typeIs_int s i t,fun _ e=>nomatch e⟩
 | ref p =>
  cases r
  rcases ty with ⟨rfl,xs,hq⟩ | ⟨rfl,o,hk,hc,hd⟩ | ⟨rfl,hk⟩ | ⟨rfl,S,n,hk⟩
  ·obtain ⟨its,_,pl,_⟩:=I.list hq
   refine ⟨pl.isList.typeIs,fun a e=>?_⟩
   cases e
   obtain ⟨o,n,e,c,hd,_⟩:=pl
   exact ⟨o,e,hd⟩
  ·refine ⟨⟨o,I.kIn p o hk,hc⟩,fun a e=>?_⟩
   cases e
   exact ⟨o,I.kIn _ o hk,hd⟩
  ·have z:∃ o,s.heap.get? p=some o∧o.ExactDict:=by
    rcases hk with ⟨kvs,hk⟩ | ⟨kvs,hk⟩
    ·obtain ⟨_,_,_,_,o,_,_,e,ex,_⟩:=I.hok p _ hk
     exact ⟨o,e,ex⟩
    ·obtain ⟨_,_,_,_,o,_,_,e,ex,_⟩:=I.hok p _ hk
     exact ⟨o,e,ex⟩
   obtain ⟨o,e,ex⟩:=z
   refine ⟨⟨o,e,ex.1⟩,fun a e2=>?_⟩
   cases e2
   exact ⟨o,e,ex.2.1⟩
  ·obtain ⟨o,_,_,_,e,ex,_⟩:=I.hok p _ hk
   refine ⟨⟨o,e,ex.1⟩,fun a e2=>?_⟩
   cases e2
   exact ⟨o,e,ex.2.1⟩
 | _=>exact False.elim ty
def tBM0 (K:PySem.W.Frag)(T:String)(r:V→List V→Hp→VK→Prop)(to:TE) : TE:=fun σ H Q=>to σ H fun x H1=>tyV K T x H1∧r x [] H1 Q
def tBM (K:PySem.W.Frag)(T:String)(r:V→List V→Hp→VK→Prop)(to:TE)(t:TA) : TE:=fun σ H Q=>to σ H fun x H1=>tyV K T x H1∧t σ H1 fun xs H2=>r x xs H2 Q
variable {o e:Expr}{es:List Expr}{to:TE}{t:TA}{name:Str}{apos cpos:Pos}{T id:String}{r:V→List V→Hp→VK→Prop}
theorem pe_bm0 (pa:PlainAttrs T) (slot:Slot T name id) (hty:typeOf (.builtin id)=pure (.type "method_descriptor")) (hm:MtR X id r) (ho:PE X o to)
  (hbase:attributeBase o name X.env (eval o X.env)=eval o X.env:=by rfl) (hline:(apos.endLine == cpos.line)=true:=by rfl) : PE X (.Call (.Attribute o name apos) [] [] cpos) (tBM0 X.K T r to):=by
 intro pins s σ H Q I h
 refine wpAny_Call_method0_late hbase hline (thn (ho pins s σ H _ I h) fun v s1 ⟨x,H1,I1,r1,ty,q1⟩=>?_)
 obtain ⟨h1,h2⟩:=tyV_is I1 r1 ty
 exact ⟨T,id,pa,slot,hty,h1,h2,Calls.callWith_builtin rfl (PySem.evalArgs_none (hm pins s1 σ H1 x [] v [] Q I1 r1 .nil q1))⟩
theorem pe_bm (pa:PlainAttrs T) (slot:Slot T name id) (hty:typeOf (.builtin id)=pure (.type "method_descriptor")) (hm:MtR X id r) (ho:PE X o to) (ha:PA X (e :: es) t)
  (hbase:attributeBase o name X.env (eval o X.env)=eval o X.env:=by rfl)
  (hfew:((backTo cpos (starEach (e :: es) X.env)).all (fun x => !x.1) && (backToKw cpos (keywordEach [] X.env)).all (fun x=>x.1.isSome)
   && decide ((e :: es).length + ([] : List Keyword).length + (if ([] : List Keyword).isEmpty then 0 else 1) < 30))=true:=by rfl)
  (hline:(apos.endLine == cpos.line)=true:=by rfl) (hs:starEach (e :: es) X.env=(false,eval e X.env) :: starEach es X.env:=by rfl) (hplain:(backTo cpos (starEach es X.env)).any (·.1)=false:=by rfl) :
  PE X (.Call (.Attribute o name apos) (e :: es) [] cpos) (tBM X.K T r to t):=by
 intro pins s σ H Q I h
 refine wpAny_Call_method_late hbase hfew hline rfl (thn (ho pins s σ H _ I h) fun v s1 ⟨x,H1,I1,r1,ty,q1⟩=>?_)
 obtain ⟨h1,h2⟩:=tyV_is I1 r1 ty
 refine ⟨T,id,pa,slot,hty,h1,h2,?_⟩
 have hA:=ha cpos pins s1 σ H1 _ I1 q1
 rw [hs] at hA ⊢
 refine Calls.callWith_builtin (by show (false || (backTo cpos (starEach es X.env)).any (·.1))=false; rw [hplain] <;> rfl) (Calls.evalArgs_plain ?_)
 exact thn hA fun us s2 ⟨vs,H2,I2,r2,q2⟩=>hm pins s2 σ H2 x vs v us Q I2 r1 r2 q2
end
end L2
namespace L2
open PySem PySem.Spec PyProof.Rows
def MtM (X:Cx)(id:String)(r:V→List V→Hp→VK→Prop) : Prop :=
 ∀ (pins:List (Addr × Obj)) (s:Shared) (σ:St) (H:Hp) (x:V) (xs:List V) (v:Value) (us:List Value) (Q:VK),Inv X pins σ H s→RelV x v→Vals xs us→r x xs H Q →
  wpAny (model X.prog X.w) X.A (call (.builtin id) (v :: us)) (EP X pins σ Q) X.xe s
theorem Vals.one:∀ {x:V}{us:List Value},Vals [x] us→∃ u,us = [u]∧RelV x u
 | _,_,.cons r .nil=>⟨_,rfl,r⟩
theorem Vals.two:∀ {x y:V}{us:List Value},Vals [x,y] us→∃ u v,us = [u,v]∧RelV x u∧RelV y v
 | _,_,_,.cons r (.cons q .nil)=>⟨_,_,rfl,r,q⟩
theorem Vals.zero:∀ {us:List Value},Vals [] us→us = []
 | _,.nil=>rfl
theorem Vals.dropLast {xs:List V}{us:List Value}(h:Vals xs us) : Vals xs.dropLast us.dropLast:=by
 induction h with
 | nil=>exact .nil
 | cons r t ih =>
  cases t with
  | nil=>exact .nil
  | cons q t'=>exact .cons r ih
theorem erase_last {α:Type}(l:List α) : l.eraseIdx (l.length - 1)=l.dropLast:=by
 induction l with
 | nil=>rfl
 | cons a r ih =>
  cases r with
  | nil=>rfl
  | cons b r =>
   have e:(a :: b :: r).length - 1=((b :: r).length - 1) + 1:=by
    have h1:(a :: b :: r).length=r.length + 2:=rfl
    have h2:(b :: r).length=r.length + 1:=rfl
    omega
   rw [e,List.eraseIdx_cons_succ,ih]
   all_goals rfl
section
variable {X:Cx}{pins:List (Addr × Obj)}{σ:St}{H:Hp}{s:Shared}{l b:Addr}{xs ys zs:List V}
theorem Inv.lset {its its':List Value}{n:Nat}{f:Array Value→Array Value}{t':Nat}(I:Inv X pins σ H s) (hH:H l=some (.lst xs))
  (e:s.heap.get? l=some { cls:=.type "list", data:=.seq its.toArray n }) (hf:f its.toArray=its'.toArray) (hv:Vals ys its') (hz:ys.length≤sizeLine) :
  Inv X pins σ (upd H l (.lst ys)) { s with heap:=s.heap.update l (Obj.mapSeq f),toks:=t' }:=by
 have q:=PySem.IsL.update e f
 rw [hf] at q
 refine I.write (x:=l) (e:=l) (by rw [hH]; exact trivial) (.inl rfl) (fun b' u hb hu=>(Heap.get?_update_other s.heap (Obj.mapSeq f) (Ne.symm hb)).trans hu) ⟨_,q⟩ ?_
 exact ⟨hz,its',_,hv,q⟩
theorem Inv.lnew {its:List Value}{t':Nat}(I:Inv X pins σ H s) (hv:Vals ys its) (hz:ys.length≤sizeLine) :
  Inv X pins σ (upd H s.heap.objs.size (.lst ys)) { s with heap:=s.heap.push { cls:=.type "list", data:=.seq its.toArray },toks:=t' } :=
 I.laid (fun _ _ q=>Heap.get?_push_of_some _ q) (Nat.le_refl _) ⟨hz,its,0,hv,Heap.get?_push_size _ rfl⟩
theorem Inv.fresh (I:Inv X pins σ H s) : H s.heap.objs.size=none:=I.hok.fresh (Nat.le_refl _)
theorem Inv.lstM (I:Inv X pins σ H s)(hH:H l=some (.lst xs)) : xs.length≤sizeLine∧∃ (its:List Value) (n:Nat),Vals xs its∧xs.length=its.length∧s.heap.get? l=some { cls:=.type "list", data:=.seq its.toArray n }:=by
 obtain ⟨z,its,n,r,e⟩:=I.hok l _ hH
 exact ⟨z,its,n,r,r.length,e⟩
end
section
variable {X:Cx}
def rAppend:V→List V→Hp→VK→Prop:=fun x vs H Q=>∃ l xs y,x = .ref l∧vs = [y]∧H l=some (.lst xs)∧xs.length < sizeLine∧Q .non (upd H l (.lst (xs ++ [y])))
theorem mt_append:MtM X "list.append" rAppend:=by
 intro pins s σ H x vs v us Q I rx rv h
 obtain ⟨l,xs,y,rfl,rfl,hH,hz,q⟩:=h
 cases rx
 obtain ⟨u,rfl,ru⟩:=rv.one
 obtain ⟨z,its,n,r,hl,e⟩:=I.lstM hH
 refine call_meets F.slot_list_append ⟨_,e,rfl⟩ F.entry_list_append (F.args_list_append_2 _ _) (PySem.list_append l its.toArray n u (by rw [List.size_toArray]; omega)) ⟨e,?_⟩
 refine ⟨.non,_,I.lset (its':=its ++ [u]) hH e (by simp) (r.append (.cons ru .nil)) ?_,rfl,q⟩
 rw [List.length_append,List.length_singleton]
 omega
def rPop:V→List V→Hp→VK→Prop:=fun x vs H Q=>∃ l xs y,x = .ref l∧vs = []∧H l=some (.lst xs)∧xs[xs.length - 1]? = some y∧Q y (upd H l (.lst xs.dropLast))
theorem mt_pop:MtM X "list.pop" rPop:=by
 intro pins s σ H x vs v us Q I rx rv h
 obtain ⟨l,xs,y,rfl,rfl,hH,hy,q⟩:=h
 cases rx
 have hus:=rv.zero
 subst hus
 obtain ⟨z,its,n,r,hl,e⟩:=I.lstM hH
 obtain ⟨u,hu,ru⟩:=r.get hy
 have hy':its.toArray[its.toArray.size - 1]? = some u:=by
  show its.toArray[its.length - 1]? = some u
  rw [← Array.getElem?_toList,← hl]
  exact hu
 refine call_meets F.slot_list_pop ⟨_,e,rfl⟩ F.entry_list_pop (F.args_list_pop_1 _) (MeetsSeq.list_pop_last l its.toArray n u hy' (by rw [List.size_toArray]; omega)) ⟨e,?_⟩
 refine ⟨y,_,I.lset (its':=its.dropLast) hH e ?_ r.dropLast ?_,ru,q⟩
 ·show its.toArray.eraseIdxIfInBounds (its.toArray.size - 1)=its.dropLast.toArray
  rw [List.size_toArray,List.eraseIdxIfInBounds_toArray,erase_last]
 ·rw [List.length_dropLast]
  omega
def rCat:R2:=fun x y H Q=>∃ l b xs zs,x = .ref l∧y = .ref b∧H l=some (.lst xs)∧H b=some (.lst zs)∧xs.length + zs.length≤sizeLine∧∀ p,H p=none→Q (.ref p) (upd H p (.lst (xs ++ zs)))
theorem op_cat:OpR X (binaryOp .Add) rCat:=by
 intro pins s σ H x y v u Q I rx ry h
 obtain ⟨l,b,xs,zs,rfl,rfl,hH,hB,hz,q⟩:=h
 cases rx
 cases ry
 obtain ⟨z,its,n,r,hl,e⟩:=I.lstM hH
 obtain ⟨z2,its2,n2,r2,hl2,e2⟩:=I.lstM hB
 refine PySem.P.add_list e e2 ?_ (by rw [List.size_toArray,List.size_toArray]; omega)
 have ea:its.toArray ++ its2.toArray=(its ++ its2).toArray:=by simp
 rw [ea]
 exact ⟨.ref _,_,I.lnew (t':=s.toks) (r.append r2) (by rw [List.length_append]; omega),rfl,q _ I.fresh⟩
end
section
variable {prog:Program}{w:World}{A:Around}{E:Value→Shared→Prop}{s:Shared}
end
section
variable {X:Cx}
end
end L2
namespace Att
open PySem PySem.W PySem.Calls PyProof.Rows
theorem ints_of_wellAll {P:Params}{h:Heap} : ∀ (ns:List Int) (vs:List Value),WellAll P h vs (ns.map WData.int)→IntsAre vs ns:=by
 intro ns
 induction ns with
 | nil =>
  intro vs w
  rw [List.map_nil] at w
  cases w
  exact .nil
 | cons n ns ih =>
  intro vs w
  rw [List.map_cons] at w
  cases w with
  | cons a b =>
   cases a
   exact .cons _ _ (ih _ b)
theorem script_of {l:OpenLaw}{n:Nat}(hn:l.most=some n) {P:Params}{h:Heap}{args:List WData}{vals:List Value}
  (hpre:l.row.toRowW.claim.pre args=true) (hwl:WellAll P h vals args) :
  ∃ a vs ns,vals = [Value.ref a]∧args = [WData.list (ns.map WData.int)]∧h.get? a=some { cls:=.type "list", data:=.seq vs.toArray }∧IntsAre vs ns∧ns.length≤n:=by
 have hsh:WShape.hasAll [] args [.list .int] = true:=(pre_splitW hpre).1
 have hc:l.pre.holds [] { args:=args } = true:=(pre_splitW hpre).2
 obtain ⟨d,r,rfl,h1,h2⟩:=hasAllW_cons hsh
 obtain rfl:=hasAllW_nil h2
 obtain ⟨xs,rfl,h3⟩:=hasW_list h1
 obtain ⟨ns,rfl⟩:=items_int h3
 have hlen:ns.length≤n:=by
  unfold OpenLaw.pre at hc
  have h4:(WTm.not (.lt (.lit (.int (n:Int))) (.len (.arg 0)))).holds [] { args:=[.list (ns.map .int)] } = true:=by
   have h4:=(holds_andW hc).1
   rw [hn] at h4
   exact h4
  have h5:=condW_of h4 (w_not (w_lt w_lit (w_len_list (w_arg rfl))))
  rw [List.length_map] at h5
  refine Nat.le_of_not_lt fun q=>?_
  have q':(n:Int) < ((ns.length:Nat) : Int):=by omega
  first
   | (rw [decide_eq_true q'] at h5; exact absurd h5 (by decide))
   | (simp at h5; omega)
 cases hwl with
 | cons w1 w2 =>
  cases w2
  cases w1 with
  | list ho hall=>exact ⟨_,_,ns,rfl,rfl,ho,ints_of_wellAll ns _ hall,hlen⟩
theorem post_true (l:OpenLaw)(args:List WData) : l.row.toRowW.claim.post args (.bool true) args=true :=
 postW_of (r:=l.row.toRowW) (X:=(true == true))
  (show WShape.has [] (.bool true) .bool=true by first | rfl | decide | simp [WShape.has,WShape.arms,WShape.armsAll])
  (show (WTm.eq .res (.lit (.bool true))).value [] { args:=args,res:=some (.bool true),after:=args } = some (.bool (true == true)) from w_eq_bool (w_res rfl) w_lit) rfl
theorem attach_call {l:OpenLaw}{n:Nat}{q:Program}{loose:List Str}{XP:(Str→Option Value)→Heap→Prop}{YP:World→Heap→Prop}{d:DefRec}
  (hn:l.most=some n) (hdf:d.params.defaults = [])
  (call:∀ (w:World) (s₀ s₁:Shared) (mg mb:Str→Option Value) (fa:Addr) (o:Obj) (pm cd doc:Value) (a:Addr) (vs:List Value) (ns:List Int),
   Ground q loose [] XP w s₀ mg mb s₁.heap→YP w s₁.heap →
   s₁.heap.get? fa=some o→o.data = .func (docDef d.name d.params d.body d.scope pm cd doc)→s₁.heap.CodeRec cd d.name→mg d.name=some (.ref fa) →
   s₁.heap.get? a=some { cls:=.type "list", data:=.seq vs.toArray }→IntsAre vs ns→ns.length≤n→s₁.gens = #[] →
   codeAny (model l.prog w) callerA (.call (.ref fa) ⟨[.ref a],[]⟩) (fun r s'=>r = .ok (.ret (.bool true))∧OldK s₁.heap s'.heap∧s'.os=s₁.os∧AllBare s'.gens) s₁) :
  WalkO q loose XP YP l.row.toRowW d [] (fun f vs=>PySem.call f vs):=by
 intro w s₀ s₁ mg mb G Y fa o pm cd doc dV kV ho hd hcd hD hmg hg args vals as hpre hlay hrd hwl hlo
 obtain rfl:dV = .none:=Dflts.none hD hdf
 obtain rfl:kV = .none:=Dflts.noKw hD
 obtain ⟨a,vs,ns,rfl,rfl,hobj,hints,hlen⟩:=script_of hn hpre hwl
 refine enter_call (codeAny_mono (call w s₀ s₁ mg mb fa o pm cd doc a vs ns G Y ho (fd_plain hd) hcd hmg hobj hints hlen hg) fun r s' hq=>?_)
 obtain ⟨rfl,h2,h3,h4⟩:=hq
 exact ⟨.inl ⟨.bool true,.bool true,[],rfl,fun _=>rfl,.bool true,post_true l _,fun _=>⟨List.Pairwise.nil,fun _ hm=>(nomatch hm)⟩⟩,h2,h3,h4⟩
section
variable {prog:Program}{w:World}{A:Around}{E:Value→Shared→Prop}{s:Shared}{K:Frag}
end
end Att
namespace L2
open PySem PySem.Spec PyProof.Rows
theorem vals_ints:∀ {vs:List Value}{ns:List Int},IntsAre vs ns→Vals (ns.map V.int) vs
 | _,_,.nil=>.nil
 | _,_,.cons n t h=>.cons ⟨t,rfl⟩ (vals_ints h)
def Only (H:Hp) : Prop:=∀ b,H b=none∨∃ o xs,H b=some (.frz o (.lst xs))
theorem law_call {P:Program}{w:World}{K:PySem.W.Frag}{mg mb:Str→Option Value}{CX:CXT}{k:Nat}{fa a:Addr}{fd:FuncData}{x:Str}{sp:Sp}{s₁:Shared}{vs:List Value}{ns:List Int}
  (KX:K.In s₁.heap) (hns:s₁.heap.Ns mainGlobals mg) (hb:s₁.heap.Ns builtinsNs mb) (hbb:∀ x:Str,x ≠ "__name__" → mb x=bootBuiltins x) (hlim:s₁.heap.NoLimit) (hg:s₁.gens = #[])
  (ha:s₁.heap.get? a=some { cls:=.type "list", data:=.seq vs.toArray }) (hi:IntsAre vs ns) (hl:ns.length≤sizeLine) (hr:Room k callerA)
  (F:∀ base:Heap,K.In base→base.Ns mainGlobals mg→FnOk P w K mg base CX k fa fd [x] sp) (hbind:∀ (s:Shared) (u:Value),BindsTo s fd ⟨[u],[]⟩ [(x,u)])
  (hsp:∀ H:Hp,Only H→SqL K H a (ns.map V.int)→sp [.ref a] H (fun v _=>v = .bl true) fun _ _ _=>False)
  (hCX:∀ H e s',CX [] H s₁ (fun _ _ _=>False) e s'→False) :
  codeAny (model P w) callerA (.call (.ref fa) ⟨[.ref a],[]⟩) (fun r s'=>r = .ok (.ret (.bool true))∧OldK s₁.heap s'.heap∧s'.os=s₁.os∧AllBare s'.gens) s₁:=by
 have rv:=vals_ints hi
 have lenV:=hi.length
 have core:∀ H:Hp,Only H→SqL K H a (ns.map V.int)→HOk P w H s₁.heap→(∀ b,H b ≠ none→b=a)→(H a ≠ none→K.lookup a=none) →
   codeAny (model P w) callerA (.call (.ref fa) ⟨[.ref a],[]⟩) (fun r s'=>r = .ok (.ret (.bool true))∧OldK s₁.heap s'.heap∧s'.os=s₁.os∧AllBare s'.gens) s₁:=by
  intro H hO hS hok hA hK
  have base_of:∀ {b:Addr}{o:Obj},s₁.heap.get? b=some o→H b=none→(hidT s₁.heap H).get? b=some o:=fun e n=>hidT_get e n
  have noA:∀ {b:Addr}{o:Obj}{es:Array DictEntry}{ep:Nat},s₁.heap.get? b=some o→o.data = .dict es ep→H b=none:=fun {b o es ep} e d=>by
   cases q:H b with
   | none=>rfl
   | some u =>
    have e':b=a:=hA b (by rw [q]; simp)
    subst e'
    rw [ha] at e; cases e
    have d':Data.seq vs.toArray _=Data.dict es ep:=d
    cases d'
  have nsK:∀ {b:Addr}{m:Str→Option Value},s₁.heap.Ns b m→(hidT s₁.heap H).Ns b m:=fun {b m} ⟨o,es,ep,e,d,r⟩=>⟨o,es,ep,base_of e (noA e d),d,r⟩
  have hKb:K.In (hidT s₁.heap H):=fun b o e=>base_of (KX b o e) (by
   cases q:H b with
   | none=>rfl
   | some u =>
    have e':b=a:=hA b (by rw [q]; simp)
    subst e'
    rw [hK (by rw [q]; simp)] at e; cases e)
  have hM:Mod K mg (hidT s₁.heap H):=⟨hKb,nsK hns,⟨mb,nsK hb,hbb⟩,let ⟨mc,h1,h2⟩:=hlim; ⟨mc,nsK h1,h2⟩⟩
  have e0:Env0 P w K mg (hidT s₁.heap H) callerA [] s₁ H:=⟨rfl,hM,fun b o e=>of_hidT e,Nat.le_of_eq (hidT_size _ _),trivial,fun b hb=>absurd (show b∈([] : List Addr) from hb) (by simp),hok,.of_eq hg⟩
  refine codeAny_mono ((F _ hKb (nsK hns)).run callerA [] s₁ H ⟨[.ref a],[]⟩ [.ref a] [.ref a] _ _ hr e0 (hbind s₁ (.ref a)) (.cons rfl .nil) (hsp H hO hS)) fun r s' h=>?_
  cases r with
  | error e=>exact (hCX H e s' h).elim
  | ok fl =>
   cases fl with
   | next=>exact False.elim h
   | brk=>exact False.elim h
   | cont=>exact False.elim h
   | ret u =>
    obtain ⟨v,H',os,bare,un,hok',r',q⟩:=h
    have q':v = .bl true:=q
    subst q'
    obtain rfl:u=Value.bool true:=r'
    refine ⟨rfl,OldK.of_keep fun b o e=>?_,os,bare⟩
    cases q:H b with
    | none=>exact un.keep b o e q (by intro z; exact absurd (show b∈([] : List Addr) from z) (by simp)) (by simp)
    | some u =>
     rcases hO b with z | ⟨ob,xs,z⟩
     ·rw [q] at z; cases z
     ·have z2:=un.frzs b ob _ z
      obtain ⟨e1,_⟩:=hok b _ z
      obtain ⟨e2,_⟩:=hok' b _ z2
      rw [e] at e1; cases e1
      exact e2
 cases hk:K.lookup a with
 | some o =>
  have e:=KX a o hk
  rw [ha] at e
  cases e
  refine core (fun _=>none) (fun _=>.inl rfl) (.inr ⟨_,vs.toArray,_,hk,rfl,rfl,rfl,by rw [List.size_toArray,lenV]; exact hl,by simpa using rv⟩) (fun b u z=>by have z':(none:Option HO)=some u:=z; cases z') (fun b z=>absurd rfl z) fun z=>absurd rfl z
 | none =>
  refine core (fun b=>if b=a then some (.frz { cls:=.type "list", data:=.seq vs.toArray } (.lst (ns.map V.int))) else none) (fun b=>?_) (.inl (.inr ⟨{ cls:=.type "list", data:=.seq vs.toArray },if_pos rfl⟩)) (fun b u z=>?_) (fun b z=>?_) fun _=>hk
  ·by_cases hb:b=a
   ·exact .inr ⟨_,_,if_pos hb⟩
   ·exact .inl (if_neg hb)
  ·by_cases hb:b=a
   ·have z':=(if_pos hb).symm.trans z
    cases z'
    subst hb
    exact ⟨ha,by rw [List.length_map]; exact hl,vs,_,rv,ha⟩
   ·have z':=(if_neg hb).symm.trans z
    cases z'
  ·by_cases hb:b=a
   ·exact hb
   ·exact absurd (if_neg hb) z
end L2
namespace L2
open PySem PySem.Spec PyProof.Rows
abbrev KOf {K:PySem.W.Frag}{h:Heap}(_:K.In h) : PySem.W.Frag:=K
theorem walk_of {l:PySem.W.OpenLaw}{n k:Nat}{q:Program}{loose:List Str}{XP:(Str→Option Value)→Heap→Prop}{YP:World→Heap→Prop}{d:DefRec}{K:Params→PySem.W.Frag}{CX:World→CXT}{sp:World→Sp}{x:Str}
  (hn:l.most=some n) (hn2:n≤sizeLine) (hdf:d.params.defaults = []) (hr:Room k callerA)
  (hY:∀ (w:World) (h:Heap),YP w h→(K w.params).In h)
  (F:∀ (w:World) (mg:Str→Option Value) (fa:Addr) (h:Heap),(K w.params).In h→h.Ns mainGlobals mg→mg d.name=some (.ref fa) →
   ∃ fd:FuncData,(∀ (s:Shared) (u:Value),BindsTo s fd ⟨[u],[]⟩ [(x,u)]) ∧
    ∀ base:Heap,(K w.params).In base→base.Ns mainGlobals mg→FnOk l.prog w (K w.params) mg base (CX w) k fa fd [x] (sp w))
  (hsp:∀ (w:World) (H:Hp) (a:Addr) (ns:List Int),ns.length≤n→Only H→SqL (K w.params) H a (ns.map V.int)→sp w [.ref a] H (fun v _=>v = .bl true) fun _ _ _=>False)
  (hCX:∀ (w:World) (H:Hp) (s:Shared) (e:Value) (s':Shared),CX w [] H s (fun _ _ _=>False) e s'→False) :
  PySem.W.WalkO q loose XP YP l.row.toRowW d [] (fun f vs=>PySem.call f vs):=by
 refine Att.attach_call hn hdf fun w s₀ s₁ mg mb fa o pm cd doc a vs ns G Y ho hd hcd hmg hobj hints hlen hg=>?_
 have KX:=hY w _ Y
 obtain ⟨fd,hb,hF⟩:=F w mg fa _ KX G.T.g hmg
 exact law_call KX G.T.g G.T.b G.T.builtins G.T.nolimit hg hobj hints (Nat.le_trans hlen hn2) hr hF hb (fun H hO hS=>hsp w H a ns hlen hO hS) fun H e s'=>hCX w H s₁ e s'
end L2
namespace L2
open PySem PySem.Spec PyProof.Rows
def inClass (s:Stmt)(j:Nat) : Stmt:=match s with
 | .ClassDef _ _ _ body _ _ _ _ _ _ _=>body.getD j (.Pass ⟨0,0,0,0⟩)
 | _=>.Pass ⟨0,0,0,0⟩
def defArgs (s:Stmt) : Arguments:=match s with
 | .FunctionDef _ a _ _ _ _ _ _ _ _=>a
 | _=>{ posonlyargs:=[],args:=[],vararg:=none,kwonlyargs:=[],kw_defaults:=[],kwarg:=none,defaults:=[] }
def defBody (s:Stmt) : List Stmt:=match s with
 | .FunctionDef _ _ b _ _ _ _ _ _ _=>b
 | _=>[]
def defScope (s:Stmt) : Scope:=match s with
 | .FunctionDef _ _ _ _ _ _ sc _ _ _=>sc
 | _=>{ kind:=.function,names:=[],isGenerator:=false,isCoroutine:=false }
abbrev E0:XK:=fun _ _ _=>False
structure Fun (K:PySem.W.Frag) (x qual:Str) (st:Stmt) (f:Addr) (fd:FuncData) : Prop where
 ex:∃ (oc:Value) (od:Option Addr) (kV doc pm:Value) (an:Option Addr) (cdv ct:Value) (osl:Array (Option Value)),
  fd=PySem.W.fnOf x qual (defArgs st) (defBody st) (defScope st) .none kV doc pm an cdv ct∧K.lookup f=some ⟨oc,od,.func fd,osl⟩∧PySem.W.codeIn K cdv qual=true
 kp:PySem.W.keepIn K (.ref f)=true
section
variable {P:Program}{w:World}{K:PySem.W.Frag}{mg:Str→Option Value}{base:Heap}
theorem Fun.binds {x qual:Str}{st:Stmt}{f:Addr}{fd:FuncData}{ps:List Str}(F:Fun K x qual st f fd)
  (h:∀ (kV doc pm:Value) (an:Option Addr) (cdv ct:Value) (us:List Value),us.length=ps.length→bindArgs (PySem.W.fnOf x qual (defArgs st) (defBody st) (defScope st) .none kV doc pm an cdv ct) ⟨us,[]⟩=pure (ps.zip us)) : Binds K fd ps []:=by
 obtain ⟨oc,od,kV,doc,pm,an,cdv,ct,osl,rfl,lk,hcd⟩:=F.ex
 exact .all (h kV doc pm an cdv ct)
theorem fun_mk {x qual:Str}{st:Stmt}{f:Addr}{oc:Value}{od an:Option Addr}{osl:Array (Option Value)}{kV doc pm cdv ct:Value}(l:K.lookup f=some ⟨oc,od,.func (PySem.W.fnOf x qual (defArgs st) (defBody st) (defScope st) .none kV doc pm an cdv ct),osl⟩)
  (c:PySem.W.codeIn K cdv qual=true) (k:PySem.W.keepIn K (.ref f)=true) : Fun K x qual st f (PySem.W.fnOf x qual (defArgs st) (defBody st) (defScope st) .none kV doc pm an cdv ct):=⟨⟨oc,od,kV,doc,pm,an,cdv,ct,osl,rfl,l,c⟩,k⟩
end
theorem small1000 {n:Nat}(h:n≤1000) : n < sizeLine:=Nat.lt_of_le_of_lt h (by decide)
section
variable {X:Cx}
theorem pv (i:Nat) {x:Str}{pos:Pos}(hN:X.N[i]? = some x:=by rfl) (hv:Vis X.env.scope x:=by first | exact Or.inl rfl | exact Or.inr (Or.inl rfl) | exact Or.inr (Or.inr rfl)) (hd:(x == ("__debug__" : Str))=false:=by decide)
  (hcd:(x == ("__classdict__" : Str))=false:=by decide) : PE X (.Name x pos) (tVar i):=pe_var hN hv hd hcd
end
theorem iteF {A B:Prop}(h:B) : if false=true then A else B:=by
 rw [if_neg Bool.false_ne_true]
 exact h
theorem iteT {A B:Prop}(h:A) : if true=true then A else B:=by
 rw [if_pos rfl]
 exact h
theorem iteNS {c A B:Prop} [Decidable c](hc:c)(h:B) : if (!decide c)=true then A else B:=by
 rw [decide_eq_true hc]
 exact iteF h
def Same (H H':Hp) : Prop:=∀ b o,H b=some o→H' b=some o
theorem Same.refl (H:Hp) : Same H H:=fun _ _ h=>h
theorem Same.trans {H H1 H2:Hp}(a:Same H H1)(b:Same H1 H2) : Same H H2:=fun c o h=>b c o (a c o h)
theorem Same.free {H H':Hp}(e:Same H H'){l:Addr}(h:H' l=Option.none) : H l=Option.none:=by
 cases q:H l with
 | none=>rfl
 | some o =>
  rw [e l o q] at h
  cases h
end L2
set_option maxHeartbeats 4000000
namespace L2
open PySem PySem.Spec PyProof.Rows
def Bz (n:Nat)(x:Int) : Prop:=x.natAbs < 2 ^ n
theorem Bz.mono {m n:Nat}{x:Int}(h:Bz m x)(hn:m≤n) : Bz n x:=Nat.lt_of_lt_of_le h (Nat.pow_le_pow_right (by decide) hn)
theorem Bz.bits {n:Nat}{x:Int}(h:Bz n x) : Builtin.Int.intBits x≤n:=PySem.intBits_le_iff.mpr h
theorem Bz.of_bits {n:Nat}{x:Int}(h:Builtin.Int.intBits x≤n) : Bz n x:=PySem.intBits_le_iff.mp h
theorem Bz.mulOk {m n:Nat}{x y:Int}(hx:Bz m x)(hy:Bz n y)(h:m + n≤134217728:=by decide) : IntMulOk x y:=PySem.IntMulOk.of_le hx.bits hy.bits h
theorem Bz.mul {m n:Nat}{x y:Int}(hx:Bz m x)(hy:Bz n y) : Bz (m + n) (x * y):=.of_bits (PySem.intBits_mul_le hx.bits hy.bits)
theorem Bz.neg {n:Nat}{x:Int}(hx:Bz n x) : Bz n (-x):=.of_bits (PySem.intBits_neg_le hx.bits)
theorem Bz.le {n:Nat}{x y:Int}(hx:Bz n x)(h:y.natAbs≤x.natAbs) : Bz n y:=Nat.lt_of_le_of_lt h hx
theorem Bz.fdiv {n:Nat}{x y:Int}(hx:Bz n x) : Bz n (x.fdiv y):=.of_bits (PySem.intBits_fdiv_le hx.bits)
theorem Bz.ediv {n:Nat}{x y:Int}(hx:Bz n x)(hy:0≤y) : Bz n (x / y):=by
 rw [← Int.fdiv_eq_ediv_of_nonneg x hy]
 exact hx.fdiv
theorem Bz.w {x:Int}(h1 : -340282366920938463463374607431768211456 < x)(h2:x < 340282366920938463463374607431768211456) : Bz 128 x:=by
 show x.natAbs < 340282366920938463463374607431768211456
 omega
theorem Bz.log2 {n:Nat}{x:Int}(h:Bz n x)(hn:n≤9000:=by decide) : x.natAbs.log2 < 9000:=by
 by_cases h0:x.natAbs=0
 ·rw [h0]; decide +kernel
 ·exact (Nat.log2_lt h0).mpr (Nat.lt_of_lt_of_le h (Nat.pow_le_pow_right (by decide) hn))
def CDivB (_ j:Int) : Prop:=0 < j∧j.natAbs.log2 < 9000
section
variable {X:Cx}
theorem op_mulB:OpR X (binaryOp .Mult) (rI IntMulOk fun i j=>.int (i * j)):=opI fun _ _ _ _ _ _ _ hc q=>mul_int q hc
theorem op_fdivB:OpR X (binaryOp .FloorDiv) (rI CDivB fun i j=>.int (i / j)):=opI fun i j _ _ _ _ _ hc q=>by
 have h1:(0:Int) < j:=hc.1
 exact floordiv_int (by omega) (by rw [Int.fdiv_eq_ediv_of_nonneg i (by omega)]; exact q) (.inl (PyProof.noPylong_of_log2 hc.2))
theorem ps_mid {st:Stmt}{t:TS}(h:PS X st t) : PS X st (fun D σ H=>∃ P:St→Hp→Prop,t { D with nx:=P } σ H∧∀ σ' H',P σ' H'→D.nx σ' H'):=by
 intro pins s σ H D I hw
 obtain ⟨P',hp,hk⟩:=hw
 refine thn (h pins s σ H _ I hp) fun f s1 q=>?_
 cases f with
 | next=>obtain ⟨σ',H',I',p⟩:=q; exact ⟨σ',H',I',hk _ _ p⟩
 | ret v=>exact q
 | brk=>exact q
 | cont=>exact q
theorem call_isi:CallR X (.builtin "isinstance") (fun xs H Q=>∃ x n t b,xs = [x,.ty n]∧TyOf X.K H x t∧PySem.W.kitOne X.K t (.type n)=some b∧Q (.bl b) H):=by
 intro pins s σ H xs us Q I r h
 obtain ⟨x,n,t,b,rfl,ty,e,q⟩:=h
 obtain ⟨u,w',rfl,r1,r2⟩:=vals2 r
 cases r2
 exact isinst_ok I r1 ty e fun tk=>⟨.bl b,H,I.tok tk,rfl,q⟩
def eqLV (xs ys:List V) : Bool:=(List.range (min xs.length ys.length)).all (fun j=>eqV (xs.getD j .non) (ys.getD j .non)) && xs.length == ys.length
def rEqT (K:PySem.W.Frag) : R2:=fun x y H Q=>∃ a b xs ys,x = .ref a∧y = .ref b∧SqT K H a xs∧SqT K H b ys∧xs.all flatV=true∧ys.all flatV=true∧Q (.bl (eqLV xs ys)) H
theorem flat_at {xs:List V}{its:List Value}(r:Vals xs its)(f:xs.all flatV=true){j:Nat}(h:j < its.toArray.size) : RelV (xs.getD j .non) its.toArray[j]∧flatV (xs.getD j .non)=true:=by
 have hl:=r.length
 have hj:j < xs.length:=by rw [hl]; simpa using h
 have e:xs[j]? = some xs[j]:=List.getElem?_eq_getElem hj
 obtain ⟨u,hu,ru⟩:=r.get e
 have e2:xs.getD j .non=xs[j]:=by rw [List.getD_eq_getElem?_getD,e]; rfl
 have hji:j < its.length:=by simpa using h
 have e3:its.toArray[j] = u:=by
  have:its[j]? = some its[j]:=List.getElem?_eq_getElem hji
  rw [this] at hu
  have:=Option.some.inj hu
  simpa using this
 rw [e2,e3]
 exact ⟨ru,List.all_eq_true.mp f _ (List.getElem_mem hj)⟩
theorem op_eqT (hu:X.A.units < cLine) : OpR X (compareOp .Eq) (rEqT X.K):=by
 intro pins s σ H x y v u Q I rx ry h
 obtain ⟨a,b,xs,ys,rfl,rfl,ha,hb,fx,fy,q⟩:=h
 cases rx
 cases ry
 obtain ⟨its,r1,p1,_⟩:=I.tuple ha
 obtain ⟨its2,r2,p2,_⟩:=I.tuple hb
 refine SeqAt.eq_tupleAt (e:=fun j=>eqV (xs.getD j .non) (ys.getD j .non)) p1 p2 hu (fun j h1 h2=>?_) ?_
 ·have z1:=flat_at r1 fx h1
  have z2:=flat_at r2 fy h2
  exact eqAt_V z1.1 z2.1 z1.2 z2.2
 ·refine ⟨.bl (eqLV xs ys),H,I,?_,q⟩
  show _=_
  unfold eqLV
  simp only [List.size_toArray,← r1.length,← r2.length]
end
theorem kp {H:Hp}{a p:Addr}{o u:HO}(h:H a=some o)(hp:H p=none) : upd H p u a=some o:=by rw [upd_ne (ne_of_none h hp)]; exact h
theorem iteN {c A B:Prop} [Decidable c](hc:¬ c)(h:B) : if decide c=true then A else B:=by
 rw [if_neg (fun z=>hc (of_decide_eq_true z))]
 exact h
theorem iteY {c A B:Prop} [Decidable c](hc:c)(h:A) : if decide c=true then A else B:=by
 rw [if_pos (decide_eq_true hc)]
 exact h
theorem ite3 {c A B:Prop} [Decidable c](h1:c→A)(h2:¬ c→B) : if decide c=true then A else B:=by
 by_cases h:c
 ·exact iteY h (h1 h)
 ·exact iteN h (h2 h)
theorem iteNo {c A B:Prop} [Decidable c](h1:¬ c→A)(h2:c→B) : if (!decide c)=true then A else B:=by
 by_cases h:c
 ·rw [decide_eq_true h]; exact iteF (h2 h)
 ·rw [decide_eq_false h]; exact iteT (h1 h)
theorem sz {n:Nat}(h:n≤1000:=by first | decide | (simp; done) | omega) : n≤sizeLine:=Nat.le_of_lt (small1000 h)
end L2
namespace L2
open PySem PySem.Spec PyProof.Rows
mutual
inductive DV (K:PySem.W.Frag) (H:Hp) : V→PyData→Prop
 | non:DV K H .non .none
 | bl (b:Bool) : DV K H (.bl b) (.bool b)
 | int (i:Int) : DV K H (.int i) (.int i)
 | str (x:Str) : DV K H (.str x) (.str x)
 | lst {a:Addr}{xs:List V}{ds:List PyData} : SqL K H a xs→DVs K H xs ds→DV K H (.ref a) (.list ds)
 | tup {a:Addr}{xs:List V}{ds:List PyData} : SqT K H a xs→DVs K H xs ds→DV K H (.ref a) (.tuple ds)
inductive DVs (K:PySem.W.Frag) (H:Hp) : List V→List PyData→Prop
 | nil:DVs K H [] []
 | cons {x:V}{xs:List V}{d:PyData}{ds:List PyData} : DV K H x d→DVs K H xs ds→DVs K H (x :: xs) (d :: ds)
end
section
variable {X:Cx}{pins:List (Addr × Obj)}{σ:St}{H:Hp}{s:Shared}
mutual
theorem DV.reads (I:Inv X pins σ H s) : ∀ {x:V}{d:PyData}{u:Value},DV X.K H x d→RelV x u→∃ as,Reads s.heap u d as
 | _,_,_,.non,r=>by cases r; exact ⟨_,.none⟩
 | _,_,_,.bl b,r=>by cases r; exact ⟨_,.bool b⟩
 | _,_,_,.int i,r=>by obtain ⟨t,rfl⟩:=r; exact ⟨_,.int i t⟩
 | _,_,_,.str x,r=>by obtain ⟨t,rfl⟩:=r; exact ⟨_,.str x t⟩
 | _,_,_,.lst h hs,r=>by
  cases r
  obtain ⟨its,rv,⟨o,n,e,c,_,dd⟩,_⟩:=I.list h
  obtain ⟨as,q⟩:=DVs.reads I hs rv
  exact ⟨_,.list e c dd (by simpa using q)⟩
 | _,_,_,.tup h hs,r=>by
  cases r
  obtain ⟨its,rv,⟨o,e,c,n,dd⟩,_⟩:=I.tuple h
  obtain ⟨as,q⟩:=DVs.reads I hs rv
  exact ⟨_,.tuple e c dd (by simpa using q)⟩
theorem DVs.reads (I:Inv X pins σ H s) : ∀ {xs:List V}{ds:List PyData}{us:List Value},DVs X.K H xs ds→Vals xs us→∃ as,ReadsAll s.heap us ds as
 | _,_,_,.nil,r=>by cases r; exact ⟨_,.nil⟩
 | _,_,_,.cons h hs,r=>by
  cases r with
  | cons r rr =>
   obtain ⟨as,q⟩:=DV.reads I h r
   obtain ⟨bs,q'⟩:=DVs.reads I hs rr
   exact ⟨_,.cons q q'⟩
end
end
def rEqD (K:PySem.W.Frag) : R2:=fun x y H Q=>∃ dx dy,DV K H x dx∧DV K H y dy∧SeqAt.shaped dx=true∧SeqAt.shaped dy=true∧Q (.bl (PyData.eqv dx dy)) H
def rNeD (K:PySem.W.Frag) : R2:=fun x y H Q=>∃ dx dy,DV K H x dx∧DV K H y dy∧SeqAt.shaped dx=true∧SeqAt.shaped dy=true∧Q (.bl (!PyData.eqv dx dy)) H
section
variable {X:Cx}{e se:Expr}{te ts:TE}{pos p2:Pos}
theorem op_eqD (hu:X.A.units + 64 < cLine) : OpR X (compareOp .Eq) (rEqD X.K):=by
 intro pins s σ H x y v u Q I rx ry h
 obtain ⟨dx,dy,hx,hy,sx,sy,q⟩:=h
 obtain ⟨as,r1⟩:=hx.reads I rx
 obtain ⟨bs,r2⟩:=hy.reads I ry
 exact eq_dataH r1 r2 sx sy hu ⟨.bl _,H,I,rfl,q⟩
theorem op_neD (hu:X.A.units + 64 < cLine) : OpR X (compareOp .NotEq) (rNeD X.K):=by
 intro pins s σ H x y v u Q I rx ry h
 obtain ⟨dx,dy,hx,hy,sx,sy,q⟩:=h
 obtain ⟨as,r1⟩:=hx.reads I rx
 obtain ⟨bs,r2⟩:=hy.reads I ry
 exact ne_dataH r1 r2 sx sy hu ⟨.bl _,H,I,rfl,q⟩
end
def SqF (K:PySem.W.Frag)(H:Hp)(a:Addr)(xs:List V) : Prop :=
 (∃ o,H a=some (.frz o (.lst xs)))∨∃ (o:Obj) (its:Array Value) (n:Nat),K.lookup a=some o∧o.cls = .type "list" ∧ o.dict=none∧o.data = .seq its n∧its.size≤sizeLine∧Vals xs its.toList
theorem SqF.sq {K:PySem.W.Frag}{H:Hp}{a:Addr}{xs:List V}(h:SqF K H a xs) : SqL K H a xs:=by
 rcases h with ⟨o,h⟩ | h
 ·exact .inl (.inr ⟨o,h⟩)
 ·exact .inr h
theorem SqF.upd {K:PySem.W.Frag}{H:Hp}{a p:Addr}{xs:List V}{u:HO}(h:SqF K H a xs)(hp:∀ o w,H p ≠ some (.frz o w)) : SqF K (L2.upd H p u) a xs:=by
 rcases h with ⟨o,h⟩ | h
 ·refine .inl ⟨o,?_⟩
  rw [upd_ne (fun e=>hp o _ (by rw [← e]; exact h))]
  exact h
 ·exact .inr h
theorem SqF.new {K:PySem.W.Frag}{H:Hp}{a p:Addr}{xs:List V}{u:HO}(h:SqF K H a xs)(hp:H p=none) : SqF K (L2.upd H p u) a xs:=h.upd fun o w e=>by rw [hp] at e; cases e
theorem SqF.of_only {K:PySem.W.Frag}{H:Hp}{a:Addr}{xs:List V}(hO:Only H)(h:SqL K H a xs) : SqF K H a xs:=by
 rcases h with (h | ⟨o,h⟩) | h
 ·rcases hO a with z | ⟨o,ys,z⟩
  ·rw [z] at h; cases h
  ·rw [z] at h; cases h
 ·exact .inl ⟨o,h⟩
 ·exact .inr h
theorem same_new {H:Hp}{p:Addr}(h:H p=none)(o:HO) : Same H (L2.upd H p o):=fun b u q=>by rw [upd_ne (ne_of_none q h)]; exact q
theorem SqF.same {K:PySem.W.Frag}{H H':Hp}{a:Addr}{xs:List V}(h:SqF K H a xs)(s:Same H H') : SqF K H' a xs:=by
 rcases h with ⟨o,h⟩ | h
 ·exact .inl ⟨o,s _ _ h⟩
 ·exact .inr h
end L2
namespace L2
open PySem
theorem bt_isinstance:bootBuiltins "isinstance" = some (.builtin "isinstance"):=by decide +kernel
theorem bt_int:bootBuiltins "int" = some (.type "int"):=by decide +kernel
theorem bt_bool:bootBuiltins "bool" = some (.type "bool"):=by decide +kernel
theorem bt_abs:bootBuiltins "abs" = some (.builtin "abs"):=by decide +kernel
theorem bt_tuple:bootBuiltins "tuple" = some (.type "tuple"):=by decide +kernel
theorem bt_list:bootBuiltins "list" = some (.type "list"):=by decide +kernel
theorem bt_str:bootBuiltins "str" = some (.type "str"):=by decide +kernel
theorem bt_len:bootBuiltins "len" = some (.builtin "len"):=by decide +kernel
theorem bt_sorted:bootBuiltins "sorted" = some (.builtin "sorted"):=by decide +kernel
theorem bt_set:bootBuiltins "set" = some (.type "set"):=by decide +kernel
theorem bt_all:bootBuiltins "all" = some (.builtin "all"):=by decide +kernel
theorem bt_any:bootBuiltins "any" = some (.builtin "any"):=by decide +kernel
theorem bt_sum:bootBuiltins "sum" = some (.builtin "sum"):=by decide +kernel
end L2
namespace L2
open PySem PySem.Spec PyProof.Rows
section
variable {X:Cx}{e se:Expr}{te ts:TE}{pos p2:Pos}
end
end L2
namespace M
def G (a b:Int) : Int:=if Nat.gcd a.natAbs b.natAbs=0 then 1 else (Nat.gcd a.natAbs b.natAbs:Nat)
theorem G_pos (a b:Int) : 0 < G a b:=by
 unfold G
 split <;> omega
theorem G_eq {a b:Int}(h:b ≠ 0) : G a b=((Nat.gcd a.natAbs b.natAbs:Nat) : Int):=by
 have:0 < Nat.gcd a.natAbs b.natAbs:=Nat.gcd_pos_of_pos_right _ (by omega)
 unfold G
 rw [if_neg (by omega)]
structure Inv (a b x y:Int) : Prop where
 x0:0≤x
 y0:0≤y
 e:Nat.gcd x.natAbs y.natAbs=Nat.gcd a.natAbs b.natAbs
theorem abs_eq (i:Int) : (if i < 0 then -i else i)=(i.natAbs:Int):=by
 split <;> omega
theorem Inv.start (a b:Int)(hb:0≤b) : Inv a b (if a < 0 then -a else a) b:=by
 rw [abs_eq]
 exact ⟨by omega,hb,by simp⟩
theorem Inv.start2 (a b:Int) : Inv a b (if a < 0 then -a else a) (if b < 0 then -b else b):=by
 rw [abs_eq,abs_eq]
 exact ⟨by omega,by omega,by simp⟩
theorem Inv.turn {a b x y:Int}(h:Inv a b x y)(hy:0 < y) : Inv a b y (x % y):=by
 obtain ⟨x0,y0,e⟩:=h
 refine ⟨y0,Int.emod_nonneg x (by omega),?_⟩
 rw [← e]
 have e1:(x % y).natAbs=x.natAbs % y.natAbs:=by
  obtain ⟨n,rfl⟩:=Int.eq_ofNat_of_zero_le x0
  obtain ⟨m,rfl⟩:=Int.eq_ofNat_of_zero_le y0
  exact congrArg Int.natAbs (Int.natCast_emod n m).symm
 rw [e1,Nat.gcd_comm x.natAbs y.natAbs]
 rw [Nat.gcd_comm y.natAbs (x.natAbs % y.natAbs),← Nat.gcd_rec,Nat.gcd_comm]
theorem less {x y:Int}(hy:0 < y) : (x % y).toNat < y.toNat:=by
 have h1:=Int.emod_nonneg x (show y ≠ 0 by omega)
 have h2:=Int.emod_lt_of_pos x hy
 omega
theorem Inv.out {a b x y:Int}(h:Inv a b x y)(hy:y=0)(hb:b ≠ 0) : x=G a b:=by
 obtain ⟨x0,y0,e⟩:=h
 rw [G_eq hb,← e,hy]
 simp
 omega
theorem G_dvd (a b:Int) : (G a b ∣ a)∧(G a b ∣ b):=by
 unfold G
 split
 ·exact ⟨Int.one_dvd _,Int.one_dvd _⟩
 ·exact ⟨Int.ofNat_dvd_left.mpr (Nat.gcd_dvd_left _ _),Int.ofNat_dvd_left.mpr (Nat.gcd_dvd_right _ _)⟩
theorem G_le {a b:Int}(h:b ≠ 0) : (G a b).natAbs≤b.natAbs:=by
 rw [G_eq h]
 exact Nat.le_of_dvd (by omega) (Nat.gcd_dvd_right _ _)
end M
namespace M
theorem num_low {t b:Int}(hb:0 < b) : t / G t b=(Rat.divInt t b).num:=by
 rw [Rat.num_divInt,G_eq (by omega),Int.sign_eq_one_of_pos hb,Int.one_mul]
 show t / _=t / ((Nat.gcd b.natAbs t.natAbs:Nat) : Int)
 rw [Nat.gcd_comm]
theorem den_low {t b:Int}(hb:0 < b) : b / G t b=((Rat.divInt t b).den:Int):=by
 rw [Rat.den_divInt,if_neg (by omega),G_eq (by omega)]
 show b / _=(((b.natAbs / Nat.gcd b.natAbs t.natAbs:Nat)) : Int)
 rw [Int.natCast_ediv,Nat.gcd_comm]
 congr 1
 omega
theorem num_neg {t b:Int}(hb:b < 0) : t.fdiv (-G t b)=(Rat.divInt t b).num:=by
 have e:Rat.divInt t b=Rat.divInt (-t) (-b):=(Rat.neg_divInt_neg t b).symm
 rw [e,← num_low (by omega)]
 have g:G (-t) (-b)=G t b:=by unfold G; simp
 have h:=G_pos t b
 rw [g,← Int.fdiv_eq_ediv_of_nonneg (-t) (Int.le_of_lt h)]
 rw [← Int.neg_fdiv_neg,Int.neg_neg]
theorem den_neg {t b:Int}(hb:b < 0) : b.fdiv (-G t b)=((Rat.divInt t b).den:Int):=by
 have e:Rat.divInt t b=Rat.divInt (-t) (-b):=(Rat.neg_divInt_neg t b).symm
 rw [e,← den_low (by omega)]
 have g:G (-t) (-b)=G t b:=by unfold G; simp
 have h:=G_pos t b
 rw [g,← Int.fdiv_eq_ediv_of_nonneg (-b) (Int.le_of_lt h)]
 rw [← Int.neg_fdiv_neg,Int.neg_neg]
theorem add_q (q r:Rat) : Rat.divInt (q.num * (r.den:Int) + r.num * (q.den:Int)) ((q.den:Int) * (r.den:Int))=q + r:=by
 have h1:=q.den_pos
 have h2:=r.den_pos
 rw [← Rat.divInt_add_divInt _ _ (by omega) (by omega),Rat.num_divInt_den,Rat.num_divInt_den]
end M
namespace M
abbrev D0:Int:=5342931457063200
def Item (r:Rat) : Prop:=∃ c:Int,r=Rat.divInt c D0 ∧ -(100000000000 * D0)≤c∧c≤100000000000 * D0
def All (rs:List Rat) : Prop:=∀ r∈rs,Item r
end M
namespace M
theorem cop_part {n1 n2:Int}{a b:Nat}(h1:Nat.Coprime n1.natAbs a)(h2:Nat.Coprime b a) : Nat.Coprime (n1 * (b:Int) + n2 * (a:Int)).natAbs a:=by
 have da:=Nat.gcd_dvd_right (n1 * (b:Int) + n2 * (a:Int)).natAbs a
 have dt:=Nat.gcd_dvd_left (n1 * (b:Int) + n2 * (a:Int)).natAbs a
 show Nat.gcd _ _=1
 generalize Nat.gcd (n1 * (b:Int) + n2 * (a:Int)).natAbs a=d at da dt
 have e1:(d:Int) ∣ n1 * (b:Int) + n2 * (a:Int):=Int.ofNat_dvd_left.mpr dt
 have e2:(d:Int) ∣ n2 * (a:Int):=Int.dvd_trans (Int.ofNat_dvd.mpr da) (Int.dvd_mul_left _ _)
 have e3:(d:Int) ∣ n1 * (b:Int):=(Int.dvd_add_left e2).mp e1
 have e4:d ∣ n1.natAbs * b:=by
  have z:=Int.ofNat_dvd_left.mp e3
  rwa [Int.natAbs_mul,Int.natAbs_natCast] at z
 have c1:Nat.Coprime d n1.natAbs:=Nat.Coprime.symm (Nat.Coprime.coprime_dvd_right da h1)
 have e5:d ∣ b:=c1.dvd_of_dvd_mul_left e4
 have e6:d ∣ 1:=by
  rw [← h2]
  exact Nat.dvd_gcd e5 da
 exact Nat.dvd_one.mp e6
theorem gcd_part {n1 n2:Int}{g a b:Nat}(h1:Nat.Coprime n1.natAbs (g * a)) (h2:Nat.Coprime n2.natAbs (g * b)) (h3:Nat.Coprime a b) :
  Nat.gcd (n1 * (b:Int) + n2 * (a:Int)).natAbs (g * a * b)=Nat.gcd (n1 * (b:Int) + n2 * (a:Int)).natAbs g:=by
 have c1:=cop_part (n1:=n1) (n2:=n2) (h1.coprime_dvd_right (Nat.dvd_mul_left a g)) h3.symm
 have c2:=cop_part (n1:=n2) (n2:=n1) (h2.coprime_dvd_right (Nat.dvd_mul_left b g)) h3
 rw [Int.add_comm] at c2
 rw [Nat.Coprime.gcd_mul_right_cancel_right _ c2.symm,Nat.Coprime.gcd_mul_right_cancel_right _ c1.symm]
theorem plus_low (q r:Rat) :
  (q.num * ((r.den:Int) / G q.den r.den) + r.num * ((q.den:Int) / G q.den r.den)) / G (q.num * ((r.den:Int) / G q.den r.den) + r.num * ((q.den:Int) / G q.den r.den)) (G q.den r.den)=(q + r).num ∧
  (q.den:Int) / G (q.num * ((r.den:Int) / G q.den r.den) + r.num * ((q.den:Int) / G q.den r.den)) (G q.den r.den) * ((r.den:Int) / G q.den r.den)=((q + r).den:Int):=by
 have p1:=q.den_pos
 have p2:=r.den_pos
 have hg:0 < Nat.gcd q.den r.den:=Nat.gcd_pos_of_pos_left _ p1
 have eg:G q.den r.den=((Nat.gcd q.den r.den:Nat) : Int):=by
  rw [G_eq (by omega)]
  simp
 obtain ⟨a,ea⟩:=Nat.gcd_dvd_left q.den r.den
 obtain ⟨b,eb⟩:=Nat.gcd_dvd_right q.den r.den
 have cab:Nat.Coprime a b:=by
  have z:=Nat.coprime_div_gcd_div_gcd (m:=q.den) (n:=r.den) hg
  have z1:q.den / Nat.gcd q.den r.den=a:=by
   conv=>lhs; lhs; rw [ea]
   exact Nat.mul_div_cancel_left _ hg
  have z2:r.den / Nat.gcd q.den r.den=b:=by
   conv=>lhs; lhs; rw [eb]
   exact Nat.mul_div_cancel_left _ hg
  rwa [z1,z2] at z
 rw [eg]
 have r1:=q.reduced
 have r2:=r.reduced
 have aq:=add_q q r
 generalize q + r=s at aq
 generalize Nat.gcd q.den r.den=g at *
 rw [ea] at r1 aq p1 ⊢
 rw [eb] at r2 aq p2 ⊢
 have d1:((g * a:Nat) : Int) / (g:Int)=(a:Int):=by
  rw [Int.natCast_mul]
  exact Int.mul_ediv_cancel_left _ (by omega)
 have d2:((g * b:Nat) : Int) / (g:Int)=(b:Int):=by
  rw [Int.natCast_mul]
  exact Int.mul_ediv_cancel_left _ (by omega)
 rw [d1,d2]
 have hb:0 < b:=by
  rcases Nat.eq_zero_or_pos b with h | h
  ·subst h; omega
  ·exact h
 have hD:(0:Int) < ((g * a * b:Nat) : Int):=by
  have:0 < g * a * b:=Nat.mul_pos p1 hb
  omega
 have gg:G (q.num * (b:Int) + r.num * (a:Int)) (g:Int)=G (q.num * (b:Int) + r.num * (a:Int)) ((g * a * b:Nat) : Int):=by
  rw [G_eq (by omega),G_eq (by omega),Int.natAbs_natCast,Int.natAbs_natCast,gcd_part r1 r2 cab]
 have es:Rat.divInt (q.num * (b:Int) + r.num * (a:Int)) ((g * a * b:Nat) : Int)=s:=by
  rw [← aq,← Rat.divInt_mul_right (n:=q.num * (b:Int) + r.num * (a:Int)) (d:=((g * a * b:Nat) : Int)) (a:=(g:Int)) (by omega)]
  congr 1
  ·simp only [Int.natCast_mul,Int.add_mul]
   rw [Int.mul_assoc,Int.mul_assoc,Int.mul_comm (b:Int),Int.mul_comm (a:Int)]
  ·simp only [Int.natCast_mul]
   rw [Int.mul_assoc ((g:Int) * a),Int.mul_comm (b:Int)]
 have dv:G (q.num * (b:Int) + r.num * (a:Int)) (g:Int) ∣ ((g * a:Nat) : Int):=by
  rw [Int.natCast_mul]
  exact Int.dvd_trans (G_dvd _ _).2 (Int.dvd_mul_right _ _)
 refine ⟨?_,?_⟩
 ·rw [gg,num_low hD,es]
 ·rw [← Int.mul_ediv_assoc' _ dv,gg,← Int.natCast_mul,den_low hD,es]
end M
namespace L2
open PySem PySem.Spec PyProof.Rows
theorem ObjOk.there {P:Program}{w:World}{H:Hp}{h:Heap}{a:Addr}{o:HO}(x:ObjOk P w H h a o) : ∃ ob,h.get? a=some ob:=by
 cases o with
 | lst xs=>obtain ⟨_,_,_,_,e⟩:=x; exact ⟨_,e⟩
 | tup xs=>obtain ⟨_,_,_,ob,e,_⟩:=x; exact ⟨ob,e⟩
 | dK kvs=>obtain ⟨_,_,_,_,o,_,_,e,_⟩:=x; exact ⟨o,e⟩
 | dT kvs=>obtain ⟨_,_,_,_,o,_,_,e,_⟩:=x; exact ⟨o,e⟩
 | set S n=>obtain ⟨o,_,_,_,e,_⟩:=x; exact ⟨o,e⟩
 | ins C dx fs=>obtain ⟨_,_,_,e,_⟩:=x; exact ⟨_,e⟩
 | own y=>exact x
 | xd fs=>obtain ⟨_,⟨_,_,_,e,_⟩,_⟩:=x; exact ⟨_,e⟩
 | rng lo hi=>obtain ⟨_,_,_,e⟩:=x; exact ⟨_,e⟩
 | frz ob u=>obtain ⟨e,_⟩:=x; exact ⟨_,e⟩
 | tbl ps=>exact ⟨_,x⟩
 | met f y=>exact ⟨_,x⟩
 | ext φ=>obtain ⟨_,e,_⟩:=x; exact e
structure Fly (P:Program) (w:World) (outer:List Env) (H:Hp) (s:Shared) (cls:Value) (H':Hp) (ea:Addr) (B:Heap) (a0:Value) (s':Shared) : Prop where
 os:s'.os=s.os
 bare:AllBare s'.gens
 new:s.heap.get? ea=none
 un:Un (frs outer) [] H H' s.heap s'.heap
 hok:HOk P w H' s'.heap
 keepB:∀ b o,s.heap.get? b=some o→H b=none→b ∉ frs outer→B.get? b=some o
 tracked:∀ b u,H' b=some u→∃ o,s'.heap.get? b=some o∧B.get? b=some o
 thB:∀ b o,s.heap.get? b=some o→b ∉ frs outer→∃ o',B.get? b=some o'
 fly:Heap.FlyingW B outer ea cls a0 s'.heap
section
variable {P:Program}{w:World}{outer:List Env}{H H':Hp}{s s':Shared}{cls a0:Value}{ea:Addr}{B h':Heap}
end
section
variable {X:Cx}{pins:List (Addr × Obj)}{σ:St}{H:Hp}{s s':Shared}{M:Model}{E:Value→Shared→Prop}{Q:Unit→Shared→Prop}
theorem Inv.notStk (I:Inv X pins σ H s){b:Addr}{o:Obj}(e:X.s₀.heap.get? b=some o)(hb:b ∉ X.fs) : b ∉ frs X.stack:=fun z =>
 (List.mem_cons.mp (I.stkSub b z)).elim (fun q=>absurd q (Nat.ne_of_lt (Nat.lt_of_lt_of_le (Heap.lt_size e) I.ok.above))) hb
theorem fly_on (I:Inv X pins σ H s) (hst:X.stack=X.env :: X.outer) (hf:X.env.frame=some X.env.locals) (hex:X.ex = []) {H':Hp}{ea:Addr}{cls a0:Value}{B:Heap}(F:Fly X.prog X.w X.stack H s cls H' ea B a0 s')
  (k:∀ h',Fly X.prog X.w X.outer X.H₀ X.s₀ cls H' ea B a0 { s' with heap:=h' }→Q () { s' with heap:=h' }) : wpAny M X.A (leaving X.env (.ref ea)) Q E s':=by
 have noex:∀ b:Addr,b ∉ X.ex:=fun b z=>by rw [hex] at z; cases z
 have sub:∀ b∈X.fs,b∈frs X.stack:=fun b hb=>by
  rw [hst]
  obtain ⟨env,he,hf'⟩:=List.mem_filterMap.mp hb
  exact List.mem_filterMap.mpr ⟨env,List.mem_cons_of_mem _ he,hf'⟩
 refine wpAny_leaves_onW (by rw [I.ok.frames,hst]) hf (by have z:=F.fly; rw [hst] at z; exact z) fun h' x1 x2=>k h' ?_
 have st:=x1.1
 have ff:=F.fly.2.2.1
 refine ⟨F.os.trans I.os,F.bare,?_,⟨fun b o e n hb _=>?_,fun b o e n hb _=>?_,fun b o e n _=>?_,fun b o e _=>?_,fun b xs e=>F.un.tups b xs (I.base.tups b xs e),fun b o u e=>F.un.frzs b o u (I.base.frzs b o u e),fun b ps e=>?_⟩,fun a u e=>?_,fun b o e n hb=>?_,fun b u e=>?_,fun b o e hb=>?_,x1⟩
 ·cases q:X.s₀.heap.get? ea with
  | none=>rfl
  | some o =>
   obtain ⟨o',e⟩:=I.base.there ea o q (noex ea)
   rw [F.new] at e
   cases e
 ·exact st b o (F.keepB b o (I.base.keep b o e n hb (noex b)) (I.base.free b o e n (noex b)) (I.notStk e hb))
 ·obtain ⟨sl,e1⟩:=I.base.slot b o e n hb (noex b)
  obtain ⟨sl2,e2⟩:=F.un.slot b _ e1 (I.base.free b o e n (noex b)) (sub b hb) (by simp)
  obtain ⟨_,o2,ho2,nf⟩:=ff.mem (sub b hb)
  rw [e2] at ho2
  cases ho2
  obtain ⟨sl',e3⟩:=x2 b _ e2 nf
  exact ⟨sl',e3⟩
 ·obtain ⟨o',e'⟩:=I.base.there b o e (noex b)
  exact F.un.free b o' e' (I.base.free b o e n (noex b)) (by simp)
 ·by_cases hb:b∈X.fs
  ·obtain ⟨_,o2,ho2,nf⟩:=ff.mem (sub b hb)
   obtain ⟨sl',e3⟩:=x2 b _ ho2 nf
   exact ⟨_,e3⟩
  ·obtain ⟨o',e'⟩:=I.base.there b o e (noex b)
   obtain ⟨o2,e2⟩:=F.thB b o' e' (I.notStk e hb)
   exact ⟨o2,st b o2 e2⟩
 ·obtain ⟨m1,e1⟩:=I.base.tbls b ps e
  obtain ⟨m2,e2⟩:=F.un.tbls b _ e1
  exact ⟨m1 ++ m2,by rw [e2,Array.append_assoc]⟩
 ·refine (F.hok a u e).stay (fun b v hb q=>?_) (fun _ q=>q) fun _ _ q=>q
  have z:∃ u',H' b=some u':=by
   rcases hb with z | z
   ·rw [z]; exact ⟨u,e⟩
   ·exact ⟨_,z⟩
  obtain ⟨u',e'⟩:=z
  obtain ⟨o,e1,e2⟩:=F.tracked b u' e'
  rw [q] at e1
  cases e1
  exact st b v e2
 ·exact F.keepB b o (I.base.keep b o e n hb (noex b)) (I.base.free b o e n (noex b)) (I.notStk e hb)
 ·obtain ⟨o,_,e2⟩:=F.tracked b u e
  exact ⟨o,st b o e2,e2⟩
 ·obtain ⟨o',e'⟩:=I.base.there b o e (noex b)
  exact F.thB b o' e' (I.notStk e hb)
end
section
variable {P:Program}{w:World}{K:PySem.W.Frag}{mg:Str→Option Value}{base:Heap}
end
structure Exc (K:PySem.W.Frag) (mg:Str→Option Value) (x:Str) (C:Addr) : Prop where
 at':mg x=some (.ref C)
 ex:PySem.W.excIn K C [.type "ValueError", .type "Exception", .type "BaseException", .type "object"] "ValueError.__new__" = true
section
variable {P:Program}{w:World}{K:PySem.W.Frag}{mg:Str→Option Value}{base:Heap}{N:List Str}{qual:Str}{scope:Scope}{f C:Addr}{cd:Value}{A:Around}{outer:List Env}{s₀:Shared}{H₀:Hp}{E:XK}{x:Str}{e:Expr}{es:List Expr}{t:TA}{np cpos pos:Pos}
end
section
variable {X:Cx}{k:Nat}{f C:Addr}{fd:FuncData}{ps:List Str}{sp:Sp}{dvs:List V}{ds:List Value}{x m:Str}{p pos apos:Pos}{e o:Expr}{es:List Expr}{ta:TE}{t:TA}
end
end L2
namespace L2
open PySem PySem.Spec PyProof.Rows
structure ExcI (K:PySem.W.Frag) (C:Addr) : Prop where
 ga:PySem.W.findIn K (.ref C) "__getattribute__" = some (some (.builtin "BaseException.__getattribute__"))
 gt:PySem.W.findIn K (.ref C) "__getattr__" = some none
 cl:PySem.W.findIn K (.ref C) "__class__" = some (some (.builtin "object.__class__"))
 mb:PySem.W.mroIn K C (.type "BaseException")=some true
 mo:PySem.W.mroIn K C (.type "object")=some true
section
variable {prog:Program}{w:World}{A:Around}{E:Value→Shared→Prop}{h:Heap}{g:Array GenState}{d:Drawn}{t:Nat}{os:OsState}{a C:Addr}{o:Obj}{vs:Array Value}{K:PySem.W.Frag}
end
section
variable {X:Cx}
end
end L2
namespace L2
open PySem PySem.Spec PyProof.Rows
def clOf (cells:List (Str × Addr)) : List (Str × NameKind)→List (Str × Addr)→List (Str × Addr)
 | [],acc=>acc
 | (n,k) :: r,acc=>if k == .free then (match cells.lookup n with | some c=>clOf cells r ((n,c) :: acc) | none=>clOf cells r acc) else clOf cells r acc
theorem clOf_sub {cells:List (Str × Addr)} : ∀ {names:List (Str × NameKind)}{acc:List (Str × Addr)},(∀ x c,acc.lookup x=some c→cells.lookup x=some c)→∀ x c,(clOf cells names acc).lookup x=some c→cells.lookup x=some c
 | [],_,h=>h
 | (n,k) :: r,acc,h=>by
  intro x c
  unfold clOf
  split
  ·split
   ·rename_i c' hc
    refine clOf_sub (names:=r) (fun y d hy=>?_) x c
    rw [List.lookup_cons] at hy
    by_cases e:y == n
    ·rw [e] at hy
     cases hy
     rw [beq_iff_eq.mp e]
     exact hc
    ·rw [Bool.eq_false_iff.mpr e] at hy
     exact h y d hy
   ·exact clOf_sub (names:=r) h x c
  ·exact clOf_sub (names:=r) h x c
theorem clOf_mono {cells:List (Str × Addr)} : ∀ {names:List (Str × NameKind)}{acc:List (Str × Addr)}{x:Str},(∃ c,acc.lookup x=some c)→∃ c,(clOf cells names acc).lookup x=some c
 | [],_,_,h=>h
 | (n,k) :: r,acc,x,h=>by
  unfold clOf
  split
  ·split
   ·refine clOf_mono (names:=r) ?_
    rw [List.lookup_cons]
    by_cases e:x == n
    ·rw [e]; exact ⟨_,rfl⟩
    ·rw [Bool.eq_false_iff.mpr e]; exact h
   ·exact clOf_mono (names:=r) h
  ·exact clOf_mono (names:=r) h
theorem clOf_has {cells:List (Str × Addr)} : ∀ {names:List (Str × NameKind)}{acc:List (Str × Addr)}{x:Str},(x,NameKind.free)∈names→(∃ c,cells.lookup x=some c)→∃ c,(clOf cells names acc).lookup x=some c
 | [],_,_,h,_=>by cases h
 | (n,k) :: r,acc,x,h,hc=>by
  unfold clOf
  rcases List.mem_cons.mp h with e | e
  ·cases e
   obtain ⟨c,hc⟩:=hc
   rw [hc]
   refine clOf_mono (names:=r) ⟨c,?_⟩
   rw [List.lookup_cons,beq_self_eq_true]
  ·split
   ·split
    ·exact clOf_has (names:=r) e hc
    ·exact clOf_has (names:=r) e hc
   ·exact clOf_has (names:=r) e hc
theorem closureFor_eq {scope:Scope}{env:Env}(h:∀ y∈scope.names,y.2 = .free→∃ c,env.cells.lookup y.1=some c) : closureFor scope env=pure (clOf env.cells scope.names []):=by
 have gen:∀ (names:List (Str × NameKind)) (acc:List (Str × Addr)),(∀ y∈names,y.2 = .free→∃ c,env.cells.lookup y.1=some c) →
   (forIn names acc fun (x:Str × NameKind) r=>(if x.2 == NameKind.free then do let c ← cellOf env x.1; pure (ForInStep.yield ((x.1,c) :: r)) else pure (ForInStep.yield r) : Sem (ForInStep (List (Str × Addr)))))=pure (clOf env.cells names acc):=by
  intro names
  induction names with
  | nil=>intro acc _; rfl
  | cons y r ih =>
   intro acc h
   obtain ⟨n,k⟩:=y
   have hr:∀ y∈r,y.2 = .free→∃ c,env.cells.lookup y.1=some c:=fun y hy=>h y (List.mem_cons_of_mem _ hy)
   rw [List.forIn_cons]
   unfold clOf
   by_cases e:(k == NameKind.free)=true
   ·obtain ⟨c,hc⟩:=h (n,k) List.mem_cons_self (by simpa using e)
    rw [if_pos e,hc]
    have hcell:cellOf env n=pure c:=by
     unfold cellOf
     rw [show env.cells.lookup n=some c from hc]
    simp only [if_pos e,hcell,pure_bind]
    exact ih _ hr
   ·rw [if_neg e]
    simp only [if_neg e,pure_bind]
    exact ih _ hr
 unfold closureFor
 have g:=gen scope.names [] h
 simp only [bind_pure]
 exact g
end L2
namespace L2
open PySem PySem.Spec PyProof.Rows
def rlb (env:Env)(names:List (Str × NameKind)) : List (Str × NameKind):=names.map fun (n,k)=>if (k == NameKind.free && env.scope.kind == .function && env.kindOf n == some .cell) then (n,NameKind.cell) else (n,k)
theorem rlb_lookup {env:Env} : ∀ {names:List (Str × NameKind)}{x:Str},(rlb env names).lookup x=(names.lookup x).map fun k=>if (k == NameKind.free && env.scope.kind == .function && env.kindOf x == some .cell) then NameKind.cell else k
 | [],_=>rfl
 | (n,k) :: r,x=>by
  have ih := @rlb_lookup env r x
  show List.lookup x ((if (k == NameKind.free && env.scope.kind == .function && env.kindOf n == some .cell)=true then (n,NameKind.cell) else (n,k)) :: rlb env r)=_
  rw [List.lookup_cons]
  cases hx:x == n with
  | true =>
   have e:=beq_iff_eq.mp hx
   subst e
   by_cases hc:(k == NameKind.free && env.scope.kind == .function && env.kindOf x == some .cell)=true
   ·rw [if_pos hc,List.lookup_cons,beq_self_eq_true]
    show _=some (if (k == NameKind.free && env.scope.kind == .function && env.kindOf x == some .cell)=true then NameKind.cell else k)
    rw [if_pos hc]
   ·rw [if_neg hc,List.lookup_cons,beq_self_eq_true]
    show _=some (if (k == NameKind.free && env.scope.kind == .function && env.kindOf x == some .cell)=true then NameKind.cell else k)
    rw [if_neg hc]
  | false =>
   by_cases hcond:(k == NameKind.free && env.scope.kind == .function && env.kindOf n == some .cell)=true
   ·rw [if_pos hcond,List.lookup_cons,hx]; exact ih
   ·rw [if_neg hcond,List.lookup_cons,hx]; exact ih
theorem mem_of_look {names:List (Str × NameKind)}{x:Str}{k:NameKind}(h:names.lookup x=some k) : (x,k)∈names:=PySem.mem_of_lookup h
def lcN (X:Cx)(ts:List Str)(js:List Nat) : List Str:=ts ++ js.map fun j=>X.N.getD j ""
def lcS (ts:List Str)(js:List Nat)(σ:St) : St:=ts.map (fun _=>none) ++ js.map fun j=>(σ[j]?).join
abbrev Cx.lc (X:Cx) (scope:Scope) (ts:List Str) (js:List Nat) (C:Addr) (s2:Shared) (H2:Hp) (fp:List Addr) : Cx :=
 { X with N:=lcN X ts js,s₀:=s2,H₀:=H2,env:=compEnvC scope (clOf X.env.cells scope.names []) C X.env,outer:=X.stack,ex:=fp,fn:=fun _=>false,pn:=[],xe:=fun _ _=>False }
structure LcOk (X:Cx) (scope:Scope) (js:List Nat) : Prop where
 kind:scope.kind = .function
 cell:∀ y∈scope.names,y.2 ≠ .cell
 names:∀ y∈scope.names,y.2 = .local→scope.names.lookup y.1=some .local
 free:∀ y∈scope.names,y.2 = .free→X.env.kindOf y.1=some .cell∨X.env.kindOf y.1=some .free
 cap:∀ j∈js,scope.names.lookup (X.N.getD j "")=some .free
section
variable {X:Cx}{scope:Scope}{ts:List Str}{js:List Nat}{pins:List (Addr × Obj)}{σ:St}{H H':Hp}{s:Shared}{h':Heap}
theorem lc_start {C:Addr}{fp:List Addr}{t':Nat}(L:LcOk X scope js) (I:Inv X pins σ H s) (hC:s.heap.objs.size≤C) (hns:h'.Ns C fun _=>none) (kept:∀ b o,s.heap.get? b=some o→h'.get? b=some o)
  (hfp:∀ b∈fp,FpOk X pins H b) (hob:∀ b∈fp,∃ o,s.heap.get? b=some o) : Inv (X.lc scope ts js C s H fp) [] (lcS ts js σ) H { s with heap:=h',toks:=t' }:=by
 have sub:∀ x c,(clOf X.env.cells scope.names []).lookup x=some c→X.env.cells.lookup x=some c:=clOf_sub (names:=scope.names) (acc:=[]) (fun _ _ z=>by cases z)
 have hasc:∀ x,scope.names.lookup x=some .free→∃ c,(clOf X.env.cells scope.names []).lookup x=some c:=fun x hx =>
  clOf_has (mem_of_look hx) (I.ok.has x (L.free _ (mem_of_look hx) rfl))
 have kinds:∀ x,(compEnvC scope (clOf X.env.cells scope.names []) C X.env).kindOf x=(scope.names.lookup x).map fun k=>if (k == NameKind.free && X.env.scope.kind == .function && X.env.kindOf x == some .cell) then NameKind.cell else k:=fun x=>rlb_lookup
 have ltC:∀ b o,s.heap.get? b=some o→b ≠ C:=fun b o e=>Nat.ne_of_lt (Nat.lt_of_lt_of_le (Heap.lt_size e) hC)
 have fromFree:∀ x,((compEnvC scope (clOf X.env.cells scope.names []) C X.env).kindOf x=some .cell∨(compEnvC scope (clOf X.env.cells scope.names []) C X.env).kindOf x=some .free)→scope.names.lookup x=some .free:=fun x hx=>by
  rw [kinds] at hx
  cases q:scope.names.lookup x with
  | none=>rw [q] at hx; rcases hx with z | z <;> cases z
  | some k =>
   rw [q] at hx
   have hk:k ≠ .cell:=L.cell _ (mem_of_look q)
   cases k with
   | free=>rfl
   | cell=>exact absurd rfl hk
   | _=>rcases hx with z | z <;> cases z
 refine ⟨⟨I.ok.mod,L.kind,I.ok.glob,I.ok.blt,hC,fun x y c h1 h2=>I.ok.inj x y c (sub x c h1) (sub y c h2),fun x hx=>hasc x (fromFree x hx),fun _ _ z=>Bool.noConfusion z,I.ok.hd,I.ok.frames,.inl rfl,fun b hb=>?_,I.bs,Nat.le_trans I.ok.bsz I.sz,fun b o e hb=>?_,fun b hb z=>?_,I.stack,I.stkFree⟩,
  rfl,I.bare,Un.kept kept,⟨_,hns,fun i x v h1 h2 h3=>?_⟩,fun x c e=>?_,I.hok.fresh hC,fun x c e=>I.freeC x c (sub x c e),fun p hp=>absurd (show p∈([] : List (Addr × Obj)) from hp) (by simp),I.hok.kept kept,?_⟩
 ·obtain ⟨o,e⟩:=hob b hb
  exact ⟨ltC b o e,fun x c q=>(hfp b hb).2.2.2.2.1 x c (sub x c q)⟩
 ·rcases (hfp b hb).2.2.2.1 with z | z
  ·exact I.ok.noex b o e z
  ·exact absurd (Nat.lt_of_lt_of_le (Heap.lt_size e) (Nat.le_trans I.ok.bsz z)) (Nat.lt_irrefl _)
 ·exact (List.mem_cons.mp (I.stkSub b z)).elim (hfp b hb).2.1 (hfp b hb).2.2.1
 ·have hi:¬ i < ts.length:=fun hi=>by
   have h2':(lcS ts js σ)[i]? = some (some v):=h2
   unfold lcS at h2'
   rw [List.getElem?_append_left (by simpa using hi),List.getElem?_map,List.getElem?_eq_getElem hi] at h2'
   cases h2'
  have h2':(lcS ts js σ)[i]? = some (some v):=h2
  have h1':(lcN X ts js)[i]? = some x:=h1
  unfold lcS at h2'
  unfold lcN at h1'
  rw [List.getElem?_append_right (by simpa using hi),List.getElem?_map,List.length_map] at h2'
  rw [List.getElem?_append_right (by omega),List.getElem?_map] at h1'
  cases q:js[i - ts.length]? with
  | none=>rw [q] at h1'; cases h1'
  | some j =>
   rw [q] at h1' h2'
   have e1:X.N.getD j "" = x:=Option.some.inj h1'
   have e2:(σ[j]?).join=some v:=Option.some.inj h2'
   have e3:σ[j]? = some (some v):=by
    cases z:σ[j]? with
    | none=>rw [z] at e2; cases e2
    | some o=>rw [z] at e2; exact congrArg some e2
   have hj:j < X.N.length:=by rw [← I.len]; exact (List.getElem?_eq_some_iff.mp e3).1
   have e4:X.N[j]? = some x:=by
    rw [List.getElem?_eq_getElem hj,← e1,List.getD_eq_getElem?_getD,List.getElem?_eq_getElem hj]; rfl
   have hf:=L.cap j (List.mem_of_getElem? q)
   rw [e1] at hf
   have hk:=L.free _ (mem_of_look hf) rfl
   obtain ⟨m,hn,hl⟩:=I.loc
   have vis:Vis X.env.scope x:=by
    rcases hk with z | z
    ·exact .inr (.inl z)
    ·exact .inr (.inr z)
   obtain ⟨u,r,l⟩:=hl j x v e4 e3 vis
   refine ⟨u,r,?_⟩
   rcases l with ⟨z,_⟩ | ⟨_,c,hc,hcell⟩
   ·have z':X.env.kindOf x=some .local:=z
    rcases hk with k | k
    ·rw [z'] at k; cases k
    ·rw [z'] at k; cases k
   ·obtain ⟨c',hc'⟩:=hasc x hf
    have e5:=sub x c' hc'
    rw [hc] at e5
    cases e5
    refine .inr ⟨?_,c,hc',?_⟩
    ·rw [kinds,hf]
     by_cases z:((NameKind.free == NameKind.free) && X.env.scope.kind == .function && X.env.kindOf x == some .cell)=true
     ·left; simp only [Option.map_some,if_pos z]
     ·right; simp only [Option.map_some,if_neg z]
    ·obtain ⟨o,ho,hd⟩:=hcell
     exact ⟨o,kept c o ho,hd⟩
 ·obtain ⟨v,o,ho,hd⟩:=I.cell x c (sub x c e)
  exact ⟨v,o,kept c o ho,hd⟩
 ·show (lcS ts js σ).length=(lcN X ts js).length
  unfold lcS lcN
  simp
end
end L2
namespace L2
open PySem PySem.Spec PyProof.Rows
def LcTurn (Mo:Model)(A:Around)(tgt elt:Expr)(tests:List Expr)(it lst:Value)(env:Env)(Fin:Shared→Prop)(Again:Shared→Prop)(s0:Shared) : Prop :=
 wpAny Mo A (pyNext it) (fun nx s1=>match nx with
  | none=>Fin s1
  | some v=>wpAny Mo A (letOwnedTupleGo tgt it v) (fun _ s2=>wpAny Mo A (assign tgt env v) (fun _ s3 =>
    wpAny Mo A (forIn tests true fun c ok=>if ok=true then (do let b ← isTrue c env (eval c env); pure (ForInStep.yield b)) else pure (ForInStep.yield ok)) (fun b s4 =>
     if b=true then wpAny Mo A (eval elt env) (fun y s5=>wpAny Mo A (call (.builtin "list.append") [lst,y]) (fun _ s6=>Again s6) (fun _ _=>False) s5) (fun _ _=>False) s4
     else Again s4) (fun _ _=>False) s3) (fun _ _=>False) s2) (fun _ _=>False) s1) (fun _ _=>False) s0
theorem compLoop_by {P:Program}{w:World}{A:Around}{R:Result→Shared→Prop}{s0:Shared}{elt tgt iter:Expr}{tests:List Expr}{scope:Scope}{pos:Pos}{it lst:Value}{env:Env}(Iv:Nat→Shared→Prop)
  (turn:∀ k sk,Iv k sk→LcTurn (model P w) A tgt elt tests it lst env (R (.ok .next)) (fun s'=>∃ j,j < k∧Iv j s') sk) (k0:Nat) (h0:Iv k0 s0) :
  codeAny (model P w) A (.compLoop (.ListComp elt [⟨tgt,iter,tests,0⟩] scope pos) 0 it lst env) R s0:=by
 refine codeAny_loop rfl Iv (fun k sk hk=>?_) k0 h0
 show wpAny (model P w) A ((compTurn (.ListComp elt [⟨tgt,iter,tests,0⟩] scope pos) 0 it lst env).onRaise fun ex=>do noteFrame ex env; theTreesLotGoes ex) _ _ sk
 refine wpAny_noted (wpAny_noRaise ?_)
 rw [compTurn_list]
 refine wpAny_bind (wpAny_standAt (wpAny_bind (thn (turn k sk hk) fun nx s1 q1=>?_)))
 cases nx with
 | none=>exact wpAny_pure q1
 | some v =>
  refine wpAny_bind (thn q1 fun _ s2 q2=>wpAny_bind (thn q2 fun _ s3 q3=>wpAny_bind (thn q3 fun b s4 q4=>?_)))
  cases b with
  | true=>exact wpAny_bind (wpAny_bind (thn q4 fun y s5 q5=>wpAny_bind (thn q5 fun _ s6 q6=>wpAny_pure (wpAny_pure ⟨rfl,q6⟩))))
  | false=>exact wpAny_pure ⟨rfl,q4⟩
def SubS:St→St→Prop
 | [],[]=>True
 | none :: a,_ :: b=>SubS a b
 | some v :: a,w :: b=>w=some v∧SubS a b
 | [],_ :: _=>False
 | _ :: _,[]=>False
theorem SubS.ok:∀ {a b:St},SubS a b→a.length=b.length∧∀ (i:Nat) v,a[i]? = some (some v)→b[i]? = some (some v)
 | [],[],_=>⟨rfl,fun i v h=>by simp at h⟩
 | none :: a,_ :: b,h=>by
  obtain ⟨h1,h2⟩:=SubS.ok (a:=a) (b:=b) h
  refine ⟨by simp [h1],fun i v hv=>?_⟩
  cases i with
  | zero=>simp at hv
  | succ i=>simpa using h2 i v (by simpa using hv)
 | some u :: a,w :: b,h=>by
  obtain ⟨h1,h2⟩:=SubS.ok (a:=a) (b:=b) h.2
  refine ⟨by simp [h1],fun i v hv=>?_⟩
  cases i with
  | zero=>simpa [h.1] using hv
  | succ i=>simpa using h2 i v (by simpa using hv)
 | [],_ :: _,h=>False.elim h
 | none :: _,[],h=>False.elim h
 | some _ :: _,[],h=>False.elim h
def PIfs (X:Cx)(ifs:List Expr)(t:TT) : Prop :=
 ∀ (pins:List (Addr × Obj)) (s:Shared) (σ:St) (H:Hp) (Q:Bool→Hp→Prop),Inv X pins σ H s→t σ H Q →
  wpAny (model X.prog X.w) X.A (forIn ifs true fun c r=>if r=true then do let ok ← isTrue c X.env (eval c X.env); pure (ForInStep.yield ok) else pure (ForInStep.yield r)) (TP X pins σ Q) X.xe s
def tYes:TT:=fun _ H Q=>Q true H
theorem pf_nil {X:Cx} : PIfs X [] tYes:=fun _ _ _ H _ I h=>wpAny_pure ⟨H,I,h⟩
theorem pf_one {X:Cx}{c:Expr}{t:TT}(h:PT X c t) : PIfs X [c] t:=fun pins s σ H Q I hq=>by
 simp only [List.forIn_nil,List.forIn_cons,if_true]
 exact wpAny_bind (wpAny_bind (thn (h pins s σ H Q I hq) fun b s' hb=>wpAny_pure (wpAny_pure hb)))
def LcW (J:It)(ts:List Str)(js:List Nat)(g:TG)(tc:TT)(te:TE)(σ:St)(H1:Hp)(Q:VK) : Prop:=∃ (W:Nat→List V→Hp→Prop) (n:Nat),W 0 [] H1∧∀ i ys H,W i ys H →
 (J.stop i H∧∀ p,H p=none→Q (.ref p) (upd H p (.lst ys))) ∨
 (i < n∧J.go i H∧ys.length < sizeLine∧∀ x H',J.yld i H x H'→g x (lcS ts js σ) H' fun σ2 H2=>SubS (lcS ts js σ) σ2∧tc σ2 H2 fun b H3=>if b=true then te σ2 H3 fun y H4=>W (i + 1) (ys ++ [y]) H4 else W (i + 1) ys H3)
abbrev Dp (α:Type):=Addr→Shared→Hp→List Addr→α
def tLc (wi:TI)(ts:List Str)(js:List Nat)(g:Dp TG)(tc:Dp TT)(te:Dp TE) : TE:=fun σ H Q=>wi σ H fun J H1=>∀ C s2 H2 fp,LcW J ts js (g C s2 H2 fp) (tc C s2 H2 fp) (te C s2 H2 fp) σ H1 Q
section
variable {X:Cx}{scope:Scope}{ts:List Str}{js:List Nat}{pins:List (Addr × Obj)}{σ:St}{H H':Hp}{s:Shared}{tg elt iter:Expr}{ifs:List Expr}{g:Dp TG}{tc:Dp TT}{te:Dp TE}{pos:Pos}{E:Value→Shared→Prop}
theorem Inv.track {D:Addr}{o:HO}(I:Inv X pins σ H s)(f:FpOk X pins H D)(hD:X.s₀.heap.objs.size≤D)(new:ObjOk X.prog X.w (upd H D o) s.heap D o) : Inv X pins σ (upd H D o) s:=by
 obtain ⟨f0,f1,f2,f3,f4,f5⟩:=f
 have ne:∀ b u,H b=some u→b ≠ D:=fun b u e z=>by rw [z,f0] at e; cases e
 have ne0:∀ b ob,X.s₀.heap.get? b=some ob→b ≠ D:=fun b ob e=>Nat.ne_of_lt (Nat.lt_of_lt_of_le (Heap.lt_size e) hD)
 refine ⟨I.ok,I.os,I.bare,⟨I.base.keep,I.base.slot,fun b ob e n hx=>?_,I.base.there,fun b xs e=>?_,fun b ob u e=>?_,fun b ps e=>?_⟩,I.loc,I.cell,?_,fun x c e=>?_,fun p hp=>?_,fun a u e=>?_,I.len⟩
 ·rw [upd_ne (ne0 b ob e)]; exact I.base.free b ob e n hx
 ·have q:=I.base.tups b xs e
  rw [upd_ne (ne b _ q)]; exact q
 ·have q:=I.base.frzs b ob u e
  rw [upd_ne (ne b _ q)]; exact q
 ·obtain ⟨m,q⟩:=I.base.tbls b ps e
  exact ⟨m,by rw [upd_ne (ne b _ q)]; exact q⟩
 ·rw [upd_ne (Ne.symm f1)]; exact I.free
 ·rw [upd_ne (f4 x c e)]; exact I.freeC x c e
 ·obtain ⟨a1,a2,a3⟩:=I.pin p hp
  exact ⟨a1,by rw [upd_ne (f5 p hp)]; exact a2,a3⟩
 ·by_cases ha:a=D
  ·subst ha
   rw [upd_same] at e
   cases e
   exact new
  ·rw [upd_ne ha] at e
   refine (I.hok a u e).stay (fun _ _ _ q=>q) (fun b q=>?_) fun b xs q=>?_
   ·rw [upd_ne (ne b _ q)]; exact q
   ·rw [upd_ne (ne b _ q)]; exact q
theorem lc_block {it:Addr}{fp:List Addr}{tn:Nat→Heap→Prop}{J:It}{Q:VK}{RR:Value→Addr→Result→Shared→Prop}(L:LcOk X scope js) (hc:X.calm=true) (I:Inv X pins σ H s) (T:Turn X.prog X.w X.K tg J fp it tn) (st:tn 0 s.heap)
  (hf:∀ b∈fp,FpOk X pins H b) (hg:∀ C s H fp,PG (X.lc scope ts js C s H fp) tg (g C s H fp)) (hcs:∀ C s H fp,PIfs (X.lc scope ts js C s H fp) ifs (tc C s H fp)) (he:∀ C s H fp,PE (X.lc scope ts js C s H fp) elt (te C s H fp)) (hw:∀ C s2 H2 fp,LcW J ts js (g C s2 H2 fp) (tc C s2 H2 fp) (te C s2 H2 fp) σ H Q)
  (hRR:∀ D C s' H' ys m',Inv X pins σ (upd H' D (.lst ys)) s'→FpOk X pins (upd H' D (.lst ys)) C→s'.heap.Ns C m'→Q (.ref D) (upd H' D (.lst ys))→RR (.ref D) C (.ok .next) s') :
  wpAny (model X.prog X.w) X.A (newList []) (fun acc s₃=>wpAny (model X.prog X.w) X.A (newFunctionEnv scope X.env.globals (clOf X.env.cells scope.names []) [] X.env.qual none .none (some X.env)) (fun cenv s₄ =>
   codeAny (model X.prog X.w) X.A (.compStart (.ListComp elt [⟨tg,iter,ifs,0⟩] scope pos) 0 (.ref it) acc { cenv with scope:=relabel scope X.env }) (RR acc cenv.locals) s₄) E s₃) E s:=by
 refine wpAny_newObj_type (wpAny_newFunctionEnv L.cell (by intro y hy; simp at hy) (fun h₁ hns₁ hsb₁=>?_) L.kind)
 dsimp only at hns₁ hsb₁ ⊢
 generalize hH2:s.heap.push { cls:=.type "list", dict:=none,data:=.seq ([] : List Value).toArray } = G2 at hns₁ hsb₁ ⊢
 have hC:G2.objs.size=s.heap.objs.size + 1:=by rw [← hH2,Heap.size_push]
 generalize hCd:G2.objs.size=C at hns₁ hsb₁ hC ⊢
 obtain ⟨W,nn,w0,turn⟩:=hw C s H fp
 have hDC:s.heap.objs.size ≠ C:=by rw [hC]; exact Nat.ne_of_lt (Nat.lt_succ_self _)
 have hCle:s.heap.objs.size≤C:=by rw [hC]; exact Nat.le_succ _
 have below:∀ b,b < s.heap.objs.size→b ≠ C∧b ≠ s.heap.objs.size:=fun b hb=>⟨by rw [hC]; exact Nat.ne_of_lt (Nat.lt_succ_of_lt hb),Nat.ne_of_lt hb⟩
 have old:∀ b o,s.heap.get? b=some o→h₁.get? b=some o:=fun b o e=>hsb₁.extBut b o (below b (Heap.lt_size e)).1 (Heap.get?_push_of_some _ (hH2 ▸ Heap.get?_push_of_some _ e))
 have hacc:h₁.PlainList s.heap.objs.size #[]:=⟨_,hsb₁.extBut _ _ hDC (Heap.get?_push_of_some _ (hH2 ▸ Heap.get?_push_size _ rfl))⟩
 have hob:∀ b∈fp,∃ o,s.heap.get? b=some o:=fun b hb=>by obtain ⟨o,e,_⟩:=T.obj 0 _ st b hb; exact ⟨o,e⟩
 have st₁:tn 0 h₁:=T.keep 0 _ _ st fun b _ o e=>old b o e
 generalize hD:s.heap.objs.size=D at hacc hDC hCle below ⊢
 have I1:Inv (X.lc scope ts js C s H fp) [] (lcS ts js σ) H { s with heap:=h₁,toks:=s.toks + ([] : List (Str × Value)).length }:=lc_start L I (by rw [hD]; exact hCle) hns₁ old hf hob
 have stk:∀ b∈frs X.stack,b < s.heap.objs.size:=fun b hb=>by obtain ⟨_,o,e,_⟩:=I.stack.mem hb; exact Heap.lt_size e
 have cells:∀ x c,(clOf X.env.cells scope.names []).lookup x=some c→X.env.cells.lookup x=some c:=clOf_sub (names:=scope.names) (acc:=[]) (fun _ _ z=>by cases z)
 have stat:∀ {K:Hp},(∀ b∈D :: fp,K b=none)→∀ b∈D :: fp,FpOk (X.lc scope ts js C s H fp) [] K b:=fun {K} hn b hb=>by
  refine ⟨hn b hb,?_,?_,?_,?_,fun p hp=>absurd (show p∈([] : List (Addr × Obj)) from hp) (by simp)⟩
  ·rcases List.mem_cons.mp hb with z | z
   ·rw [z]; exact hDC
   ·obtain ⟨o,e⟩:=hob b z
    exact (below b (by rw [← hD]; exact Heap.lt_size e)).1
  ·intro z
   rcases List.mem_cons.mp hb with q | q
   ·have:=stk b z
    rw [q,hD] at this
    exact Nat.lt_irrefl _ this
   ·exact (List.mem_cons.mp (I.stkSub b z)).elim (hf b q).2.1 (hf b q).2.2.1
  ·rcases List.mem_cons.mp hb with q | q
   ·right; rw [q]; exact Nat.le_of_eq hD
   ·exact .inl q
  ·intro x c e z
   rcases List.mem_cons.mp hb with q | q
   ·obtain ⟨v,qc⟩:=I.cell x c (cells x c e)
    have:=qc.lt
    rw [z,q,hD] at this
    exact Nat.lt_irrefl _ this
   ·exact (hf b q).2.2.2.2.1 x c (cells x c e) z
 have fr1:∀ b∈D :: fp,H b=none:=fun b hb=>by
  rcases List.mem_cons.mp hb with q | q
  ·rw [q]; exact I.hok.fresh (by rw [hD]; exact Nat.le_refl _)
  ·exact (hf b q).1
 have objs:∀ i (h:Heap) (its:Array Value),tn i h→h.PlainList D its→∀ b∈D :: fp,∃ o,h.get? b=some o∧∀ v,o.data ≠ .cell v:=fun i h its t p b hb=>by
  rcases List.mem_cons.mp hb with q | q
  ·subst q
   obtain ⟨n,e⟩:=p
   exact ⟨_,e,fun v z=>by cases z⟩
  ·exact T.obj i h t b q
 have loop:∀ s₃:Shared,s₃ = { s with heap:=h₁,toks:=s.toks + ([] : List (Str × Value)).length } →
   codeAny (model X.prog X.w) X.A (.compLoop (.ListComp elt [⟨tg,iter,ifs,0⟩] scope pos) 0 (.ref it) (.ref D) (compEnvC scope (clOf X.env.cells scope.names []) C X.env)) (RR (.ref D) C) s₃:=by
  rintro s₃ rfl
  refine compLoop_by (fun k s'=>∃ i ys its H',Inv (X.lc scope ts js C s H fp) [] (lcS ts js σ) H' s'∧tn i s'.heap∧(∀ b∈D :: fp,H' b=none)∧s'.heap.PlainList D its∧Vals ys its.toList∧ys.length≤sizeLine∧k=nn - i∧W i ys H') ?_ nn ⟨0,[],#[],H,I1,st₁,fr1,hacc,.nil,Nat.zero_le _,rfl,w0⟩
  rintro n s3 ⟨i,ys,its,H3,I3,st3,fr3,p3,v3,z3,rfl,w3⟩
  have I3':=I3.pinned (fp:=[D]) (fun b hb=>stat fr3 b (by rw [List.mem_singleton.mp hb]; exact List.mem_cons_self)) (fun b hb=>objs i _ its st3 p3 b (by rw [List.mem_singleton.mp hb]; exact List.mem_cons_self))
  have sp:∀ b∈fp,FpOk (X.lc scope ts js C s H fp) ([] ++ pinsAt [D] s3.heap) H3 b:=fun b hb=>by
   obtain ⟨a0,a1,a2,a3,a4,a5⟩:=stat fr3 b (List.mem_cons_of_mem _ hb)
   refine ⟨a0,a1,a2,a3,a4,fun p hp z=>?_⟩
   obtain ⟨q,_⟩:=of_pinsAt (show p∈pinsAt [D] s3.heap from hp)
   have e:=List.mem_singleton.mp q
   obtain ⟨o,eo⟩:=hob b hb
   exact (below b (by rw [← hD]; exact Heap.lt_size eo)).2 (by rw [← z]; exact e)
  rcases turn i ys H3 w3 with ⟨stop,qn⟩ | ⟨hin,go,hz,step⟩
  ·refine thn (T.done (X.lc scope ts js C s H fp) rfl rfl rfl hc i _ s3 _ H3 _ I3' sp st3 stop) fun r s4 ⟨hr,I4⟩=>?_
   subst hr
   obtain ⟨n3,e3⟩:=p3
   have e4:s4.heap.get? D=some { cls:=.type "list", data:=.seq its n3 }:=(I4.pin (D,_) (List.mem_append_right _ (mem_pinsAt (List.mem_singleton.mpr rfl) e3))).1
   have I4':Inv (X.lc scope ts js C s H fp) [] (lcS ts js σ) H3 s4:=Inv.unpinned (pins:=[]) I4
   have hlen:=v3.length
   have back:Inv X pins σ H3 s4:=I.call' (ch:=fp) I4'.os I4'.base I4'.hok I4'.bare fun b hb=>⟨(hf b hb).2.2.2.1,(hf b hb).2.1,(hf b hb).2.2.2.2.1,(hf b hb).2.2.2.2.2⟩
   have fD:FpOk X pins H3 D:=I.fpOk (Nat.le_of_eq hD) (fr3 D List.mem_cons_self)
   have ob:ObjOk X.prog X.w (upd H3 D (.lst ys)) s4.heap D (.lst ys):=⟨z3,its.toList,n3,v3,by simpa using e4⟩
   have tr:=back.track fD (by rw [← hD]; exact I.sz) ob
   obtain ⟨m4,n4,_⟩:=I4'.loc
   refine hRR D C s4 H3 ys m4 tr ?_ n4 (qn D (fr3 D List.mem_cons_self))
   refine I.fpOk (by rw [hD]; exact hCle) ?_
   rw [upd_ne (Ne.symm hDC)]
   exact I4'.free
  ·refine thn (T.item (X.lc scope ts js C s H fp) rfl rfl rfl hc i _ s3 _ H3 _ I3' sp st3 go) fun r s4 ⟨u,hr,h4⟩=>?_
   subst hr
   refine thn h4 fun _ s5 ⟨x,H5,I5,r5,y5,st5,fr5⟩=>?_
   obtain ⟨n3,e3⟩:=p3
   have e5:=I5.pin (D,_) (List.mem_append_right _ (mem_pinsAt (List.mem_singleton.mpr rfl) e3))
   have fr5':∀ b∈D :: fp,H5 b=none:=fun b hb=>by
    rcases List.mem_cons.mp hb with q | q
    ·rw [q]; exact e5.2.1
    ·exact fr5 b q
   have p5:s5.heap.PlainList D its:=⟨n3,e5.1⟩
   have I5b:Inv (X.lc scope ts js C s H fp) [] (lcS ts js σ) H5 s5:=Inv.unpinned (pins:=[]) I5
   have I5':=I5b.pinned (fp:=D :: fp) (stat fr5') (objs _ _ its st5 p5)
   refine thn (hg C s H fp _ s5 _ H5 x u _ I5' r5 (step x H5 y5)) fun _ s6 ⟨σ6,H6,I6,sub6,q6⟩=>?_
   refine thn (hcs C s H fp _ s6 σ6 H6 _ I6 q6) fun b s7 ⟨H7,I7,q7⟩=>?_
   have wk:∀ {H':Hp}{s':Shared},Inv (X.lc scope ts js C s H fp) ([] ++ pinsAt (D :: fp) s5.heap) σ6 H' s'→Inv (X.lc scope ts js C s H fp) ([] ++ pinsAt (D :: fp) s5.heap) (lcS ts js σ) H' s':=fun I'=>I'.weak sub6.ok.1 sub6.ok.2
   have rec':∀ {H':Hp}{s':Shared},Inv (X.lc scope ts js C s H fp) ([] ++ pinsAt (D :: fp) s5.heap) σ6 H' s'→Inv (X.lc scope ts js C s H fp) [] (lcS ts js σ) H' s'∧tn (i + 1) s'.heap∧(∀ b∈D :: fp,H' b=none)∧s'.heap.PlainList D its:=fun {H' s'} I'=>by
    have pin:∀ b∈D :: fp,∀ o,s5.heap.get? b=some o→s'.heap.get? b=some o∧H' b=none:=fun b hb o e=>by
     have z:=I'.pin (b,o) (List.mem_append_right _ (List.mem_append_right _ (mem_pinsAt hb e)))
     exact ⟨z.1,z.2.1⟩
    refine ⟨Inv.unpinned (pins:=[]) (wk I'),T.keep _ _ _ st5 fun b hb o e=>(pin b (List.mem_cons_of_mem _ hb) o e).1,fun b hb=>?_,⟨n3,(pin D List.mem_cons_self _ e5.1).1⟩⟩
    obtain ⟨o,e,_⟩:=objs _ _ its st5 p5 b hb
    exact (pin b hb o e).2
   cases b with
   | false =>
    obtain ⟨j1,j2,j3,j4⟩:=rec' I7
    exact ⟨nn - (i + 1),by omega,i + 1,ys,its,H7,j1,j2,j3,j4,v3,z3,rfl,q7⟩
   | true =>
    refine thn (he C s H fp _ s7 σ6 H7 _ I7 q7) fun yv s8 ⟨y,H8,I8,r8,w8⟩=>?_
    obtain ⟨j1,j2,j3,j4⟩:=rec' I8
    have hlen:its.size=ys.length:=by have:=v3.length; simp at this; omega
    refine wpAny_list_append_plain (hsz:=by rw [hlen]; exact z3) j4 fun h9 p9 sb9=>?_
    obtain ⟨f0,f1,f2,f3,f4,f5⟩:=stat j3 D List.mem_cons_self
    refine ⟨nn - (i + 1),by omega,i + 1,ys ++ [y],its.push yv,H8,j1.turned (t':=s8.toks) (fun b o hb e=>(sb9.2 b hb).trans e) f0 f1 f3 f4 f5,T.keep _ _ _ j2 fun b hb o e=>(sb9.2 b ?_).trans e,j3,p9,?_,?_,rfl,w8⟩
    ·obtain ⟨o,eo⟩:=hob b hb
     exact (below b (by rw [← hD]; exact Heap.lt_size eo)).2
    ·rw [Array.toList_push]
     exact v3.append (.cons r8 .nil)
    ·rw [List.length_append,List.length_singleton]; exact hz
 exact codeAny_compStart_list (loop _ rfl) (T.self _ 0 _ _ _ st₁ (loop _ rfl))
end
end L2
namespace L2
open PySem PySem.Spec PyProof.Rows
section
variable {X:Cx}{scope:Scope}{ts:List Str}{js:List Nat}{tg elt iter:Expr}{ifs:List Expr}{wi:TI}{g:Dp TG}{tc:Dp TT}{te:Dp TE}{pos:Pos}
theorem pe_lc (L:LcOk X scope js) (hc:X.calm=true) (hi:PI X tg iter wi) (hg:∀ C s H fp,PG (X.lc scope ts js C s H fp) tg (g C s H fp)) (hcs:∀ C s H fp,PIfs (X.lc scope ts js C s H fp) ifs (tc C s H fp)) (he:∀ C s H fp,PE (X.lc scope ts js C s H fp) elt (te C s H fp))
  (hs:∀ x,foldedSetIterable iter X.env x=pure x:=by intro _; rfl) : PE X (.ListComp elt [⟨tg,iter,ifs,0⟩] scope pos) (tLc wi ts js g tc te):=by
 intro pins s σ H Q I h
 rw [eval_ListComp]
 refine wpAny_comprehension_free (use:=none) rfl hs (closureFor_eq fun y hy hf=>I.ok.has y.1 (L.free y hy hf)) L.kind L.names (thn (hi pins s σ H _ I h) fun v s1 h1=>thn h1 fun itv s2 h2=>?_)
 obtain ⟨it,fp,tn,J,H2,rfl,I2,T,st2,f2,hw⟩:=h2
 refine lc_block (RR:=fun acc C=>compPost (model X.prog X.w) X.A X.xe none (EP X pins σ Q) acc C) L hc I2 T st2 f2 hg hcs he hw ?_
 intro D C s' H' ys m' I' fC hn hq
 obtain ⟨f0,f1,f2,f3,f4,f5⟩:=fC
 exact ⟨m',hn,fun h' hs'=>⟨.ref D,_,I'.turned (t':=s'.toks) (fun b o hb e=>(hs'.2 b hb).trans e) f0 f1 f3 f4 f5,rfl,hq⟩⟩
theorem ps_setLC {i:Nat}{x:Str}{pos' spos:Pos}(hN:X.N.Nodup) (hxi:X.N[i]? = some x) (hx:Loc X.env.scope x) (L:LcOk X scope js) (hc:X.calm=true) (hi:PI X tg iter wi) (hg:∀ C s H fp,PG (X.lc scope ts js C s H fp) tg (g C s H fp))
  (hcs:∀ C s H fp,PIfs (X.lc scope ts js C s H fp) ifs (tc C s H fp)) (he:∀ C s H fp,PE (X.lc scope ts js C s H fp) elt (te C s H fp))
  (hsw:swapsWith (.ListComp elt [⟨tg,iter,ifs,0⟩] scope pos) (some (.Name x pos')) spos.line X.env=pure true:=by rfl)
  (hs:∀ x,foldedSetIterable iter X.env x=pure x:=by intro _; rfl) (hf:X.fn x=true∨X.env.scope.names.lookup x=some .local:=by first | exact .inl rfl | exact .inr rfl | assumption) :
  PS X (.Assign [.Name x pos'] (.ListComp elt [⟨tg,iter,ifs,0⟩] scope pos) spos) (tAsg (tLc wi ts js g tc te) (gName i)):=by
 intro pins s σ H D0 I h
 rw [exec_Assign_Name_used x pos' _ spos hsw]; refine wpAny_bind (wpAny_standAt ?_); refine wpAny_bind ?_
 show wpAny _ X.A (do let _ ← comprehension (.ListComp elt [⟨tg,iter,ifs,0⟩] scope pos) scope X.env _ (newList []) false (eval iter X.env) (some (assign (.Name x pos') X.env))) _ _ s
 refine wpAny_bind (wpAny_mono (wpAny_comprehension_free (use:=some (assign (.Name x pos') X.env)) (Q:=fun _ s'=>SP X pins D0 .next s') rfl hs (closureFor_eq fun y hy hf=>I.ok.has y.1 (L.free y hy hf)) L.kind L.names
  (thn (hi pins s σ H _ I h) fun v s1 h1=>thn h1 fun itv s2 h2=>?_)) (fun _ s' hq=>wpAny_pure (wpAny_pure hq)) fun _ _ e=>e)
 obtain ⟨it,fp,tn,J,H2,rfl,I2,T,st2,f2,hw⟩:=h2
 refine lc_block (RR:=fun acc C=>compPost (model X.prog X.w) X.A X.xe (some (assign (.Name x pos') X.env)) (fun _ s'=>SP X pins D0 .next s') acc C) L hc I2 T st2 f2 hg hcs he hw ?_
 intro D C s' H' ys m' I' fC hn hq
 obtain ⟨oC,es,ep,hoC,hdC,rC⟩:=id hn
 have I'':=I'.pinned (fp:=[C]) (fun b hb=>by rw [List.mem_singleton.mp hb]; exact fC) (fun b hb=>by rw [List.mem_singleton.mp hb]; exact ⟨oC,hoC,fun v z=>by rw [hdC] at z; cases z⟩)
 show wpAny _ X.A (assign (.Name x pos') X.env (.ref D)) _ _ _
 refine wpAny_assign_Name (store_ok I'' hN hxi hx (v:=.ref D) rfl (fun s7 I7=>?_) hf)
 have e7:=I7.pin (C,oC) (List.mem_append_right _ (List.mem_append_right _ (mem_pinsAt (List.mem_singleton.mpr rfl) hoC)))
 refine ⟨m',⟨oC,es,ep,e7.1,hdC,rC⟩,fun h9 sb9=>?_⟩
 obtain ⟨f0,f1,f2,f3,f4,f5⟩:=fC
 exact ⟨_,_,(Inv.unpinned I7).turned (t':=s7.toks) (fun b o hb e=>(sb9.2 b hb).trans e) e7.2.1 f1 f3 f4 f5,hq⟩
end
end L2
namespace L2
open PySem PySem.Spec PyProof.Rows
def lcOkB (scope:Scope)(ek:List (Str × NameKind))(N:List Str)(js:List Nat) : Bool :=
 scope.kind == .function && scope.names.all (fun y=>y.2 != .cell) && scope.names.all (fun y=>y.2 != .local || scope.names.lookup y.1 == some .local) &&
 scope.names.all (fun y=>y.2 != .free || ek.lookup y.1 == some .cell || ek.lookup y.1 == some .free) && js.all (fun j=>scope.names.lookup (N.getD j "") == some .free)
theorem LcOk.of {X:Cx}{scope:Scope}{js:List Nat}(h:lcOkB scope X.env.scope.names X.N js=true) : LcOk X scope js:=by
 unfold lcOkB at h
 simp only [Bool.and_eq_true,List.all_eq_true,Bool.or_eq_true,bne_iff_ne,beq_iff_eq] at h
 obtain ⟨⟨⟨⟨h1,h2⟩,h3⟩,h4⟩,h5⟩:=h
 refine ⟨h1,h2,fun y hy e=>?_,fun y hy e=>?_,h5⟩
 ·exact (h3 y hy).resolve_left fun z=>z e
 ·rcases h4 y hy with (z | z) | z
  ·exact absurd e z
  ·exact .inl z
  ·exact .inr z
theorem nodup_of {l:List Str}(h:decide l.Nodup=true) : l.Nodup:=of_decide_eq_true h
end L2
namespace L2
open PySem PySem.Spec PyProof.Rows
section
variable {X:Cx}
theorem OpR.imp {f:Value→Value→Sem Value}{r r':R2}(h:OpR X f r)(i:∀ x y H Q,r' x y H Q→r x y H Q) : OpR X f r':=fun pins s σ H x y v u Q I rx ry hq=>h pins s σ H x y v u Q I rx ry (i _ _ _ _ hq)
theorem op_eqI:OpR X (compareOp .Eq) (rI0 fun i j=>.bl (decide (i=j))):=op_eq.imp fun x y H Q h=>by
 obtain ⟨i,j,rfl,rfl,q⟩:=h
 refine ⟨rfl,?_⟩
 have e:decide (V.int i=V.int j)=decide (i=j):=decide_eq_decide.mpr ⟨fun z=>V.int.inj z,fun z=>congrArg V.int z⟩
 rw [e]; exact q
theorem op_neI:OpR X (compareOp .NotEq) (rI0 fun i j=>.bl (!decide (i=j))):=op_ne.imp fun x y H Q h=>by
 obtain ⟨i,j,rfl,rfl,q⟩:=h
 refine ⟨rfl,?_⟩
 have e:decide (V.int i=V.int j)=decide (i=j):=decide_eq_decide.mpr ⟨fun z=>V.int.inj z,fun z=>congrArg V.int z⟩
 rw [e]; exact q
def rS0 (g:Str→Str→V) : R2:=fun x y H Q=>∃ i j,x = .str i∧y = .str j∧Q (g i j) H
theorem op_eqS:OpR X (compareOp .Eq) (rS0 fun i j=>.bl (decide (i=j))):=op_eq.imp fun x y H Q h=>by
 obtain ⟨i,j,rfl,rfl,q⟩:=h
 refine ⟨rfl,?_⟩
 have e:decide (V.str i=V.str j)=decide (i=j):=decide_eq_decide.mpr ⟨fun z=>V.str.inj z,fun z=>congrArg V.str z⟩
 rw [e]; exact q
end
theorem ite3n {c A B:Prop} [Decidable c](h1:¬ c→A)(h2:c→B) : if (!decide c)=true then A else B:=iteNo h1 h2
theorem iteB {b:Bool}{A B:Prop}(h1:b=true→A)(h2:b=false→B) : if b=true then A else B:=by
 cases b with
 | true=>exact iteT (h1 rfl)
 | false=>exact iteF (h2 rfl)
theorem iteBn {b:Bool}{A B:Prop}(h1:b=false→A)(h2:b=true→B) : if (!b)=true then A else B:=by
 cases b with
 | true=>exact iteF (h2 rfl)
 | false=>exact iteT (h1 rfl)
theorem Bz.add' {m n:Nat}{x y:Int}(hx:Bz m x)(hy:Bz n y) : Bz (max m n + 1) (x + y):=.of_bits (PySem.intBits_add_le hx.bits hy.bits)
theorem Bz.sub' {m n:Nat}{x y:Int}(hx:Bz m x)(hy:Bz n y) : Bz (max m n + 1) (x - y):=.of_bits (PySem.intBits_sub_le hx.bits hy.bits)
def SameB (b:Addr)(H H':Hp) : Prop:=∀ a o,a ≠ b→H a=some o→H' a=some o
theorem SameB.refl (b:Addr)(H:Hp) : SameB b H H:=fun _ _ _ h=>h
theorem SameB.trans {b:Addr}{H H1 H2:Hp}(x:SameB b H H1)(y:SameB b H1 H2) : SameB b H H2:=fun a o n h=>y a o n (x a o n h)
theorem Same.upd {H H':Hp}{p:Addr}(s:Same H H')(h:H p=none)(o:HO) : Same H (upd H' p o):=fun b u q=>by rw [upd_ne (ne_of_none q h)]; exact s b u q
theorem Same.new {H H':Hp}{p:Addr}(s:Same H H')(h:H' p=none)(o:HO) : Same H (L2.upd H' p o):=s.upd (s.free h) o
theorem SameB.new {b:Addr}{H H':Hp}{p:Addr}(s:SameB b H H')(h:H' p=none)(o:HO) : SameB b H (L2.upd H' p o):=fun a u n q=>by rw [upd_ne (ne_of_none (s a u n q) h)]; exact s a u n q
theorem SameB.at {b:Addr}{H H':Hp}(s:SameB b H H')(o:HO) : SameB b H (L2.upd H' b o):=fun a u n q=>by rw [upd_ne n]; exact s a u n q
end L2
namespace L2
open PySem PySem.Spec PyProof.Rows
theorem pe_fold {X:Cx}{e:Expr}{t:TE}(v:V)(h:PE X e t)(c:∀ σ H Q,Q v H→t σ H Q) : PE X e (tC v):=fun pins s σ H Q I hq=>h pins s σ H Q I (c σ H Q hq)
theorem bzl {x:Int}(h:x.natAbs < 2 ^ 512) : Bz 512 x:=h
end L2
namespace L2
open PySem PySem.Spec PyProof.Rows
end L2
structure Iv (p:Prop) : Prop where
 o:p
namespace L2
open PySem PySem.Spec PyProof.Rows
end L2
namespace L2
open PySem PySem.Spec PyProof.Rows
def Its (x:Str) : It:=⟨fun i _=>i < x.cps.size,fun i H v H'=>H'=H∧∃ c,x.cps[i]? = some c∧v = .str ⟨#[c]⟩,fun i _=>x.cps.size≤i⟩
theorem turn_str {P:Program}{w:World}{K:PySem.W.Frag}{tg:Expr}{it:Addr}{x:Str}{St:Nat→Heap→Prop}
  (W:∀ A':Around,A'.handled=none→Walks P w A' it [it] [it] x.cps.size (SignAt x) St)
  (ob:∀ i h,St i h→∃ (o:Obj) (n:String) (vs:Array Value),h.get? it=some o∧o.cls = .type n∧o.data = .fields vs∧["enumerate", "zip", "dict_itemiterator", "dict_reverseitemiterator", "odict_iterator", "itertools.zip_longest", "itertools.pairwise"].contains n=false)
  (sf:∀ (A:Around) (i:Nat) (s:Shared) (Q:Value→Shared→Prop) (E:Value→Shared→Prop),St i s.heap→Q (.ref it) s→wpAny (model P w) A (pyIter (.ref it)) Q E s) :
  Turn P w K tg (Its x) [it] it (fun i h=>St i h∧i≤x.cps.size) where
 mem:=by simp
 obj:=fun i h st b hb=>by
  have e:b=it:=by simpa using hb
  subst e
  obtain ⟨o,n,vs,e,_,d,_⟩:=ob i h st.1
  exact ⟨o,e,fun v z=>by rw [d] at z; cases z⟩
 keep:=fun i h h' st k=>⟨(W {} rfl).frame i h h' st.1 k,st.2⟩
 item:=by
  intro X hP hw hK hc i pins s σ H E I hf st hg
  subst hP hw hK
  obtain ⟨f0,f1,f2,f3,f4,f5⟩:=hf it (by simp)
  refine (W X.A (I.ok.hd hc)).item i s _ _ hg st.1 fun v h' tk hv st' kk=>?_
  obtain ⟨c,u,hcx,rfl⟩:=hv
  have I1:Inv X pins σ H { s with heap:=h',toks:=tk }:=I.turned (fun b o hb e=>kk b o (by simpa using hb) e) f0 f1 f3 f4 f5
  obtain ⟨o,n,vs,e,hcl,hd,hn⟩:=ob _ _ st'
  have hi:i < x.cps.size:=hg
  exact ⟨_,rfl,go_of (s:={ s with heap:=h',toks:=tk }) e hcl hd hn ⟨.str ⟨#[c]⟩,H,I1,⟨u,rfl⟩,⟨rfl,c,hcx,rfl⟩,⟨st',hi⟩,fun b hb=>(hf b hb).1⟩⟩
 done:=by
  intro X hP hw hK hc i pins s σ H E I hf st hg
  subst hP hw hK
  obtain ⟨f0,f1,f2,f3,f4,f5⟩:=hf it (by simp)
  have e:i=x.cps.size:=Nat.le_antisymm st.2 hg
  subst e
  exact (W X.A (I.ok.hd hc)).done s _ _ st.1 fun h' tk kk=>⟨rfl,I.turned (fun b o hb e=>kk b o (by simpa using hb) e) f0 f1 f3 f4 f5⟩
 self:=fun A i s Q E st h=>sf A i s Q E st.1 h
section
variable {X:Cx}{tg:Expr}
def iStr (tl:TE) : TI:=fun σ H R=>tl σ H fun x H1=>∃ z,x = .str z∧R (Its z) H1
theorem pi_str {l:Expr}{tl:TE}(hl:PE X l tl) : PI X tg l (iStr tl):=by
 intro pins s σ H R I h
 refine thn (hl pins s σ H _ I h) fun v s1 ⟨x,H1,I1,r1,q1⟩=>?_
 obtain ⟨z,e,q⟩:=q1
 subst e
 obtain ⟨t,rfl⟩:=r1
 have fp:∀ b∈[s1.heap.objs.size],FpOk X pins H1 b:=fun b hb=>by
  have e:b=s1.heap.objs.size:=by simpa using hb
  subst e
  exact I1.fpOk (Nat.le_refl _) (I1.hok.fresh (Nat.le_refl _))
 cases ha:z.cps.all (· < 128)
 ·refine wpAny_pyIter_wide ha ?_
  refine ⟨s1.heap.objs.size,[s1.heap.objs.size],_,_,H1,rfl,I1.kept (t':=s1.toks) fun b o e=>Heap.get?_push_of_some _ e,
   turn_str (St:=fun i h=>h.IsStrIter s1.heap.objs.size "str_iterator" z t i) (fun A' hA=>Walks.strWide hA _ z t) (fun i h st=>?_) (fun A i s Q E st h=>wpAny_pyIter_striter_wide st h),⟨⟨_,Heap.get?_push_size _ rfl,rfl,rfl⟩,Nat.zero_le _⟩,fp,q⟩
  obtain ⟨o,e,c,d⟩:=st
  exact ⟨o,_,_,e,c,d,by decide⟩
 ·refine wpAny_pyIter_ascii ha ?_
  refine ⟨s1.heap.objs.size,[s1.heap.objs.size],_,_,H1,rfl,I1.kept (t':=s1.toks) fun b o e=>Heap.get?_push_of_some _ e,
   turn_str (St:=fun i h=>h.IsStrIter s1.heap.objs.size "str_ascii_iterator" z t i) (fun A' hA=>Walks.strAscii hA _ z t) (fun i h st=>?_) (fun A i s Q E st h=>wpAny_pyIter_striter_ascii st h),⟨⟨_,Heap.get?_push_size _ rfl,rfl,rfl⟩,Nat.zero_le _⟩,fp,q⟩
  obtain ⟨o,e,c,d⟩:=st
  exact ⟨o,_,_,e,c,d,by decide⟩
end
abbrev sg (c:Nat) : V:=.str ⟨#[c]⟩
theorem for_str {x:Str}{g:TG}{tb:TS}{D:Ends}{σ:St}{H:Hp}(Pv:Nat→St→Hp→Prop) (h0:Pv 0 σ H)
  (hs:∀ i c σ H,x.cps[i]? = some c→Pv i σ H→g (sg c) σ H fun σ2 H2=>tb { D with nx:=Pv (i + 1),ct:=Pv (i + 1),bk:=D.nx } σ2 H2) (hd:∀ σ H,Pv x.cps.size σ H→D.nx σ H) :
  ∃ W:Nat→Nat→St→Hp→Prop,(∃ m,W 0 m σ H)∧∀ i m σ H,W i m σ H →
   ((Its x).stop i H∧D.nx σ H)∨((Its x).go i H∧∃ N:St→Hp→Prop,(∀ σ' H',N σ' H'→∃ m',m' < m∧W (i + 1) m' σ' H')∧∀ v H',(Its x).yld i H v H'→g v σ H' fun σ2 H2=>tb { D with nx:=N,ct:=N,bk:=D.nx } σ2 H2):=by
 refine ⟨fun i m σ H=>m=x.cps.size - i∧i≤x.cps.size∧Pv i σ H,⟨x.cps.size,by simp,Nat.zero_le _,h0⟩,?_⟩
 rintro i m σ H ⟨rfl,hi,p⟩
 by_cases hlt:i < x.cps.size
 ·refine .inr ⟨hlt,Pv (i + 1),fun σ' H' p'=>⟨x.cps.size - (i + 1),by omega,rfl,hlt,p'⟩,fun v H' y=>?_⟩
  obtain ⟨e,c,hc,ev⟩:=y
  subst e ev
  exact hs i c σ _ hc p
 ·have e:i=x.cps.size:=by omega
  subst e
  exact .inl ⟨Nat.le_refl _,hd σ H p⟩
section
variable {K:PySem.W.Frag}{ts:List Str}{js:List Nat}{g:TG}{tc:TT}{te:TE}{σ:St}{H:Hp}{Q:VK}
theorem lc_list {a:Addr}{xs:List V}(Pv:Nat→List V→Hp→Prop) (h0:Pv 0 [] H) (hl:∀ i ys H,i≤xs.length→Pv i ys H→SqL K H a xs∧ys.length < sizeLine)
  (hs:∀ i x ys H,xs[i]? = some x→Pv i ys H→g x (lcS ts js σ) H fun σ2 H2=>SubS (lcS ts js σ) σ2∧tc σ2 H2 fun b H3=>if b=true then te σ2 H3 fun y H4=>i + 1≤xs.length∧Pv (i + 1) (ys ++ [y]) H4 else i + 1≤xs.length∧Pv (i + 1) ys H3)
  (hd:∀ ys H,Pv xs.length ys H→∀ p,H p=none→Q (.ref p) (upd H p (.lst ys))) : LcW (Itl K a) ts js g tc te σ H Q:=by
 refine ⟨fun i ys H=>i≤xs.length∧Pv i ys H,xs.length,⟨Nat.zero_le _,h0⟩,?_⟩
 rintro i ys H ⟨hi,p⟩
 obtain ⟨q,hz⟩:=hl i ys H hi p
 by_cases hlt:i < xs.length
 ·refine .inr ⟨hlt,⟨xs,xs[i],q,by simp [hlt]⟩,hz,fun x H' y=>?_⟩
  obtain ⟨e,y⟩:=y
  subst e
  exact hs i x ys _ (y xs q) p
 ·have e:i=xs.length:=by omega
  subst e
  exact .inl ⟨⟨xs,q,Nat.le_refl _⟩,hd ys H p⟩
end
end L2
namespace L2
open PySem PySem.Spec PyProof.Rows
theorem vals_bls {d:Bool} : ∀ {bs:List Bool}{us:List Value}{i:Nat}{v:Value},Vals (bs.map V.bl) us→us[i]? = some v→v = .bool (bs.getD i d)
 | [],_,i,v,r,e=>by cases r; simp at e
 | b :: bs,_,0,v,r,e=>by
  cases r with
  | cons h t=>cases h; simpa using e.symm
 | b :: bs,_,i + 1,v,r,e=>by
  cases r with
  | cons h t=>simpa using vals_bls (bs:=bs) t (by simpa using e)
section
variable {X:Cx}
theorem consume {d:Bool}{pins:List (Addr × Obj)}{σ:St}{H:Hp}{s:Shared}{p:Addr}{bs:List Bool}{E:Value→Shared→Prop}{Q:Value→Shared→Prop}{f:(Nat→Bool)→Nat→Bool}(hc:X.calm=true) (I:Inv X pins σ H s) (h:SqL X.K H p (bs.map V.bl))
  (q:∀ s',Inv X pins σ H s'→Q (.bool (f (fun i=>bs.getD i d) bs.length)) s') :
  wpAny (model X.prog X.w) X.A.in1 (pyIter (.ref p)) (fun it s₂=>∃ I' fp wr n P St tr,it = .ref I'∧Walks X.prog X.w X.A.in1 I' fp wr n P St∧St 0 s₂.heap∧TruthOf X.prog X.w X.A.in1 P tr ∧
   ∀ h' tk,(∀ b o,b ∉ wr→s₂.heap.get? b=some o→h'.get? b=some o)→Q (.bool (f tr n)) { s₂ with heap:=h',toks:=tk }) E s:=by
 obtain ⟨its,rv,pl,hz⟩:=I.list h
 obtain ⟨o,n,e,oc,od,odd⟩:=id pl
 have lt:=Heap.lt_size e
 have hl:=rv.length
 rw [List.length_map] at hl
 refine wpAny_pyIter_list pl.isList ?_
 refine ⟨s.heap.objs.size,_,_,its.toArray.size,_,_,fun i=>bs.getD i d,rfl,Walks.list (by show X.A.handled=none; exact I.ok.hd hc) s.heap.objs.size p (Nat.ne_of_lt lt) its.toArray,⟨⟨_,Heap.get?_push_size _ rfl,rfl,rfl⟩,pl.isList.push _⟩,fun i v s Q E hP hQ=>?_,fun h' tk kk=>?_⟩
 ·have z:=vals_bls (d:=d) rv (show its[i]? = some v by simpa using hP)
  subst z
  exact wpAny_truthy_bool hQ
 ·have fp:=I.fpOk (H':=H) (b:=s.heap.objs.size) (Nat.le_refl _) (I.hok.fresh (Nat.le_refl _))
  have I1:Inv X pins σ H { s with heap:=s.heap.push { cls:=.type "list_iterator", data:=.fields #[.ref p,rawInt 0] } }:=I.kept (t':=s.toks) fun b o e=>Heap.get?_push_of_some _ e
  obtain ⟨f0,f1,f2,f3,f4,f5⟩:=fp
  have e2:its.toArray.size=bs.length:=by simp [← hl]
  rw [e2]
  exact q _ (I1.turned (t':=tk) (fun b o hb e=>kk b o (by simpa using hb) e) f0 f1 f3 f4 f5)
theorem call_all (hc:X.calm=true) : CallR X (.builtin "all") (fun xs H Q=>∃ (p:Addr) (bs:List Bool),xs = [.ref p]∧SqL X.K H p (bs.map V.bl)∧Q (.bl (bs.all id)) H):=by
 intro pins s σ H xs us Q I r h
 obtain ⟨p,bs,rfl,hp,q⟩:=h
 obtain ⟨u,rfl,ru⟩:=vals1 r
 cases ru
 exact call_all_walk (consume (d:=true) (f:=fun tr n=>(List.range n).all tr) hc I hp fun s' I'=>⟨.bl (bs.all id),H,I',(by rw [← LSm.range_all bs]; rfl),q⟩)
theorem call_any (hc:X.calm=true) : CallR X (.builtin "any") (fun xs H Q=>∃ (p:Addr) (bs:List Bool),xs = [.ref p]∧SqL X.K H p (bs.map V.bl)∧Q (.bl (bs.any id)) H):=by
 intro pins s σ H xs us Q I r h
 obtain ⟨p,bs,rfl,hp,q⟩:=h
 obtain ⟨u,rfl,ru⟩:=vals1 r
 cases ru
 exact call_any_walk (consume (d:=false) (f:=fun tr n=>(List.range n).any tr) hc I hp fun s' I'=>⟨.bl (bs.any id),H,I',(by rw [← LSm.range_any bs]; rfl),q⟩)
end
end L2
namespace L2
open PySem PySem.Spec PyProof.Rows
section
variable {X:Cx}{pins:List (Addr × Obj)}{σ:St}{H:Hp}{s:Shared}{h':Heap}
theorem Inv.turnedL {t':Nat}{ch:List Addr}(I:Inv X pins σ H s)(k:∀ b o,b ∉ ch→s.heap.get? b=some o→h'.get? b=some o)(hf:∀ b∈ch,FpOk X pins H b) : Inv X pins σ H { s with heap:=h',toks:=t' }:=by
 have nit:∀ b u,H b=some u→b ∉ ch:=fun b u e z=>by rw [(hf b z).1] at e; cases e
 refine I.step (g':=s.gens) (d':=s.drawn) (ch:=ch) (fun b hb=>⟨(hf b hb).2.2.2.1,(hf b hb).2.1,(hf b hb).2.2.2.2.1,(hf b hb).2.2.2.2.2⟩) (fun b o _ _ hc e _=>k b o hc e) (fun b o _ _ hc e _=>⟨o.slots,k b o hc e⟩) (fun _ _ _ _ n=>n)
  (fun b o hc e=>⟨o,k b o hc e⟩) (fun _ _ e=>e) (fun _ _ _ e=>e) (fun b ps e=>⟨#[],by rw [e]; simp⟩) (fun m hm=>?_) (fun b u e=>?_) I.bare
 ·obtain ⟨o,es,ep,ho,r⟩:=hm
  exact ⟨o,es,ep,k _ o (fun z=>(hf _ z).2.1 rfl) ho,r⟩
 ·refine (I.hok b u e).stay (fun c v hc q=>k c v ?_ q) (fun _ q=>q) fun _ _ q=>q
  rcases hc with z | z
  ·rw [z]; exact nit b u e
  ·exact nit c _ z
end
section
variable {X:Cx}
end
end L2
namespace L2
open PySem PySem.Spec PyProof.Rows
def memK (acc:List Key)(k:Key) : Bool:=acc.any fun x=>decide (x=k)
theorem memK_iff {acc:List Key}{k:Key} : memK acc k=true↔k∈acc:=by
 unfold memK
 rw [List.any_eq_true]
 exact ⟨fun ⟨x,h,e⟩=>of_decide_eq_true e ▸ h,fun h=>⟨k,h,decide_eq_true rfl⟩⟩
def addK (acc:List Key)(k:Key) : List Key:=if memK acc k=true then acc else acc ++ [k]
def dd (ks:List Key) : List Key:=ks.foldl addK []
theorem addK_len {acc:List Key}{k:Key} : (addK acc k).length=if memK acc k=true then acc.length else acc.length + 1:=by
 unfold addK
 split
 ·rfl
 ·rw [List.length_append,List.length_singleton]
theorem fold_len:∀ (ks acc:List Key),(ks.foldl addK acc).length≤acc.length + ks.length
 | [],acc=>Nat.le_refl _
 | k :: ks,acc=>by
  have h:=fold_len ks (addK acc k)
  have h2:(addK acc k).length≤acc.length + 1:=by rw [addK_len]; split <;> omega
  rw [List.foldl_cons,List.length_cons]
  omega
theorem dd_len (ks:List Key) : (dd ks).length≤ks.length:=by have:=fold_len ks []; simpa [dd] using this
theorem dd_take {ks:List Key}{i:Nat}{k:Key}(h:ks[i]? = some k) : dd (ks.take (i + 1))=addK (dd (ks.take i)) k:=by
 unfold dd
 rw [List.take_add_one,h,List.foldl_append]
 rfl
section
variable {P:Program}{w:World}{A:Around}{E:Value→Shared→Prop}{s:Shared}{R:Result→Shared→Prop}
end
abbrev fr (led:Bool) : Obj:={ cls:=.type "set", dict:=none,data:=.set #[] 0 (.fresh 0 0 led) }
section
variable {P:Program}{w:World}{A:Around}{E:Value→Shared→Prop}{s:Shared}
theorem made_by {T nw ini:String}{args:List Value}{Q Q1:Value→Shared→Prop}(ft:TypeCalled T nw ini) (c:checkTypeCall T ⟨args,[]⟩=pure ())
  (new:codeAny (model P w) A.in1 (.call (.builtin nw) ⟨.type T :: args,[]⟩) (wants Q1 E) s)
  (fst:∀ ob s1,Q1 ob s1→s1.TypeIs ob T∧codeAny (model P w) A.in1 (.call (.builtin ini) ⟨ob :: args,[]⟩) (wants (fun r s2=>r = .none∧Q ob s2) E) s1) :
  wpAny (model P w) A (call (.type T) args) Q E s:=by
 obtain ⟨k0,ks0,m0⟩:=ft.mro
 have m1:=ft.made
 have m2:=ft.sub
 have m3:=ft.notType
 have m4:=ft.canCreate
 have m5:=ft.init.lookup
 apply wpAny_call
 apply codeAny_of_tree
 show wpAny _ _ (pure _) _ _ _
 apply wpAny_pure
 have q0 : "type.__call__".startsWith "lifetime." = false:=by decide +kernel
 refine ⟨Code.quiet_builtin _ q0,?_⟩
 apply codeAny_builtin PySem.F.entry_type_call
 rw [Around.under_plain (by rfl) (by rfl)]
 wp_walk
 apply codeAny_mono new
 rintro (x | x) s1 g
 ·exact g
 rcases x with v | v | v | v
 all_goals first | exact g.elim | skip
 obtain ⟨ty,go⟩:=fst _ _ g
 have b:=ft.init.bind v
 wp_walk
 apply codeAny_mono go
 rintro (x | x) s2 g2
 ·exact g2
 rcases x with u | u | u | u
 all_goals first | exact g2.elim | skip
 obtain ⟨rfl,g3⟩:=g2
 wp_walk
 exact g3
end
end L2
namespace L2
open PySem PySem.Spec PyProof.Rows
theorem vals_keys {P:Program}{w:World} : ∀ {ks:List Key}{us:List Value}{i:Nat}{v:Value},Vals (ks.map kV) us→us[i]? = some v→∃ k,ks[i]? = some k∧(mixKind P w).is k v=true∧v.scannable=true
 | [],_,i,v,r,e=>by cases r; simp at e
 | k :: ks,_,0,v,r,e=>by
  cases r with
  | cons h t =>
   refine ⟨k,rfl,?_⟩
   have e':v=_:=(Option.some.inj e).symm
   subst e'
   cases k with
   | inl n=>obtain ⟨t,rfl⟩:=h; exact ⟨mixKind_int P w n t,rfl⟩
   | inr x=>obtain ⟨t,rfl⟩:=h; exact ⟨mixKind_str P w x t,rfl⟩
 | k :: ks,_,i + 1,v,r,e=>by
  cases r with
  | cons h t=>simpa using vals_keys (ks:=ks) t (by simpa using e)
section
variable {X:Cx}
end
end L2
namespace L2
open PySem PySem.Spec PyProof.Rows
abbrev cds (x:Str) : List Nat:=x.cps.toList
abbrev tx (l:List Nat) : Str:=⟨l.toArray⟩
theorem tx_cds (x:Str) : tx (cds x)=x:=by cases x; rfl
theorem cds_len (x:Str) : (cds x).length=x.length:=by show x.cps.toList.length=x.cps.size; simp
theorem cds_app (x y:Str) : cds (x ++ y)=cds x ++ cds y:=by
 show (x.cps ++ y.cps).toList=_
 simp
theorem str_ext {x y:Str}(h:cds x=cds y) : x=y:=by rw [← tx_cds x,← tx_cds y,h]
theorem cut_to {x:Str}{j:Int}(h0:0≤j)(h1:j≤x.length) : Txt.slice x none (some j)=tx ((cds x).take j.toNat):=by
 have e:=StrLaws.sliceText_to (x:=x) (j:=j) ⟨h0,by rw [show x.cps.toList.length=x.length from cds_len x]; exact h1⟩
 have e2:(j - 0).toNat=j.toNat:=by omega
 rw [List.drop_zero,e2] at e
 exact e
section
variable {X:Cx}
def rSlS:V→Option Int→Option Int→Hp→VK→Prop:=fun x lo hi H Q=>∃ z,x = .str z∧z.length≤sizeLine∧Q (.str (Txt.slice z lo hi)) H
theorem sl_str:SlR X rSlS:=by
 intro pins s σ H x v vl vu lo hi sl Q I rx hs pl pu h
 obtain ⟨z,rfl,hz,q⟩:=h
 obtain ⟨t,rfl⟩:=rx
 refine ⟨"str", _,PySem.F.slot_str_getitem.lookup,typeIs_str _ _ _,?_⟩
 obtain ⟨o,ho,hc,hd⟩:=hs
 have fin:∀ t' k,EP X pins σ Q (.str (Txt.slice z lo hi) t') { s with toks:=k }:=fun t' k=>⟨.str _,H,I.tok k,⟨t',rfl⟩,q⟩
 cases pl with
 | none =>
  cases pu with
  | none=>exact wpAny_getItem_str_slice (l:=none) (u:=none) (st:=none) ⟨o,ho,hc,hd⟩ rfl (post_val_or_str ⟨Nat.le_trans (Txt.slice_le z _ _) hz,fin⟩)
  | int j tj=>exact wpAny_getItem_str_slice (l:=none) (u:=some (j,tj)) (st:=none) ⟨o,ho,hc,hd⟩ rfl (post_val_or_str ⟨Nat.le_trans (Txt.slice_le z _ _) hz,fin⟩)
 | int i ti =>
  cases pu with
  | none=>exact wpAny_getItem_str_slice (l:=some (i,ti)) (u:=none) (st:=none) ⟨o,ho,hc,hd⟩ rfl (post_val_or_str ⟨Nat.le_trans (Txt.slice_le z _ _) hz,fin⟩)
  | int j tj=>exact wpAny_getItem_str_slice (l:=some (i,ti)) (u:=some (j,tj)) (st:=none) ⟨o,ho,hc,hd⟩ rfl (post_val_or_str ⟨Nat.le_trans (Txt.slice_le z _ _) hz,fin⟩)
end
end L2
namespace L2
open PySem PySem.Spec PyProof.Rows
theorem inV_str {x:Str}{ws:List Str} : inV (.str x) (ws.map V.str)=decide (x∈ws):=by
 rw [Bool.eq_iff_iff,decide_eq_true_iff]
 unfold inV
 rw [List.any_map,List.any_eq_true]
 have e:∀ w:Str,eqV (.str w) (.str x)=true↔w=x:=fun w=>by simp [eqV]
 constructor
 ·rintro ⟨w,hw,h⟩
  rw [← (e w).mp h]; exact hw
 ·intro h
  exact ⟨x,h,(e x).mpr rfl⟩
def SameT (H H':Hp) : Prop:=∀ a xs,H a=some (.tup xs)→H' a=some (.tup xs)
theorem SameT.refl (H:Hp) : SameT H H:=fun _ _ h=>h
theorem SameT.trans {H H1 H2:Hp}(x:SameT H H1)(y:SameT H1 H2) : SameT H H2:=fun a xs h=>y a xs (x a xs h)
theorem Same.t {H H':Hp}(s:Same H H') : SameT H H':=fun a xs h=>s a _ h
theorem SameT.new {H H':Hp}{p:Addr}(s:SameT H H')(h:H' p=none)(o:HO) : SameT H (upd H' p o):=fun a xs q=>by rw [upd_ne (ne_of_none (s a xs q) h)]; exact s a xs q
theorem SameT.lst {H H':Hp}{p:Addr}{ys:List V}(s:SameT H H')(h:H' p=some (.lst ys))(o:HO) : SameT H (upd H' p o):=fun a xs q=>by
 rw [upd_ne (ne_of (s a xs q) h (by intro z; cases z))]; exact s a xs q
theorem SameB.t {b:Addr}{H H':Hp}{ys:List V}(s:SameB b H H')(h:H b=some (.lst ys)) : SameT H H':=fun a xs q=>s a _ (ne_of q h (by intro z; cases z)) q
mutual
inductive TV (K:PySem.W.Frag) (H:Hp) : V→PyData→Prop
 | non:TV K H .non .none
 | bl (b:Bool) : TV K H (.bl b) (.bool b)
 | int (i:Int) : TV K H (.int i) (.int i)
 | str (x:Str) : TV K H (.str x) (.str x)
 | tup {a:Addr}{xs:List V}{ds:List PyData} : H a=some (.tup xs)→TVs K H xs ds→TV K H (.ref a) (.tuple ds)
inductive TVs (K:PySem.W.Frag) (H:Hp) : List V→List PyData→Prop
 | nil:TVs K H [] []
 | cons {x:V}{xs:List V}{d:PyData}{ds:List PyData} : TV K H x d→TVs K H xs ds→TVs K H (x :: xs) (d :: ds)
end
section
variable {K:PySem.W.Frag}{H H':Hp}
mutual
theorem TV.mono (s:SameT H H') : ∀ {x:V}{d:PyData},TV K H x d→TV K H' x d
 | _,_,.non=>.non
 | _,_,.bl b=>.bl b
 | _,_,.int i=>.int i
 | _,_,.str x=>.str x
 | _,_,.tup h hs=>.tup (s _ _ h) (TVs.mono s hs)
theorem TVs.mono (s:SameT H H') : ∀ {xs:List V}{ds:List PyData},TVs K H xs ds→TVs K H' xs ds
 | _,_,.nil=>.nil
 | _,_,.cons h hs=>.cons (TV.mono s h) (TVs.mono s hs)
end
mutual
theorem TV.dv:∀ {x:V}{d:PyData},TV K H x d→DV K H x d
 | _,_,.non=>.non
 | _,_,.bl b=>.bl b
 | _,_,.int i=>.int i
 | _,_,.str x=>.str x
 | _,_,.tup h hs=>.tup (SqT.of h) (TVs.dv hs)
theorem TVs.dv:∀ {xs:List V}{ds:List PyData},TVs K H xs ds→DVs K H xs ds
 | _,_,.nil=>.nil
 | _,_,.cons h hs=>.cons (TV.dv h) (TVs.dv hs)
end
theorem TVs.length:∀ {xs:List V}{ds:List PyData},TVs K H xs ds→xs.length=ds.length
 | _,_,.nil=>rfl
 | _,_,.cons _ hs=>by simp [TVs.length hs]
theorem TVs.append:∀ {xs ys:List V}{ds es:List PyData},TVs K H xs ds→TVs K H ys es→TVs K H (xs ++ ys) (ds ++ es)
 | _,_,_,_,.nil,s=>s
 | _,_,_,_,.cons h hs,s=>.cons h (TVs.append hs s)
theorem TVs.get:∀ {xs:List V}{ds:List PyData}{i:Nat}{x:V},TVs K H xs ds→xs[i]? = some x→∃ d,ds[i]? = some d∧TV K H x d
 | _,_,_,_,.nil,e=>by simp at e
 | _,_,0,_,.cons h _,e=>by
  obtain rfl:=Option.some.inj e
  exact ⟨_,rfl,h⟩
 | _,_,i + 1,_,.cons _ hs,e=>by simpa using TVs.get (i:=i) hs (by simpa using e)
theorem TVs.getD:∀ {xs:List V}{ds:List PyData}{i:Nat}{d:PyData},TVs K H xs ds→ds[i]? = some d→∃ x,xs[i]? = some x∧TV K H x d
 | _,_,_,_,.nil,e=>by simp at e
 | _,_,0,_,.cons h _,e=>by
  obtain rfl:=Option.some.inj e
  exact ⟨_,rfl,h⟩
 | _,_,i + 1,_,.cons _ hs,e=>by simpa using TVs.getD (i:=i) hs (by simpa using e)
theorem TV.pair {x:V}{a b:PyData}(h:TV K H x (.tuple [a,b])) : ∃ p u v,x = .ref p∧H p=some (.tup [u,v])∧TV K H u a∧TV K H v b:=by
 cases h with
 | tup e hs =>
  cases hs with
  | cons h1 hs =>
   cases hs with
   | cons h2 hs =>
    cases hs
    exact ⟨_,_,_,rfl,e,h1,h2⟩
theorem TV.strs {x:V}{s:Str}(h:TV K H x (.str s)) : x = .str s:=by cases h; rfl
theorem TV.ints {x:V}{s:Int}(h:TV K H x (.int s)) : x = .int s:=by cases h; rfl
theorem TVs.strs (ws:List Str) : TVs K H (ws.map V.str) (ws.map PyData.str):=by
 induction ws with
 | nil=>exact .nil
 | cons w ws ih=>exact .cons (.str w) ih
end
structure Hs (H:Hp) (L:List (Addr × HO)) : Prop where
 nd:(L.map (·.1)).Nodup
 at':∀ p∈L,H p.1=some p.2
namespace Hs
variable {H H':Hp}{L:List (Addr × HO)}{a p:Addr}{o o':HO}
end Hs
end L2
namespace L2
open PySem PySem.Spec PyProof.Rows
structure Shp (n:Nat) (d:PyData) : Prop where
 lay:d.canLay0=true
 dep:d.depth≤n
theorem Shp.mono {m n:Nat}{d:PyData}(h:Shp m d)(hn:m≤n) : Shp n d:=⟨h.lay,Nat.le_trans h.dep hn⟩
theorem lay_all {ds:List PyData}(h:∀ d∈ds,d.canLay0=true) : PyData.canLayAll0 ds=true:=by
 induction ds with
 | nil=>simp [PyData.canLayAll0]
 | cons d ds ih =>
  simp only [PyData.canLayAll0,Bool.and_eq_true]
  exact ⟨h d List.mem_cons_self,ih fun x hx=>h x (List.mem_cons_of_mem _ hx)⟩
theorem dep_all {n:Nat}{ds:List PyData}(h:∀ d∈ds,d.depth≤n) : PyData.depthAll ds≤n:=by
 induction ds with
 | nil=>simp [PyData.depthAll]
 | cons d ds ih =>
  simp only [PyData.depthAll]
  exact Nat.max_le.mpr ⟨h d List.mem_cons_self,ih fun x hx=>h x (List.mem_cons_of_mem _ hx)⟩
theorem Shp.tup {n:Nat}{ds:List PyData}(h:∀ d∈ds,Shp n d) : Shp (n + 1) (.tuple ds) :=
 ⟨by simp only [PyData.canLay0]; exact lay_all fun d hd=>(h d hd).lay,by simp only [PyData.depth]; exact Nat.succ_le_succ (dep_all fun d hd=>(h d hd).dep)⟩
theorem Shp.lst {n:Nat}{ds:List PyData}(h:∀ d∈ds,Shp n d) : Shp (n + 1) (.list ds) :=
 ⟨by simp only [PyData.canLay0]; exact lay_all fun d hd=>(h d hd).lay,by simp only [PyData.depth]; exact Nat.succ_le_succ (dep_all fun d hd=>(h d hd).dep)⟩
theorem Shp.int (n:Nat)(i:Int) : Shp n (.int i):=⟨by simp [PyData.canLay0],by simp [PyData.depth]⟩
theorem Shp.str (n:Nat){x:Str}(h:∀ c∈cds x,c < 128) : Shp n (.str x):=by
 refine ⟨?_,by simp [PyData.depth]⟩
 simp only [PyData.canLay0]
 unfold PyData.strOk
 rw [← Array.all_toList,List.all_eq_true]
 intro c hc
 have:=h c hc
 exact decide_eq_true (by omega)
theorem Shp.shaped {d:PyData}(h:Shp 64 d) : SeqAt.shaped d=true:=by
 unfold SeqAt.shaped
 rw [Bool.and_eq_true,decide_eq_true_iff]
 exact ⟨h.lay,h.dep⟩
section
variable {K:PySem.W.Frag}{H:Hp}{x y:V}{d:PyData}{Q:VK}
theorem ned (hx:DV K H x d)(hy:DV K H y d)(s:Shp 64 d)(q:Q (.bl false) H) : rNeD K x y H Q:=⟨d,d,hx,hy,s.shaped,s.shaped,by rw [SeqAt.eqv_refl d s.lay]; exact q⟩
end
end L2
namespace L2
theorem Same.at' {H H':Hp}{a:PySem.Addr}{o:HO}(s:Same H H')(h:H a=some o) : H' a=some o:=s a o h
theorem SameB.at' {b:PySem.Addr}{H H':Hp}{a:PySem.Addr}{o:HO}(s:SameB b H H')(h:H a=some o)(n:a ≠ b) : H' a=some o:=s a o n h
end L2
namespace L2
theorem upd_none {H:Hp}{a p:PySem.Addr}{o:HO}(h:upd H a o p=none) : p ≠ a∧H p=none:=by
 unfold upd at h
 by_cases e:p=a
 ·rw [if_pos e] at h; cases h
 ·rw [if_neg e] at h; exact ⟨e,h⟩
end L2
namespace L2
theorem atI_mapD {α:Type}{f:α→V}{ws:List α}{d:Int}(dflt:α)(h0:0≤d)(h:d < (ws.length:Int)) : atI (ws.map f) d=some (f (ws.getD d.toNat dflt)):=by
 have hk:d.toNat < ws.length:=by omega
 have ek:d=((d.toNat:Nat) : Int):=by omega
 have q:atI (ws.map f) ((d.toNat:Nat) : Int)=some (f ws[d.toNat]):=atI_nat (by rw [List.getElem?_map,List.getElem?_eq_getElem hk]; rfl)
 rw [← ek] at q
 rw [q,List.getD_eq_getElem?_getD,List.getElem?_eq_getElem hk]
 rfl
end L2
namespace L2
theorem SameB.free {b p:PySem.Addr}{H H':Hp}{o:HO}(s:SameB b H H')(h:H' p=none)(hb:H' b=some o) : H p=none:=by
 cases q:H p with
 | none=>rfl
 | some u =>
  have n:p ≠ b:=fun z=>by rw [z,hb] at h; cases h
  rw [s p u n q] at h
  cases h
end L2
namespace L2
open PySem
theorem ne_fresh {H:Hp}{a b:Addr}{o:HO}(h':H b=none)(h:H a=some o) : a ≠ b:=ne_of_none h h'
theorem SqF.sm {K:PySem.W.Frag}{H H':Hp}{a:Addr}{xs:List V}(s:Same H H')(h:SqF K H a xs) : SqF K H' a xs:=h.same s
namespace Hs
variable {H H':Hp}{L L':List (Addr × HO)}{a p:Addr}{o o':HO}
end Hs
end L2
namespace L2
theorem upd_at {H:Hp}{a b:PySem.Addr}{o u:HO}(n:b ≠ a)(h:H b=some o) : upd H a u b=some o:=by rw [upd_ne n]; exact h
end L2
namespace L2
open PySem PySem.Spec PyProof.Rows
theorem vals_int_at:∀ {ns:List Int}{us:List Value}{i:Nat}{v:Value},Vals (ns.map V.int) us→us[i]? = some v→∃ t,v = .int (ns.getD i 0) t
 | [],_,i,v,r,e=>by cases r; simp at e
 | n :: ns,_,0,v,r,e=>by
  cases r with
  | cons h t =>
   obtain ⟨t,rfl⟩:=h
   exact ⟨t,(Option.some.inj e).symm⟩
 | n :: ns,_,i + 1,v,r,e=>by
  cases r with
  | cons h t=>simpa using vals_int_at (ns:=ns) (i:=i) t (by simpa using e)
theorem strs_of:∀ {ws:List Str}{us:List Value},Vals (ws.map V.str) us→StrsAre us ws
 | [],_,r=>by cases r; exact .nil
 | w :: ws,_,r=>by
  cases r with
  | cons h t =>
   obtain ⟨t',rfl⟩:=h
   exact .cons w t' (strs_of t)
theorem of_strs:∀ {ws:List Str}{us:List Value},StrsAre us ws→Vals (ws.map V.str) us
 | _,_,.nil=>.nil
 | _,_,.cons w t r=>.cons ⟨t,rfl⟩ (of_strs r)
section
variable {X:Cx}
theorem call_sum (hc:X.calm=true) : CallR X (.builtin "sum") (fun xs H Q=>∃ (p:Addr) (ns:List Int),xs = [.ref p]∧SqL X.K H p (ns.map V.int)∧Q (.int ns.sum) H):=by
 intro pins s σ H xs us Q I r h
 obtain ⟨p,ns,rfl,hp,q⟩:=h
 obtain ⟨u,rfl,ru⟩:=vals1 r
 cases ru
 obtain ⟨its,rv,pl,hz⟩:=I.list hp
 have hl:=rv.length
 rw [List.length_map] at hl
 obtain ⟨o,n,e,_⟩:=id pl
 have lt:=Heap.lt_size e
 refine call_sum_walkG (wpAny_pyIter_list pl.isList ?_)
 refine ⟨s.heap.objs.size,_,_,_,_,_,fun i=>ns.getD i 0,rfl,Walks.list (A:=X.A.in1) (by show X.A.handled=none; exact I.ok.hd hc) _ p (Nat.ne_of_lt lt) its.toArray,⟨⟨_,Heap.get?_push_size _ rfl,rfl,rfl⟩,pl.isList.push _⟩,fun b hb=>?_,fun i v hP=>vals_int_at rv (by simpa using hP),fun h' tk t' kk=>?_⟩
 ·show b < (s.heap.push _).objs.size
  rw [Heap.size_push]
  rcases hb with _ | ⟨_,_ | ⟨_,hb⟩⟩
  ·exact Nat.lt_succ_self _
  ·exact Nat.lt_succ_of_lt lt
  ·cases hb
 ·obtain ⟨f0,f1,f2,f3,f4,f5⟩:=I.fpOk (H':=H) (b:=s.heap.objs.size) (Nat.le_refl _) (I.hok.fresh (Nat.le_refl _))
  have I1:=I.kept (t':=s.toks) (h':=s.heap.push { cls:=.type "list_iterator", data:=.fields #[.ref p,rawInt 0] }) fun b o e=>Heap.get?_push_of_some _ e
  refine ⟨.int ns.sum,H,I1.turned (t':=tk) (fun b o hb e=>kk b o (by simpa using hb) e) f0 f1 f3 f4 f5,⟨t',?_⟩,q⟩
  have e2:its.toArray.size=ns.length:=by simp [← hl]
  rw [e2,preSum_getD,List.take_length]
theorem call_sortedS:CallR X (.builtin "sorted") (fun xs H Q=>∃ (p:Addr) (ws:List Str),xs = [.ref p]∧SqL X.K H p (ws.map V.str)∧ws.length < 64∧∀ (q:Addr) (ws':List Str),H q=none→ws'.Perm ws→sortedS ws'=true→Q (.ref q) (upd H q (.lst (ws'.map V.str)))):=by
 intro pins s σ H xs us Q I r h
 obtain ⟨p,ws,rfl,hp,h64,q⟩:=h
 obtain ⟨u,rfl,ru⟩:=vals1 r
 cases ru
 obtain ⟨its,rv,pl,hz⟩:=I.list hp
 have hl:=rv.length
 rw [List.length_map] at hl hz
 refine sorted_strs pl.isList (strs_of rv) (by omega) fun out ws' a1 a2 a3=>?_
 obtain ⟨n,en⟩:=sortedAll_at s.heap its out
 have hq:H (s.heap.objs.size + 1)=none:=I.hok.fresh (Nat.le_succ _)
 refine ⟨.ref (s.heap.objs.size + 1),_,I.laid (t':=s.toks) (o:=.lst (ws'.map V.str)) (fun b o e=>sortedAll_old e) (Nat.le_succ _) ⟨?_,out.toList,n,of_strs a1,?_⟩,rfl,q _ ws' hq a2 a3⟩
 ·rw [List.length_map,a2.length_eq]
  omega
 ·simpa using en
end
end L2
namespace L2
open PySem PySem.Spec PyProof.Rows
def Itv (K:PySem.W.Frag)(a:Addr)(n:Nat) : It :=
 ⟨fun i H=>∃ xs,SqL K H a xs∧xs.length=n∧i < n,fun i H v H'=>H'=H∧∀ xs,SqL K H a xs→xs[n - 1 - i]? = some v,fun i _=>i=n⟩
theorem turn_rev {P:Program}{w:World}{K:PySem.W.Frag}{tg:Expr}(a it:Addr)(n:Nat) : Turn P w K tg (Itv K a n) [it] it (fun i h=>h.IsRevIter it a ((n:Int) - 1 - (i:Int))) where
 mem:=List.mem_singleton.mpr rfl
 obj:=fun i h st b hb=>by
  obtain rfl:=List.mem_singleton.mp hb
  obtain ⟨o,e,_,d⟩:=st
  exact ⟨o,e,fun v z=>by rw [d] at z; cases z⟩
 keep:=fun i h h' st k=>st.at fun o e=>k it (List.mem_singleton.mpr rfl) o e
 item:=by
  intro X hP hw hK hc i pins s σ H E I hf st hg
  subst hP hw hK
  obtain ⟨xs,hq,hn,hi⟩:=hg
  obtain ⟨its,rv,pl,hz⟩:=I.list hq
  obtain ⟨x,hx⟩ : ∃ x,xs[n - 1 - i]? = some x:=⟨_,List.getElem?_eq_getElem (by omega)⟩
  obtain ⟨u,hu,ru⟩:=rv.get hx
  obtain ⟨f0,f1,f2,f3,f4,f5⟩:=hf it (List.mem_singleton.mpr rfl)
  have e1:(n:Int) - 1 - (i:Int)=((n - 1 - i:Nat) : Int):=by omega
  rw [e1] at st
  refine wpAny_pyNext_rev_item st pl.isList (x:=u) (by simpa using hu) fun h' st' sb=>?_
  have e2:((n - 1 - i:Nat) : Int) - 1=(n:Int) - 1 - ((i + 1:Nat) : Int):=by omega
  rw [e2] at st'
  obtain ⟨o,e,c,d⟩:=id st'
  refine ⟨u,rfl,go_of (s:={ s with heap:=h' }) e c d (by decide) ⟨x,H,I.turned (t':=s.toks) (fun b o hb e=>(sb.2 b hb).trans e) f0 f1 f3 f4 f5,ru,⟨rfl,fun ys hy=>?_⟩,st',fun b hb=>(hf b hb).1⟩⟩
  rw [I.list_inj hy hq]
  exact hx
 done:=by
  intro X hP hw hK hc i pins s σ H E I hf st hg
  subst hP hw hK
  obtain ⟨f0,f1,f2,f3,f4,f5⟩:=hf it (List.mem_singleton.mpr rfl)
  have hg:i=n:=hg
  have e1:(n:Int) - 1 - (i:Int) = -1:=by omega
  rw [e1] at st
  exact wpAny_pyNext_rev_end (I.ok.hd hc) st fun h' eb=>⟨rfl,I.turned (t':=s.toks) (fun b o hb e=>eb b o hb e) f0 f1 f3 f4 f5⟩
 self:=fun _ _ _ _ _ st h=>wpAny_pyIter_revIter st h
section
variable {X:Cx}{tg:Expr}
def iRev (K:PySem.W.Frag)(ta:TA) : TI:=fun σ H R=>ta σ H fun vs H1=>∃ a xs,vs = [.ref a]∧SqL K H1 a xs∧R (Itv K a xs.length) H1
theorem bt_reversed:bootBuiltins "reversed" = some (.type "reversed"):=by decide +kernel
theorem pi_rev {a:Expr}{ta:TA}{p pos:Pos}(hg:Gl X "reversed") (hm:X.mg "reversed" = none) (ha:PA X [a] ta) (hs:starEach [a] X.env = [(false,eval a X.env)]:=by rfl) :
  PI X tg (.Call (.Name "reversed" p) [a] [] pos) (iRev X.K ta):=by
 intro pins s σ H R I h
 refine Call_ (ld_blt I hg hm bt_reversed (PyProof.Rows.callWith_type1 (thn (ha pos pins s σ H _ I h) fun us s1 ⟨vs,H1,I1,r1,q1⟩=>?_) hs rfl))
 obtain ⟨l,xs,e,hq,q⟩:=q1
 subst e
 obtain ⟨u,rfl,ru⟩:=vals1 r1
 cases ru
 obtain ⟨its,rv,pl,hz⟩:=I1.list hq
 have hl:its.toArray.size=xs.length:=by simp [rv.length]
 refine call_reversed_list pl.isList ?_
 have ri:(s1.heap.push (revObj l ((its.toArray.size:Int) - 1))).IsRevIter s1.heap.objs.size l ((its.toArray.size:Int) - 1):=⟨_,Heap.get?_push_size _ rfl,rfl,rfl⟩
 refine wpAny_pyIter_revIter ri ?_
 refine ⟨s1.heap.objs.size,_,_,_,H1,rfl,I1.kept (t':=s1.toks) fun b o e=>Heap.get?_push_of_some _ e,turn_rev l _ xs.length,?_,fun b hb=>?_,q⟩
 ·have e1:(its.toArray.size:Int) - 1=(xs.length:Int) - 1 - ((0:Nat) : Int):=by rw [hl]; simp
  rw [← e1]
  exact ri
 ·obtain rfl:=List.mem_singleton.mp hb
  exact I1.fpOk (Nat.le_refl _) (I1.hok.fresh (Nat.le_refl _))
theorem for_rev {K:PySem.W.Frag}{a:Addr}{xs:List V}{g:TG}{tb:TS}{D:Ends}{σ:St}{H:Hp}(Pv:Nat→St→Hp→Prop) (h0:Pv 0 σ H) (hl:∀ i σ H,i≤xs.length→Pv i σ H→SqL K H a xs)
  (hs:∀ i x σ H,xs.reverse[i]? = some x→Pv i σ H→g x σ H fun σ2 H2=>tb { D with nx:=Pv (i + 1),ct:=Pv (i + 1),bk:=D.nx } σ2 H2) (hd:∀ σ H,Pv xs.length σ H→D.nx σ H) :
  ∃ W:Nat→Nat→St→Hp→Prop,(∃ m,W 0 m σ H)∧∀ i m σ H,W i m σ H →
   ((Itv K a xs.length).stop i H∧D.nx σ H)∨((Itv K a xs.length).go i H∧∃ N:St→Hp→Prop,(∀ σ' H',N σ' H'→∃ m',m' < m∧W (i + 1) m' σ' H')∧∀ x H',(Itv K a xs.length).yld i H x H'→g x σ H' fun σ2 H2=>tb { D with nx:=N,ct:=N,bk:=D.nx } σ2 H2):=by
 refine ⟨fun i m σ H=>m + i=xs.length∧Pv i σ H,⟨xs.length,rfl,h0⟩,?_⟩
 rintro i m σ H ⟨hm,p⟩
 cases m with
 | zero =>
  obtain rfl:i=xs.length:=by omega
  exact .inl ⟨rfl,hd σ H p⟩
 | succ m =>
  refine .inr ⟨⟨xs,hl i σ H (by omega) p,rfl,by omega⟩,Pv (i + 1),fun σ' H' p'=>⟨m,Nat.lt_succ_self _,by omega,p'⟩,?_⟩
  rintro x H' ⟨rfl,k⟩
  refine hs i x σ _ ?_ p
  rw [List.getElem?_reverse (by omega)]
  exact k xs (hl i σ _ (by omega) p)
end
end L2
namespace L2
open PySem PySem.Spec PyProof.Rows
def kept:List Value→Array Value
 | [] => #[]
 | v :: _ => #[v,v]
section
variable {P:Program}{w:World}{A:Around}{s:Shared}{R:Result→Shared→Prop}
theorem code_by {id:String}{B:Builtin}{args:Args}(e:entryFor table id=some B) (p:plainId id=true) (h:wpAny (model P w) A.in1 (B args)
  (fun fin s'=>match fin with | .done f=>R (.ok f) s' | .again c'=>c'.quiet=true∧codeAny (model P w) A c' R s') (fun e s'=>R (.error e) s') s) : codeAny (model P w) A (.builtin id args) R s :=
 codeAny_builtin e (by rw [Around.under_plainId p]; exact h)
end
section
variable {X:Cx}{k:Str}
end
end L2
namespace L2
open PySem PySem.Spec PyProof.Rows
section
variable {X:Cx}
end
end L2
namespace L2
open PySem PySem.Spec PyProof.Rows
section
variable {X:Cx}
theorem len_app (x y:Str) : (x ++ y).length=x.length + y.length:=strLen_append x y
end
end L2
namespace L2
theorem szB {n:Nat}(h:n≤1000000) : n≤PySem.sizeLine:=Nat.le_trans h (by decide)
end L2
namespace L2
open PySem
theorem se_c {c:Const}{j:Nat}{p:Pos}{es:List Expr}{env:Env} : starEach (.Constant c j p :: es) env=(false,eval (.Constant c j p) env) :: starEach es env:=rfl
end L2
namespace L2
open PySem PySem.Spec PyProof.Rows
section
variable {X:Cx}{k:Nat}{f C:Addr}{fd:FuncData}{ps:List Str}{sp:Sp}{dvs:List V}{ds:List Value}{x:Str}{p pos:Pos}{e:Expr}{es:List Expr}{t:TA}
end
end L2
namespace L2
open PySem PySem.Spec PyProof.Rows
section
variable {X:Cx}{k:Nat}{f C:Addr}{fd:FuncData}{ps:List Str}{sp:Sp}{dvs:List V}{ds:List Value}{m:Str}{pos apos:Pos}{e o:Expr}{es:List Expr}{ta:TE}{t:TA}
end
end L2
namespace L2
open PySem PySem.Spec PyProof.Rows
section
variable {X:Cx}
end
end L2
namespace L2
open PySem PySem.Spec PyProof.Rows
def Ite (K:PySem.W.Frag)(a:Addr) : It :=
  ⟨fun i H=>∃ xs x,SqL K H a xs∧xs[i]? = some x,
   fun i H v H'=>∃ T x,H T=none∧v = .ref T∧H'=upd H T (.tup [.int (i:Int),x])∧∀ xs,SqL K H a xs→xs[i]? = some x,
   fun i H=>∃ xs,SqL K H a xs∧xs.length≤i⟩
theorem turn_enum {P:Program}{w:World}{K:PySem.W.Frag}{elts:List Expr}{kk:Nat}{pos:Pos}{z it l:Addr}(ne:z ≠ it) :
  Turn P w K (.Tuple elts kk pos) (Ite K l) [z,it] z (fun i h=>(∃ old,IsEnum h z it ((i:Nat) : Int) old)∧h.IsListIter it l i) where
 mem:=List.mem_cons_self
 obj:=fun i h st b hb=>by
  obtain ⟨⟨old,he⟩,⟨o1,e1,c1,d1⟩⟩:=st
  rcases List.mem_cons.mp hb with rfl | hb
  ·exact ⟨_,he,fun v q=>by cases q⟩
  ·obtain rfl:=List.mem_singleton.mp hb
   exact ⟨_,e1,fun v q=>by rw [d1] at q; cases q⟩
 keep:=fun i h h' st k=>by
  obtain ⟨⟨old,he⟩,h1⟩:=st
  exact ⟨⟨old,k z List.mem_cons_self _ he⟩,h1.at fun o x=>k it (List.mem_cons_of_mem _ List.mem_cons_self) o x⟩
 item:=by
  intro X hP hw hK hc i pins s σ H E I hf st hg
  subst hP hw hK
  obtain ⟨xs,x,q1,hx⟩:=hg
  obtain ⟨its1,rv1,pl1,z1⟩:=I.list q1
  obtain ⟨u1,hu1,ru1⟩:=rv1.get hx
  obtain ⟨⟨old,he⟩,h1⟩:=st
  refine wpAny_pyNext_enum_item he h1 pl1.isList (x:=u1) (by simpa using hu1) ne fun h' a1 a2 a3 a4 a5=>?_
  refine ⟨_,rfl,wpAny_letOwnedTupleGo_enum a1 fun h2' he' hs'=>?_⟩
  have I1:Inv X pins σ H { s with heap:=h',toks:=s.toks + 1 }:=I.turnedL (t':=s.toks + 1) (ch:=[z,it]) (fun c o hc e=>a5 c o (fun q=>hc (by simp [q])) (fun q=>hc (by simp [q])) e) hf
  have hT0:=I.hok.fresh (Nat.le_refl s.heap.objs.size)
  have fT:FpOk X pins H s.heap.objs.size:=I.fpOk (Nat.le_refl _) hT0
  have I2:Inv X pins σ (upd H s.heap.objs.size (.tup [.int (i:Int),x])) { s with heap:=h',toks:=s.toks + 1 }:=I1.track fT I.sz ⟨(show 2≤sizeLine from sz),[.int i s.toks,u1],.cons ⟨_,rfl⟩ (.cons ru1 .nil),⟨_,a3,rfl,_,rfl⟩⟩
  obtain ⟨f0,f1,f2,f3,f4,f5⟩:=hf z List.mem_cons_self
  have ne':∀ c∈[z,it],c ≠ s.heap.objs.size:=fun c hc q=>by
   have q':∃ o,s.heap.get? c=some o:=by
    obtain ⟨o1,e1,_⟩:=h1
    rcases List.mem_cons.mp hc with rfl | hc
    ·exact ⟨_,he⟩
    ·obtain rfl:=List.mem_singleton.mp hc
     exact ⟨_,e1⟩
   obtain ⟨o,e⟩:=q'
   exact absurd (Heap.lt_size e) (by rw [q]; exact Nat.lt_irrefl _)
  refine ⟨.ref s.heap.objs.size,_,I2.turned (t':=s.toks + 1) (fun c o hc e=>(hs'.2 c hc).trans e) (by rw [upd_ne (ne' z List.mem_cons_self)]; exact f0) f1 f3 f4 f5,rfl,⟨_,x,hT0,rfl,rfl,fun zs hz=>by rw [I.list_inj hz q1]; exact hx⟩,?_,fun c hc=>by rw [upd_ne (ne' c hc)]; exact (hf c hc).1⟩
  have ei:(((i + 1:Nat)) : Int)=(i:Int) + 1:=by omega
  rw [ei]
  exact ⟨⟨_,he'⟩,a2.extBut hs'.extBut (Ne.symm ne)⟩
 done:=by
  intro X hP hw hK hc i pins s σ H E I hf st hg
  subst hP hw hK
  obtain ⟨xs,q1,hend⟩:=hg
  obtain ⟨its1,rv1,pl1,z1⟩:=I.list q1
  obtain ⟨⟨old,he⟩,h1⟩:=st
  have e1:=rv1.length
  obtain ⟨f0,f1,f2,f3,f4,f5⟩:=hf it (List.mem_cons_of_mem _ List.mem_cons_self)
  exact wpAny_pyNext_enum_end (I.ok.hd hc) he h1 pl1.isList (by simp; omega) fun h' eb=>⟨rfl,I.turned (t':=s.toks) (fun b o hb e=>eb b o hb e) f0 f1 f3 f4 f5⟩
 self:=fun A i s Q E st h=>let ⟨⟨_,he⟩,_⟩:=st; wpAny_pyIter_enum he h
section
variable {X:Cx}
def iEnum (K:PySem.W.Frag)(ta:TA) : TI:=fun σ H R=>ta σ H fun vs H1=>∃ a,vs = [.ref a]∧(∃ xs,SqL K H1 a xs)∧R (Ite K a) H1
theorem pi_enum {elts:List Expr}{kk:Nat}{tpos:Pos}{a:Expr}{ta:TA}{p pos:Pos}(hg:Gl X "enumerate") (hm:X.mg "enumerate" = none) (ha:PA X [a] ta) (hs:starEach [a] X.env = [(false,eval a X.env)]:=by rfl) :
  PI X (.Tuple elts kk tpos) (.Call (.Name "enumerate" p) [a] [] pos) (iEnum X.K ta):=by
 intro pins s σ H R I h
 refine Call_ (ld_blt I hg hm (by decide +kernel:bootBuiltins "enumerate" = some (.type "enumerate")) (PyProof.Rows.callWith_type1 (thn (ha pos pins s σ H _ I h) fun us s1 ⟨vs,H1,I1,r1,q1⟩=>?_) hs rfl))
 obtain ⟨l,e,⟨xs,hq⟩,q⟩:=q1
 subst e
 obtain ⟨u,rfl,ru⟩:=vals1 r1
 cases ru
 obtain ⟨its,rv,pl,hz⟩:=I1.list hq
 refine call_enumerate_list pl.isList fun h' a1 a2 a3 a4=>?_
 refine wpAny_pyIter_enum a1 ?_
 refine ⟨s1.heap.objs.size + 1,_,_,_,H1,rfl,I1.kept (t':=s1.toks) a4,turn_enum (z:=s1.heap.objs.size + 1) (it:=s1.heap.objs.size) (l:=l) (by show @Ne Nat _ _; omega),⟨⟨_,a1⟩,a2⟩,fun b hb=>?_,q⟩
 have hb':s1.heap.objs.size≤b:=by
  show @LE.le Nat _ _ _
  rcases List.mem_cons.mp hb with rfl | hb
  ·omega
  ·obtain rfl:=List.mem_singleton.mp hb
   exact Nat.le_refl _
 exact I1.fpOk hb' (I1.hok.fresh hb')
theorem for_enum {K:PySem.W.Frag}{a:Addr}{xs:List V}{g:TG}{tb:TS}{D:Ends}{σ:St}{H:Hp}(Pv:Nat→St→Hp→Prop) (h0:Pv 0 σ H) (hl:∀ i σ H,i≤xs.length→Pv i σ H→SqL K H a xs)
  (hs:∀ i x σ H T,xs[i]? = some x→Pv i σ H→H T=none→g (.ref T) σ (upd H T (.tup [.int (i:Int),x])) fun σ2 H2=>tb { D with nx:=Pv (i + 1),ct:=Pv (i + 1),bk:=D.nx } σ2 H2) (hd:∀ σ H,Pv xs.length σ H→D.nx σ H) :
  ∃ W:Nat→Nat→St→Hp→Prop,(∃ m,W 0 m σ H)∧∀ i m σ H,W i m σ H →
   ((Ite K a).stop i H∧D.nx σ H)∨((Ite K a).go i H∧∃ N:St→Hp→Prop,(∀ σ' H',N σ' H'→∃ m',m' < m∧W (i + 1) m' σ' H')∧∀ x H',(Ite K a).yld i H x H'→g x σ H' fun σ2 H2=>tb { D with nx:=N,ct:=N,bk:=D.nx } σ2 H2):=by
 refine ⟨fun i m σ H=>m + i=xs.length∧Pv i σ H,⟨xs.length,rfl,h0⟩,?_⟩
 rintro i m σ H ⟨hm,p⟩
 have q1:=hl i σ H (by omega) p
 cases m with
 | zero=>exact .inl ⟨⟨xs,q1,by omega⟩,hd σ H ((show i=xs.length by omega) ▸ p)⟩
 | succ m =>
  have h1:i < xs.length:=by omega
  refine .inr ⟨⟨xs,xs[i],q1,List.getElem?_eq_getElem h1⟩,Pv (i + 1),fun σ' H' p'=>⟨m,Nat.lt_succ_self _,by omega,p'⟩,fun x H' y=>?_⟩
  obtain ⟨T,x1,hT,rfl,rfl,k1⟩:=y
  exact hs i x1 σ H T (k1 xs q1) p hT
end
end L2
namespace PySem
section
variable {prog:Program}{w:World}{A:Around}{E:Value→Shared→Prop}{s:Shared}
end
end PySem
namespace L2
open PySem PySem.Spec PyProof.Rows
section
variable {X:Cx}{tg:Expr}
end
end L2
namespace L2
open PySem PySem.Spec PyProof.Rows
section
variable {P:Program}{w:World}{A:Around}{s:Shared}{R:Result→Shared→Prop}
end
section
variable {X:Cx}{k:Str}
end
end L2
namespace L2
open PySem PySem.Spec PyProof.Rows
section
variable {κ:Type} [DecidableEq κ]
def valV (kvs:List (κ × V))(k:κ) : Option V:=(kvs.find? fun kv=>decide (kv.1=k)).map (·.2)
def putK (kvs:List (κ × V))(k:κ)(v:V) : List (κ × V) :=
 if (kvs.any fun kv=>decide (kv.1=k))=true then kvs.map (fun kv=>if kv.1=k then (kv.1,v) else kv) else kvs ++ [(k,v)]
theorem valV_pos {p:κ × V}{r:List (κ × V)}{k:κ}(e:p.1=k) : valV (p :: r) k=some p.2:=by simp [valV,List.find?_cons,e]
theorem valV_neg {p:κ × V}{r:List (κ × V)}{k:κ}(e:¬ p.1=k) : valV (p :: r) k=valV r k:=by simp [valV,List.find?_cons,e]
theorem valV_any (k:κ) : ∀ kvs:List (κ × V),(kvs.any fun kv=>decide (kv.1=k))=(valV kvs k).isSome
 | []=>rfl
 | p :: r=>by
  rw [List.any_cons]
  by_cases e:p.1=k
  ·simp only [valV_pos e,decide_eq_true e,Bool.true_or,Option.isSome_some]
  ·rw [valV_neg e,decide_eq_false e,Bool.false_or]; exact valV_any k r
theorem length_putK (kvs:List (κ × V))(k:κ)(v:V) : (putK kvs k v).length≤kvs.length + 1:=by
 unfold putK
 split
 ·rw [List.length_map]; omega
 ·rw [List.length_append,List.length_cons,List.length_nil]; omega
theorem putK_new {kvs:List (κ × V)}{k:κ}(v:V)(h:valV kvs k=none) : putK kvs k v=kvs ++ [(k,v)]:=by
 unfold putK
 rw [valV_any,h]
 exact if_neg (by decide)
theorem RelO.isSome_eq {o:Option V}{u:Option Value}(r:RelO o u) : o.isSome=u.isSome:=by
 cases o with
 | none=>cases u with
  | none=>rfl
  | some _=>exact (show False from r).elim
 | some _=>cases u with
  | none=>exact (show False from r).elim
  | some _=>rfl
theorem KV.val {kvs:List (κ × V)}{vs:List (κ × Value)}(r:KV kvs vs)(k:κ) : RelO (valV kvs k) (valueAt vs k):=by
 unfold KV at r
 induction r with
 | nil=>exact True.intro
 | @cons p q ps qs h t ih =>
  obtain ⟨h1,h2⟩:=h
  by_cases e:p.1=k
  ·have e':q.1=k:=h1.symm.trans e
   have b:valueAt (q :: qs) k=some q.2:=by simp [valueAt,List.find?_cons,e']
   rw [valV_pos e,b]; exact h2
  ·have e':¬ q.1=k:=fun z=>e (h1.trans z)
   have b:valueAt (q :: qs) k=valueAt qs k:=by simp [valueAt,List.find?_cons,e']
   rw [valV_neg e,b]; exact ih
theorem KV.any {kvs:List (κ × V)}{vs:List (κ × Value)}(r:KV kvs vs)(k:κ) : (kvs.any fun kv=>decide (kv.1=k))=vs.any fun kv=>decide (kv.1=k):=by
 unfold KV at r
 induction r with
 | nil=>rfl
 | cons h t ih=>rw [List.any_cons,List.any_cons,ih,h.1]
theorem KV.repl {kvs:List (κ × V)}{vs:List (κ × Value)}(r:KV kvs vs) (k:κ) {y:V}{u:Value}(ry:RelV y u) :
  KV (kvs.map fun kv=>if kv.1=k then (kv.1,y) else kv) (vs.map fun kv=>if kv.1=k then (kv.1,u) else kv):=by
 unfold KV at r ⊢
 induction r with
 | nil=>exact .nil
 | @cons p q ps qs h t ih =>
  rw [List.map_cons,List.map_cons]
  refine .cons ?_ ih
  obtain ⟨h1,h2⟩:=h
  by_cases e:p.1=k
  ·rw [if_pos e,if_pos (h1.symm.trans e)]; exact ⟨h1,ry⟩
  ·rw [if_neg e,if_neg (fun z=>e (h1.trans z))]; exact ⟨h1,h2⟩
theorem KV.put {kvs:List (κ × V)}{vs:List (κ × Value)}(r:KV kvs vs)(k:κ){y:V}{u:Value}(ry:RelV y u) : KV (putK kvs k y) (stored vs k u):=by
 unfold putK stored
 rw [r.any k]
 by_cases e:(vs.any fun kv=>decide (kv.1=k))=true
 ·rw [if_pos e,if_pos e]; exact r.repl k ry
 ·rw [if_neg e,if_neg e]; exact Paired.snoc r ⟨rfl,ry⟩
theorem KV.length {kvs:List (κ × V)}{vs:List (κ × Value)}(r:KV kvs vs) : kvs.length=vs.length:=Paired.length r
end
theorem kV_is {P:Program}{w:World}{k:Key}{u:Value}(r:RelV (kV k) u) : (mixKind P w).is k u=true:=by
 cases k with
 | inl i=>obtain ⟨t,e⟩:=(show ∃ t,u=Value.int i t from r); subst e; exact mixKind_int P w i t
 | inr x=>obtain ⟨t,e⟩:=(show ∃ t,u=Value.str x t from r); subst e; exact mixKind_str P w x t
theorem items_are {P:Program}{w:World} : ∀ {ks:List Key}{us:List Value},Vals (ks.map kV) us→ItemsAre (mixKind P w) ks us
 | [],_,r=>by rw [List.map_nil] at r; cases r; exact .nil
 | k :: ks,_,r=>by
  rw [List.map_cons] at r
  cases r with
  | cons h t=>exact .cons (kV_is h) (items_are t)
abbrev KT (H:Hp) : List (List Key × V)→List (List Key × Addr × Value)→Prop:=Paired fun p q=>p.1=q.1∧H q.2.1=some (.tup (p.1.map kV))∧RelV p.2 q.2.2
theorem KT.val {H:Hp}{kvs:List (List Key × V)}{xs:List (List Key × Addr × Value)}(r:KT H kvs xs)(k:List Key) : RelO (valV kvs k) ((atKey xs k).map (·.2)):=by
 induction r with
 | nil=>exact True.intro
 | @cons p q ps qs h t ih =>
  obtain ⟨h1,_,h2⟩:=h
  by_cases e:p.1=k
  ·have e':q.1=k:=h1.symm.trans e
   have b:atKey (q :: qs) k=some q.2:=by simp [atKey,List.find?_cons,e']
   rw [valV_pos e,b]; exact h2
  ·have e':¬ q.1=k:=fun z=>e (h1.trans z)
   have b:atKey (q :: qs) k=atKey qs k:=by simp [atKey,List.find?_cons,e']
   rw [valV_neg e,b]; exact ih
theorem KT.repl {H:Hp}{kvs:List (List Key × V)}{xs:List (List Key × Addr × Value)}(r:KT H kvs xs) (k:List Key) {y:V}{u:Value}(ry:RelV y u) :
  KT H (kvs.map fun kv=>if kv.1=k then (kv.1,y) else kv) (xs.map (putAt k u)):=by
 induction r with
 | nil=>exact .nil
 | @cons p q ps qs h t ih =>
  rw [List.map_cons,List.map_cons]
  refine .cons ?_ ih
  obtain ⟨h1,h2,h3⟩:=h
  unfold putAt
  by_cases e:p.1=k
  ·rw [if_pos e,if_pos (h1.symm.trans e)]; exact ⟨h1,h2,ry⟩
  ·rw [if_neg e,if_neg (fun z=>e (h1.trans z))]; exact ⟨h1,h2,h3⟩
theorem KT.put {H:Hp}{kvs:List (List Key × V)}{xs:List (List Key × Addr × Value)}(r:KT H kvs xs) (k:List Key) {b:Addr}{y:V}{u:Value}(hb:H b=some (.tup (k.map kV))) (ry:RelV y u) :
  KT H (putK kvs k y) (storedH xs k b u):=by
 have e:(kvs.any fun kv=>decide (kv.1=k))=(atKey xs k).isSome:=by
  rw [valV_any,(r.val k).isSome_eq,Option.isSome_map]
 unfold putK storedH
 rw [e]
 by_cases q:(atKey xs k).isSome=true
 ·rw [if_pos q,if_pos q]; exact r.repl k ry
 ·rw [if_neg q,if_neg q]; exact Paired.snoc r ⟨rfl,hb,ry⟩
theorem KT.keeps {H H':Hp}{kvs:List (List Key × V)}{xs:List (List Key × Addr × Value)}(r:KT H kvs xs)(ht:∀ b ys,H b=some (.tup ys)→H' b=some (.tup ys)) : KT H' kvs xs :=
 Paired.mapP r fun _ _ z=>⟨z.1,ht _ _ z.2.1,z.2.2⟩
section
variable {P:Program}{w:World}{H:Hp}{h:Heap}{a:Addr}
theorem rd_of {u:HO}(ok:HOk P w H h)(e:Rd H a u) : ObjOk P w H h a u:=e.ok ok
theorem dk_rd {kvs:List (Key × V)}(ok:HOk P w H h)(e:Rd H a (.dK kvs)) : kvs.length≤sizeLine∧(a == sysModules)=false∧∃ vs,KV kvs vs∧h.DictOf (mixKind P w) a vs :=
 show ObjOk P w H h a (.dK kvs) from rd_of ok e
theorem dk_of {kvs:List (Key × V)}(ok:HOk P w H h)(e:H a=some (.dK kvs)) : kvs.length≤sizeLine∧(a == sysModules)=false∧∃ vs,KV kvs vs∧h.DictOf (mixKind P w) a vs:=dk_rd ok (.inl e)
theorem key_of {ks:List Key}(ok:HOk P w H h)(e:H a=some (.tup (ks.map kV))) : (tupleKind (mixKind P w)).is h ks a:=by
 obtain ⟨_,its,r,o,h1,h2,n,h3⟩:=(show ObjOk P w H h a (.tup (ks.map kV)) from ok a _ e)
 exact ⟨o,its.toArray,n,h1,h2,h3,by simpa using items_are r⟩
theorem dt_rd {kvs:List (List Key × V)}(ok:HOk P w H h)(e:Rd H a (.dT kvs)) : kvs.length≤sizeLine∧(a == sysModules)=false ∧
  ∃ xs,KT H kvs xs∧h.DictOfH (tupleKind (mixKind P w)) a xs:=by
 obtain ⟨z,y,xs,r,o,es,ep,h1,h2,h3,h4,h5⟩:=(show ObjOk P w H h a (.dT kvs) from rd_of ok e)
 refine ⟨z,y,xs,r,o,es,ep,h1,h2,h3,h4,fun x hx=>?_,h5⟩
 have all:∀ {l:List (List Key × V)}{m:List (List Key × Addr × Value)},KT H l m→∀ x∈m,(tupleKind (mixKind P w)).is h x.1 x.2.1:=by
  intro l m q
  induction q with
  | nil=>intro x hx; exact nomatch hx
  | @cons p q ps qs hq t ih =>
   intro x hx
   rcases List.mem_cons.mp hx with e | hx
   ·subst e
    exact key_of ok (by rw [← hq.1]; exact hq.2.1)
   ·exact ih x hx
 exact all r x hx
theorem dt_of {kvs:List (List Key × V)}(ok:HOk P w H h)(e:H a=some (.dT kvs)) : kvs.length≤sizeLine∧(a == sysModules)=false ∧
  ∃ xs,KT H kvs xs∧h.DictOfH (tupleKind (mixKind P w)) a xs:=dt_rd ok (.inl e)
end
def DGet (H:Hp)(a:Addr)(y:V)(r:Option V) : Prop :=
 (∃ kvs k,Rd H a (.dK kvs)∧y=kV k∧r=valV kvs k)∨∃ kvs k b,Rd H a (.dT kvs)∧y = .ref b∧H b=some (.tup (k.map kV))∧r=valV kvs k
def DPut (H:Hp)(a:Addr)(y v:V)(H':Hp) : Prop :=
 (∃ kvs k,H a=some (.dK kvs)∧y=kV k∧kvs.length < sizeLine∧H'=upd H a (.dK (putK kvs k v))) ∨
 ∃ kvs k b,H a=some (.dT kvs)∧y = .ref b∧H b=some (.tup (k.map kV))∧kvs.length < sizeLine∧H'=upd H a (.dT (putK kvs k v))
theorem DGet.k {H:Hp}{a:Addr}{kvs:List (Key × V)}{k:Key}(e:H a=some (.dK kvs)) : DGet H a (kV k) (valV kvs k):=.inl ⟨kvs,k,.inl e,rfl,rfl⟩
theorem DPut.k {H:Hp}{a:Addr}{kvs:List (Key × V)}{k:Key}{v:V}(e:H a=some (.dK kvs))(hl:kvs.length < sizeLine) : DPut H a (kV k) v (upd H a (.dK (putK kvs k v))):=.inl ⟨kvs,k,e,rfl,hl,rfl⟩
section
variable {X:Cx}{pins:List (Addr × Obj)}{σ:St}{H:Hp}{s:Shared}{a:Addr}{y v:V}{u r:Value}{o:Option V}{A:Around}{E:Value→Shared→Prop}
theorem Inv.big (I:Inv X pins σ H s) : sysModules < s.heap.objs.size:=by
 have h:mainGlobals < s.heap.objs.size:=(I.mod.glob.keeps I.bk).lt
 exact Nat.lt_trans (by decide) h
theorem d_getItem {Q:Value→Shared→Prop}(hu:A.units + 1 < cLine) (I:Inv X pins σ H s) (g:DGet H a y (some v)) (ry:RelV y u) (h:∀ w' s',Inv X pins σ H s'→RelV v w'→Q w' s') :
  wpAny (model X.prog X.w) A (getItem (.ref a) u) Q E s:=by
 rcases g with ⟨kvs,k,e,ey,l⟩ | ⟨kvs,k,b,e,ey,eb,l⟩
 ·subst ey
  obtain ⟨z,hd,vs,rel,dd⟩:=dk_rd I.hok e
  obtain ⟨w',hw,rw'⟩:=RelO.some_of (v:=v) (o:=valueAt vs k) (by rw [l]; exact rel.val k)
  exact wpAny_getItem_of (kV_is ry) dd.mapOf hw (h w' _ (I.tok _) rw')
 ·subst ey
  cases (show u=Value.ref b from ry)
  obtain ⟨z,hd,xs,rel,dd⟩:=dt_rd I.hok e
  obtain ⟨w',hw,rw'⟩:=RelO.some_of (v:=v) (o:=(atKey xs k).map (·.2)) (by rw [l]; exact rel.val k)
  obtain ⟨p,hp,hp2⟩:=Option.map_eq_some_iff.mp hw
  refine wpAny_getItem_heap (tupleKind_room_in1 hu) (key_of I.hok eb) dd hp ?_
  rw [hp2]
  exact h w' _ (I.tok _) rw'
theorem d_write {h':Heap}{t':Nat}{ob:HO}(I:Inv X pins σ H s) (mu:Mut (H a)) (hs:Heap.SameBut a s.heap h') (he:∃ q,h'.get? a=some q) (new:ObjOk X.prog X.w (upd H a ob) h' a ob) :
  Inv X pins σ (upd H a ob) { s with heap:=h',toks:=t' } :=
 I.write (x:=a) (e:=a) mu (.inl rfl) (fun b q hb z=>(hs.2 b hb).trans z) he new
theorem dk_new {P:Program}{w:World}{H':Hp}{h':Heap}{kvs:List (Key × V)}{vs:List (Key × Value)}(z:kvs.length≤sizeLine) (hd:(a == sysModules)=false) (rel:KV kvs vs) (dd:h'.DictOf (mixKind P w) a vs) :
  ObjOk P w H' h' a (.dK kvs):=⟨z,hd,vs,rel,dd⟩
theorem d_setItem {H':Hp}{Q:Unit→Shared→Prop}(hu:A.units + 1 < cLine) (I:Inv X pins σ H s) (g:DPut H a y v H') (ry:RelV y u) (rv:RelV v r) (h:∀ s',Inv X pins σ H' s'→Q () s') :
  wpAny (model X.prog X.w) A (setItem (.ref a) u r) Q E s:=by
 rcases g with ⟨kvs,k,e,ey,l,eH⟩ | ⟨kvs,k,b,e,ey,eb,l,eH⟩
 ·subst ey eH
  obtain ⟨z,hd,vs,rel,dd⟩:=dk_of I.hok e
  have hz:vs.length≤sizeLine:=by rw [← rel.length]; exact z
  have hl:(putK kvs k v).length≤sizeLine:=by have:=length_putK kvs k v; omega
  refine wpAny_setItem_pairs (hsz:=hz) (kV_is ry) dd fun h' dd' hs=>h _ ?_
  have he:∃ q,h'.get? a=some q:=let ⟨q,_,_,hq,_⟩:=dd'; ⟨q,hq⟩
  exact d_write I (by rw [e]; exact True.intro) hs he (dk_new hl hd (rel.put k rv) dd')
 ·subst ey eH
  cases (show u=Value.ref b from ry)
  obtain ⟨z,hd,xs,rel,dd⟩:=dt_of I.hok e
  have hz:xs.length≤sizeLine:=by rw [← Paired.length rel]; exact z
  have hl:(putK kvs k v).length≤sizeLine:=by have:=length_putK kvs k v; omega
  refine wpAny_setItem_heap (hsz:=hz) (tupleKind_room_in1 hu) (key_of I.hok eb) dd fun h' dd' hs=>h _ ?_
  obtain ⟨q,es,ep,hq,h2,h3,h4,_,h5⟩:=dd'
  refine d_write I (by rw [e]; exact True.intro) hs ⟨q,hq⟩ ⟨hl,hd,_,(rel.put k eb rv).keeps fun c ys ec=>?_,q,es,ep,hq,h2,h3,h4,h5⟩
  rw [upd_ne (ne_of ec e (fun z=>nomatch z))]
  exact ec
end
section
variable {X:Cx}{pins:List (Addr × Obj)}{σ:St}{H:Hp}{s:Shared}{a:Addr}{kvs:List (Key × V)}{k:Key}{u:Value}{A:Around}{E:Value→Shared→Prop}
end
def NoSl (i:Expr) : Prop:=∀ ov iv,subscripted i false ov iv=operate [ov,iv] (getItem ov iv)
theorem subD_of {prog:Program}{w:World}{A:Around}{E:Value→Shared→Prop}{s:Shared}{env:Env}{value slice:Expr}{pos:Pos}{T id:String}{Q:Value→Shared→Prop}
  (hl:typeLookup (.type T) "__getitem__" = pure (some (.builtin id))) (hs:NoSl slice)
  (h:wpAny (model prog w) A (eval value env) (fun o s₁=>wpAny (model prog w) A (eval slice env) (fun i s₂=>s₂.TypeIs o T∧wpAny (model prog w) A (getItem o i) Q E s₂) E s₁) E s) :
  wpAny (model prog w) A (eval (.Subscript value slice pos) env) Q E s:=by
 refine Subscript_ (wpAny_mono h (fun o s₁ h₁=>wpAny_mono h₁ (fun i s₂ h₂=>?_) fun _ _ x=>x) fun _ _ x=>x)
 obtain ⟨hT,h₂⟩:=h₂
 unfold subscriptTail
 refine wpAny_bind ?_
 rw [getitemInPython_of_ne hT.not_modules]
 refine wpAny_bind (wpAny_specialOf hT hl ?_)
 have fin:wpAny (model prog w) A (subscripted slice false o i) (fun r s₃=>wpAny (model prog w) A (letTemporaryGo value o r >>= fun _=>pure r) Q E s₃) E s₂:=by
  rw [hs o i]
  exact wpAny_operating (wpAny_mono h₂ (fun r s₃ h₃=>wpAny_bind (wpAny_letTemporaryGo (wpAny_pure h₃))) fun _ _ x=>x)
 first
  | exact wpAny_pure (wpAny_bind fin)
  | exact wpAny_bind (wpAny_pure (wpAny_bind fin))
  | exact wpAny_bind fin
theorem dict_typeIs {X:Cx}{pins:List (Addr × Obj)}{σ:St}{H:Hp}{s:Shared}{a:Addr}{y:V}{o:Option V}(I:Inv X pins σ H s)(g:DGet H a y o) : s.TypeIs (.ref a) "dict" := by
 rcases g with ⟨kvs,k,e,_,_⟩ | ⟨kvs,k,b,e,_,_,_⟩
 ·obtain ⟨_,_,vs,_,dd⟩:=dk_rd I.hok e
  exact dd.typeIs
 ·obtain ⟨_,_,xs,_,dd⟩:=dt_rd I.hok e
  exact dd.typeIs
def tDGet (td ty:TE) : TE:=fun σ H Q=>td σ H fun x H1=>ty σ H1 fun y H2=>∃ a v,x = .ref a∧DGet H2 a y (some v)∧Q v H2
def sDPut (td ty tv:TE) : TS:=fun D σ H=>tv σ H fun v H1=>td σ H1 fun x H2=>ty σ H2 fun y H3=>∃ a H4,x = .ref a∧DPut H3 a y v H4∧D.nx σ H4
section
variable {X:Cx}{o i e value:Expr}{pos pos' tpos:Pos}{td ty tv:TE}
theorem pe_dget (hu:X.A.units + 1 < cLine)(ho:PE X o td)(hi:PE X i ty)(hs:NoSl i) : PE X (.Subscript o i pos) (tDGet td ty):=by
 intro pins s σ H Q I h
 refine subD_of PySem.F.slot_dict_getitem.lookup hs (thn (ho pins s σ H _ I h) fun u s1 ⟨x,H1,I1,rx,q1⟩=>thn (hi pins s1 σ H1 _ I1 q1) fun iv s2 ⟨y,H2,I2,ry,a,v,ex,g,q2⟩=>?_)
 subst ex
 obtain rfl:u=Value.ref a:=rx
 exact ⟨dict_typeIs I2 g,d_getItem hu I2 g ry fun w' s3 I3 rw'=>⟨v,H2,I3,rw',q2⟩⟩
theorem ps_dput (hu:X.A.units + 1 < cLine) (ho:PE X o td) (hi:PE X i ty) (hv:PE X value tv) (hs:swapsWith value (some (.Subscript o i pos')) pos.line X.env=pure false) :
  PS X (.Assign [.Subscript o i pos'] value pos) (sDPut td ty tv):=by
 intro pins s σ H D I h
 refine wpAny_Assign_Subscript (thn (hv pins s σ H _ I h) fun r s1 ⟨v,H1,I1,rv,q1⟩=>thn (ho pins s1 σ H1 _ I1 q1) fun u s2 ⟨x,H2,I2,rx,q2⟩=>thn (hi pins s2 σ H2 _ I2 q2) fun iv s3 ⟨y,H3,I3,ry,a,H4,ex,g,q3⟩=>?_) hs
 subst ex
 obtain rfl:u=Value.ref a:=rx
 exact d_setItem hu I3 g ry rv fun s4 I4=>⟨σ,H4,I4,q3⟩
end
theorem dk_empty {P:Program}{w:World}{H:Hp}(h:Heap)(hb:sysModules < h.objs.size) : ObjOk P w H (h.push { cls:=.type "dict", data:=.dict #[] }) h.objs.size (.dK []) :=
 ⟨Nat.zero_le _,beq_eq_false_iff_ne.mpr (Ne.symm (Nat.ne_of_lt hb)),[],.nil,Heap.DictOf.new h⟩
def tDNewK:TE:=fun _ H Q=>∀ p,H p=none→Q (.ref p) (upd H p (.dK []))
section
variable {X:Cx}{pos:Pos}
theorem pe_dnewK:PE X (.Dict [] [] pos) tDNewK:=fun pins s σ H Q I h =>
 wpAny_Dict_empty ⟨.ref s.heap.objs.size,_,I.laid (a:=s.heap.objs.size) (o:=.dK []) (t':=s.toks) (fun _ _ q=>Heap.get?_push_of_some _ q) (Nat.le_refl _) (dk_empty s.heap I.big),rfl,h _ (I.hok.fresh (Nat.le_refl _))⟩
end
structure M1 (X:Cx) (o:Expr) (m:Str) (apos:Pos) (e:Expr) (cpos:Pos) : Prop where
 base:attributeBase o m X.env (eval o X.env)=eval o X.env
 few:((backTo cpos (starEach [e] X.env)).all (fun x => !x.1) && (backToKw cpos (keywordEach [] X.env)).all (fun x=>x.1.isSome)
  && decide (([e] : List Expr).length + ([] : List Keyword).length + (if ([] : List Keyword).isEmpty then 0 else 1) < 30))=true
 line:(apos.endLine == cpos.line)=true
 trees:backTo cpos (starEach [e] X.env) = [(false,eval e X.env)]
structure M2 (X:Cx) (o:Expr) (m:Str) (apos:Pos) (e f:Expr) (cpos:Pos) : Prop where
 base:attributeBase o m X.env (eval o X.env)=eval o X.env
 few:((backTo cpos (starEach [e,f] X.env)).all (fun x => !x.1) && (backToKw cpos (keywordEach [] X.env)).all (fun x=>x.1.isSome)
  && decide (([e,f] : List Expr).length + ([] : List Keyword).length + (if ([] : List Keyword).isEmpty then 0 else 1) < 30))=true
 line:(apos.endLine == cpos.line)=true
 trees:backTo cpos (starEach [e,f] X.env) = [(false,eval e X.env),(false,eval f X.env)]
section
variable {X:Cx}{pins:List (Addr × Obj)}{σ:St}{H:Hp}{s:Shared}{a:Addr}{y d:V}{u r:Value}{o:Option V}{A:Around}{E:Value→Shared→Prop}
end
section
variable {X:Cx}{o e f:Expr}{apos cpos:Pos}{td ty tx:TE}
end
section
variable {X:Cx}{pins:List (Addr × Obj)}{σ:St}{H:Hp}{s:Shared}{a:Addr}{kvs:List (Key × V)}{A:Around}{E:Value→Shared→Prop}
end
section
variable {X:Cx}{pins:List (Addr × Obj)}{σ:St}{H:Hp}{s:Shared}{a:Addr}{y:V}{u:Value}{A:Around}{E:Value→Shared→Prop}
end
end L2
namespace L2
open PySem PySem.Spec PyProof.Rows
section
variable {κ:Type} [DecidableEq κ]
end
end L2
namespace L2
open PySem PySem.Spec PyProof.Rows
theorem key_rel {k:Key}{u:Value}(h:keyIs k u=true) : RelV (kV k) u:=by
 rcases keyIs_shape h with ⟨i,t,rfl,rfl⟩ | ⟨x,t,rfl,rfl⟩
 ·exact ⟨t,rfl⟩
 ·exact ⟨t,rfl⟩
abbrev FzD (P:Program) (w:World) (a:Addr) (kvs:List (Key × V)) (ep:Nat) : HO:=.ext fun h=>∃ vs,KV kvs vs∧h.DictAt (mixKind P w) a vs ep∧(a == sysModules)=false
theorem Inv.freeze {X:Cx}{pins:List (Addr × Obj)}{σ:St}{H:Hp}{s:Shared}{a:Addr}{kvs:List (Key × V)}(I:Inv X pins σ H s) (e:H a=some (.dK kvs)) :
  ∃ ep vs,KV kvs vs∧s.heap.DictAt (mixKind X.prog X.w) a vs ep∧(a == sysModules)=false∧Inv X pins σ (upd H a (FzD X.prog X.w a kvs ep)) s:=by
 obtain ⟨z,hd,vs,rel,dd⟩:=dk_of I.hok e
 obtain ⟨ep,da⟩:=dd.dictAt
 obtain ⟨o,es,ho,r⟩:=id da
 refine ⟨ep,vs,rel,da,hd,?_⟩
 exact d_write (t':=s.toks) I (by rw [e]; exact True.intro) ⟨rfl,fun _ _=>rfl⟩ ⟨o,ho⟩ ⟨⟨vs,rel,da,hd⟩,⟨o,ho⟩,fun h1 h2 ⟨us,r1,d1,l1⟩ k=>⟨us,r1,d1.at' k,l1⟩⟩
section
variable {X:Cx}{tg:Expr}
end
end L2
namespace L2
open PySem PySem.Spec PyProof.Rows
section
variable {X:Cx}
def rStarts:V→List V→Hp→VK→Prop:=fun x vs H Q=>∃ a b,x = .str a∧vs = [.str b]∧Q (.bl (Txt.startswith a b)) H
theorem mt_startswith:MtR X "str.startswith" rStarts:=by
 intro pins s σ H x vs v us Q I rx rv h
 obtain ⟨a,b,rfl,rfl,q⟩:=h
 obtain ⟨t,rfl⟩:=rx
 obtain ⟨u,rfl,ru⟩:=vals1 rv
 obtain ⟨t',rfl⟩:=ru
 exact SC.startswith ⟨.bl _,H,I,rfl,q⟩
end
theorem starts_iff (a b:Str) : Txt.startswith a b=true↔cds b <+: cds a:=by
 unfold Txt.startswith
 rw [Bool.and_eq_true,decide_eq_true_eq,StrLaws.subAt_eq,List.drop_zero,beq_iff_eq,Nat.zero_add]
 show b.length≤a.length∧(cds a).take b.length=cds b↔_
 rw [← cds_len b,List.prefix_iff_eq_take]
 constructor
 ·rintro ⟨_,h⟩
  exact h.symm
 ·intro h
  refine ⟨?_,h.symm⟩
  have:=congrArg List.length h
  rw [List.length_take,cds_len] at this
  rw [cds_len]
  rw [cds_len] at this
  omega
end L2
namespace L2
open PySem PySem.Spec PyProof.Rows
section
variable {X:Cx}
end
end L2
namespace L2
open PySem PySem.Spec PyProof.Rows
end L2
namespace L2
open PySem PySem.Spec PyProof.Rows
section
variable {X:Cx}
end
end L2
namespace L2
open PySem PySem.Spec PyProof.Rows
end L2
namespace L2
open PySem PySem.Spec PyProof.Rows
end L2
namespace L2
open PySem PySem.Spec PyProof.Rows PySem.W
end L2
namespace L2
open PySem PySem.Spec PyProof.Rows PySem.W
section
variable {prog:Program}{w:World}{A:Around}{E:Value→Shared→Prop}{s:Shared}
def offH (h:Heap)(a:Addr)(vs:List Value) : Heap:=((h.update a (Obj.mapSeq fun _ => #[])).push (seqObj "tuple" vs.toArray 0)).push (seqObj "list" #[] 0)
theorem offH_keep {h:Heap}{a:Addr}{vs:List Value}{b:Addr}{o:Obj}(nb:b ≠ a)(e:h.get? b=some o) : (offH h a vs).get? b=some o :=
 Heap.get?_push_of_some _ (Heap.get?_push_of_some _ (by rw [Heap.get?_update_ne _ _ _ _ nb]; exact e))
theorem offH_at {h:Heap}{a:Addr}{vs:List Value}{e1:Nat}(e:(h.update a (Obj.mapSeq fun _ => #[])).get? a=some (seqObj "list" #[] e1)) : (offH h a vs).get? a=some (seqObj "list" #[] e1) :=
 Heap.get?_push_of_some _ (Heap.get?_push_of_some _ e)
def inH (h:Heap)(vs:List Value) : Heap:=((h.push (seqObj "list" #[] 0)).update h.objs.size (Obj.mapSeq (· ++ vs.toArray))).push (seqObj "list" vs.toArray 0)
theorem inH_size (h:Heap)(vs:List Value) : ((h.push (seqObj "list" #[] 0)).update h.objs.size (Obj.mapSeq (· ++ vs.toArray))).objs.size=h.objs.size + 1 :=
 (Heap.size_update ..).trans (size_push' ..)
theorem inH_at (h:Heap)(vs:List Value) : (inH h vs).get? (h.objs.size + 1)=some (seqObj "list" vs.toArray 0) :=
 inH_size h vs ▸ Heap.get?_push_size _ rfl
theorem inH_keep {h:Heap}{vs:List Value}{b:Addr}{o:Obj}(e:h.get? b=some o) : (inH h vs).get? b=some o :=
 Heap.get?_push_of_some _ (by
  rw [Heap.get?_update_ne _ _ _ _ (Nat.ne_of_lt (Heap.lt_size e))]
  exact Heap.get?_push_of_some _ e)
def Pairs (h:Heap)(vs:List Value) : Prop:=∀ v∈vs,∃ a o n x y t u,v = .ref a∧h.get? a=some o∧o.cls = .type "tuple" ∧ o.data = .seq #[.str x t,.str y u] n
theorem Pairs.kat {h:Heap} : ∀ {vs:List Value},Pairs h vs→∃ fs,KatTups h vs fs∧fs.length=vs.length∧∀ v∈fs,∃ x t,v = .str x t
 | [],_=>⟨[],.nil,rfl,fun v hv=>by cases hv⟩
 | v :: vs,p=>by
  obtain ⟨a,o,n,x,y,t,u,rfl,ho,hc,hd⟩:=p v List.mem_cons_self
  obtain ⟨fs,k,l,f⟩:=Pairs.kat (vs:=vs) fun v hv=>p v (List.mem_cons_of_mem _ hv)
  refine ⟨.str x t :: fs,.cons ho hc hd rfl k,by rw [List.length_cons,List.length_cons,l],fun v hv=>?_⟩
  exact (List.mem_cons.mp hv).elim (fun e=>⟨x,t,e⟩) (f v)
end
section
variable {X:Cx}
end
end L2
namespace L2
open PySem
structure Lit (t:SetTable) : Prop where
 up:t.place.toList.Pairwise (· < ·)
 no:t.dummies = #[]
theorem rise_get {xs:Array Nat}(h:xs.toList.Pairwise (· < ·)){i j:Nat}(ij:i < j)(hj:j < xs.size)(d:Nat) : xs.getD i d < xs.getD j d:=by
 have hi:i < xs.size:=Nat.lt_trans ij hj
 have e1:xs.getD i d=xs[i]:=by simp [Array.getD,hi]
 have e2:xs.getD j d=xs[j]:=by simp [Array.getD,hj]
 rw [e1,e2]
 have:=List.pairwise_iff_getElem.mp h i j (by simpa using hi) (by simpa using hj) ij
 simpa using this
theorem below_go {xs:Array Nat}{j:Nat}(h:xs.toList.Pairwise (· < ·)) : ∀ (fuel lo hi:Nat),lo≤hi→hi≤xs.size→hi - lo≤fuel →
  (∀ i,i < lo→xs.getD i j < j)→(∀ i,hi≤i→i < xs.size→j≤xs.getD i j) →
  SetTable.below.go xs j fuel lo hi≤xs.size∧(∀ i,i < SetTable.below.go xs j fuel lo hi→xs.getD i j < j)∧(∀ i,SetTable.below.go xs j fuel lo hi≤i→i < xs.size→j≤xs.getD i j)
 | 0,lo,hi,l1,l2,l3,a,b=>by
  have e:lo=hi:=by omega
  subst e
  exact ⟨l2,a,b⟩
 | fuel + 1,lo,hi,l1,l2,l3,a,b=>by
  unfold SetTable.below.go
  split
  ·rename_i lt
   have m1:lo≤(lo + hi) / 2:=by omega
   have m2:(lo + hi) / 2 < hi:=by omega
   dsimp only
   split
   ·rename_i c
    refine below_go h fuel _ hi (by omega) l2 (by omega) (fun i hi'=>?_) b
    rcases Nat.lt_or_eq_of_le (Nat.le_of_lt_succ hi') with z | z
    ·exact Nat.lt_trans (rise_get h z (by omega) j) c
    ·rw [z]; exact c
   ·rename_i c
    refine below_go h fuel lo _ m1 (by omega) (by omega) a (fun i hi' hs=>?_)
    rcases Nat.lt_or_eq_of_le hi' with z | z
    ·exact Nat.le_trans (Nat.le_of_not_lt c) (Nat.le_of_lt (rise_get h z hs j))
    ·rw [← z]; exact Nat.le_of_not_lt c
  ·have e:lo=hi:=by omega
   subst e
   exact ⟨l2,a,b⟩
theorem below_at {xs:Array Nat}(h:xs.toList.Pairwise (· < ·))(j:Nat) : SetTable.below xs j≤xs.size∧(∀ i,i < SetTable.below xs j→xs.getD i j < j)∧(∀ i,SetTable.below xs j≤i→i < xs.size→j≤xs.getD i j) :=
 below_go h xs.size 0 xs.size (Nat.zero_le _) (Nat.le_refl _) (by omega) (fun i hi=>absurd hi (Nat.not_lt_zero _)) (fun i h1 h2=>absurd h2 (Nat.not_lt.mpr h1))
theorem has_none (j:Nat) : SetTable.has #[] j=false:=by
 unfold SetTable.has
 simp
theorem below_next {xs:Array Nat}(h:xs.toList.Pairwise (· < ·)){i:Nat}(hi:i < xs.size) : SetTable.below xs (xs.getD i 0 + 1)=i + 1:=by
 obtain ⟨a,b,c⟩:=below_at h (xs.getD i 0 + 1)
 have ge:∀ k d,k < xs.size→xs.getD k d=xs.getD k 0:=fun k d hk=>by simp [Array.getD,hk]
 rcases Nat.lt_trichotomy (SetTable.below xs (xs.getD i 0 + 1)) (i + 1) with z | z | z
 ·have:=c i (Nat.le_of_lt_succ z) hi
  rw [ge i (xs.getD i 0 + 1) hi] at this
  omega
 ·exact z
 ·have k:i + 1 < xs.size:=Nat.lt_of_lt_of_le z a
  have b1:=b (i + 1) z
  rw [ge (i + 1) (xs.getD i 0 + 1) k] at b1
  have b2:=rise_get h (show i < i + 1 from Nat.lt_succ_self i) k 0
  omega
theorem below_zero {xs:Array Nat}(h:xs.toList.Pairwise (· < ·)) : SetTable.below xs 0=0:=by
 obtain ⟨a,b,c⟩:=below_at h 0
 rcases Nat.eq_zero_or_pos (SetTable.below xs 0) with z | z
 ·exact z
 ·exact absurd (b 0 z) (Nat.not_lt_zero _)
theorem take_lt {xs:Array Nat}{p j:Nat}(hp:p≤xs.size)(h:∀ i,i < p→xs.getD i j < j) : ∀ x∈xs.toList.take p,x < j:=by
 intro x hx
 obtain ⟨i,hi,rfl⟩:=List.mem_iff_getElem.mp hx
 have l1:i < p:=by rw [List.length_take] at hi; omega
 have l2:i < xs.size:=by omega
 have:=h i l1
 simpa [Array.getD,l2] using this
theorem drop_ge {xs:Array Nat}{p j:Nat}(h:∀ i,p≤i→i < xs.size→j≤xs.getD i j) : ∀ x∈xs.toList.drop p,j≤x:=by
 intro x hx
 obtain ⟨i,hi,rfl⟩:=List.mem_iff_getElem.mp hx
 rw [List.length_drop,Array.length_toList] at hi
 have l2:p + i < xs.size:=by omega
 have:=h (p + i) (Nat.le_add_right _ _) l2
 simpa [Array.getD,l2] using this
theorem insert_up {xs:Array Nat}{j:Nat}(h:xs.toList.Pairwise (· < ·))(n:xs[SetTable.below xs j]? ≠ some j) : (SetTable.insertAt xs (SetTable.below xs j) j).toList.Pairwise (· < ·):=by
 obtain ⟨a,b,c⟩:=below_at h j
 generalize SetTable.below xs j=p at *
 rw [SetTable.toList_insertAt]
 have t1:=take_lt a b
 have t2:=drop_ge c
 have sp:xs.toList=xs.toList.take p ++ xs.toList.drop p:=(List.take_append_drop p xs.toList).symm
 have h':=h
 rw [sp,List.pairwise_append] at h'
 obtain ⟨w1,w2,w3⟩:=h'
 have gt:∀ x∈xs.toList.drop p,j < x:=by
  intro x hx
  rcases Nat.lt_or_eq_of_le (t2 x hx) with z | z
  ·exact z
  ·exfalso
   subst z
   obtain ⟨i,hi,e⟩:=List.mem_iff_getElem.mp hx
   cases i with
   | zero =>
    apply n
    rw [List.length_drop,Array.length_toList] at hi
    have:p < xs.size:=by omega
    rw [Array.getElem?_eq_getElem this]
    simpa using e
   | succ i =>
    have l0:0 < (xs.toList.drop p).length:=Nat.lt_of_le_of_lt (Nat.zero_le _) hi
    have lt:=List.pairwise_iff_getElem.mp w2 0 (i + 1) l0 hi (Nat.succ_pos _)
    rw [e] at lt
    exact absurd (t2 _ (List.getElem_mem l0)) (Nat.not_le.mpr lt)
 rw [List.pairwise_append,List.pairwise_cons]
 refine ⟨w1,⟨gt,w2⟩,fun x hx y hy=>?_⟩
 rcases List.mem_cons.mp hy with rfl | hy
 ·exact t1 x hx
 ·exact w3 x hx y hy
theorem Lit.slot {t:SetTable}(h:Lit t)(j:Nat) : t.slot j ≠ .dummy∧(t.slot j = .empty→t.place[SetTable.below t.place j]? ≠ some j):=by
 unfold SetTable.slot
 rw [h.no,has_none]
 dsimp only
 split
 ·exact ⟨fun z=>(by cases z),fun z=>(by cases z)⟩
 ·rename_i c
  refine ⟨fun z=>?_,fun _ e=>c (by rw [e]; exact beq_self_eq_true _)⟩
  rw [if_neg Bool.false_ne_true] at z
  cases z
theorem Lit.probe {t:SetTable}(L:Lit t)(h:Int) : ∀ (fuel:Nat) (p:SetTable.Probe),p.dummy=none→∀ m,SetTable.probe.go t (fun _=>h + 1) h fuel p=some m→∃ j,m = .empty j none∧t.slot j = .empty
 | 0,p,_,m,e=>by cases e
 | fuel + 1,p,d,m,e=>by
  unfold SetTable.probe.go at e
  have adv:(t.advance p).dummy=none:=by
   unfold SetTable.advance
   split
   ·exact d
   ·exact d
  split at e
  ·rename_i z
   obtain rfl:=Option.some.inj e
   exact ⟨p.j,by rw [d],z⟩
  ·rename_i z
   exact absurd z (L.slot _).1
  ·rename_i i z
   rw [if_neg (fun z=>absurd (eq_of_beq z) (by omega))] at e
   exact Lit.probe L h fuel _ adv m e
theorem Lit.free {t:SetTable}(L:Lit t){h:Int}{j:Nat}{b:Bool}(e:t.freeSlot h=some (j,b)) : t.place[SetTable.below t.place j]? ≠ some j:=by
 unfold SetTable.freeSlot at e
 split at e
 ·rename_i k d z
  obtain ⟨j',e1,e2⟩:=L.probe h _ _ rfl _ z
  cases e1
  cases e
  exact (L.slot _).2 e2
 ·cases e
theorem standIn_lit (t:SetTable)(n:Nat) : Lit (t.standIn n)∧(t.standIn n).led=t.led :=
 ⟨⟨by show (Array.range n).toList.Pairwise (· < ·); rw [Array.toList_range]; exact List.pairwise_lt_range,rfl⟩,rfl⟩
theorem orStandIn_lit {t:SetTable}(L:Lit t)(n:Nat) : Lit (t.orStandIn n)∧(t.orStandIn n).led=t.led:=by
 unfold SetTable.orStandIn
 split
 ·exact ⟨L,rfl⟩
 ·exact standIn_lit t n
theorem put_lit {t:SetTable}(L:Lit t){j:Nat}(n:t.place[SetTable.below t.place j]? ≠ some j) : Lit (t.put j).1∧(t.put j).1.led=t.led:=by
 refine ⟨⟨insert_up L.up n,?_⟩,rfl⟩
 show (if SetTable.has t.dummies j=true then _ else t.dummies)=_
 rw [L.no,has_none]
 rfl
theorem layNew_lit {t:SetTable}(L:Lit t)(es:Array (Int × Value))(h:Int)(x:Value) : Lit (layNew t es h x).2.1∧(layNew t es h x).2.1.led=t.led:=by
 unfold layNew
 split
 ·rename_i j b e
  obtain ⟨a,c⟩:=put_lit L (L.free e)
  obtain ⟨a2,c2⟩:=orStandIn_lit a (SetTable.insertAt es (t.put j).2 (h,x)).size
  exact ⟨a2,c2.trans c⟩
 ·exact standIn_lit t _
theorem live_up (f:Nat→Option Nat) : ∀ l:List Nat,l.Pairwise (· < ·)→((l.filterMap fun j=>(f j).map fun k=>(j,k)).map (·.1)).Pairwise (· < ·)
 | [],_=>List.Pairwise.nil
 | a :: l,h=>by
  obtain ⟨h1,h2⟩:=List.pairwise_cons.mp h
  have ih:=live_up f l h2
  rw [List.filterMap_cons]
  cases e:f a with
  | none=>exact ih
  | some k =>
   show (List.map _ ((a,k) :: _)).Pairwise _
   rw [List.map_cons,List.pairwise_cons]
   refine ⟨fun b hb=>?_,ih⟩
   obtain ⟨q,hq,rfl⟩:=List.mem_map.mp hb
   obtain ⟨c,hc,e2⟩:=List.mem_filterMap.mp hq
   obtain ⟨k2,_,rfl⟩:=Option.map_eq_some_iff.mp e2
   exact h1 _ hc
theorem relayAll_lit (t:SetTable)(es:Array (Int × Value))(n:Nat) : Lit (relayAll t es n).2.1∧(relayAll t es n).2.1.led=t.led:=by
 unfold relayAll
 split
 ·rename_i t' order e
  dsimp only
  split
  ·unfold SetTable.relaid SetTable.laid at e
   obtain ⟨owner,_,e⟩:=Option.bind_eq_some_iff.mp e
   cases e
   refine ⟨⟨?_,rfl⟩,rfl⟩
   exact live_up (fun j=>owner.getD j none) _ List.pairwise_lt_range
  ·exact standIn_lit t _
 ·exact standIn_lit t _
theorem fresh_lit (f m:Nat)(led:Bool) : Lit (SetTable.fresh f m led):=⟨List.Pairwise.nil,rfl⟩
theorem plain_lit {t:SetTable}(L:Lit t)(b:Bool) : Lit { t with plain:=b }:=⟨L.up,L.no⟩
end L2
namespace L2
open PySem PySem.Spec PyProof.Rows
inductive EK (P:Program) (w:World) : List (Int × Value)→List Key→Prop
 | nil:EK P w [] []
 | cons {x:Value}{k:Key}{es:List (Int × Value)}{ks:List Key} : (mixKind P w).is k x=true→x.scannable=true→EK P w es ks→EK P w (((mixKind P w).hash k,x) :: es) (k :: ks)
section
variable {P:Program}{w:World}
theorem EK.length {es:List (Int × Value)}{ks:List Key}(h:EK P w es ks) : es.length=ks.length:=by
 induction h with
 | nil=>rfl
 | cons _ _ _ ih=>rw [List.length_cons,List.length_cons,ih]
theorem EK.elems {es:List (Int × Value)}{ks:List Key}(h:EK P w es ks) : ElemsOf (mixKind P w) es:=by
 induction h with
 | nil=>exact fun e he=>(by cases he)
 | cons h1 h2 _ ih =>
  intro e he
  rcases List.mem_cons.mp he with rfl | he
  ·exact ⟨⟨_,h1,rfl⟩,h2⟩
  ·exact ih e he
theorem EK.mem {es:List (Int × Value)}{ks:List Key}(h:EK P w es ks)(k:Key) : k∈ks↔∃ e∈es,(mixKind P w).is k e.2=true:=by
 induction h with
 | nil=>exact ⟨fun z=>(by cases z),fun ⟨e,z,_⟩=>(by cases z)⟩
 | @cons x k' es ks h1 _ _ ih =>
  rw [List.mem_cons,ih]
  constructor
  ·rintro (rfl | ⟨e,he,q⟩)
   ·exact ⟨_,List.mem_cons_self,h1⟩
   ·exact ⟨e,List.mem_cons_of_mem _ he,q⟩
  ·rintro ⟨e,he,q⟩
   rcases List.mem_cons.mp he with rfl | he
   ·exact .inl ((mixKind P w).inj x k k' q h1)
   ·exact .inr ⟨e,he,q⟩
theorem EK.perm {es es':List (Int × Value)}(p:es'.Perm es) : ∀ {ks:List Key},EK P w es ks→∃ ks',ks'.Perm ks∧EK P w es' ks':=by
 induction p with
 | nil=>exact fun h=>⟨_,.refl _,h⟩
 | cons u _ ih =>
  intro ks h
  cases h with
  | cons h1 h2 h =>
   obtain ⟨ks',p',h'⟩:=ih h
   exact ⟨_ :: ks',p'.cons _,.cons h1 h2 h'⟩
 | swap u v l =>
  intro ks h
  cases h with
  | cons h1 h2 h =>
   cases h with
   | cons h3 h4 h=>exact ⟨_,.swap _ _ _,.cons h3 h4 (.cons h1 h2 h)⟩
 | trans _ _ ih1 ih2 =>
  intro ks h
  obtain ⟨k1,p1,h1⟩:=ih2 h
  obtain ⟨k2,p2,h2⟩:=ih1 h1
  exact ⟨k2,p2.trans p1,h2⟩
theorem EK.snoc {es:List (Int × Value)}{ks:List Key}{x:Value}{k:Key}(h:EK P w es ks)(h1:(mixKind P w).is k x=true)(h2:x.scannable=true) : EK P w (es ++ [((mixKind P w).hash k,x)]) (ks ++ [k]):=by
 induction h with
 | nil=>exact .cons h1 h2 .nil
 | cons a b _ ih=>exact .cons a b ih
abbrev byT (w:World) : Bool:=w.params.followText "set-order"
def SetX (P:Program)(w:World)(h:Heap)(a:Addr)(ds:List Key) : Prop :=
 ∃ o es ep t ks,h.get? a=some o∧o.ExactSet∧o.data = .set es ep t∧EK P w es.toList ks∧ks.Perm ds∧es.size < scanBound∧t.fits es.size=true∧Lit t∧t.led = !byT w
theorem SetX.moved {h h':Heap}{a:Addr}{ds:List Key}(x:SetX P w h a ds)(k:∀ o,h.get? a=some o→h'.get? a=some o) : SetX P w h' a ds:=by
 obtain ⟨o,es,ep,t,ks,ho,rest⟩:=x
 exact ⟨o,es,ep,t,ks,k o ho,rest⟩
def SetY (P:Program)(w:World)(h:Heap)(a:Addr)(ds:List Key) : Prop :=
 ∃ o es ep t ks,h.get? a=some o∧o.ExactSet∧o.data = .set es ep t∧EK P w es.toList ks∧ks.Perm ds∧es.size < scanBound∧t.fits es.size=true∧t.place.toList.Pairwise (· < ·)∧t.led = !byT w
theorem SetX.y {h:Heap}{a:Addr}{ds:List Key}(x:SetX P w h a ds) : SetY P w h a ds:=by
 obtain ⟨o,es,ep,t,ks,h1,h2,h3,h4,h5,h6,h7,L,h8⟩:=x
 exact ⟨o,es,ep,t,ks,h1,h2,h3,h4,h5,h6,h7,L.up,h8⟩
theorem SetY.moved {h h':Heap}{a:Addr}{ds:List Key}(x:SetY P w h a ds)(k:∀ o,h.get? a=some o→h'.get? a=some o) : SetY P w h' a ds:=by
 obtain ⟨o,es,ep,t,ks,ho,rest⟩:=x
 exact ⟨o,es,ep,t,ks,k o ho,rest⟩
variable {A:Around}{E:Value→Shared→Prop}{s:Shared}
theorem put_x {a:Addr}{o:Obj}{es es':Array (Int × Value)}{ep:Nat}{t t':SetTable}{Q:Unit→Shared→Prop}(ho:s.heap.get? a=some o) (hd:o.data = .set es ep t) (hb:es'.size < scanBound)
  (h:∀ h',Heap.SameBut a s.heap h'→h'.get? a=some { o with data:=.set es' (ep + 1) t' }→Q () { s with heap:=h' }) : wpAny (model P w) A (storeSet a es' t') Q E s:=by
 have e:=putSet_of es' t' hd
 refine wpAny_storeSet_of ho hd (h _ (Heap.SameBut.update s.heap a _) ?_) (fits_of_scanBound hb)
 rw [Heap.get?_update_self (Obj.putSet es' t') ho (by rw [e]; rfl),e]
theorem add_x {a:Addr}{ds:List Key}{k:Key}{x:Value}{Q:Bool→Shared→Prop}(hk:(mixKind P w).is k x=true) (hx:x.scannable=true) (S:SetX P w s.heap a ds) (hr:ds.length + 1 < scanBound)
  (h:∀ b h',Heap.SameBut a s.heap h'→SetX P w h' a (addK ds k)→Q b { s with heap:=h' }) : wpAny (model P w) A (setAddHashed a x ((mixKind P w).hash k)) Q E s:=by
 obtain ⟨o,es,ep,t,ks,ho,hex,hd,ek,pm,hb,hf,L,led⟩:=S
 have hel:=ek.elems
 have sz:es.size=ds.length:=by rw [← Array.length_toList,ek.length,pm.length_eq]
 have gw:∀ (b:Bool) (s1:Shared) (Q':Unit→Shared→Prop),Q' () s1 →
   wpAny (model P w) A (match b with
    | true=>rule "set.scan.the-table-gave-way"
    | false=>pure ()) Q' E s1:=fun b s1 Q' q=>by
  cases b
  ·exact wpAny_pure q
  ·exact wpAny_rule q
 unfold setAddHashed setAddHashedIn
 refine wpAny_holding (wpAny_bind (wpAny_setState_of ho hd hf ?_))
 dsimp only
 rw [byScan_of hx hb hel,if_pos rfl]
 unfold setAddByScan
 refine wpAny_bind (wpAny_bind (wpAny_rule (wpAny_bind (wpAny_setScan_of hk ho hd hf hel ?_))))
 cases hr2:es.toList.findIdx? fun e=>(mixKind P w).is k e.2 with
 | some j =>
  have km:k∈ds:=by
   obtain ⟨hj,pj,_⟩:=List.findIdx?_eq_some_iff_getElem.mp hr2
   exact pm.mem_iff.mp ((ek.mem k).mpr ⟨_,List.getElem_mem hj,pj⟩)
  have ea:addK ds k=ds:=by unfold addK; rw [if_pos (memK_iff.mpr km)]
  refine wpAny_pure (wpAny_pure ?_)
  exact h false s.heap (Heap.SameBut.refl a s.heap) (by rw [ea]; exact ⟨o,es,ep,t,ks,ho,hex,hd,ek,pm,hb,hf,L,led⟩)
 | none =>
  have km:k ∉ ds:=fun z=>by
   obtain ⟨e,he,q⟩:=(ek.mem k).mp (pm.mem_iff.mpr z)
   have:=List.findIdx?_eq_none_iff.mp hr2 e he
   rw [q] at this
   cases this
  have ea:addK ds k=ds ++ [k]:=by unfold addK; rw [if_neg (fun z=>km (memK_iff.mp z))]
  obtain ⟨L1,led1⟩:=layNew_lit L es ((mixKind P w).hash k) x
  have p1:=layNew_perm t es ((mixKind P w).hash k) x
  have f1:=layNew_fits t es ((mixKind P w).hash k) x
  dsimp only
  generalize layNew t es ((mixKind P w).hash k) x=Z at L1 led1 p1 f1 ⊢
  obtain ⟨es1,t1,wd,gv⟩:=Z
  dsimp only at L1 led1 p1 f1 ⊢
  rw [Array.toList_push] at p1
  obtain ⟨ks1,q1,ek1⟩:=(ek.snoc hk hx).perm p1
  have c1:ks1.Perm (addK ds k):=by rw [ea]; exact q1.trans (pm.append_right [k])
  have s1:es1.size=ds.length + 1:=by rw [← Array.length_toList,ek1.length,c1.length_eq,ea,List.length_append]; rfl
  have b1:es1.size < scanBound:=by omega
  have led2:=led1.trans led
  refine wpAny_bind (gw gv _ _ ?_)
  have fin:∀ t2:SetTable,Lit t2→t2.led=(!byT w)→t2.fits es1.size=true→wpAny (model P w) A (do
    storeSet a es1 t2
    if (!wd && t2.tooFull)=true then
     let (es3,t3,gave):=relayAll t2 es1 (SetTable.grown es1.size)
     (match gave with | true=>rule "set.scan.the-table-gave-way" | false=>pure () : Sem Unit)
     storeSet a es3 t3
    return some true) (fun r s'=>wpAny (model P w) A (match r with | some added=>pure added | none=>setAddHashedIn a x ((mixKind P w).hash k) 99999) Q E s') E s:=by
   intro t2 L2 led2 f2
   refine wpAny_bind (put_x ho hd b1 fun h1 sb1 e1=>?_)
   split
   ·obtain ⟨L3,led3⟩:=relayAll_lit t2 es1 (SetTable.grown es1.size)
    have p3:=relayAll_perm t2 es1 (SetTable.grown es1.size)
    have f3:=relayAll_fits t2 es1 (SetTable.grown es1.size)
    generalize relayAll t2 es1 (SetTable.grown es1.size)=Z at L3 led3 p3 f3 ⊢
    obtain ⟨es3,t3,g3⟩:=Z
    dsimp only at L3 led3 p3 f3 ⊢
    obtain ⟨ks3,q3,ek3⟩:=ek1.perm p3
    have b3:es3.size < scanBound:=by rw [← Array.length_toList,p3.length_eq,Array.length_toList]; exact b1
    refine wpAny_bind (gw g3 _ _ (wpAny_bind (put_x (s:={ s with heap:=h1 }) e1 rfl b3 fun h3 sb3 e3=>?_)))
    exact wpAny_pure (wpAny_pure (h true h3 (sb1.trans sb3) ⟨_,es3,_,t3,ks3,e3,hex,rfl,ek3,q3.trans c1,b3,f3,L3,led3.trans led2⟩))
   ·exact wpAny_pure (wpAny_pure (h true h1 sb1 ⟨_,es1,_,t2,ks1,e1,hex,rfl,ek1,c1,b1,f2,L2,led2⟩))
  split
  ·rw [hashByValue_scannable 8 hx]
   refine wpAny_bind (wpAny_pure ?_)
   split
   ·exact fin t1 L1 led2 f1
   ·exact fin _ (plain_lit L1 false) led2 (SetTable.fits_plain_off f1)
  ·refine wpAny_bind (wpAny_pure ?_)
   rw [if_pos rfl]
   exact fin t1 L1 led2 f1
end
end L2
namespace L2
open PySem PySem.Spec PyProof.Rows
theorem slot_si_next:Slot "set_iterator" "__next__" "set_iterator.__next__" := .of (owner := "set_iterator") (n := "__next__") (by rw [typeLookup_type,builtinLookup_eq_fast]; kernel_rfl) (by decide +kernel) (by decide +kernel) (by decide +kernel) (by first | exact .inl (by decide +kernel) | exact .inr (by decide +kernel)) (by rw [isSubtype_type]; kernel_rfl)
theorem slot_si_iter:Slot "set_iterator" "__iter__" "set_iterator.__iter__" := .of (owner := "set_iterator") (n := "__iter__") (by rw [typeLookup_type,builtinLookup_eq_fast]; kernel_rfl) (by decide +kernel) (by decide +kernel) (by decide +kernel) (by first | exact .inl (by decide +kernel) | exact .inr (by decide +kernel)) (by rw [isSubtype_type]; kernel_rfl)
theorem entry_si_next:entryFor table "set_iterator.__next__" = some Builtin.«set_iterator.__next__» := entryFor_of_tree (by kernel_rfl)
theorem entry_si_iter:entryFor table "set_iterator.__iter__" = some Builtin.«dict_keyiterator.__iter__» := entryFor_alias (id' := "dict_keyiterator.__iter__") (by kernel_rfl) rfl (by decide +kernel) (by kernel_rfl)
theorem owner_si:Manifest.owners.lookup (String.ofList ['r','o','t','a','r','e','t','i','_','t','e','s'].reverse)=some Manifest.sig_set_iterator:=by kernel_rfl
theorem args_si_next (a:Value) : argsOk "set_iterator.__next__" ⟨[a],[]⟩:=by unfold argsOk; rw [signature?_of (id := "set_iterator.__next__") (n:=['_','_','t','x','e','n','_','_']) (o:=['r','o','t','a','r','e','t','i','_','t','e','s']) (by kernel_rfl) owner_si]; kernel_rfl
theorem args_si_iter (a:Value) : argsOk "set_iterator.__iter__" ⟨[a],[]⟩:=by unfold argsOk; rw [signature?_of (id := "set_iterator.__iter__") (n:=['_','_','r','e','t','i','_','_']) (o:=['r','o','t','a','r','e','t','i','_','t','e','s']) (by kernel_rfl) owner_si]; kernel_rfl
theorem entry_set_it:entryFor table "set.__iter__" = some Builtin.«frozenset.__iter__» := entryFor_alias (id' := "frozenset.__iter__") (by kernel_rfl) rfl (by decide +kernel) (by kernel_rfl)
def SIt (h:Heap)(it S:Addr)(f:Value)(i n ep:Nat) : Prop:=∃ o,h.get? it=some o∧o.cls = .type "set_iterator" ∧ o.data = .fields #[f,.int i 0,.ref S,.int n 0,.int ep 0]
def SAt (h:Heap)(S:Addr)(es:Array (Int × Value))(ep:Nat)(t:SetTable) : Prop:=∃ o,h.get? S=some o∧o.ExactSet∧o.data = .set es ep t∧t.fits es.size=true
theorem SIt.at {h h':Heap}{it S:Addr}{f:Value}{i n ep:Nat}(x:SIt h it S f i n ep)(k:∀ o,h.get? it=some o→h'.get? it=some o) : SIt h' it S f i n ep:=let ⟨o,e,r⟩:=x; ⟨o,k o e,r⟩
theorem SAt.at {h h':Heap}{S:Addr}{es:Array (Int × Value)}{ep:Nat}{t:SetTable}(x:SAt h S es ep t)(k:∀ o,h.get? S=some o→h'.get? S=some o) : SAt h' S es ep t:=let ⟨o,e,r⟩:=x; ⟨o,k o e,r⟩
theorem SIt.ty {s:Shared}{it S:Addr}{f:Value}{i n ep:Nat}(x:SIt s.heap it S f i n ep) : s.TypeIs (.ref it) "set_iterator" := let ⟨o,e,c,_⟩:=x; ⟨o,e,c⟩
section
variable {P:Program}{w:World}{A:Around}{E:Value→Shared→Prop}{s:Shared}
theorem si_self {it S:Addr}{f:Value}{i n ep:Nat}{Q:Value→Shared→Prop}(x:SIt s.heap it S f i n ep)(h:Q (.ref it) s) : wpAny (model P w) A (pyIter (.ref it)) Q E s:=by
 refine wpAny_pyIter_slot x.ty slot_si_iter (wpAny_call_entry slot_si_iter x.ty entry_si_iter ?_ (args_si_iter _))
 show wpAny _ _ (ret (.ref it)) _ _ s
 exact wpAny_pure ⟨_,rfl, "set_iterator", _,x.ty,slot_si_next.lookup,h⟩
theorem SIt.set {h:Heap}{it:Addr}{o:Obj}{vs:Array Value}{j:Nat}{v:Value}(ho:h.get? it=some o) (hc:o.cls = .type "set_iterator") (hd:o.data = .fields vs) :
  ∃ o',(h.update it (Obj.mapFields (·.setIfInBounds j v))).get? it=some o'∧o'.cls = .type "set_iterator" ∧ o'.data = .fields (vs.setIfInBounds j v) :=
 ⟨_,Heap.get?_update_self _ ho (Obj.isFreed_of_fields (Obj.data_mapFields hd _)),(Obj.cls_mapFields ..).trans hc,Obj.data_mapFields hd _⟩
theorem si_slot {it S:Addr}{a b i n ep:Nat}{es:Array (Int × Value)}{t:SetTable}{v:Value}{Q:Option Value→Shared→Prop}(x:SIt s.heap it S (.int a 0) i n ep) (y:SAt s.heap S es ep t) (hn:es.size=n)
  (st:∀ (A:Around) (E:Value→Shared→Prop) (Q:Option (Value × Nat)→Shared→Prop),Q (some (v,b)) s→wpAny (model P w) A (setNext S a i ep) Q E s)
  (h:∀ h',Heap.SameBut it s.heap h'→SIt h' it S (.int b 0) (i + 1) n ep→Q (some v) { s with heap:=h' }) : wpAny (model P w) A (pyNext (.ref it)) Q E s:=by
 obtain ⟨o,ho,hc,hd⟩:=id x
 obtain ⟨oS,hoS,_,hdS,hfS⟩:=id y
 unfold pyNext
 refine wpAny_bind (wpAny_attempt (wpAny_callSpecial?_slot (name:=Str.ofString "__next__") x.ty slot_si_next (wpAny_call_entry slot_si_next x.ty entry_si_next ?_ (args_si_next _))))
 unfold Builtin.«set_iterator.__next__»
 refine wpAny_bind (m:=slotArgs "__next__" 0 _) (wpAny_pure (wpAny_bind (wpAny_fieldsOf ho hd ?_)))
 dsimp only
 refine wpAny_bind (wpAny_setEntries_of hoS hdS hfS ?_)
 rw [if_neg (by rw [hn]; simp)]
 dsimp only [Int.toNat_natCast]
 refine wpAny_bind (st _ _ _ ?_)
 dsimp only
 obtain ⟨o1,e1,c1,d1⟩:=SIt.set (j:=0) (v:=rawInt b) ho hc hd
 refine wpAny_bind (wpAny_setField ho hd (by simp) (wpAny_bind (wpAny_setField e1 d1 (by simp) ?_)))
 obtain ⟨o2,e2,c2,d2⟩:=SIt.set (j:=1) (v:=rawInt ((i:Int) + 1)) e1 c1 d1
 exact wpAny_pure ⟨_,rfl,wpAny_pure (h _ ((Heap.SameBut.update ..).trans (Heap.SameBut.update ..)) ⟨o2,e2,c2,by rw [d2]; simp [rawInt]⟩)⟩
theorem si_end {it S:Addr}{a i n ep:Nat}{es:Array (Int × Value)}{t:SetTable}{Q:Option Value→Shared→Prop}(hh:A.handled=none) (x:SIt s.heap it S (.int a 0) i n ep) (y:SAt s.heap S es ep t) (hn:es.size=n)
  (st:∀ (A:Around) (E:Value→Shared→Prop) (Q:Option (Value × Nat)→Shared→Prop),Q none s→wpAny (model P w) A (setNext S a i ep) Q E s)
  (h:∀ h',Heap.ExtBut it s.heap h'→Q none { s with heap:=h' }) : wpAny (model P w) A (pyNext (.ref it)) Q E s:=by
 obtain ⟨o,ho,hc,hd⟩:=id x
 obtain ⟨oS,hoS,_,hdS,hfS⟩:=id y
 unfold pyNext
 refine wpAny_bind (wpAny_attempt (wpAny_callSpecial?_slot (name:=Str.ofString "__next__") x.ty slot_si_next (wpAny_call_entry slot_si_next x.ty entry_si_next ?_ (args_si_next _))))
 unfold Builtin.«set_iterator.__next__»
 refine wpAny_bind (m:=slotArgs "__next__" 0 _) (wpAny_pure (wpAny_bind (wpAny_fieldsOf ho hd ?_)))
 dsimp only
 refine wpAny_bind (wpAny_setEntries_of hoS hdS hfS ?_)
 rw [if_neg (by rw [hn]; simp)]
 dsimp only [Int.toNat_natCast]
 refine wpAny_bind (st _ _ _ ?_)
 dsimp only
 refine wpAny_bind (wpAny_setField ho hd (by simp) ?_)
 refine wpAny_bind ?_
 simp only [newExc,newTuple]
 refine wpAny_bind (wpAny_newObj_type ?_ (by size_fits))
 refine wpAny_bind (m:=firstArgMember _ _) (wpAny_of_eq (a:=Value.none) (by first | rfl | (simp only [firstArgMember]; rfl)) (wpAny_newObj_type ?_ (by size_fits)))
 simp only [raiseNew]
 refine wpAny_bind (wpAny_handled ?_)
 rw [show A.in1.handled=none from hh]
 refine wpAny_bind (m:=pure _) (wpAny_pure (wpAny_throw ?_))
 refine wpAny_bind (m:=isInstance _ _) (wpAny_isInstance (T := "StopIteration") (b:=true) ⟨_,Heap.get?_push_size _ rfl,rfl⟩ isSubtype_stop ?_)
 exact wpAny_pure (h _ (((Heap.SameBut.update ..).extBut.push _).push _))
def PAt (h:Heap)(tp:Addr)(ps:List Nat) : Prop:=∃ o k,h.get? tp=some o∧o.data = .seq (ps.map fun (i:Nat)=>rawInt i).toArray k
theorem PAt.at {h h':Heap}{tp:Addr}{ps:List Nat}(x:PAt h tp ps)(k:∀ o,h.get? tp=some o→h'.get? tp=some o) : PAt h' tp ps:=let ⟨o,n,e,r⟩:=x; ⟨o,n,k o e,r⟩
theorem si_drawn {it S tp:Addr}{i n ep p:Nat}{ps:List Nat}{es:Array (Int × Value)}{t:SetTable}{e:Int × Value}{Q:Option Value→Shared→Prop}(x:SIt s.heap it S (.ref tp) i n ep) (y:SAt s.heap S es ep t) (z:PAt s.heap tp ps) (hn:es.size=n)
  (hp:ps[i]? = some p) (he:es[p]? = some e)
  (h:∀ h',Heap.SameBut it s.heap h'→SIt h' it S (.ref tp) (i + 1) n ep→Q (some e.2) { s with heap:=h' }) : wpAny (model P w) A (pyNext (.ref it)) Q E s:=by
 obtain ⟨o,ho,hc,hd⟩:=id x
 obtain ⟨oS,hoS,_,hdS,hfS⟩:=id y
 obtain ⟨oT,kT,hoT,hdT⟩:=z
 unfold pyNext
 refine wpAny_bind (wpAny_attempt (wpAny_callSpecial?_slot (name:=Str.ofString "__next__") x.ty slot_si_next (wpAny_call_entry slot_si_next x.ty entry_si_next ?_ (args_si_next _))))
 unfold Builtin.«set_iterator.__next__»
 refine wpAny_bind (m:=slotArgs "__next__" 0 _) (wpAny_pure (wpAny_bind (wpAny_fieldsOf ho hd ?_)))
 dsimp only
 refine wpAny_bind (wpAny_setEntries_of hoS hdS hfS ?_)
 rw [if_neg (by rw [hn]; simp)]
 dsimp only [Int.toNat_natCast]
 refine wpAny_bind (wpAny_seqItems hoT hdT ?_)
 have e0:((ps.map fun (i:Nat)=>rawInt i).toArray)[i]? = some (rawInt p):=by simp [hp]
 dsimp only
 rw [e0]
 dsimp only [rawInt]
 have nd:∀ (A:Around) (E:Value→Shared→Prop) (Q:Value→Shared→Prop),Q e.2 s→wpAny (model P w) A (setNextDrawn S p ep) Q E s:=fun A E Q q=>by
  unfold setNextDrawn
  refine wpAny_bind (wpAny_setState_of hoS hdS hfS ?_)
  dsimp only
  rw [if_neg (by simp),he]
  exact wpAny_pure q
 refine wpAny_bind (nd _ _ _ (wpAny_bind (wpAny_setField ho hd (by simp) ?_)))
 obtain ⟨o2,e2,c2,d2⟩:=SIt.set (j:=1) (v:=rawInt ((i:Int) + 1)) ho hc hd
 exact wpAny_pure ⟨_,rfl,wpAny_pure (h _ (Heap.SameBut.update ..) ⟨o2,e2,c2,by rw [d2]; simp [rawInt]⟩)⟩
theorem si_drawn_end {it S tp:Addr}{i n ep:Nat}{ps:List Nat}{es:Array (Int × Value)}{t:SetTable}{Q:Option Value→Shared→Prop}(hh:A.handled=none) (x:SIt s.heap it S (.ref tp) i n ep) (y:SAt s.heap S es ep t) (z:PAt s.heap tp ps) (hn:es.size=n)
  (hp:ps.length≤i) (h:∀ h',Heap.ExtBut it s.heap h'→Q none { s with heap:=h' }) : wpAny (model P w) A (pyNext (.ref it)) Q E s:=by
 obtain ⟨o,ho,hc,hd⟩:=id x
 obtain ⟨oS,hoS,_,hdS,hfS⟩:=id y
 obtain ⟨oT,kT,hoT,hdT⟩:=z
 unfold pyNext
 refine wpAny_bind (wpAny_attempt (wpAny_callSpecial?_slot (name:=Str.ofString "__next__") x.ty slot_si_next (wpAny_call_entry slot_si_next x.ty entry_si_next ?_ (args_si_next _))))
 unfold Builtin.«set_iterator.__next__»
 refine wpAny_bind (m:=slotArgs "__next__" 0 _) (wpAny_pure (wpAny_bind (wpAny_fieldsOf ho hd ?_)))
 dsimp only
 refine wpAny_bind (wpAny_setEntries_of hoS hdS hfS ?_)
 rw [if_neg (by rw [hn]; simp)]
 dsimp only [Int.toNat_natCast]
 refine wpAny_bind (wpAny_seqItems hoT hdT ?_)
 have e0:((ps.map fun (i:Nat)=>rawInt i).toArray)[i]? = none:=by simp [hp]
 dsimp only
 rw [e0]
 dsimp only
 obtain ⟨o2,e2,c2,d2⟩:=SIt.set (j:=0) (v:=rawInt 0) ho hc hd
 refine wpAny_bind (wpAny_setField ho hd (by simp) (wpAny_bind (wpAny_setField e2 d2 (by simp) ?_)))
 refine wpAny_bind ?_
 simp only [newExc,newTuple]
 refine wpAny_bind (wpAny_newObj_type ?_ (by size_fits))
 refine wpAny_bind (m:=firstArgMember _ _) (wpAny_of_eq (a:=Value.none) (by first | rfl | (simp only [firstArgMember]; rfl)) (wpAny_newObj_type ?_ (by size_fits)))
 simp only [raiseNew]
 refine wpAny_bind (wpAny_handled ?_)
 rw [show A.in1.handled=none from hh]
 refine wpAny_bind (m:=pure _) (wpAny_pure (wpAny_throw ?_))
 refine wpAny_bind (m:=isInstance _ _) (wpAny_isInstance (T := "StopIteration") (b:=true) ⟨_,Heap.get?_push_size _ rfl,rfl⟩ isSubtype_stop ?_)
 exact wpAny_pure (h _ ((((Heap.SameBut.update ..).trans (Heap.SameBut.update ..)).extBut.push _).push _))
end
end L2
namespace L2
open PySem PySem.Spec PyProof.Rows
theorem take_out {α:Type} : ∀ {l:List α}{i:Nat}(h:i < l.length),(l[i] :: l.eraseIdx i).Perm l
 | _ :: _,0,_=>.refl _
 | x :: l,i + 1,h=>(List.Perm.swap x (l[i]'(Nat.lt_of_succ_lt_succ h)) (l.eraseIdx i)).trans ((take_out (Nat.lt_of_succ_lt_succ h)).cons x)
theorem pick_go {α:Type}(next:Nat→Nat) : ∀ (fuel k:Nat) (left:List α) (out:Array α),left.length=fuel→(pickOrder.go next fuel k left out).toList.Perm (out.toList ++ left)
 | 0,_,left,out,hl=>by
  obtain rfl:=List.length_eq_zero_iff.mp hl
  rw [List.append_nil]
  exact .refl _
 | fuel + 1,k,left,out,hl=>by
  have lt:next k % left.length < left.length:=Nat.mod_lt _ (by omega)
  unfold pickOrder.go
  rw [List.getElem?_eq_getElem lt]
  dsimp only
  have ih:=pick_go next fuel (k + 1) (left.eraseIdx (next k % left.length)) (out.push left[next k % left.length]) (by rw [List.length_eraseIdx_of_lt lt,hl]; rfl)
  refine ih.trans ?_
  rw [Array.toList_push,List.append_assoc]
  exact List.Perm.append_left _ (take_out lt)
theorem pick_perm {α:Type}(next:Nat→Nat)(xs:Array α) : (pickOrder next xs).toList.Perm xs.toList:=by
 have:=pick_go next xs.size 0 xs.toList #[] (by simp)
 simpa [pickOrder] using this
section
variable {P:Program}{w:World}{A:Around}{E:Value→Shared→Prop}{s:Shared}
theorem ite_no {α:Type}{c:Prop} [Decidable c]{m1 m2:Sem α}{Q:α→Shared→Prop}(h:¬ c)(q:wpAny (model P w) A m2 Q E s) : wpAny (model P w) A (if c then m1 else m2) Q E s:=by
 rw [if_neg h]
 exact q
theorem choose_any {n:Nat}{src:Source}{Q:Nat→Shared→Prop}(hn:n ≠ 0)(h:∀ i d,i < n→Q i { s with drawn:=d }) : wpAny (model P w) A (choose src n) Q E s:=fun _ _ _=>⟨hn,h _ _ (Nat.mod_lt _ (Nat.pos_of_ne_zero hn))⟩
theorem draw_perm {α:Type} : ∀ (n:Nat) (xs:List α) (s:Shared) (Q:List α→Shared→Prop),xs.length=n→(∀ ys d,ys.Perm xs→Q ys { s with drawn:=d })→wpAny (model P w) A (drawOrder n xs) Q E s
 | 0,xs,s,Q,hl,h=>by
  obtain rfl:=List.length_eq_zero_iff.mp hl
  exact wpAny_pure (h [] s.drawn (.refl _))
 | n + 1,[],s,Q,hl,h=>by cases hl
 | n + 1,x :: xs,s,Q,hl,h=>by
  unfold drawOrder
  refine wpAny_bind (choose_any (by simp) fun i d lt=>?_)
  rw [List.getElem?_eq_getElem lt]
  dsimp only
  refine wpAny_bind (draw_perm n _ _ _ (by rw [List.length_eraseIdx_of_lt lt,hl]; rfl) fun ys d' p=>?_)
  exact wpAny_pure (h _ d' ((p.cons _).trans (take_out lt)))
theorem by_text {Q:Bool→Shared→Prop}(h:Q (byT w) s) : wpAny (model P w) A setsByText Q E s:=by
 unfold setsByText
 exact wpAny_bind (wpAny_askSetting (wpAny_pure h))
theorem next_text {S:Addr}{es:Array (Int × Value)}{ep i a:Nat}{t:SetTable}{Q:Option (Value × Nat)→Shared→Prop}(ht:byT w=true) (y:SAt s.heap S es ep t)
  (q:Q ((pickOrder (w.params.setOrder S ep) es)[i]?.map fun e=>(e.2,a)) s) : wpAny (model P w) A (setNext S a i ep) Q E s:=by
 obtain ⟨o,ho,_,hd,hf⟩:=y
 unfold setNext
 refine wpAny_bind (wpAny_setState_of ho hd hf (wpAny_bind (by_text ?_)))
 rw [ht]
 dsimp only
 rw [if_pos rfl,if_neg (by simp)]
 refine wpAny_bind ?_
 unfold setWalk
 refine wpAny_bind (wpAny_setState_of ho hd hf (wpAny_bind (by_text ?_)))
 rw [ht,if_pos rfl]
 exact wpAny_bind (wpAny_askSetting (wpAny_pure (wpAny_pure q)))
theorem next_place {S:Addr}{es:Array (Int × Value)}{ep i a:Nat}{t:SetTable}{Q:Option (Value × Nat)→Shared→Prop}(ht:byT w=false) (y:SAt s.heap S es ep t) (np:(!t.plain && decide (es.size > 1))=false) (led:t.led=true)
  (q:Q (match es[SetTable.below t.place a]?,t.place[SetTable.below t.place a]? with | some (_,x),some j=>some (x,j + 1) | _,_=>none) s) : wpAny (model P w) A (setNext S a i ep) Q E s:=by
 obtain ⟨o,ho,_,hd,hf⟩:=y
 unfold setNext
 refine wpAny_bind (wpAny_setState_of ho hd hf (wpAny_bind (by_text ?_)))
 rw [ht]
 dsimp only
 rw [if_neg (by simp)]
 refine ite_no (fun z=>absurd (show (!t.plain && decide (es.size > 1))=true from z) (by rw [np]; simp)) ?_
 exact wpAny_bind (ite_no (fun z=>absurd (show (!t.led && !es.isEmpty)=true from z) (by rw [led]; simp)) (wpAny_pure (wpAny_pure q)))
theorem walk_slots {it S:Addr}{n ep:Nat}{es:Array (Int × Value)}{t:SetTable}{sl:Nat→Nat}{order:List Value}(hn:es.size=n) (ne:S ≠ it) (hh:A.handled=none) (ol:order.length=n)
  (st:∀ i v,order[i]? = some v→∀ (s:Shared) (A:Around) (E:Value→Shared→Prop) (Q:Option (Value × Nat)→Shared→Prop),SAt s.heap S es ep t→Q (some (v,sl (i + 1))) s→wpAny (model P w) A (setNext S (sl i) i ep) Q E s)
  (en:∀ (s:Shared) (A:Around) (E:Value→Shared→Prop) (Q:Option (Value × Nat)→Shared→Prop),SAt s.heap S es ep t→Q none s→wpAny (model P w) A (setNext S (sl n) n ep) Q E s) :
  WalksS P w A it [it,S] [it] (fun a b=>b=a) n (fun i v=>order[i]? = some v) (fun i s=>SIt s.heap it S (.int (sl i) 0) i n ep∧SAt s.heap S es ep t) where
 sub:=fun b hb=>by rw [List.mem_singleton.mp hb]; exact List.mem_cons_self
 grefl:=fun _=>rfl
 gtrans:=fun _ _ _ x y=>y.trans x
 frame:=fun i s h' tk x _ k=>⟨x.1.at fun o e=>k it List.mem_cons_self o e,x.2.at fun o e=>k S (List.mem_cons_of_mem _ (List.mem_singleton.mpr rfl)) o e⟩
 item:=fun i s Q E hi x q=>by
  have e:=List.getElem?_eq_getElem (l:=order) (i:=i) (by omega)
  refine si_slot x.1 x.2 hn (fun A E Q q=>st i _ e s A E Q x.2 q) fun h' sb x'=>?_
  exact q _ _ e ⟨x',x.2.at fun o e=>(sb.2 S ne).trans e⟩ ⟨fun b o nb e=>(sb.2 b fun z=>nb (List.mem_singleton.mpr z)).trans e,rfl,rfl,rfl,Nat.le_refl _⟩
 done:=fun s Q E x q=>si_end hh x.1 x.2 hn (fun A E Q q=>en s A E Q x.2 q) fun h' xb=>q _ ⟨fun b o nb e=>xb b o (fun z=>nb (List.mem_singleton.mpr z)) e,rfl,rfl,rfl,Nat.le_refl _⟩
 self:=fun i s Q E x q=>si_self x.1 q
theorem walk_drawn {it S tp:Addr}{n ep:Nat}{es:Array (Int × Value)}{t:SetTable}{ps:List Nat}{order:List Value}(hn:es.size=n) (ne:S ≠ it) (nt:tp ≠ it) (hh:A.handled=none) (pl:ps.length=n)
  (st:∀ i,i < n→∃ p e,ps[i]? = some p∧es[p]? = some e∧order[i]? = some e.2) :
  WalksS P w A it [it,S,tp] [it] (fun a b=>b=a) n (fun i v=>order[i]? = some v) (fun i s=>SIt s.heap it S (.ref tp) i n ep∧SAt s.heap S es ep t∧PAt s.heap tp ps) where
 sub:=fun b hb=>by rw [List.mem_singleton.mp hb]; exact List.mem_cons_self
 grefl:=fun _=>rfl
 gtrans:=fun _ _ _ x y=>y.trans x
 frame:=fun i s h' tk x _ k=>⟨x.1.at fun o e=>k it List.mem_cons_self o e,x.2.1.at fun o e=>k S (List.mem_cons_of_mem _ List.mem_cons_self) o e,x.2.2.at fun o e=>k tp (List.mem_cons_of_mem _ (List.mem_cons_of_mem _ List.mem_cons_self)) o e⟩
 item:=fun i s Q E hi x q=>by
  obtain ⟨p,e,e1,e2,e3⟩:=st i hi
  refine si_drawn x.1 x.2.1 x.2.2 hn e1 e2 fun h' sb x'=>?_
  exact q _ _ e3 ⟨x',x.2.1.at fun o e=>(sb.2 S ne).trans e,x.2.2.at fun o e=>(sb.2 tp nt).trans e⟩ ⟨fun b o nb e=>(sb.2 b fun z=>nb (List.mem_singleton.mpr z)).trans e,rfl,rfl,rfl,Nat.le_refl _⟩
 done:=fun s Q E x q=>si_drawn_end hh x.1 x.2.1 x.2.2 hn (by omega) fun h' xb=>q _ ⟨fun b o nb e=>xb b o (fun z=>nb (List.mem_singleton.mpr z)) e,rfl,rfl,rfl,Nat.le_refl _⟩
 self:=fun i s Q E x q=>si_self x.1 q
def WalkX (P:Program)(w:World)(s:Shared)(S it:Addr)(ds:List Key)(s':Shared) : Prop :=
 ∃ (fp:List Addr) (St:Nat→Shared→Prop) (es:List (Int × Value)) (ks:List Key),EK P w es ks∧ks.Perm ds∧(∀ b∈fp,b=S∨s.heap.objs.size≤b)∧s.heap.objs.size≤it∧St 0 s' ∧
  (∀ A:Around,A.handled=none→WalksS P w A it fp [it] (fun a b=>b=a) ds.length (fun i v=>(es.map (·.2))[i]? = some v) St) ∧
  (∀ b o,s.heap.get? b=some o→s'.heap.get? b=some o)∧s'.gens=s.gens∧s'.os=s.os∧s'.toks=s.toks
theorem up_len {t:SetTable}{n:Nat}(h:t.fits n=true) : t.place.size=n:=by
 unfold SetTable.fits at h
 rw [Bool.and_eq_true,beq_iff_eq] at h
 exact h.1
theorem iter_x {S:Addr}{ds:List Key}{Q:Value→Shared→Prop}(X:SetY P w s.heap S ds)(h:∀ it s',WalkX P w s S it ds s'→Q (.ref it) s') : wpAny (model P w) A (pyIter (.ref S)) Q E s:=by
 obtain ⟨o,es,ep,t,ks,ho,hex,hd,ek,pm,hb,hf,L,led⟩:=X
 have hn:es.size=ds.length:=by rw [← Array.length_toList,ek.length,pm.length_eq]
 have hT:s.TypeIs (.ref S) "set" := ⟨o,ho,hex.1⟩
 have y:SAt s.heap S es ep t:=⟨o,ho,hex,hd,hf⟩
 have lt:=Heap.lt_size ho
 refine wpAny_pyIter_slot hT F.slot_set_iter (wpAny_call_entry F.slot_set_iter hT entry_set_it ?_ (F.args_set_iter_1 _))
 unfold Builtin.«frozenset.__iter__» Builtin.Frozenset.slot0 Builtin.Frozenset.sizeOf
 refine wpAny_bind (m:=_) (wpAny_bind (m:=slotArgs "__iter__" 0 _) (wpAny_pure (wpAny_pure ?_)))
 refine wpAny_bind (wpAny_bind (wpAny_setEntries_of ho hd hf (wpAny_pure ?_)))
 have dr:∀ (A:Around) (E:Value→Shared→Prop) (Q:Bool→Shared→Prop),Q (!byT w && (!t.plain && decide (es.size > 1))) s→wpAny (model P w) A (setDrawn S) Q E s:=fun A E Q q=>by
  unfold setDrawn
  exact wpAny_bind (wpAny_setState_of ho hd hf (wpAny_bind (by_text (wpAny_pure q))))
 refine wpAny_bind (dr _ _ _ ?_)
 have slots:∀ (sl:Nat→Nat) (es':List (Int × Value)) (ks':List Key),EK P w es' ks'→ks'.Perm ds→sl 0=0 →
   (∀ i v,(es'.map (·.2))[i]? = some v→∀ (s:Shared) (A:Around) (E:Value→Shared→Prop) (Q:Option (Value × Nat)→Shared→Prop),SAt s.heap S es ep t→Q (some (v,sl (i + 1))) s→wpAny (model P w) A (setNext S (sl i) i ep) Q E s) →
   (∀ (s:Shared) (A:Around) (E:Value→Shared→Prop) (Q:Option (Value × Nat)→Shared→Prop),SAt s.heap S es ep t→Q none s→wpAny (model P w) A (setNext S (sl ds.length) ds.length ep) Q E s) →
   Q (.ref s.heap.objs.size) { s with heap:=s.heap.push { cls:=.type "set_iterator", data:=.fields #[rawInt 0,rawInt 0,.ref S,rawInt es.size,rawInt ep] } }:=by
  intro sl es' ks' ek' pm' s0 st en
  have hl:(es'.map (·.2)).length=ds.length:=by rw [List.length_map,ek'.length,pm'.length_eq]
  refine h _ _ ⟨_,_,es',ks',ek',pm',?_,Nat.le_refl _,⟨⟨_,Heap.get?_push_size _ rfl,rfl,?_⟩,y.at fun o e=>Heap.get?_push_of_some _ e⟩,fun A hh=>walk_slots hn (Nat.ne_of_lt lt) hh hl st en,fun b o e=>Heap.get?_push_of_some _ e,rfl,rfl,rfl⟩
  ·intro b hb
   rcases List.mem_cons.mp hb with rfl | hb
   ·exact .inr (Nat.le_refl _)
   ·exact .inl (List.mem_singleton.mp hb)
  ·rw [s0,hn]
   rfl
 cases bt:byT w with
 | true =>
  rw [Bool.not_true,Bool.false_and,if_neg Bool.false_ne_true]
  refine wpAny_bind (m:=pure _) (wpAny_pure ?_)
  refine wpAny_bind (wpAny_setEpoch_of ho hd hf ?_)
  refine wpAny_bind (m:=newFields _ _) ?_
  unfold newFields
  refine wpAny_newObj_type (wpAny_pure ⟨_,rfl, "set_iterator", _,⟨_,Heap.get?_push_size _ rfl,rfl⟩,slot_si_next.lookup,?_⟩)
  have pp:=pick_perm (w.params.setOrder S ep) es
  obtain ⟨ks',p',ek'⟩:=ek.perm pp
  have pl:(pickOrder (w.params.setOrder S ep) es).size=ds.length:=by rw [← Array.length_toList,pp.length_eq,Array.length_toList,hn]
  refine slots (fun _=>0) _ ks' ek' (p'.trans pm) rfl (fun i v e s A E Q y q=>next_text bt y ?_) (fun s A E Q y q=>next_text bt y ?_)
  ·rw [List.getElem?_map] at e
   obtain ⟨x,ex,rfl⟩:=Option.map_eq_some_iff.mp e
   rw [← Array.getElem?_toList,ex]
   exact q
  ·rw [Array.getElem?_eq_none (by omega)]
   exact q
 | false =>
  rw [Bool.not_false,Bool.true_and]
  have ld:t.led=true:=by rw [led,bt]; rfl
  cases np:(!t.plain && decide (es.size > 1)) with
  | false =>
   rw [if_neg Bool.false_ne_true]
   refine wpAny_bind (m:=pure _) (wpAny_pure ?_)
   refine wpAny_bind (wpAny_setEpoch_of ho hd hf ?_)
   refine wpAny_bind (m:=newFields _ _) ?_
   unfold newFields
   refine wpAny_newObj_type (wpAny_pure ⟨_,rfl, "set_iterator", _,⟨_,Heap.get?_push_size _ rfl,rfl⟩,slot_si_next.lookup,?_⟩)
   have pz:=up_len hf
   have bl:∀ i,i≤es.size→SetTable.below t.place (match i with | 0=>0 | j + 1=>t.place.getD j 0 + 1)=i:=fun i hi=>by
    cases i with
    | zero=>exact below_zero L
    | succ j=>exact below_next L (by omega)
   refine slots (fun i=>match i with | 0=>0 | j + 1=>t.place.getD j 0 + 1) es.toList ks ek pm rfl (fun i v e s A E Q y q=>next_place bt y np ld ?_) (fun s A E Q y q=>next_place bt y np ld ?_)
   ·rw [List.getElem?_map] at e
    obtain ⟨⟨hx,x⟩,ex,rfl⟩:=Option.map_eq_some_iff.mp e
    rw [Array.getElem?_toList] at ex
    have li:i < es.size:=(Array.getElem?_eq_some_iff.mp ex).1
    have lp:i < t.place.size:=by omega
    rw [bl i (Nat.le_of_lt li),ex,Array.getElem?_eq_getElem lp]
    dsimp only
    have eg:t.place.getD i 0=t.place[i]:=by simp [Array.getD,lp]
    rw [← eg]
    exact q
   ·rw [bl ds.length (by omega),Array.getElem?_eq_none (by omega)]
    exact q
  | true =>
   rw [if_pos rfl]
   refine wpAny_bind (draw_perm es.size (List.range es.size) _ _ List.length_range fun ps d p=>?_)
   have pl:ps.length=ds.length:=by rw [p.length_eq,List.length_range,hn]
   refine wpAny_bind (wpAny_newTuple ?_ (by rw [List.length_map,pl]; exact fits_of_scanBound (by omega)))
   have ho1:=Heap.get?_push_of_some { cls:=.type "tuple", data:=.seq (ps.map fun (i:Nat)=>rawInt i).toArray } ho
   refine wpAny_bind (wpAny_setEpoch_of ho1 hd hf ?_)
   refine wpAny_bind (m:=newFields _ _) ?_
   unfold newFields
   refine wpAny_newObj_type (wpAny_pure ⟨_,rfl, "set_iterator", _,⟨_,Heap.get?_push_size _ rfl,rfl⟩,slot_si_next.lookup,?_⟩)
   have pe:(ps.filterMap fun i=>es[i]?).Perm es.toList:=by
    have:=p.filterMap fun i=>es[i]?
    rwa [filterMap_getElem?_range] at this
   obtain ⟨ks',p',ek'⟩:=ek.perm pe
   have at1:∀ (q:List Nat) (i:Nat),(∀ x∈q,x < es.size)→i < q.length→∃ x e,q[i]? = some x∧es[x]? = some e∧((q.filterMap fun i=>es[i]?).map (·.2))[i]? = some e.2:=by
    intro q
    induction q with
    | nil=>exact fun i _ hi=>absurd hi (Nat.not_lt_zero _)
    | cons x q ih =>
     intro i hq hi
     have ex:=Array.getElem?_eq_getElem (hq x List.mem_cons_self)
     rw [List.filterMap_cons_some ex]
     cases i with
     | zero=>exact ⟨x,_,rfl,ex,rfl⟩
     | succ i=>exact ih i (fun y hy=>hq y (List.mem_cons_of_mem _ hy)) (Nat.lt_of_succ_lt_succ hi)
   have lq:∀ x∈ps,x < es.size:=fun x hx=>List.mem_range.mp (p.mem_iff.mp hx)
   refine h _ _ ⟨_,_,_,ks',ek',p'.trans pm,?_,?_,⟨⟨_,Heap.get?_push_size _ rfl,rfl,?_⟩,y.at fun o e=>Heap.get?_push_of_some _ (Heap.get?_push_of_some _ e),⟨_,_,Heap.get?_push_of_some _ (Heap.get?_push_size _ rfl),rfl⟩⟩,fun A hh=>walk_drawn hn ?_ ?_ hh pl fun i hi=>at1 ps i lq (by omega),fun b o e=>Heap.get?_push_of_some _ (Heap.get?_push_of_some _ e),rfl,rfl,rfl⟩
   ·intro b hb
    rcases List.mem_cons.mp hb with rfl | hb
    ·exact .inr (by rw [Heap.size_push]; exact Nat.le_succ _)
    ·rcases List.mem_cons.mp hb with rfl | hb
     ·exact .inl rfl
     ·rw [List.mem_singleton.mp hb]
      exact .inr (Nat.le_refl _)
   ·rw [Heap.size_push]
    exact Nat.le_succ _
   ·rw [Heap.size_push]
    exact Nat.ne_of_lt (Nat.lt_succ_of_lt lt)
   ·rw [Heap.size_push]
    exact Nat.ne_of_lt (Nat.lt_succ_self _)
   ·rw [hn]
    rfl
end
end L2
namespace L2
open PySem PySem.Spec PyProof.Rows
section
variable {P:Program}{w:World}{A:Around}{E:Value→Shared→Prop}{s:Shared}{R:Result→Shared→Prop}
theorem fill_x {It S:Addr}{fp wr:List Addr}{ks:List Key}{Pv:Nat→Value→Prop}{St:Nat→Shared→Prop}(W:WalksS P w A.in1 It fp wr (fun a b=>b=a) ks.length Pv St) (hS:S ∉ fp)
  (hv:∀ i v,Pv i v→∃ k,ks[i]? = some k∧(mixKind P w).is k v=true∧v.scannable=true) (hb:ks.length + 1 < scanBound) :
  ∀ (m i:Nat) (s:Shared),ks.length - i=m→i≤ks.length→St i s→SetX P w s.heap S (dd (ks.take i)) →
   (∀ s',Moved (S :: wr) (fun a b=>b=a) s s'→SetX P w s'.heap S (dd ks)→R (.ok (.ret .none)) s') →
   codeAny (model P w) A (.builtin "set.update.loop" ⟨[.ref S,.ref It],[]⟩) R s:=by
 have sw:S ∉ wr:=fun q=>hS (W.sub _ q)
 have wider:∀ b∈wr,b∈S :: wr:=fun b q=>List.mem_cons_of_mem _ q
 intro m
 induction m with
 | zero =>
  intro i s hm hi st X fin
  obtain rfl:i=ks.length:=by omega
  refine codeAny_builtin PyProof.Rows.F.entry_set_update_loop ?_
  rw [Around.under_plainId PyProof.Rows.F.plain_set_update_loop _]
  refine wpAny_bind (m:=pyNext (.ref It)) (W.done s _ _ st fun s' mv=>?_)
  rw [List.take_length] at X
  exact wpAny_pure (fin s' (mv.mono wider) (X.moved fun o e=>mv.heap S o sw e))
 | succ m ih =>
  intro i s hm hi st X fin
  have lt:i < ks.length:=by omega
  refine codeAny_builtin PyProof.Rows.F.entry_set_update_loop ?_
  rw [Around.under_plainId PyProof.Rows.F.plain_set_update_loop _]
  refine wpAny_bind (m:=pyNext (.ref It)) (W.item i s _ _ lt st fun v s' hP st' mv=>?_)
  obtain ⟨k,hk,his,hsc⟩:=hv i v hP
  have X':=X.moved (fun o e=>mv.heap S o sw e)
  refine wpAny_bind (m:=holding [v] (setAdd S v)) (wpAny_holding ?_)
  unfold setAdd
  refine wpAny_holding (wpAny_bind ((mixKind P w).pyHash (k:=k) his ?_))
  have room:(dd (ks.take i)).length + 1 < scanBound:=by
   have h1:=dd_len (ks.take i)
   rw [List.length_take] at h1
   omega
  refine add_x (s:={ s' with toks:=s'.toks + 1 }) his hsc X' room fun _ h' sb X2=>?_
  rw [← dd_take hk] at X2
  refine wpAny_pure ⟨plainId_quiet PyProof.Rows.F.plain_set_update_loop _,ih (i + 1) _ (by omega) lt (W.frame _ s' _ _ st' (Nat.le_succ _) fun b q o e=>?_) X2 fun s2 mv2 fin2=>?_⟩
  ·exact (sb.2 b fun (z:b=S)=>hS (z ▸ q)).trans e
  ·refine fin s2 (Moved.trans W.gtrans ((mv.mono wider).then_heap (Nat.le_succ _) fun b o q e=>?_) mv2) fin2
   exact (sb.2 b fun (z:b=S)=>q (by rw [z]; exact List.mem_cons_self)).trans e
theorem fill_list {id:String}{S l:Addr}{its:Array Value}{ks:List Key}{Q:Unit→Shared→Prop}(hh:A.handled=none) (hS:s.heap.get? S=some (fr (!byT w))) (hl:s.heap.IsList l its) (hn:its.size=ks.length)
  (hv:∀ (i:Nat) v,its[i]? = some v→∃ k,ks[i]? = some k∧(mixKind P w).is k v=true∧v.scannable=true) (hb:ks.length + 1 < scanBound)
  (h:∀ (h':Heap) (tk:Nat),SetX P w h' S (dd ks)→(∀ b o,b ≠ S→s.heap.get? b=some o→h'.get? b=some o)→Q () { s with heap:=h',toks:=tk }) :
  wpAny (model P w) A (Builtin.Frozenset.updateFrom id S (.ref l)) Q E s:=by
 obtain ⟨⟨_,od,_,osl⟩,ol,rfl,nl,rfl⟩:=hl
 have l1:s.heap.IsList l its:=⟨_,ol,rfl,nl,rfl⟩
 have n1:=PySem.F.sub_list_set
 have n2:=PySem.F.sub_list_frozenset
 have n3:(Value.type "list" == Value.type "dict")=false:=rfl
 unfold Builtin.Frozenset.updateFrom
 generalize e:pyIter=I
 wp_walk
 subst e
 have lt:=Heap.lt_size ol
 refine wpAny_pyIter_list l1 (wpAny_bind (wpAny_runValue ?_))
 have it:=(Walks.list (prog:=P) (w:=w) (A:=A.in1) hh s.heap.objs.size l (Nat.ne_of_lt lt) its).toS
 rw [hn] at it
 have sS:S < s.heap.objs.size:=Heap.lt_size hS
 have sl:S ≠ l:=fun z=>by
  subst z
  have z2:some (Value.type "set")=some (Value.type "list"):=congrArg (Option.map Obj.cls) (hS.symm.trans ol)
  exact absurd z2 (by decide)
 refine fill_x it (fun q=>?_) hv hb _ 0 _ rfl (Nat.zero_le _) ⟨⟨_,Heap.get?_push_size _ rfl,rfl,rfl⟩,l1.push _⟩ ?_ ?_
 ·rcases q with _ | ⟨_,_ | ⟨_,q⟩⟩
  ·exact Nat.lt_irrefl _ sS
  ·exact sl rfl
  ·cases q
 ·exact ⟨_,#[],0,_,[],Heap.get?_push_of_some _ hS,⟨rfl,rfl,rfl⟩,rfl,.nil,.refl _,by decide,by rfl,fresh_lit 0 0 _,rfl⟩
 ·rintro ⟨h',g',d',tk',os'⟩ ⟨mv1,mv2,mv3,mv4⟩ fin
  dsimp only at mv1 mv2 mv3 mv4 fin
  subst mv2 mv3 mv4
  refine wpAny_pure (h _ _ fin fun b o nb e=>mv1 b o (fun q=>?_) (Heap.get?_push_of_some _ e))
  have lb:=Heap.lt_size e
  rcases q with _ | ⟨_,_ | ⟨_,q⟩⟩
  ·exact nb rfl
  ·exact Nat.lt_irrefl _ lb
  ·cases q
theorem new_x (a:Value){Q:Value→Shared→Prop}(h:Q (.ref s.heap.objs.size) { s with heap:=s.heap.push (fr (!byT w)) }) : codeAny (model P w) A (.call (.builtin "set.__new__") ⟨[.type "set", a],[]⟩) (wants Q E) s:=by
 refine codeAny_of_tree ?_
 show wpAny _ A.in1 (checkBuiltinCall "set.__new__" _ >>= fun _=>again (.builtin "set.__new__" ⟨[.type "set", a],[]⟩)) _ _ s
 refine wpAny_bind (wpAny_of_eq (PySem.F.newCall_set_1 a) (wpAny_pure ⟨plainId_quiet PySem.F.plain_set_new _,codeAny_builtin PySem.F.entry_set_new ?_⟩))
 rw [Around.under_plainId PySem.F.plain_set_new _]
 unfold Builtin.«set.__new__» Builtin.Frozenset.newClass
 have hsub:=sub_set_self
 obtain ⟨hp,g,d,tk,os⟩:=s
 dsimp only at h ⊢
 wp_walk
 refine wpAny_askSetting (wpAny_pure ?_)
 dsimp only
 unfold newObj
 exact wpAny_bind (wpAny_alloc (wpAny_pure (wpAny_pure h)))
theorem made_x {l:Addr}{its:Array Value}{ks:List Key}{Q:Value→Shared→Prop}(hh:A.handled=none) (hl:s.heap.IsList l its) (hn:its.size=ks.length)
  (hv:∀ (i:Nat) v,its[i]? = some v→∃ k,ks[i]? = some k∧(mixKind P w).is k v=true∧v.scannable=true) (hb:ks.length + 1 < scanBound)
  (h:∀ (h':Heap) (tk:Nat),SetX P w h' s.heap.objs.size (dd ks)→(∀ b o,s.heap.get? b=some o→h'.get? b=some o)→Q (.ref s.heap.objs.size) { s with heap:=h',toks:=tk }) :
  wpAny (model P w) A (call (.type "set") [.ref l]) Q E s:=by
 refine made_by PySem.F.called_set (PySem.F.typeCall_set_1 _) (new_x _ (Q:=fun v s1=>v = .ref s.heap.objs.size∧s1 = { s with heap:=s.heap.push (fr (!byT w)) }) ⟨rfl,rfl⟩) ?_
 rintro _ _ ⟨rfl,rfl⟩
 have at0:(s.heap.push (fr (!byT w))).get? s.heap.objs.size=some (fr (!byT w)):=Heap.get?_push_size _ rfl
 have ty:Shared.TypeIs { s with heap:=s.heap.push (fr (!byT w)) } (.ref s.heap.objs.size) "set" := ⟨_,at0,rfl⟩
 refine ⟨ty,codeAny_call_builtin PySem.F.called_set.init.plain PySem.F.entry_set_init (check_set_init_1 ty ?_)⟩
 unfold Builtin.«set.__init__» noKeywords
 generalize e : @Builtin.Frozenset.updateFrom=U
 wp_walk
 subst e
 refine fill_list (by simp [hh]) at0 (hl.push _) hn hv hb fun h' tk fin kp'=>?_
 exact wpAny_pure ⟨rfl,h h' tk fin fun b o e=>kp' b o (Nat.ne_of_lt (Heap.lt_size e)) (Heap.get?_push_of_some _ e)⟩
theorem hint_set {r:Addr}{Q:Bool→Shared→Prop}(hT:s.TypeIs (.ref r) "set")(h:Q false s) : wpAny (model P w) A (Builtin.List.listLengthHint (.ref r)) Q E s:=by
 unfold Builtin.List.listLengthHint
 refine wpAny_bind (wpAny_specialOf hT PySem.F.slot_set_len.lookup ?_)
 have sp:splitId "set.__len__" = some ("set", "__len__"):=by decide +kernel
 simp only [sp]
 refine wpAny_bind (wpAny_isInstance (T := "set") (b:=true) hT (by rw [isSubtype_type]; kernel_rfl) ?_)
 rw [if_neg (by decide)]
 first
 | rw [if_pos (by decide +kernel)]
 | rw [if_pos (by rfl)]
 refine wpAny_bind (wpAny_typeOf hT ?_)
 exact wpAny_pure h
theorem ite_ok {α:Type}{c:Prop} [Decidable c]{m1 m2:Sem α}{Q:α→Shared→Prop}(h:c)(q:wpAny (model P w) A m1 Q E s) : wpAny (model P w) A (if c then m1 else m2) Q E s:=by
 rw [if_pos h]
 exact q
theorem collect_x {S:Addr}{ds:List Key}{Q:List Value→Shared→Prop}(hh:A.handled=none) (X:SetY P w s.heap S ds) (hn:ds.length≤sizeLine)
  (h:∀ (s':Shared) (es:List (Int × Value)) (ks:List Key),EK P w es ks→ks.Perm ds→(∀ b o,s.heap.get? b=some o→s'.heap.get? b=some o)→s.heap.objs.size < s'.heap.objs.size→s'.gens=s.gens→s'.os=s.os→Q (es.map (·.2)) s') : wpAny (model P w) A (collect (.ref S)) Q E s:=by
 have tS:s.TypeIs (.ref S) "set" := by
  obtain ⟨o,_,_,_,_,ho,hex,_⟩:=X
  exact ⟨o,ho,hex.1⟩
 have lS:S < s.heap.objs.size:=by
  obtain ⟨o,_,_,_,_,ho,_⟩:=X
  exact Heap.lt_size ho
 have at0:(s.heap.push { cls:=.type "list", data:=.seq #[] }).get? s.heap.objs.size=some { cls:=.type "list", data:=.seq #[] }:=Heap.get?_push_size _ rfl
 have X1:SetY P w (s.heap.push { cls:=.type "list", data:=.seq #[] }) S ds:=X.moved fun o e=>Heap.get?_push_of_some _ e
 have t1:Shared.TypeIs { s with heap:=s.heap.push { cls:=.type "list", data:=.seq #[] } } (.ref S) "set" := by
  obtain ⟨o,_,_,_,_,ho,hex,_⟩:=X1
  exact ⟨o,ho,hex.1⟩
 unfold collect
 refine wpAny_bind (wpAny_runValue (code_by entry_proto_collect' PySem.F.plain_proto_collect (wpAny_bind (m:=newList []) (wpAny_newList (wpAny_pure ⟨plainId_quiet PySem.F.plain_list_iadd _,code_by entry_list_iadd' PySem.F.plain_list_iadd ?_⟩) (Nat.zero_le _)))))
 show wpAny _ _ (Builtin.List.listExtendWith (.ref s.heap.objs.size) (.ref S) (.ref s.heap.objs.size)) _ _ _
 unfold Builtin.List.listExtendWith
 have ns:Builtin.List.listSameRef (.ref s.heap.objs.size) (.ref S)=false:=by simp [Builtin.List.listSameRef,Nat.ne_of_gt lS]
 refine wpAny_bind (wpAny_typeOf t1 ?_)
 rw [ns]
 refine wpAny_bind (iter_x (s:={ s with heap:=s.heap.push { cls:=.type "list", data:=.seq #[] } }) X1 fun it s1 ⟨fp,St,es,ks,ek,pm,hfp,hit,st,W,kp1,g1,o1,k1⟩=>?_)
 have t2:s1.TypeIs (.ref S) "set" := by
  obtain ⟨o,_,_,_,_,ho,hex,_⟩:=X1
  exact ⟨o,kp1 _ _ ho,hex.1⟩
 refine wpAny_bind (wpAny_holding (hint_set t2 ?_))
 have L1:=kp1 _ _ at0
 have nf:s.heap.objs.size ∉ fp:=fun q=>by
  rcases hfp _ q with e | e
  ·rw [e] at lS
   exact Nat.lt_irrefl _ lS
  ·rw [Heap.size_push] at e
   exact Nat.not_succ_le_self _ e
 have ni:s.heap.objs.size < it:=by
  rw [Heap.size_push] at hit
  exact hit
 refine ite_ok (by decide +kernel) (wpAny_bind (wpAny_rule (wpAny_bind ?_)))
 show wpAny _ _ (updateSeq s.heap.objs.size (·.push .none) >>= fun _=>updateSeq s.heap.objs.size (·.pop)) _ _ _
 refine wpAny_bind (wpAny_updateSeq L1 rfl ?_)
 have L2:=Heap.get?_update_self (Obj.mapSeq (·.push Value.none)) L1 rfl
 refine wpAny_updateSeq (hz:=by seq_fits) L2 rfl ?_
 have L3:=Heap.get?_update_self (Obj.mapSeq (·.pop)) L2 rfl
 have W1:=W A.in1 (by simpa using hh)
 have keep:∀ b o,b ≠ s.heap.objs.size→s1.heap.get? b=some o→((s1.heap.update s.heap.objs.size (Obj.mapSeq (·.push Value.none))).update s.heap.objs.size (Obj.mapSeq (·.pop))).get? b=some o:=fun b o nb e=>(Heap.get?_update_other _ _ (Ne.symm nb)).trans ((Heap.get?_update_other _ _ (Ne.symm nb)).trans e)
 refine wpAny_pure ⟨plainId_quiet PySem.F.plain_extend_loop _,codeAny_extend_loopS W1 hn _ nf _ ds.length 0 _ _ _ rfl (Nat.zero_le _) (W1.frame 0 s1 _ s1.toks st (Nat.le_refl _) fun b hb o e=>keep b o (fun z=>nf (z ▸ hb)) e) L3 (ItemsOf.nil _) fun s' acc c mv hS' hacc=>?_⟩
 have ea:acc.toList=es.map (·.2):=by
  apply List.ext_getElem?
  intro j
  have ls:(es.map (·.2)).length=ds.length:=by rw [List.length_map,ek.length,pm.length_eq]
  by_cases lj:j < acc.size
  ·have e:=Array.getElem?_eq_getElem lj
   rw [Array.getElem?_toList,e,hacc.2 j _ e]
  ·rw [List.getElem?_eq_none (by rw [Array.length_toList]; omega),List.getElem?_eq_none (by rw [ls,← hacc.1]; omega)]
 refine wpAny_bind (wpAny_load hS' (wpAny_pure ?_))
 rw [ea]
 refine h s' es ks ek pm (fun b o e=>?_) (Heap.lt_size hS') (mv.gens.trans g1) (mv.os.trans o1)
 have lb:=Heap.lt_size e
 refine mv.heap b o (fun q=>?_) (keep b o (Nat.ne_of_lt lb) (kp1 _ _ (Heap.get?_push_of_some _ e)))
 rcases List.mem_cons.mp q with z | z
 ·exact Nat.ne_of_lt lb z
 ·exact Nat.ne_of_lt (Nat.lt_trans lb ni) (List.mem_singleton.mp z)
end
end L2
namespace L2
open PySem PySem.Spec PyProof.Rows
abbrev SetXO (P:Program) (w:World) (a:Addr) (ds:List Key) : HO:=.ext fun h=>SetY P w h a ds
def ddS (ws:List Str) : List Str:=ws.foldl (fun acc w=>if w∈acc then acc else acc ++ [w]) []
theorem dd_of {α:Type} [DecidableEq α](f:α→Key)(inj:∀ x y,f x=f y→x=y) : ∀ (ws acc:List α),(ws.map f).foldl addK (acc.map f)=(ws.foldl (fun acc w=>if w∈acc then acc else acc ++ [w]) acc).map f
 | [],acc=>rfl
 | x :: ws,acc=>by
  rw [List.map_cons,List.foldl_cons,List.foldl_cons]
  have m:memK (acc.map f) (f x)=true↔x∈acc:=by
   rw [memK_iff,List.mem_map]
   exact ⟨fun ⟨y,hy,e⟩=>inj _ _ e ▸ hy,fun h=>⟨x,h,rfl⟩⟩
  by_cases h:x∈acc
  ·have e:addK (acc.map f) (f x)=acc.map f:=by unfold addK; rw [if_pos (m.mpr h)]
   rw [e,if_pos h]
   exact dd_of f inj ws acc
  ·have e:addK (acc.map f) (f x)=(acc ++ [x]).map f:=by unfold addK; rw [if_neg (fun z=>h (m.mp z)),List.map_append]; rfl
   rw [e,if_neg h]
   exact dd_of f inj ws _
theorem dd_strs (ws:List Str) : dd (ws.map Sum.inr)=(ddS ws).map Sum.inr:=dd_of Sum.inr (fun _ _ e=>Sum.inr.inj e) ws []
theorem once_nodup {α:Type} [DecidableEq α] : ∀ (ws acc:List α),acc.Nodup→(ws.foldl (fun acc w=>if w∈acc then acc else acc ++ [w]) acc).Nodup
 | [],acc,h=>h
 | y :: ws,acc,h=>by
  rw [List.foldl_cons]
  refine once_nodup ws _ ?_
  split
  ·exact h
  ·rename_i n
   rw [List.nodup_append]
   exact ⟨h,List.nodup_cons.mpr ⟨List.not_mem_nil,List.nodup_nil⟩,fun a ha b hb e=>n (by rw [List.mem_singleton.mp hb] at e; rw [← e]; exact ha)⟩
theorem once_same {α:Type} [DecidableEq α] : ∀ (ws acc:List α),(acc ++ ws).Nodup→ws.foldl (fun acc w=>if w∈acc then acc else acc ++ [w]) acc=acc ++ ws
 | [],acc,_=>(List.append_nil _).symm
 | y :: ws,acc,h=>by
  have n:y ∉ acc:=fun z=>(List.nodup_append.mp h).2.2 y z y List.mem_cons_self rfl
  rw [List.foldl_cons,if_neg n,once_same ws _ (by rw [List.append_assoc]; exact h),List.append_assoc]
  rfl
theorem once_len {α:Type} [DecidableEq α] : ∀ (ws acc:List α),(ws.foldl (fun acc w=>if w∈acc then acc else acc ++ [w]) acc).length≤acc.length + ws.length
 | [],acc=>Nat.le_refl _
 | y :: ws,acc=>by
  rw [List.foldl_cons,List.length_cons]
  have h:=once_len ws (if y∈acc then acc else acc ++ [y])
  have h2:(if y∈acc then acc else acc ++ [y]).length≤acc.length + 1:=by
   split
   ·exact Nat.le_succ _
   ·rw [List.length_append]; exact Nat.le_refl _
  omega
theorem ddS_nodup (ws:List Str) : (ddS ws).Nodup:=once_nodup ws [] List.nodup_nil
theorem ddS_same {ws:List Str}(h:ws.Nodup) : ddS ws=ws:=once_same ws [] h
theorem ddS_len (ws:List Str) : (ddS ws).length≤ws.length:=by have:=once_len ws []; rwa [List.length_nil,Nat.zero_add] at this
def getS:Key→Option Str
 | .inr x=>some x
 | .inl _=>none
theorem perm_strs {ks:List Key}{ws:List Str}(p:ks.Perm (ws.map Sum.inr)) : ∃ vs:List Str,ks=vs.map Sum.inr∧vs.Perm ws:=by
 have key:∀ k∈ks,∃ x,k=Sum.inr x:=fun k hk=>by
  obtain ⟨x,_,e⟩:=List.mem_map.mp (p.mem_iff.mp hk)
  exact ⟨x,e.symm⟩
 have e:ks=(ks.filterMap getS).map Sum.inr:=by
  clear p
  induction ks with
  | nil=>rfl
  | cons k ks ih =>
   obtain ⟨x,rfl⟩:=key k List.mem_cons_self
   rw [show List.filterMap getS (Sum.inr x :: ks)=x :: List.filterMap getS ks from rfl,List.map_cons,← ih fun k hk=>key k (List.mem_cons_of_mem _ hk)]
 refine ⟨_,e,?_⟩
 have q:=p.filterMap getS
 rw [List.filterMap_map] at q
 have e2:ws.filterMap (getS ∘ Sum.inr)=ws:=List.filterMap_some
 rwa [e2] at q
section
variable {P:Program}{w:World}
theorem EK.strs:∀ {ws:List Str}{es:List (Int × Value)},EK P w es (ws.map Sum.inr)→StrsAre (es.map (·.2)) ws
 | [],_,h=>by cases h; exact .nil
 | x :: ws,_,h=>by
  cases h with
  | cons h1 h2 h =>
   rcases keyIs_shape (show keyIs (Sum.inr x) _=true from h1) with ⟨i,t,e,_⟩ | ⟨y,t,e,rfl⟩
   ·cases e
   ·cases e
    exact .cons x t (EK.strs h)
end
theorem Inv.other {X:Cx}{pins:List (Addr × Obj)}{σ:St}{H:Hp}{s:Shared}(I:Inv X pins σ H s)(d:Drawn) : Inv X pins σ H { s with drawn:=d }:=⟨I.ok,I.os,I.bare,I.base,I.loc,I.cell,I.free,I.freeC,I.pin,I.hok,I.len⟩
section
variable {X:Cx}
theorem call_setX (hc:X.calm=true) : CallR X (.type "set") (fun xs H Q=>∃ (p:Addr) (ks:List Key),xs = [.ref p]∧SqL X.K H p (ks.map kV)∧ks.length≤4000∧∀ q,H q=none→Q (.ref q) (upd H q (SetXO X.prog X.w q (dd ks)))):=by
 intro pins s σ H xs us Q I r h
 obtain ⟨p,ks,rfl,hp,hz,q⟩:=h
 obtain ⟨u,rfl,ru⟩:=vals1 r
 cases ru
 obtain ⟨its,rv,pl,_⟩:=I.list hp
 have hl:=rv.length
 rw [List.length_map] at hl
 refine made_x (ks:=ks) (I.ok.hd hc) pl.isList (by simp [← hl]) (fun i v e=>vals_keys rv (by simpa using e)) (by unfold scanBound; omega) fun h' tk set kp=>?_
 refine ⟨.ref s.heap.objs.size,_,I.laid (t':=tk) (o:=SetXO X.prog X.w s.heap.objs.size (dd ks)) kp (Nat.le_refl _) ?_,rfl,q _ (I.hok.fresh (Nat.le_refl _))⟩
 refine ⟨set.y,?_,fun h1 h2 a b=>SetY.moved a b⟩
 obtain ⟨o,_,_,_,_,e,_⟩:=set
 exact ⟨o,e⟩
theorem call_setS (hc:X.calm=true) : CallR X (.type "set") (fun xs H Q=>∃ (p:Addr) (ws:List Str),xs = [.ref p]∧SqL X.K H p (ws.map V.str)∧ws.length≤4000∧∀ q,H q=none→Q (.ref q) (upd H q (SetXO X.prog X.w q ((ddS ws).map Sum.inr)))):=by
 intro pins s σ H xs us Q I r h
 obtain ⟨p,ws,rfl,hp,hz,q⟩:=h
 refine call_setX hc pins s σ H _ us Q I r ⟨p,ws.map Sum.inr,rfl,?_,by rw [List.length_map]; exact hz,fun y hy=>?_⟩
 ·rw [List.map_map]
  exact hp
 ·rw [dd_strs]
  exact q y hy
theorem call_sortedSS (hc:X.calm=true) : CallR X (.builtin "sorted") (fun xs H Q=>∃ (p:Addr) (ws:List Str),xs = [.ref p]∧H p=some (SetXO X.prog X.w p (ws.map Sum.inr))∧ws.length < 64∧∀ (q:Addr) (ws':List Str),H q=none→ws'.Perm ws→sortedS ws'=true→Q (.ref q) (upd H q (.lst (ws'.map V.str)))):=by
 intro pins s σ H xs us Q I r h
 obtain ⟨p,ws,rfl,hp,h64,q⟩:=h
 obtain ⟨u,rfl,ru⟩:=vals1 r
 cases ru
 obtain ⟨sx,_⟩:=I.hok p _ hp
 refine Calls.call_function_entry kind_sorted plain_sorted entry_sorted (args_sorted1 _) ?_
 unfold Builtin.«sorted»
 refine wpAny_bind (m:=checkCount _ _ _ _) (wpAny_pure (wpAny_bind (collect_x (A:=X.A.in1) (I.ok.hd hc) sx (by rw [List.length_map]; exact szB (by omega)) fun s' es ks ek pm kp' hz hg ho=>?_)))
 obtain ⟨vs,rfl,pv⟩:=perm_strs pm
 have hS:=ek.strs
 have la:(es.map (·.2)).length=vs.length:=by rw [List.length_map,ek.length,List.length_map]
 have lv:=pv.length_eq
 obtain ⟨h',g',d',tk,os'⟩:=s'
 dsimp only at kp' hz hg ho
 subst hg ho
 have I2:=I.other d'
 refine wpAny_bind (wpAny_newList ?_ (by rw [la]; exact szB (by omega)))
 have hL:(h'.push (seqObj "list" (es.map (·.2)).toArray 0)).get? h'.objs.size=some (seqObj "list" (es.map (·.2)).toArray 0):=Heap.get?_push_size _ rfl
 have hz:=Nat.le_of_lt hz
 refine wpAny_bind (wpAny_holding (wpAny_call_entry slot_list_sort ⟨_,hL,rfl⟩ entry_list_sort (list_sort_treeK strKind_oneLt hL hS.keysOf (fun a b rest e=>keyKind_strs (by rw [← e]; exact hS)) (by omega) fun st' a1 a2=>⟨_,rfl,?_⟩) (args_list_sort _)))
 obtain ⟨ws',b1,b2,b3⟩:=sorted_out_str hS a1 a2
 obtain ⟨n,en⟩:=sortedHeap_at (out:=(arrOf st').map (·.2)) hL
 refine wpAny_pure ⟨_,rfl,.ref h'.objs.size,_,I2.laid (t':=tk) (o:=.lst (ws'.map V.str)) (fun b o e=>?_) hz ⟨?_,_,n,of_strs b1,?_⟩,rfl,q _ ws' (I.hok.fresh hz) (b2.trans pv) b3⟩
 ·have lt:=Heap.lt_size (kp' b o e)
  rw [sortedHeap_old (Nat.ne_of_lt lt) (by rw [Heap.size_push]; exact Nat.lt_succ_of_lt lt)]
  exact Heap.get?_push_of_some _ (kp' b o e)
 ·rw [List.length_map,b2.length_eq,lv]
  exact szB (by omega)
 ·rw [Array.toArray_toList]
  exact en
end
end L2
namespace L2
open PySem PySem.Spec PyProof.Rows
end L2
namespace L2
open PySem PySem.Spec PyProof.Rows PySem.W
def ev {α:Type}(lt:Nat→Nat→Bool) : KasT α→α
 | .ret a=>a
 | .ask i j k=>ev lt (k (lt i j))
structure Sto (n:Nat) (lt:Nat→Nat→Bool) : Prop where
 tr:∀ i j k,lt i j=true→lt j k=true→lt i k=true
 irr:∀ i,lt i i=false
 tot:∀ i j,i < n→j < n→i ≠ j→lt i j=true∨lt j i=true
section
variable {n:Nat}{lt:Nat→Nat→Bool}
def Dn (lt:Nat→Nat→Bool)(p:Array Nat)(k:Nat) : Prop:=∀ i j,i < j→j < k→lt (p.getD j 0) (p.getD i 0)=true
end
end L2
namespace L2
open PySem PySem.Spec PyProof.Rows PySem.W
section
variable {prog:Program}{w:World}{A:Around}{E:Value→Shared→Prop}{s:Shared}
def ltBy (ws:List Str)(i j:Nat) : Bool:=decide ((ws.getD i Str.empty).cps.toList < (ws.getD j Str.empty).cps.toList)
theorem sto_by {ws:List Str}(nd:ws.Nodup) : Sto ws.length (ltBy ws) where
 tr:=fun i j k a b=>decide_eq_true (List.lt_trans (of_decide_eq_true a) (of_decide_eq_true b))
 irr:=fun i=>decide_eq_false (List.lt_irrefl _)
 tot:=fun i j hi hj ne=>by
  unfold ltBy
  have e1:ws.getD i Str.empty=ws[i]:=by simp [hi]
  have e2:ws.getD j Str.empty=ws[j]:=by simp [hj]
  rw [e1,e2]
  by_cases c:ws[i].cps.toList < ws[j].cps.toList
  ·exact .inl (decide_eq_true c)
  ·right
   refine decide_eq_true ?_
   by_cases d:ws[j].cps.toList < ws[i].cps.toList
   ·exact d
   ·exfalso
    have e:=List.le_antisymm (List.not_lt.mp d) (List.not_lt.mp c)
    have e3:ws[i] = ws[j]:=str_ext e
    have pw:=List.pairwise_iff_getElem.mp nd
    rcases Nat.lt_or_gt_of_ne ne with z | z
    ·exact pw i j hi hj z e3
    ·exact pw j i hj hi z e3.symm
def PairsW (h:Heap)(vs:List Value)(ws:List Str) : Prop:=vs.length=ws.length∧∀ (i:Nat) (v:Value),vs[i]? = some v→∃ a o n x y t u,ws[i]? = some x∧v = .ref a∧h.get? a=some o∧o.cls = .type "tuple" ∧ o.data = .seq #[.str x t,.str y u] n
theorem PairsW.pairs {h:Heap}{vs:List Value}{ws:List Str}(p:PairsW h vs ws) : Pairs h vs:=fun v hv=>by
 obtain ⟨i,hi,rfl⟩:=List.mem_iff_getElem.mp hv
 obtain ⟨a,o,n,x,y,t,u,_,r⟩:=p.2 i _ (List.getElem?_eq_getElem hi)
 exact ⟨a,o,n,x,y,t,u,r⟩
theorem pairsW_ask {vs:List Value}{ws:List Str}{i j:Nat}(p:PairsW s.heap vs ws)(nd:ws.Nodup)(hi:i < vs.length)(hj:j < vs.length){C:Bool→Shared→Prop}(hC:C (ltBy ws i j) s) : kas_ask prog w A (tuples' true) vs i j C s:=by
 unfold kas_ask
 have e1:vs.getD i Value.none=vs[i]:=by simp [hi]
 have e2:vs.getD j Value.none=vs[j]:=by simp [hj]
 rw [e1,e2]
 obtain ⟨a,o,n,x,y,t,u,ew,ev,ho,hc,hd⟩:=p.2 i _ (List.getElem?_eq_getElem hi)
 obtain ⟨a',o',n',x',y',t',u',ew',ev',ho',hc',hd'⟩:=p.2 j _ (List.getElem?_eq_getElem hj)
 have el:ltBy ws i j=decide (x.cps.toList < x'.cps.toList):=by
  unfold ltBy
  rw [List.getD_eq_getElem?_getD,List.getD_eq_getElem?_getD,ew,ew']
  rfl
 rw [ev,ev']
 refine kat_lt ho hd ho' hd' ?_
 refine kat_cons (wpAny_eqBool_str (kat_go (fun z=>kat_yes ?_) fun z=>kat_no (oneLt_str (by rw [← el]; exact hC))))
 have ex:x=x':=of_decide_eq_true z
 have ij:i=j:=by
  have l1:=p.1
  have g1:ws[i]'(by omega)=x:=by
   have:=List.getElem?_eq_getElem (l:=ws) (i:=i) (by omega)
   rw [this] at ew
   exact Option.some.inj ew
  have g2:ws[j]'(by omega)=x':=by
   have:=List.getElem?_eq_getElem (l:=ws) (i:=j) (by omega)
   rw [this] at ew'
   exact Option.some.inj ew'
  by_cases c:i=j
  ·exact c
  ·exfalso
   have pw:=List.pairwise_iff_getElem.mp nd
   rcases Nat.lt_or_gt_of_ne c with q | q
   ·exact pw i j (by omega) (by omega) q (by rw [g1,g2,ex])
   ·exact pw j i (by omega) (by omega) q (by rw [g1,g2,ex])
 subst ij
 have lf:ltBy ws i i=false:=(sto_by nd).irr i
 rw [lf] at hC
 obtain rfl:a=a':=by rw [ev] at ev'; injection ev'
 rw [ho] at ho'
 obtain rfl:=Option.some.inj ho'
 rw [hd] at hd'
 injection hd' with hd1
 have hy:y=y':=by
  have:=congrArg Array.toList hd1
  simp at this
  exact this.2.1
 exact kat_cons (wpAny_eqBool_str (kat_go (fun _=>kat_yes (kat_nil (by simpa using hC))) fun z2=>absurd (of_decide_eq_false z2) (by simp [hy])))
end
section
variable {X:Cx}
end
end L2
namespace L2
open PySem PySem.Spec PyProof.Rows
theorem KV.at {kvs:List (Key × V)}{vs:List (Key × Value)}(h:KV kvs vs){i:Nat}{k:Key}{u:Value}(e:vs[i]? = some (k,u)) : ∃ x,kvs[i]? = some (k,x)∧RelV x u:=by
 induction h generalizing i with
 | nil=>cases i <;> cases e
 | @cons p q _ _ a _ ih =>
  cases i with
  | zero =>
   obtain rfl:q=(k,u):=Option.some.inj e
   refine ⟨p.2,?_,a.2⟩
   show some p=some (k,p.2)
   rw [← show p.1=k from a.1]
  | succ i=>exact ih e
def Iti (P:Program)(w:World)(a:Addr)(kvs:List (Key × V))(ep:Nat) : It :=
 ⟨fun i H=>H a=some (FzD P w a kvs ep)∧i < kvs.length,fun i H v H'=>∃ T k x,H T=none∧v = .ref T∧kvs[i]? = some (k,x)∧H'=upd H T (.tup [kV k,x]),fun i H=>H a=some (FzD P w a kvs ep)∧kvs.length≤i⟩
theorem entry_ii:entryFor table "dict_itemiterator.__iter__" = some Builtin.«dict_keyiterator.__iter__» := entryFor_alias (id' := "dict_keyiterator.__iter__") (by kernel_rfl) rfl (by decide +kernel) (by kernel_rfl)
theorem turn_items {P:Program}{w:World}{K:PySem.W.Frag}{elts:List Expr}{kk:Nat}{pos:Pos}(a it:Addr) (kvs:List (Key × V)) (ep:Nat) :
  Turn P w K (.Tuple elts kk pos) (Iti P w a kvs ep) [it] it (fun i h=>∃ ok ov,IsItemIter h it a i kvs.length ep ok ov) where
 mem:=List.mem_singleton.mpr rfl
 obj:=fun i h st b hb=>by
  obtain rfl:=List.mem_singleton.mp hb
  obtain ⟨ok,ov,e⟩:=st
  exact ⟨_,e,fun v z=>by cases z⟩
 keep:=fun i h h' st k=>by
  obtain ⟨ok,ov,e⟩:=st
  exact ⟨ok,ov,k it (List.mem_singleton.mpr rfl) _ e⟩
 item:=by
  intro X hP hw hK hc i pins s σ H E I hf st hg
  subst hP hw hK
  obtain ⟨e,hi⟩:=hg
  obtain ⟨⟨vs,rel,da,lo⟩,_,_⟩:=I.hok a _ e
  have hl:=KV.length rel
  obtain ⟨ok,ov,st⟩:=st
  rw [hl] at st
  obtain ⟨⟨k,u⟩,hx⟩ : ∃ p,vs[i]? = some p:=⟨_,List.getElem?_eq_getElem (by omega)⟩
  obtain ⟨x,hkx,rx⟩:=KV.at rel hx
  obtain ⟨f0,f1,f2,f3,f4,f5⟩:=hf it (List.mem_singleton.mpr rfl)
  refine wpAny_pyNext_items_item st da hx fun key h' hkey a1 a2 a3 a4=>?_
  refine ⟨_,rfl,wpAny_letOwnedTupleGo_items (s:={ s with heap:=h' }) a1 fun h2 st' sb=>?_⟩
  have I1:Inv X pins σ H { s with heap:=h' }:=I.turned (t':=s.toks) (fun b o hb e=>a4 b o hb e) f0 f1 f3 f4 f5
  have hT0:=I.hok.fresh (Nat.le_refl s.heap.objs.size)
  have fT:FpOk X pins H s.heap.objs.size:=I.fpOk (Nat.le_refl _) hT0
  have I2:Inv X pins σ (upd H s.heap.objs.size (.tup [kV k,x])) { s with heap:=h' }:=I1.track fT I.sz ⟨(show 2≤sizeLine from sz),[key,u],.cons (key_rel hkey) (.cons rx .nil),⟨_,a2,rfl,_,rfl⟩⟩
  have ne':it ≠ s.heap.objs.size:=fun q=>absurd (Heap.lt_size st) (by rw [q]; exact Nat.lt_irrefl _)
  refine ⟨.ref s.heap.objs.size,_,I2.turned (t':=s.toks) (fun c o hc e=>(sb.2 c hc).trans e) (by rw [upd_ne ne']; exact f0) f1 f3 f4 f5,rfl,⟨_,k,x,hT0,rfl,hkx,rfl⟩,⟨_,_,by rw [hl]; exact st'⟩,fun c hc=>?_⟩
  obtain rfl:=List.mem_singleton.mp hc
  rw [upd_ne ne']
  exact f0
 done:=by
  intro X hP hw hK hc i pins s σ H E I hf st hg
  subst hP hw hK
  obtain ⟨e,hi⟩:=hg
  obtain ⟨⟨vs,rel,da,lo⟩,_,_⟩:=I.hok a _ e
  have hl:=KV.length rel
  obtain ⟨ok,ov,st⟩:=st
  rw [hl] at st
  obtain ⟨f0,f1,f2,f3,f4,f5⟩:=hf it (List.mem_singleton.mpr rfl)
  exact wpAny_pyNext_items_end (I.ok.hd hc) st da (List.getElem?_eq_none (by omega)) fun h' eb=>⟨rfl,I.turned (t':=s.toks) (fun b o hb e=>eb b o hb e) f0 f1 f3 f4 f5⟩
 self:=fun A i s Q E st h=>by
  obtain ⟨ok,ov,e⟩:=st
  have ty:s.TypeIs (.ref it) "dict_itemiterator" := ⟨_,e,rfl⟩
  refine wpAny_pyIter_slot ty PySem.F.slot_dict_itemiterator_iter (wpAny_call_entry PySem.F.slot_dict_itemiterator_iter ty entry_ii ?_ (PySem.F.args_dict_itemiterator_iter_1 _))
  show wpAny _ _ (ret (.ref it)) _ _ s
  exact wpAny_pure ⟨_,rfl, "dict_itemiterator", _,ty,PySem.F.slot_dict_itemiterator_next.lookup,h⟩
def Itw (P:Program)(w:World)(a:Addr)(kvs:List (Key × V))(ep:Nat) : It :=
 ⟨fun i H=>H a=some (FzD P w a kvs ep)∧i < kvs.length,fun i H v H'=>H'=H∧∃ k,kvs[i]? = some (k,v),fun i H=>H a=some (FzD P w a kvs ep)∧kvs.length≤i⟩
theorem turn_values {P:Program}{w:World}{K:PySem.W.Frag}{tg:Expr}(a it:Addr)(kvs:List (Key × V))(ep:Nat) : Turn P w K tg (Itw P w a kvs ep) [it] it (fun i h=>h.IsValIter it a i kvs.length ep) where
 mem:=List.mem_singleton.mpr rfl
 obj:=fun i h st b hb=>by
  obtain rfl:=List.mem_singleton.mp hb
  obtain ⟨o,e,_,d⟩:=st
  exact ⟨o,e,fun v z=>by rw [d] at z; cases z⟩
 keep:=fun i h h' st k=>by
  obtain ⟨o,e,r⟩:=st
  exact ⟨o,k it (List.mem_singleton.mpr rfl) o e,r⟩
 item:=by
  intro X hP hw hK hc i pins s σ H E I hf st hg
  subst hP hw hK
  obtain ⟨e,hi⟩:=hg
  obtain ⟨⟨vs,rel,da,lo⟩,_,_⟩:=I.hok a _ e
  have hl:=KV.length rel
  rw [hl] at st
  obtain ⟨⟨k,u⟩,hx⟩ : ∃ p,vs[i]? = some p:=⟨_,List.getElem?_eq_getElem (by omega)⟩
  obtain ⟨x,hkx,rx⟩:=KV.at rel hx
  obtain ⟨f0,f1,f2,f3,f4,f5⟩:=hf it (List.mem_singleton.mpr rfl)
  refine wpAny_pyNext_values_item st da hx fun h' st' sb=>?_
  obtain ⟨o,e1,c,d⟩:=id st'
  rw [← hl] at st'
  exact ⟨u,rfl,go_of (s:={ s with heap:=h' }) e1 c d (by decide) ⟨x,H,I.turned (t':=s.toks) (fun b o hb e=>(sb.2 b hb).trans e) f0 f1 f3 f4 f5,rx,⟨rfl,k,hkx⟩,st',fun b hb=>(hf b hb).1⟩⟩
 done:=by
  intro X hP hw hK hc i pins s σ H E I hf st hg
  subst hP hw hK
  obtain ⟨e,hi⟩:=hg
  obtain ⟨⟨vs,rel,da,lo⟩,_,_⟩:=I.hok a _ e
  have hl:=KV.length rel
  rw [hl] at st
  obtain ⟨f0,f1,f2,f3,f4,f5⟩:=hf it (List.mem_singleton.mpr rfl)
  exact wpAny_pyNext_values_end (I.ok.hd hc) st da (List.getElem?_eq_none (by omega)) fun h' eb=>⟨rfl,I.turned (t':=s.toks) (fun b o hb e=>eb b o hb e) f0 f1 f3 f4 f5⟩
 self:=fun _ _ _ _ _ st h=>wpAny_pyIter_valiter st h
section
variable {X:Cx}
def iDict (P:Program)(w:World)(J:Addr→List (Key × V)→Nat→It)(tl:TE) : TI:=fun σ H R=>tl σ H fun x H1=>∃ a kvs,x = .ref a∧((H1 a=some (.dK kvs)∧∀ ep,R (J a kvs ep) (upd H1 a (FzD P w a kvs ep)))∨∃ ep,H1 a=some (FzD P w a kvs ep)∧R (J a kvs ep) H1)
theorem pi_items {elts:List Expr}{kk:Nat}{tpos:Pos}{l:Expr}{tl:TE}{apos pos:Pos}(hl:PE X l tl) (hb:attributeBase l "items" X.env (eval l X.env)=eval l X.env) (hn:(apos.endLine == pos.line)=true) :
  PI X (.Tuple elts kk tpos) (.Call (.Attribute l "items" apos) [] [] pos) (iDict X.prog X.w (Iti X.prog X.w) tl):=by
 intro pins s σ H R I h
 refine wpAny_Call_method (T := "dict") (id := "dict.items") hb rfl hn PySem.F.plainAttrs_dict PySem.F.slot_dict_items PySem.F.type_dict_items (thn (hl pins s σ H _ I h) fun v s1 ⟨x,H1,I1,r1,q1⟩=>?_)
 obtain ⟨a,kvs,e,q⟩:=q1
 subst e
 cases r1
 have fin:∀ (ep:Nat) (H2:Hp),Inv X pins σ H2 s1→H2 a=some (FzD X.prog X.w a kvs ep)→R (Iti X.prog X.w a kvs ep) H2 →
   s1.TypeIs (.ref a) "dict" ∧ (∀ b,Value.ref a = .ref b→∃ ob,s1.heap.get? b=some ob∧ob.dict=none)∧wpAny (model X.prog X.w) X.A (callWith pos (.builtin "dict.items") [.ref a] [] []) (fun v s2=>wpAny (model X.prog X.w) X.A (pyIter v) (PIE X pins σ (.Tuple elts kk tpos) R) X.xe s2) X.xe s1:=by
  intro ep H2 I2 hq r
  obtain ⟨⟨vs,rel,da,lo⟩,_,_⟩:=I2.hok a _ hq
  refine ⟨da.dictOf.typeIs,da.dictOf.mapOf.noDict,?_⟩
  refine method_meetsIn PySem.F.slot_dict_items PySem.F.entry_dict_items rfl (PySem.evalArgs_none ⟨rfl,da.dictOf.typeIs,PySem.F.args_dict_items_1 _,_,meets_dict_items (mixKind X.prog X.w) a lo,⟨vs,da.dictOf⟩,?_⟩)
  refine wpAny_pyIter_items (knd:=mixKind X.prog X.w) ⟨_,Heap.get?_push_size _ rfl,rfl,rfl⟩ (da.push _) ?_
  have k2:∀ b o,s1.heap.get? b=some o→((s1.heap.push { cls:=.type "dict_items", data:=.fields #[.ref a] }).push { cls:=.type "dict_itemiterator", data:=.fields #[.none,.bool false,.ref a,.int 0 0,.int vs.length 0,.int ep 0,.none,.none] }).get? b=some o:=fun b o e=>Heap.get?_push_of_some _ (Heap.get?_push_of_some _ e)
  refine ⟨_,_,_,_,H2,rfl,I2.kept (t':=s1.toks) k2,turn_items a _ kvs ep,⟨.none,.none,?_⟩,fun b hb=>?_,r⟩
  ·rw [KV.length rel]
   exact Heap.get?_push_size _ rfl
  ·obtain rfl:=List.mem_singleton.mp hb
   have le:s1.heap.objs.size≤(s1.heap.push { cls:=.type "dict_items", data:=.fields #[.ref a] }).objs.size:=by rw [Heap.size_push]; exact Nat.le_succ _
   exact I2.fpOk le (I2.hok.fresh le)
 rcases q with ⟨hq,q⟩ | ⟨ep,hq,q⟩
 ·obtain ⟨ep,vs,rel,da,lo,I2⟩:=I1.freeze hq
  exact fin ep _ I2 upd_same (q ep)
 ·exact fin ep H1 I1 hq q
theorem pi_values {tg:Expr}{l:Expr}{tl:TE}{apos pos:Pos}(hl:PE X l tl) (hb:attributeBase l "values" X.env (eval l X.env)=eval l X.env) (hn:(apos.endLine == pos.line)=true) :
  PI X tg (.Call (.Attribute l "values" apos) [] [] pos) (iDict X.prog X.w (Itw X.prog X.w) tl):=by
 intro pins s σ H R I h
 refine wpAny_Call_method (T := "dict") (id := "dict.values") hb rfl hn PySem.F.plainAttrs_dict PySem.F.slot_dict_values PySem.F.type_dict_values (thn (hl pins s σ H _ I h) fun v s1 ⟨x,H1,I1,r1,q1⟩=>?_)
 obtain ⟨a,kvs,e,q⟩:=q1
 subst e
 cases r1
 have fin:∀ (ep:Nat) (H2:Hp),Inv X pins σ H2 s1→H2 a=some (FzD X.prog X.w a kvs ep)→R (Itw X.prog X.w a kvs ep) H2 →
   s1.TypeIs (.ref a) "dict" ∧ (∀ b,Value.ref a = .ref b→∃ ob,s1.heap.get? b=some ob∧ob.dict=none)∧wpAny (model X.prog X.w) X.A (callWith pos (.builtin "dict.values") [.ref a] [] []) (fun v s2=>wpAny (model X.prog X.w) X.A (pyIter v) (PIE X pins σ tg R) X.xe s2) X.xe s1:=by
  intro ep H2 I2 hq r
  obtain ⟨⟨vs,rel,da,lo⟩,_,_⟩:=I2.hok a _ hq
  refine ⟨da.dictOf.typeIs,da.dictOf.mapOf.noDict,?_⟩
  refine method_meetsIn PySem.F.slot_dict_values PySem.F.entry_dict_values rfl (PySem.evalArgs_none ⟨rfl,da.dictOf.typeIs,PySem.F.args_dict_values_1 _,_,meets_dict_values (mixKind X.prog X.w) a lo,⟨vs,da.dictOf⟩,?_⟩)
  refine wpAny_pyIter_values (knd:=mixKind X.prog X.w) ⟨_,Heap.get?_push_size _ rfl,rfl,rfl⟩ (da.push _) ?_
  have k2:∀ b o,s1.heap.get? b=some o→((s1.heap.push { cls:=.type "dict_values", data:=.fields #[.ref a] }).push { cls:=.type "dict_valueiterator", data:=.fields #[.ref a,.int 0 0,.int vs.length 0,.int ep 0] }).get? b=some o:=fun b o e=>Heap.get?_push_of_some _ (Heap.get?_push_of_some _ e)
  refine ⟨_,_,_,_,H2,rfl,I2.kept (t':=s1.toks) k2,turn_values a _ kvs ep,?_,fun b hb=>?_,r⟩
  ·rw [KV.length rel]
   exact ⟨_,Heap.get?_push_size _ rfl,rfl,rfl⟩
  ·obtain rfl:=List.mem_singleton.mp hb
   have le:s1.heap.objs.size≤(s1.heap.push { cls:=.type "dict_values", data:=.fields #[.ref a] }).objs.size:=by rw [Heap.size_push]; exact Nat.le_succ _
   exact I2.fpOk le (I2.hok.fresh le)
 rcases q with ⟨hq,q⟩ | ⟨ep,hq,q⟩
 ·obtain ⟨ep,vs,rel,da,lo,I2⟩:=I1.freeze hq
  exact fin ep _ I2 upd_same (q ep)
 ·exact fin ep H1 I1 hq q
theorem lc_items {P:Program}{w:World}{a:Addr}{kvs:List (Key × V)}{ep:Nat}{ts:List Str}{js:List Nat}{g:TG}{tc:TT}{te:TE}{σ:St}{H:Hp}{Q:VK}(Pv:Nat→List V→Hp→Prop) (h0:Pv 0 [] H) (hl:∀ i ys H,i≤kvs.length→Pv i ys H→H a=some (FzD P w a kvs ep)∧ys.length < sizeLine)
  (hs:∀ i k x T ys H,kvs[i]? = some (k,x)→Pv i ys H→H T=none→g (.ref T) (lcS ts js σ) (upd H T (.tup [kV k,x])) fun σ2 H2=>SubS (lcS ts js σ) σ2∧tc σ2 H2 fun b H3=>if b=true then te σ2 H3 fun y H4=>i + 1≤kvs.length∧Pv (i + 1) (ys ++ [y]) H4 else i + 1≤kvs.length∧Pv (i + 1) ys H3)
  (hd:∀ ys H,Pv kvs.length ys H→∀ p,H p=none→Q (.ref p) (upd H p (.lst ys))) : LcW (Iti P w a kvs ep) ts js g tc te σ H Q:=by
 refine ⟨fun i ys H=>i≤kvs.length∧Pv i ys H,kvs.length,⟨Nat.zero_le _,h0⟩,fun i ys H ⟨hi,p⟩=>?_⟩
 obtain ⟨hf,hz⟩:=hl i ys H hi p
 by_cases e:i=kvs.length
 ·rw [e] at p ⊢
  exact .inl ⟨⟨hf,Nat.le_refl _⟩,hd ys H p⟩
 ·have hlt:i < kvs.length:=Nat.lt_of_le_of_ne hi e
  refine .inr ⟨hlt,⟨hf,hlt⟩,hz,fun x H' y=>?_⟩
  obtain ⟨T,k,x1,hT,rfl,hk,rfl⟩:=y
  exact hs i k x1 T ys H hk p hT
theorem for_items {P:Program}{w:World}{a:Addr}{kvs:List (Key × V)}{ep:Nat}{g:TG}{tb:TS}{D:Ends}{σ:St}{H:Hp}(Pv:Nat→St→Hp→Prop) (h0:Pv 0 σ H) (hl:∀ i σ H,i≤kvs.length→Pv i σ H→H a=some (FzD P w a kvs ep))
  (hs:∀ i k x T σ H,kvs[i]? = some (k,x)→Pv i σ H→H T=none→g (.ref T) σ (upd H T (.tup [kV k,x])) fun σ2 H2=>tb { D with nx:=Pv (i + 1),ct:=Pv (i + 1),bk:=D.nx } σ2 H2) (hd:∀ σ H,Pv kvs.length σ H→D.nx σ H) :
  ∃ W:Nat→Nat→St→Hp→Prop,(∃ m,W 0 m σ H)∧∀ i m σ H,W i m σ H →
   ((Iti P w a kvs ep).stop i H∧D.nx σ H)∨((Iti P w a kvs ep).go i H∧∃ N:St→Hp→Prop,(∀ σ' H',N σ' H'→∃ m',m' < m∧W (i + 1) m' σ' H')∧∀ x H',(Iti P w a kvs ep).yld i H x H'→g x σ H' fun σ2 H2=>tb { D with nx:=N,ct:=N,bk:=D.nx } σ2 H2):=by
 refine ⟨fun i m σ H=>m + i=kvs.length∧Pv i σ H,⟨kvs.length,rfl,h0⟩,fun i m σ H ⟨hm,p⟩=>?_⟩
 have q1:=hl i σ H (by omega) p
 rcases Nat.eq_zero_or_pos m with z | z
 ·exact .inl ⟨⟨q1,by omega⟩,hd σ H ((show i=kvs.length by omega) ▸ p)⟩
 ·refine .inr ⟨⟨q1,by omega⟩,Pv (i + 1),fun σ' H' p'=>⟨m - 1,by omega,by omega,p'⟩,fun x H' y=>?_⟩
  obtain ⟨T,k,x1,hT,rfl,hk,rfl⟩:=y
  exact hs i k x1 T σ H hk p hT
theorem for_values {P:Program}{w:World}{a:Addr}{kvs:List (Key × V)}{ep:Nat}{g:TG}{tb:TS}{D:Ends}{σ:St}{H:Hp}(Pv:Nat→St→Hp→Prop) (h0:Pv 0 σ H) (hl:∀ i σ H,i≤kvs.length→Pv i σ H→H a=some (FzD P w a kvs ep))
  (hs:∀ i k x σ H,kvs[i]? = some (k,x)→Pv i σ H→g x σ H fun σ2 H2=>tb { D with nx:=Pv (i + 1),ct:=Pv (i + 1),bk:=D.nx } σ2 H2) (hd:∀ σ H,Pv kvs.length σ H→D.nx σ H) :
  ∃ W:Nat→Nat→St→Hp→Prop,(∃ m,W 0 m σ H)∧∀ i m σ H,W i m σ H →
   ((Itw P w a kvs ep).stop i H∧D.nx σ H)∨((Itw P w a kvs ep).go i H∧∃ N:St→Hp→Prop,(∀ σ' H',N σ' H'→∃ m',m' < m∧W (i + 1) m' σ' H')∧∀ x H',(Itw P w a kvs ep).yld i H x H'→g x σ H' fun σ2 H2=>tb { D with nx:=N,ct:=N,bk:=D.nx } σ2 H2):=by
 refine ⟨fun i m σ H=>m + i=kvs.length∧Pv i σ H,⟨kvs.length,rfl,h0⟩,fun i m σ H ⟨hm,p⟩=>?_⟩
 have q1:=hl i σ H (by omega) p
 rcases Nat.eq_zero_or_pos m with z | z
 ·exact .inl ⟨⟨q1,by omega⟩,hd σ H ((show i=kvs.length by omega) ▸ p)⟩
 ·refine .inr ⟨⟨q1,by omega⟩,Pv (i + 1),fun σ' H' p'=>⟨m - 1,by omega,by omega,p'⟩,fun x H' y=>?_⟩
  obtain ⟨rfl,k,hk⟩:=y
  exact hs i k x σ _ hk p
end
end L2
namespace L2
open PySem PySem.Spec PyProof.Rows
section
variable {X:Cx}
end
end L2
namespace L2
open PySem PySem.Spec PyProof.Rows
section
variable {X:Cx}
theorem gt_list:PGet X (rIxL X.K):=by
 intro pins s σ H x y v u Q I rx ry h
 obtain ⟨p,xs,i,z,rfl,rfl,hq,he,q⟩:=h
 cases rx
 obtain ⟨t,rfl⟩:=ry
 obtain ⟨its,r,pl,hz⟩:=I.list hq
 obtain ⟨j,h1,h2,h3,h4,h5⟩:=atI_get he
 obtain ⟨w,ew,rw'⟩:=r.get h2
 have len:=r.length
 have big:=line63
 have out:EP X pins σ Q w s:=⟨z,H,I,rw',q⟩
 by_cases h0:0≤i
 ·have hj:i.toNat=j:=Option.some.inj ((seqIndex_of h0 h5).symm.trans h1)
  exact wpAny_getItem_list pl.isList h0 (by omega) (by rw [hj]; simpa using ew) out
 ·have hj:(i + (its.toArray.size:Int)).toNat=j:=by
   have h1':=(seqIndex_neg (by omega) h4).symm.trans h1
   rw [List.size_toArray,← len]
   exact Option.some.inj h1'
  exact wpAny_getItem_list_neg pl.isList (by omega) (by rw [List.size_toArray]; omega) (by omega) (by rw [hj]; simpa using ew) out
end
end L2
namespace L2
open PySem PySem.Spec PyProof.Rows PySem.W
abbrev ids (n:Nat) : Array Nat:=List.toArray (List.range n)
theorem ids_at {n i:Nat}(h:i < n) : (ids n).getD i 0=i:=by
 unfold ids Array.getD
 rw [dif_pos (by simpa using h)]
 simp
theorem asc_all {n:Nat}{cmp:Nat→Nat→(Bool→Shared→Prop)→Shared→Prop}{s:Shared}(hc:∀ i,i + 1 < n→∀ C:Bool→Shared→Prop,C false s→cmp (i + 1) i C s) {Q:Nat→Shared→Prop}(q:Q n s) :
  ∀ (f k:Nat),1≤k→k + f=n→(kas_asc (ids n) f k).kasWp cmp Q s
 | 0,k,_,e=>by
  obtain rfl:k=n:=by omega
  exact q
 | f + 1,k,k1,e=>by
  obtain ⟨j,rfl⟩ : ∃ j,k=j + 1:=⟨k - 1,by omega⟩
  show cmp ((ids n).getD (j + 1) 0) ((ids n).getD (j + 1 - 1) 0) _ s
  rw [ids_at (by omega),ids_at (by omega)]
  exact hc j (by omega) _ (asc_all hc q f (j + 2) (by omega) (by omega))
theorem count_all {n:Nat}{cmp:Nat→Nat→(Bool→Shared→Prop)→Shared→Prop}{s:Shared}(h1:1≤n) (hc:∀ i,i + 1 < n→∀ C:Bool→Shared→Prop,C false s→cmp (i + 1) i C s) {Q:Nat × Array Nat→Shared→Prop}(q:Q (n,ids n) s) :
  (kas_count n (ids n)).kasWp cmp Q s:=by
 unfold kas_count
 rw [KasT.kasWp_bind]
 refine asc_all hc ?_ (n - 1) 1 (Nat.le_refl _) (by omega)
 rw [if_pos (beq_self_eq_true n)]
 exact q
theorem run_le {n:Nat}(h:n < 128) : ∀ f,minRun' (f + 2) n 0≤n:=fun f=>by
 rw [minRun'_succ]
 split
 ·omega
 ·rw [minRun'_succ,if_pos (by omega)]
  omega
section
variable {prog:Program}{w:World}{A:Around}{E:Value→Shared→Prop} {κ:SortKind}{it:Array Keyed}{s:Shared}
theorem up_runs {n:Nat}{Q:Unit→SortSt→Shared→Prop}(h2:2≤n) (hn:n < 128) (hc:∀ i,i + 1 < n→∀ C:Bool→Shared→Prop,C false s→kas_cmp prog w A κ it (i + 1) i C s)
  (hQ:∀ st',arrOf st'=(ids n).map (kas_item it)→failedOf st'=none→Q () st' s) : kasC (model prog w) A E sortRuns' Q (kas_st κ it (ids n)) s:=by
 obtain ⟨r,rfl⟩ : ∃ r,n=r + 2:=⟨n - 2,by omega⟩
 have sz:(ids (r + 2)).size=r + 2:=by simp
 have asz:(arrOf (kas_st κ it (ids (r + 2)))).size=r + 2:=by
  show ((ids (r + 2)).map (kas_item it)).size=_
  rw [Array.size_map,sz]
 have mr:=run_le hn r
 rw [sortRuns'_eq]
 refine kasC_bind (kasC_get ?_)
 dsimp only
 simp only [asz]
 generalize minRun' (r + 2) (r + 2) 0=k at mr
 refine kasC_bind (kasC_range ?_)
 show kasC _ _ _ (forIn (0 :: 1 :: List.range' 2 r) _ _) _ _ _
 refine kasC_cons ?_
 dsimp only
 rw [if_neg (by omega)]
 simp only [Nat.sub_zero,Nat.zero_add]
 refine kasC_bind (kas_count_ (G:=fun z s'=>z=(r + 2,ids (r + 2))∧s'=s) (by omega) (by rw [sz]; exact Nat.le_refl _) (fun m p' s' _ _ _ g=>?_) (count_all (by omega) hc ⟨rfl,rfl⟩))
 obtain ⟨g1,rfl⟩:=g
 cases g1
 dsimp only
 rw [if_neg (by omega)]
 refine kasC_bind (kasC_get ?_)
 rw [show (pendingOf (kas_st κ it (ids (r + 2)))).back? = none from rfl]
 dsimp only
 refine kasC_bind (kasC_modify (kasC_pure ?_))
 show kasC _ _ _ (forIn (1 :: List.range' 2 r) _ _) _ _ _
 refine kasC_cons ?_
 dsimp only
 rw [if_pos (Nat.le_refl _)]
 refine kasC_pure ?_
 dsimp only
 refine kasC_bind (kasC_range ?_)
 show kasC _ _ _ (forIn (0 :: 1 :: List.range' 2 r) _ _) _ _ _
 refine kasC_cons ?_
 refine kasC_bind (kasC_get ?_)
 rw [if_pos (show (pendingOf (setPending (kas_st κ it (ids (r + 2))) ((pendingOf (kas_st κ it (ids (r + 2)))).push (0,r + 2,0)))).size≤1 from Nat.le_refl 1)]
 refine kasC_pure ?_
 dsimp only
 exact kasC_pure (hQ _ rfl rfl)
theorem up_run {vs:List Value}{Q:SortSt→Shared→Prop}(h2:2≤vs.length) (hn:vs.length < 128) (hc:∀ i,i + 1 < vs.length→∀ C:Bool→Shared→Prop,C false s→kas_ask prog w A κ vs (i + 1) i C s)
  (hQ:∀ st',arrOf st'=(ids vs.length).map (kas_item (vs.toArray.zip vs.toArray))→failedOf st'=none→Q st' s) : wpAny (model prog w) A ((sortRuns').run (SortSt.mk' κ (vs.toArray.zip vs.toArray) #[] 7 none)) (fun r s'=>Q r.2 s') E s:=by
 rw [kat_ask_eq rfl] at hc
 have e:=kas_range (vs.toArray.zip vs.toArray)
 rw [show (vs.toArray.zip vs.toArray).size=vs.length by simp] at e
 have st:SortSt.mk' κ (vs.toArray.zip vs.toArray) #[] 7 none=kas_st κ (vs.toArray.zip vs.toArray) (ids vs.length):=by
  show _=SortSt.mk' κ ((ids vs.length).map (kas_item (vs.toArray.zip vs.toArray))) #[] 7 none
  rw [e]
 rw [st]
 exact up_runs (Q:=fun _ st' s'=>Q st' s') h2 hn hc hQ
theorem ids_out (vs:List Value) : ((ids vs.length).toList.map fun i=>vs.getD i Value.none)=vs:=by
 apply List.ext_getElem
 ·simp
 ·intro i h3 h4
  simp [List.getD_eq_getElem?_getD,h4]
theorem list_sort_up {a:Addr}{vs:List Value}{n:Nat}{R:PySem.Fin→Shared→Prop}(ho:s.heap.get? a=some (seqObj "list" vs.toArray n)) (hn:vs.length < 128)
  (hk:2≤vs.length→∀ h',(∀ b o,b ≠ a→s.heap.get? b=some o→h'.get? b=some o)→wpAny (model prog w) A (keyKind' vs.toArray) (fun κ s'=>s' = { s with heap:=h' }∧∀ i,i + 1 < vs.length→∀ C:Bool→Shared→Prop,C false s'→kas_ask prog w A κ vs (i + 1) i C s') (fun _ _=>False) { s with heap:=h' })
  (h:R (.done (.ret .none)) { s with heap:=sortedHeap s.heap a vs vs.toArray }) :
  wpAny (model prog w) A (Builtin.«list.sort» ⟨[.ref a],[]⟩) R E s:=by
 have lz:vs.length≤sizeLine:=szB (by omega)
 obtain ⟨e1,oe⟩ : ∃ e1,(s.heap.update a (Obj.mapSeq fun _ => #[])).get? a=some (seqObj "list" #[] e1) :=
  ⟨_,get?_update_seq ho (fun _ => #[])⟩
 have oo:=offH_at (vs:=vs) oe
 rw [list_sort_plain]
 refine wpAny_bind (listItems_at ho rfl (wpAny_bind (listUpdate_at ho rfl (wpAny_bind (seqEpoch_at oe rfl (wpAny_bind (wpAny_newTuple (wpAny_bind (wpAny_newList (wpAny_holding ?_) (Nat.zero_le _))) lz)))) (by simpa using lz) (Nat.zero_le _))))
 show wpAny (model prog w) A _ R E { s with heap:=offH s.heap a vs }
 dsimp only
 by_cases few:vs.length < 2
 ·have few':vs.toArray.size < 2:=by simpa using few
  rw [if_pos few',if_pos few']
  refine wpAny_bind (wpAny_pure ?_)
  rw [StateT.run_pure]
  refine wpAny_bind (wpAny_pure ?_)
  dsimp only
  refine wpAny_bind (seqEpoch_at oo rfl (wpAny_bind (listUpdate_at oo rfl ?_ (Nat.zero_le _) (by rw [Array.size_map]; show (pairsOf vs).size≤_; rw [pairsOf_size]; exact Nat.le_succ_of_le lz))))
  rw [if_neg (by simp)]
  have e:(pairsOf vs).map (·.2)=vs.toArray:=by
   apply Array.toList_inj.mp
   rw [Array.toList_map,pairsOf_toList,List.map_snd_zip (Nat.le_refl _)]
  refine wpAny_pure ?_
  show R (.done (.ret .none)) { s with heap:=sortedHeap s.heap a vs ((pairsOf vs).map (·.2)) }
  rw [e]
  exact h
 ·have few':¬ vs.toArray.size < 2:=by simpa using few
  rw [if_neg few',if_neg few']
  have h2':2≤vs.length:=by omega
  refine wpAny_bind (wpAny_mono (hk h2' _ fun b o nb e=>offH_keep nb e) (fun κ s0 hq=>?_) fun _ _ x=>x.elim)
  obtain ⟨rfl,hq⟩:=hq
  refine wpAny_bind (wpAny_mono (up_run (E:=E) (Q:=fun st' s'=>s' = { s with heap:=offH s.heap a vs }∧arrOf st'=(ids vs.length).map (kas_item (vs.toArray.zip vs.toArray))∧failedOf st'=none) h2' hn hq fun st' a1 a2=>⟨rfl,a1,a2⟩) ?_ fun _ _ e=>e)
  rintro ⟨⟨⟩,st'⟩ s' ⟨rfl,har,hf⟩
  dsimp only
  rw [kat_snds rfl har,ids_out]
  refine wpAny_bind (seqEpoch_at oo rfl (wpAny_bind (listUpdate_at oo rfl ?_ (Nat.zero_le _) (by rw [List.size_toArray]; exact Nat.le_succ_of_le lz))))
  rw [hf,if_neg (by simp)]
  exact wpAny_pure h
theorem sorted_up {l:Addr}{vs:List Value}{Q:Value→Shared→Prop}(hl:s.heap.IsList l vs.toArray) (hn:vs.length < 128)
  (hk:2≤vs.length→∀ h',(∀ b o,s.heap.get? b=some o→h'.get? b=some o)→wpAny (model prog w) A.in1.in1 (keyKind' vs.toArray) (fun κ s'=>s' = { s with heap:=h' }∧∀ i,i + 1 < vs.length→∀ C:Bool→Shared→Prop,C false s'→kas_ask prog w A.in1.in1 κ vs (i + 1) i C s') (fun _ _=>False) { s with heap:=h' })
  (h:Q (.ref (s.heap.objs.size + 1)) { s with heap:=sortedAll s.heap vs vs.toArray }) : wpAny (model prog w) A (call (.builtin "sorted") [.ref l]) Q E s:=by
 have lz:vs.length≤sizeLine:=szB (by omega)
 have oL:=inH_at s.heap vs
 refine Calls.call_function_entry kind_sorted plain_sorted entry_sorted (args_sorted1 _) ?_
 unfold Builtin.«sorted»
 refine wpAny_bind (m:=checkCount "sorted" 1 1 _) (wpAny_pure (wpAny_bind (collect_list hl (wpAny_bind (wpAny_newList ?_ lz)) lz)))
 show wpAny _ _ _ _ _ { s with heap:=inH s.heap vs }
 rw [inH_size]
 refine wpAny_bind (wpAny_holding (wpAny_call_entry slot_list_sort ⟨_,oL,rfl⟩ entry_list_sort (list_sort_up oL hn (fun h2 h' kk=>?_) ⟨_,rfl,?_⟩) (args_list_sort _)))
 ·exact hk h2 h' fun b o e=>kk b o (Nat.ne_of_lt (Nat.lt_succ_of_lt (Heap.lt_size e))) (inH_keep e)
 ·exact wpAny_pure ⟨_,rfl,h⟩
end
section
variable {X:Cx}
theorem call_sortedPU:CallR X (.builtin "sorted") (fun xs H Q=>∃ (p:Addr) (ys:List V) (ws:List Str),xs = [.ref p]∧SqL X.K H p ys∧ys.length < 128∧ws.Pairwise (fun a b=>a.cps.toList < b.cps.toList)∧ys.length=ws.length∧(∀ (i:Nat) (y:V),ys[i]? = some y→∃ a x z,ws[i]? = some x∧y = .ref a∧H a=some (.tup [.str x,.str z])) ∧
  ∀ (q:Addr),H q=none→Q (.ref q) (upd H q (.lst ys))):=by
 intro pins s σ H xs us Q I r h
 obtain ⟨p,ys,ws,rfl,hp,hn,up,lw,hy,q⟩:=h
 have nd:ws.Nodup:=up.imp fun {a b} z e=>by rw [e] at z; exact List.lt_irrefl _ z
 obtain ⟨u,rfl,ru⟩:=vals1 r
 cases ru
 obtain ⟨its,rv,pl,hz⟩:=I.list hp
 have hl:=rv.length
 have pr:PairsW s.heap its ws:=by
  refine ⟨by omega,fun i v hv=>?_⟩
  have hi:=(List.getElem?_eq_some_iff.mp hv).1
  have iy:i < ys.length:=by omega
  obtain ⟨v',e',rr⟩:=rv.get (i:=i) (List.getElem?_eq_getElem iy)
  rw [hv] at e'
  obtain rfl:=Option.some.inj e'
  obtain ⟨a,x,z,ew,ey,ha⟩:=hy i ys[i] (List.getElem?_eq_getElem iy)
  rw [ey] at rr
  have rr:v=Value.ref a:=rr
  obtain ⟨its2,r2,⟨o,eo,oc,n,od⟩,_⟩:=I.tuple (SqT.of ha)
  obtain ⟨v1,v2,rfl,⟨t1,rfl⟩,⟨t2,rfl⟩⟩:=r2.two
  exact ⟨a,o,n,x,z,t1,t2,ew,rr,eo,oc,od⟩
 refine sorted_up pl.isList (by omega) (fun h2 h' kk=>?_) ?_
 ·have pr':PairsW h' its ws:=⟨pr.1,fun i v hv=>by
   obtain ⟨a,o,n,x,y,t,u,e1,e2,ho,r⟩:=pr.2 i v hv
   exact ⟨a,o,n,x,y,t,u,e1,e2,kk _ _ ho,r⟩⟩
  obtain ⟨fs,k,lf,ff⟩:=pr'.pairs.kat
  refine kat_kind (T:=.type "str") k (by omega) (fun v hv=>?_) rfl ⟨rfl,fun i hi C hC=>pairsW_ask pr' nd hi (by omega) ?_⟩
  ·obtain ⟨x,t,rfl⟩:=ff v hv
   exact .now
  ·have lt:ltBy ws (i + 1) i=false:=by
    unfold ltBy
    have i1:i + 1 < ws.length:=by omega
    have:=List.pairwise_iff_getElem.mp up i (i + 1) (by omega) i1 (Nat.lt_succ_self i)
    rw [List.getD_eq_getElem?_getD,List.getD_eq_getElem?_getD,List.getElem?_eq_getElem i1,List.getElem?_eq_getElem (show i < ws.length by omega)]
    exact decide_eq_false (List.lt_asymm this)
   rw [lt]
   exact hC
 obtain ⟨n,en⟩:=sortedAll_at s.heap its its.toArray
 have hq:H (s.heap.objs.size + 1)=none:=I.hok.fresh (Nat.le_succ _)
 refine ⟨.ref (s.heap.objs.size + 1),_,I.laid (t':=s.toks) (o:=.lst ys) (fun b o e=>sortedAll_old e) (Nat.le_succ _) ⟨?_,its,n,rv,?_⟩,rfl,q _ hq⟩
 ·exact szB (by omega)
 ·simpa using en
end
end L2
namespace L2
open PySem
def Soft {α:Type} : Sem α→Prop
 | .rule _ k=>Soft (k ())
 | .at _ k=>Soft (k ())
 | .point _ k=>Soft (k ())
 | .load _ _ k=>∀ o,Soft (k o)
 | .update _ _ f k=>(∀ o,(f o).dict=o.dict∧(f o).isFreed=o.isFreed)∧Soft (k ())
 | .alloc _ k=>∀ a,Soft (k a)
 | .loadIfAlive _ k=>∀ o,Soft (k o)
 | .fresh k=>∀ x,Soft (k x)
 | .ask k=>∀ x,Soft (k x)
 | .handled _ k=>∀ x,Soft (k x)
 | .stack k=>∀ l,Soft (k l)
 | .pure _ | .raise _ | .unsupported _ | .finish _=>True
 | .register _ _=>True
 | _=>False
def KeptD (h h':Heap) : Prop:=∀ b o,h.get? b=some o→∃ o',h'.get? b=some o'∧o'.dict=o.dict
theorem KeptD.refl (h:Heap) : KeptD h h:=fun _ o e=>⟨o,e,rfl⟩
theorem KeptD.trans {h1 h2 h3:Heap}(x:KeptD h1 h2)(y:KeptD h2 h3) : KeptD h1 h3:=fun b o e =>
 let ⟨o1,e1,d1⟩:=x b o e; let ⟨o2,e2,d2⟩:=y b o1 e1; ⟨o2,e2,d2.trans d1⟩
theorem KeptD.push (h:Heap)(o:Obj) : KeptD h (h.push o):=fun _ u e=>⟨u,Heap.get?_push_of_some o e,rfl⟩
theorem KeptD.upd (h:Heap){a:Addr}{f:Obj→Obj}(hf:∀ o,(f o).dict=o.dict∧(f o).isFreed=o.isFreed) : KeptD h (h.update a f):=fun b o e=>by
 by_cases q:a=b
 ·subst q
  exact ⟨f o,Heap.get?_update_self f e ((hf o).2.trans (Heap.get?_some_iff.mp e).2),(hf o).1⟩
 ·exact ⟨o,(Heap.get?_update_other h f q).trans e,rfl⟩
theorem soft_wp {α:Type}{M:Model} {Γ:Ctx}{E:Value→Pos→Shared→Prop} : ∀ (t:Sem α) {Q:α→Pos→Shared→Prop}{p:Pos}{s:Shared}(_:Soft t) (_:t.wp M Γ Q E p s),t.wp M Γ (fun a p' s'=>Q a p' s'∧KeptD s.heap s'.heap) E p s:=by
 intro t
 induction t with
 | pure a=>intro Q p s _ w; exact ⟨w,KeptD.refl _⟩
 | raise e=>intro Q p s _ w; exact w
 | unsupported _=>intro Q p s _ w; exact w
 | finish _=>intro Q p s _ w; exact w
 | rule _ k ih=>intro Q p s c w; exact ih () c w
 | «at» p' k ih=>intro Q p s c w; exact ih () c w
 | point _ k ih=>intro Q p s c w; exact ih () c w
 | load a part k ih=>intro Q p s c w; obtain ⟨o,e,w⟩:=w; exact ⟨o,e,ih o (c o) w⟩
 | update a part f k ih =>
  intro Q p s c w
  obtain ⟨e,w⟩:=w
  have z:=ih () c.2 w
  exact ⟨e,Sem.wp_mono M Γ _ (fun _ _ _ q=>⟨q.1,(KeptD.upd s.heap c.1).trans q.2⟩) (fun _ _ _ q=>q) _ _ z⟩
 | alloc o k ih =>
  intro Q p s c w
  have z:=ih _ (c s.heap.objs.size) w
  exact Sem.wp_mono M Γ _ (fun _ _ _ q=>⟨q.1,(KeptD.push s.heap o).trans q.2⟩) (fun _ _ _ q=>q) _ _ z
 | loadIfAlive a k ih=>intro Q p s c w; exact ih _ (c _) w
 | fresh k ih=>intro Q p s c w; exact ih _ (c _) w
 | ask k ih=>intro Q p s c w; exact ih _ (c _) w
 | handled o k ih=>intro Q p s c w; exact ih _ (c _) w
 | stack k ih=>intro Q p s c w; exact ih _ (c _) w
 | register _ _ _=>intro Q p s _ w; exact w
 | choose _ _ _ _=>intro Q p s c w; exact False.elim c
 | os _ _ _ _=>intro Q p s c w; exact False.elim c
 | call _ _ _ _ _ _=>intro Q p s c w; exact False.elim c
 | newGen _ _ _=>intro Q p s c w; exact False.elim c
 | genState _ _ _=>intro Q p s c w; exact False.elim c
 | resume _ _ _ _ _=>intro Q p s c w; exact False.elim c
 | yield _ _ _ _ _=>intro Q p s c w; exact False.elim c
 | fork _ _ _=>intro Q p s c w; exact False.elim c
 | thread _ _=>intro Q p s c w; exact False.elim c
 | await _ _ _ _ _ _=>intro Q p s c w; exact False.elim c
theorem soft_bind {α β:Type}{f:α→Sem β} : ∀ (m:Sem α) (_:Soft m) (_:∀ a,Soft (f a)),Soft (m >>= f):=by
 intro m
 show Soft m→(∀ a,Soft (f a))→Soft (m.bind f)
 induction m with
 | pure a=>intro _ h; exact h a
 | raise e=>intro _ _; trivial
 | unsupported _=>intro _ _; trivial
 | finish _=>intro _ _; trivial
 | rule _ k ih=>intro c h; exact ih () c h
 | «at» p' k ih=>intro c h; exact ih () c h
 | point _ k ih=>intro c h; exact ih () c h
 | load a part k ih=>intro c h; exact fun o=>ih o (c o) h
 | update a part g k ih=>intro c h; exact ⟨c.1,ih () c.2 h⟩
 | alloc o k ih=>intro c h; exact fun a=>ih a (c a) h
 | loadIfAlive a k ih=>intro c h; exact fun o=>ih o (c o) h
 | fresh k ih=>intro c h; exact fun x=>ih x (c x) h
 | ask k ih=>intro c h; exact fun x=>ih x (c x) h
 | handled o k ih=>intro c h; exact fun x=>ih x (c x) h
 | stack k ih=>intro c h; exact fun x=>ih x (c x) h
 | register _ _ _=>intro _ _; trivial
 | choose _ _ _ _=>intro c _; exact False.elim c
 | os _ _ _ _=>intro c _; exact False.elim c
 | call _ _ _ _ _ _=>intro c _; exact False.elim c
 | newGen _ _ _=>intro c _; exact False.elim c
 | genState _ _ _=>intro c _; exact False.elim c
 | resume _ _ _ _ _=>intro c _; exact False.elim c
 | yield _ _ _ _ _=>intro c _; exact False.elim c
 | fork _ _ _=>intro c _; exact False.elim c
 | thread _ _=>intro c _; exact False.elim c
 | await _ _ _ _ _ _=>intro c _; exact False.elim c
theorem soft_any {α:Type}{M:Model}{A:Around}{t:Sem α}{Q:α→Shared→Prop}{E:Value→Shared→Prop}{s:Shared}(c:Soft t)(h:wpAny M A t Q E s) : wpAny M A t (fun a s'=>Q a s'∧KeptD s.heap s'.heap) E s :=
 fun Γ p hi=>soft_wp t c (h Γ p hi)
theorem soft_if {α:Type}{c:Prop} [Decidable c]{a b:Sem α}(ha:Soft a)(hb:Soft b) : Soft (if c then a else b):=by split <;> assumption
theorem soft_fieldsOf (v:Value) : Soft (fieldsOf v):=by
 unfold fieldsOf
 split
 ·refine soft_bind _ (fun o=>trivial) fun o=>?_
  split <;> trivial
 ·trivial
theorem soft_field (v:Value)(i:Nat) : Soft (field v i):=by
 unfold field
 refine soft_bind _ (soft_fieldsOf v) fun vs=>?_
 split <;> trivial
theorem soft_mapFields (f:Array Value→Array Value)(o:Obj) : (Obj.mapFields f o).dict=o.dict∧(Obj.mapFields f o).isFreed=o.isFreed:=by
 obtain ⟨c,d,dt,sl⟩:=o
 cases dt <;> exact ⟨rfl,rfl⟩
theorem soft_setField (v:Value)(i:Nat)(x:Value) : Soft (setField v i x):=by
 unfold setField
 split
 ·unfold updateField
  refine soft_bind _ (fun o=>trivial) fun o=>?_
  split
  ·split
   ·exact ⟨fun o=>soft_mapFields _ o,trivial⟩
   ·trivial
  ·trivial
 ·trivial
theorem soft_setFlight (e:Value)(f:Option Addr) : Soft (setFlight e f):=by
 unfold setFlight
 refine soft_bind _ (soft_field e 1) fun tb=>?_
 split
 ·exact soft_setField _ _ _
 ·trivial
theorem soft_readyFrames:∀ l:List Env,Soft (readyFrames l)
 | []=>trivial
 | env :: outer=>by
  unfold readyFrames
  split
  ·rename_i f hf
   refine soft_bind _ (fun o=>trivial) fun o=>?_
   split
   ·trivial
   ·refine soft_bind _ ?_ fun b=>soft_bind _ ?_ fun v=>soft_bind _ ⟨fun o=>⟨rfl,by obtain ⟨_,_,dt,_⟩:=o; cases dt <;> rfl⟩,trivial⟩ fun _=>soft_readyFrames outer
    ·unfold behindIsImport
     split
     ·trivial
     ·split
      ·trivial
      ·exact soft_bind _ (soft_field _ _) fun _=>trivial
    ·unfold keptBack
     split
     ·split
      ·trivial
      ·refine soft_bind _ ?_ fun _=>trivial
       exact soft_bind (stack) (fun _=>trivial) fun _=>trivial
     ·trivial
  ·trivial
theorem soft_frameOf (env:Env) : Soft (frameOf env):=by
 unfold frameOf
 refine soft_bind _ ?_ fun l=>soft_bind _ ?_ fun r=>?_
 ·unfold frameEnvs
  exact soft_bind (stack) (fun _=>trivial) fun _=>trivial
 ·unfold frameObject
  split
  ·trivial
  ·exact soft_bind _ (soft_readyFrames _) fun _=>trivial
 ·split <;> trivial
theorem soft_entryPlaceOf (f:Addr)(b:Bool) : Soft (entryPlaceOf f b):=by
 unfold entryPlaceOf
 refine soft_bind (stack) (fun _=>trivial) fun l=>?_
 split <;> trivial
theorem soft_newEntry (a b c d e:Value)(l:List Value) : Soft (EntryCells.newEntry a b c d e l):=by
 unfold EntryCells.newEntry newFields newObj
 refine soft_if trivial ?_
 unfold newObjAsIs
 exact soft_bind (alloc _) (fun _=>trivial) fun _=>trivial
theorem soft_noteFrame (e:Value)(env:Env) : Soft (noteFrame e env):=by
 unfold noteFrame
 split
 ·refine soft_bind _ (soft_field _ _) fun head=>?_
  have z:Soft (do setField e 1 (← EntryCells.newEntry head (← frameOf env) .none (rawInt (‹Addr› : Nat)) .none (← entryPlaceOf ‹Addr› (head != .none)))) :=
   soft_bind _ (soft_frameOf env) fun a=>soft_bind _ (soft_entryPlaceOf _ _) fun pl=>soft_bind _ (soft_newEntry _ _ _ _ _ _) fun b=>soft_setField _ _ _
  split
  ·refine soft_bind _ (soft_field _ _) fun fl=>?_
   split
   ·trivial
   ·exact soft_bind _ (soft_setField _ _ _) fun _=>z
  ·exact z
 ·trivial
theorem soft_leaving (env:Env)(e:Value) : Soft (leaving env e):=soft_bind _ (soft_noteFrame e env) fun _=>soft_setFlight e none
end L2
namespace L2
open PySem PySem.Spec PyProof.Rows
abbrev excObj (C t:Addr) (od:Option Addr) : Obj:={ cls:=.ref C,dict:=od,data:=.fields #[.ref t,.none,.none,.none,.bool false,.none] }
section
variable {prog:Program}{w:World}{A:Around}{E:Value→Shared→Prop}{h:Heap}{g:Array GenState}{d:Drawn}{t:Nat}{os:OsState}
variable {nm q:Str}{C N f:Addr}{bs bm bmB:List Value}{hdct:Bool}{sn:List Str}{sub:List Value}{ab:Bool}{col:Option Bool}{dd:Option Addr}{k0 k1 k2 k3 k5:Option Value}{B newId initId:String}{mN:Str→Option Value}{us:List Value}
theorem type_call_init (F:ExcBaseFacts B newId initId bmB) (T:OwnTail h bmB bm) {of_:Obj}{Q:Fin→Shared→Prop}(hC:h.get? C=some (excClassObj nm q C N bs bm hdct sn sub ab col dd k0 k1 k2 k3 k5 newId)) {K:PySem.W.Frag}(KX:K.In h) (hi:PySem.W.findIn K (.ref C) "__init__" = some (some (.ref f)))
  (hf:h.get? f=some of_) (hfc:of_.cls = .type "function") (hl:us.length≤sizeLine)
  (hq:wpAny (model prog w) A (call (.ref f) (.ref (h.objs.size + 1) :: us)) (fun r s'=>r = .none∧Q (.done (.ret (.ref (h.objs.size + 1)))) s') E
   ⟨(h.push { cls:=.type "tuple", data:=.seq us.toArray }).push (excObj C h.objs.size none),g,d,t,os⟩) :
  wpAny (model prog w) A (Builtin.«type.__call__» ⟨.ref C :: us,[]⟩) Q E ⟨h,g,d,t,os⟩:=by
 repeat (first | (with_reducible refine wpAny_loadPart_at hC ?_) | (with_reducible refine wpAny_madeBy_exc hC ?_) | wp_step)
 refine codeAny_call_builtin_code (Code.quiet_builtin _ F.quiet) (wpAny_check_new_subT F T hC (codeAny_exc_new_subT F T hC ?_ hl))
 show wpAny _ _ _ _ _ _
 have up:∀ b o,h.get? b=some o→((h.push { cls:=.type "tuple", data:=.seq us.toArray }).push (excObj C h.objs.size none)).get? b=some o:=fun b o z=>Heap.get?_push_of_some _ (Heap.get?_push_of_some _ z)
 have he:((h.push { cls:=.type "tuple", data:=.seq us.toArray }).push (excObj C h.objs.size none)).get? (h.objs.size + 1)=some (excObj C h.objs.size none):=Heap.get?_push_at (by rw [Heap.size_push]) rfl
 have hC2:=up _ _ hC
 have hf2:=up _ _ hf
 have KX2:K.In ((h.push { cls:=.type "tuple", data:=.seq us.toArray }).push (excObj C h.objs.size none)):=fun b o z=>up b o (KX b o z)
 have own:(Value.ref C :: bm).contains (.ref C)=true:=by simp
 generalize (h.push { cls:=.type "tuple", data:=.seq us.toArray }).push (excObj C h.objs.size none)=h2 at up he hC2 hf2 KX2 hq ⊢
 unfold isInstance
 repeat (first | (with_reducible refine wpAny_loadPart_at he ?_) | (with_reducible refine wpAny_isSubtype_exc hC2 ?_; rw [own]) | wp_step)
 refine (PySem.W.looks_findIn (M:=model prog w) KX2 hi).here ?_
 refine wpAny_holding (wpAny_bind ?_)
 unfold bindSpecial
 refine wpAny_bind (wpAny_typeOf (T := "function") ⟨_,hf2,hfc⟩ ?_)
 rw [if_pos (by decide)]
 refine wpAny_pure (wpAny_bind (wpAny_mono hq (fun r s' z=>?_) fun _ _ z=>z))
 obtain ⟨rfl,z⟩:=z
 wp_walk
 exact z
theorem call_init (F:ExcBaseFacts B newId initId bmB) (T:OwnTail h bmB bm) {of_:Obj}{Q:Value→Shared→Prop}(hC:h.get? C=some (excClassObj nm q C N bs bm hdct sn sub ab col dd k0 k1 k2 k3 k5 newId)) {K:PySem.W.Frag}(KX:K.In h) (hi:PySem.W.findIn K (.ref C) "__init__" = some (some (.ref f)))
  (hf:h.get? f=some of_) (hfc:of_.cls = .type "function") (hl:us.length≤sizeLine)
  (hq:wpAny (model prog w) (A.under (.builtin "type.__call__" ⟨.ref C :: us,[]⟩)) (call (.ref f) (.ref (h.objs.size + 1) :: us)) (fun r s'=>r = .none∧Q (.ref (h.objs.size + 1)) s') E
   ⟨(h.push { cls:=.type "tuple", data:=.seq us.toArray }).push (excObj C h.objs.size none),g,d,t,os⟩) :
  wpAny (model prog w) A (call (.ref C) us) Q E ⟨h,g,d,t,os⟩:=by
 have l1:=tc_lookup
 have l2:=tc_bind (.ref C)
 have ty:(⟨h,g,d,t,os⟩ : Shared).TypeIs (.ref C) "type" := ⟨_,hC,rfl⟩
 refine wpAny_call (codeAny_of_tree (show wpAny _ _ (callAny (.ref C) _) _ _ _ from ?_))
 repeat (any_goals (first | assumption | (with_reducible refine wpAny_loadPart_at hC ?_) | wp_step))
 exact ⟨rfl,codeAny_call_builtin_at (Code.quiet_builtin _ (by decide +kernel)) entry_typeCall (wpAny_check_type_call_sub hC (type_call_init F T hC KX hi hf hfc hl hq))⟩
theorem base_init (F:ExcBaseFacts B newId initId bmB) (T:OwnTail h bmB bm) {e t0:Addr}{od:Option Addr}{Q:Value→Shared→Prop}(hC:h.get? C=some (excClassObj nm q C N bs bm hdct sn sub ab col dd k0 k1 k2 k3 k5 newId)) (he:h.get? e=some (excObj C t0 od)) (hl:us.length≤sizeLine)
  (hq:Q .none ⟨(h.push { cls:=.type "tuple", data:=.seq us.toArray }).update e (Obj.mapFields (·.setIfInBounds 0 (.ref h.objs.size))),g,d,t,os⟩) :
  wpAny (model prog w) A (call (.builtin initId) (.ref e :: us)) Q E ⟨h,g,d,t,os⟩:=by
 refine wpAny_call (codeAny_call_builtin F.init.plain F.initEntry (wpAny_check_init_subT F T hC he rfl ?_))
 wp_walk
 exact hq
end
end L2
namespace L2
open PySem PySem.Spec PyProof.Rows Builtin Builtin.ObjectAttr
theorem refuse_tail {self:Value}{what:Str}{h:Heap}{bmB bm:List Value}(T:OwnTail h bmB bm)(hp:refuseLoop self what bmB=pure ()) : refuseLoop self what bm=pure ():=by
 induction T with
 | base=>exact hp
 | own _ _ _ _ ih=>rw [refuseLoop_ref]; exact ih
section
variable {prog:Program}{w:World}{A:Around}{E:Value→Shared→Prop}{h:Heap}{g:Array GenState}{d:Drawn}{t:Nat}{os:OsState}
variable {nm q:Str}{C N x t0:Addr}{bs bm bmB:List Value}{sn:List Str}{sub:List Value}{ab:Bool}{col:Option Bool}{dd:Option Addr}{k0 k1 k2 k3 k5:Option Value}{B newId:String}{K:PySem.W.Frag}{name:Str}{v:Value}
theorem exc_store_entry {tk:Tok}{Q:Fin→Shared→Prop}(KX:K.In h) (hna:PySem.W.findIn K (.ref C) name=some none) (T:OwnTail h bmB bm) (hp:∀ self:Value,refuseLoop self "__setattr__" bmB=pure ())
  (hC:h.get? C=some (excClassObj nm q C N bs bm true sn sub ab col dd k0 k1 k2 k3 k5 newId)) (hx:h.get? x=some (excObj C t0 none))
  (hq:∀ h' tk',h'.get? x=some (excObj C t0 (some h.objs.size))→h'.Ns1 h.objs.size (fun y=>if y=name then some v else none)→(∀ b o,b ≠ x→h.get? b=some o→h'.get? b=some o)→Q (.done (.ret .none)) ⟨h',g,d,tk',os⟩) :
  wpAny (model prog w) A (Builtin.«object.__setattr__» ⟨[.ref x,.str name tk,v],[]⟩) Q E ⟨h,g,d,t,os⟩:=by
 have pass:=refuse_tail (self:=.ref x) T (hp (.ref x))
 obtain ⟨o,eo⟩ : ∃ o,o=excObj C t0 none:=⟨_,rfl⟩
 rw [← eo] at hx
 have hc:o.cls = .ref C:=by rw [eo]
 have hdn:o.dict=none:=by rw [eo]
 have LN:=PySem.W.looks_findIn (M:=model prog w) KX hna
 unfold Builtin.«object.__setattr__»
 repeat (first | rw [refuse_eq] | (rw [refuseLoop_ref,pass]) | (with_reducible refine wpAny_loadPart_at hx ?_; rw [hc]) | (with_reducible refine wpAny_mroOf_exc hC ?_) | (with_reducible refine PySem.W.Looks.at LN ?_) | wp_step)
 rw [hdn,if_neg (by simp [typeHasDict])]
 split
 ·rename_i z
  cases z
 split
 ·rename_i z
  rw [eo] at z
  cases z
 subst eo
 have hx1:(h.push { cls:=.type "dict", data:=.dict #[] }).get? x=some (excObj C t0 none):=Heap.get?_push_of_some _ hx
 have ne:x ≠ h.objs.size:=Nat.ne_of_lt (Heap.lt_size hx)
 refine wpAny_bind (wpAny_alloc' (wpAny_bind (wpAny_update' hx1 (wpAny_pure ?_))))
 have gd:((h.push { cls:=.type "dict", data:=.dict #[] }).update x fun o=>{ cls:=o.cls,dict:=some h.objs.size,data:=o.data,slots:=o.slots }).get? h.objs.size=some { cls:=.type "dict", data:=.dict #[] } :=
  (Heap.get?_update_ne _ _ _ _ ne.symm).trans (Heap.get?_push_at rfl rfl)
 have gx:((h.push { cls:=.type "dict", data:=.dict #[] }).update x fun o=>{ cls:=o.cls,dict:=some h.objs.size,data:=o.data,slots:=o.slots }).get? x=some (excObj C t0 (some h.objs.size)):=Heap.get?_update_self _ hx1 rfl
 have gb:∀ b o,b ≠ x→h.get? b=some o→((h.push { cls:=.type "dict", data:=.dict #[] }).update x fun o=>{ cls:=o.cls,dict:=some h.objs.size,data:=o.data,slots:=o.slots }).get? b=some o:=fun b o nb e=>(Heap.get?_update_ne _ _ _ _ nb).trans (Heap.get?_push_of_some _ e)
 show wpAny _ _ (storeInDict h.objs.size (.str name tk) name v) _ _ _
 have nd:((h.push { cls:=.type "dict", data:=.dict #[] }).update x fun o=>{ cls:=o.cls,dict:=some h.objs.size,data:=o.data,slots:=o.slots }).Ns h.objs.size (fun _=>none):=⟨_,#[],_,gd,rfl,fun e he=>absurd he (by simp),fun _=>rfl⟩
 generalize (h.push { cls:=.type "dict", data:=.dict #[] }).update x (fun o=>{ cls:=o.cls,dict:=some h.objs.size,data:=o.data,slots:=o.slots })=h1 at gd gx gb nd ⊢
 unfold storeInDict newKeyGuard
 refine wpAny_bind (wpAny_pure (wpAny_bind (wpAny_nsSet1 (Heap.Ns1.of_empty nd) fun h' n' sb=>?_)))
 obtain ⟨oD,esD,epD,hoD,hdD,hcD⟩:=n'.count (Within.cons name v Within.nil)
 refine wpAny_bind (wpAny_lookBehind hoD (by rw [hdD]; exact pastItsLine_dict (Nat.le_trans hcD (by rw [List.length_cons,List.length_nil,sizeLine_eq]; omega))) ?_)
 wp_walk
 exact hq h' _ ((sb.2 x ne).trans gx) n' fun b o nb e=>(sb.2 b (Nat.ne_of_lt (Heap.lt_size e))).trans (gb b o nb e)
theorem exc_store {owner:String}{Q:Unit→Shared→Prop}(KX:K.In h) (hsa:PySem.W.findIn K (.ref C) "__setattr__" = some (some (.builtin "object.__setattr__"))) (hna:PySem.W.findIn K (.ref C) name=some none) (hmo:PySem.W.mroIn K C (.type "object")=some true) (T:OwnTail h bmB bm) (SF:StoreFacts B bmB "object.__setattr__" owner)
  (hC:h.get? C=some (excClassObj nm q C N bs bm true sn sub ab col dd k0 k1 k2 k3 k5 newId)) (hx:h.get? x=some (excObj C t0 none))
  (hq:∀ h' tk',h'.get? x=some (excObj C t0 (some h.objs.size))→h'.Ns1 h.objs.size (fun y=>if y=name then some v else none)→(∀ b o,b ≠ x→h.get? b=some o→h'.get? b=some o)→Q () ⟨h',g,d,tk',os⟩) :
  wpAny (model prog w) A (setAttr (.ref x) name v) Q E ⟨h,g,d,t,os⟩:=by
 have bd:=SF.slot.bind (.ref x)
 have LS:=PySem.W.looks_findIn (M:=model prog w) KX hsa
 unfold setAttr callSpecial? specialOf
 repeat (any_goals (first | assumption | (with_reducible refine wpAny_loadPart_at hx ?_) | (with_reducible refine PySem.W.Looks.at LS ?_) | wp_step))
 have ck:∀ {nv:Value}{Q':Unit→Shared→Prop}{A':Around}{E':Value→Shared→Prop}{tk:Nat},Q' () ⟨h,g,d,tk,os⟩→wpAny (model prog w) A' (checkBuiltinCall "object.__setattr__" ⟨[.ref x,nv,v],[]⟩) Q' E' ⟨h,g,d,tk,os⟩:=fun {nv Q' A' E' tk} hq'=>by
  have OF:=PySem.F.store_object
  have LB:=PySem.W.looks_mroIn (M:=model prog w) KX hmo
  have ha:=OF.args (.ref x) nv v
  simp only [checkBuiltinCall,OF.kind,OF.split]
  refine wpAny_bind ?_
  unfold isInstance
  repeat (first | (with_reducible refine wpAny_loadPart_at hx ?_) | (with_reducible refine PySem.W.Looks.at LB ?_) | wp_step)
  exact hq'
 refine codeAny_call_builtin SF.slot.plain SF.entry (ck (exc_store_entry KX hna T SF.passes hC hx fun h' tk' a b c=>?_))
 repeat (any_goals (first | assumption | wp_step))
 exact hq h' tk' a b c
end
end L2
namespace L2
open PySem PySem.Spec PyProof.Rows
section
variable {prog:Program}{w:World}{A:Around}{E:Value→Shared→Prop}{h:Heap}{g:Array GenState}{d:Drawn}{t:Nat}{os:OsState}{a C dx:Addr}{o:Obj}{vs:Array Value}{K:PySem.W.Frag}{name:Str}{v:Value}{mA:Str→Option Value}
end
end L2
namespace L2
open PySem PySem.Spec PyProof.Rows
abbrev VB:List Value:=[.type "ValueError", .type "Exception", .type "BaseException", .type "object"]
abbrev exN (ea C:Addr) (od:Option Addr) : HO:=.ext fun h=>∃ t:Addr,h.get? ea=some (excObj C t od)
theorem exN_ok {P:Program}{w:World}{H:Hp}{h:Heap}{ea C t:Addr}{od:Option Addr}(e:h.get? ea=some (excObj C t od)) : ObjOk P w H h ea (exN ea C od):=⟨⟨t,e⟩,⟨_,e⟩,fun _ _ ⟨t',e'⟩ k=>⟨t',k _ e'⟩⟩
def excD (K:PySem.W.Frag)(C:Addr) : Bool:=match K.lookup C with
 | some o=>(match o.data with
  | .cls cd=>o.cls == .type "type" && (cd.mro == .ref C :: cd.mro.tail && (o.slots.toList == [o.slots.getD 0 none,o.slots.getD 1 none,o.slots.getD 2 none,o.slots.getD 3 none,some (.builtin "ValueError.__new__"),o.slots.getD 5 none] && (cd.hasDel == false && (cd.hasDict && PySem.W.tailIn K VB cd.mro.tail))))
  | _=>false)
 | none=>false
theorem excD_of {K:PySem.W.Frag}{C:Addr}{h:Heap}(KX:K.In h) (e:excD K C=true) :
  ∃ nm q N bs bm sn sub ab col dd k0 k1 k2 k3 k5,h.get? C=some (excClassObj nm q C N bs bm true sn sub ab col dd k0 k1 k2 k3 k5 "ValueError.__new__")∧OwnTail h VB bm:=by
 unfold excD at e
 split at e
 ·rename_i o ho
  split at e
  ·rename_i cd hd
   simp only [Bool.and_eq_true,beq_iff_eq] at e
   obtain ⟨e1,e2,e3,e4,e5,e6⟩:=e
   obtain ⟨oc,od,dt,⟨sl⟩⟩:=o
   obtain ⟨nm,bs,mro,ns,qn,hdi,sn,sub,ab,col,del⟩:=cd
   dsimp only at *
   subst e1 hd e4 e5
   have hx:=KX _ _ ho
   generalize hb:mro.tail=bm at *
   subst e2
   generalize (Array.getD { toList:=sl } 0 none)=k0 at *
   generalize (Array.getD { toList:=sl } 1 none)=k1 at *
   generalize (Array.getD { toList:=sl } 2 none)=k2 at *
   generalize (Array.getD { toList:=sl } 3 none)=k3 at *
   generalize (Array.getD { toList:=sl } 5 none)=k5 at *
   subst e3
   exact ⟨nm,qn,ns,bs,bm,sn,sub,ab,col,od,k0,k1,k2,k3,k5,hx,PySem.W.tail_of_in KX e6⟩
  ·cases e
 ·cases e
structure ExcN (K:PySem.W.Frag) (mg:Str→Option Value) (x:Str) (C f:Addr) : Prop where
 at':mg x=some (.ref C)
 ob:excD K C=true
 init:PySem.W.findIn K (.ref C) "__init__" = some (some (.ref f))
 fn:PySem.W.isFn K (.ref f)=true
 kp:PySem.W.keepIn K (.ref C)=true
 sa:PySem.W.findIn K (.ref C) "__setattr__" = some (some (.builtin "object.__setattr__"))
 hd:PySem.W.hasDictIn K C=true
 i:ExcI K C
structure ClsI (K:PySem.W.Frag) (C:Addr) : Prop where
 sg:PySem.W.specialIn K (.ref C) "__getattribute__" = some (some (.builtin "type.__getattribute__"))
 rd:PySem.W.readsIn K C (.type "type")=true
 fc:PySem.W.findCls K (.ref C) (.type "type") "__init__" = some (.val (.builtin "ValueError.__init__"))
section
variable {X:Cx}{C Cp:Addr}{o value e:Expr}{es:List Expr}{f:Str}{pos apos pos':Pos}{ta tv:TE}{t:TA}
def tBaseI (K:PySem.W.Frag)(Cp:Addr)(ta:TE)(t:TA) : TE:=fun σ H Q=>ta σ H fun x H1=>x = .ref Cp∧t σ H1 fun vs H2=>∃ ea C od ws,vs = .ref ea :: ws∧H2 ea=some (exN ea C od)∧excD K C=true∧ws.length≤sizeLine∧Q .non H2
theorem pe_baseI {pl:Sem Bool}(he:PE X o ta) (c:ClsI X.K Cp) (ha:PA X (e :: es) t)
  (hst:starEach (e :: es) X.env=(false,eval e X.env) :: starEach es X.env:=by rfl) (hpl:(backTo pos (starEach es X.env)).any (·.1)=false:=by rfl)
  (ht:eval (.Call (.Attribute o "__init__" apos) (e :: es) [] pos) X.env=(do
   let ov ← eval o X.env
   standAt apos.atName
   let (f,first) ← holding [ov] (getMethod ov "__init__" pl)
   callWith pos f first (backTo pos (starEach (e :: es) X.env)) (backToKw pos (keywordEach [] X.env))):=by rfl) :
  PE X (.Call (.Attribute o "__init__" apos) (e :: es) [] pos) (tBaseI X.K Cp ta t):=by
 intro pins s σ H Q I h
 refine PySem.W.methodCall_KW (pl:=pl) (thn (he pins s σ H _ I h) fun u s1 ⟨x,H1,I1,rx,ex,q⟩=>?_) ht
 subst ex
 obtain rfl:u=Value.ref Cp:=rx
 refine PySem.W.method_cls I1.kIn c.sg (PySem.W.cls_value I1.kIn c.rd c.fc (by decide +kernel) ?_)
 refine PyProof.Rows.callWith_builtin1 (thn (ha pos pins _ σ H1 _ (I1.tok _) q) fun us s2 ⟨vs,H2,I2,r,ea,C,od,ws,ev,hea,hex,hz,q2⟩=>?_) hst hpl
 subst ev
 cases r with
 | cons r1 r2 =>
  cases r1
  rename_i us _
  obtain ⟨hh,g,d,tk,os⟩:=s2
  obtain ⟨⟨t0,e0⟩,_,_⟩:=I2.hok ea _ hea
  obtain ⟨nm,qn,N,bs,bm,sn,sub,ab,col,dd,k0,k1,k2,k3,k5,hC,TL⟩:=excD_of I2.kIn hex
  refine base_init PySem.F.excBase_ValueError TL hC e0 (by rw [← r2.length]; exact hz) ⟨.non,H2,?_,rfl,q2⟩
  have e1:((hh.push { cls:=.type "tuple", data:=.seq us.toArray }).update ea (Obj.mapFields (·.setIfInBounds 0 (.ref hh.objs.size)))).get? ea=some (excObj C hh.objs.size od):=Heap.get?_update_self _ (Heap.get?_push_of_some _ e0) rfl
  have I3:=I2.write (x:=ea) (e:=ea) (o:=exN ea C od) (t':=tk) (h':=(hh.push { cls:=.type "tuple", data:=.seq us.toArray }).update ea (Obj.mapFields (·.setIfInBounds 0 (.ref hh.objs.size)))) (by rw [hea]; exact True.intro) (.inl rfl)
   (fun b u nb z=>(Heap.get?_update_other _ _ (Ne.symm nb)).trans (Heap.get?_push_of_some _ z)) ⟨_,e1⟩ (exN_ok e1)
  have eH:upd H2 ea (exN ea C od)=H2:=by
   funext b
   by_cases z:b=ea
   ·rw [z,upd_same,hea]
   ·rw [upd_ne z]
  rw [eH] at I3
  exact I3
def sFldN (K:PySem.W.Frag)(ta tv:TE)(f:Str) : TS:=fun D σ H=>tv σ H fun y H1=>ta σ H1 fun x H2=>∃ ea C,x = .ref ea∧H2 ea=some (exN ea C none)∧excD K C=true∧PySem.W.findIn K (.ref C) "__setattr__" = some (some (.builtin "object.__setattr__"))∧NoAttr K C f∧PySem.W.mroIn K C (.type "object")=some true ∧
 ∀ d,H2 d=none→d ≠ ea→D.nx σ (upd (upd H2 ea (exN ea C (some d))) d (.xd [(f,y)]))
theorem ps_fldN (ha:PE X o ta)(hv:PE X value tv)(hs:swapsWith value (some (.Attribute o f pos')) pos.line X.env=pure false) : PS X (.Assign [.Attribute o f pos'] value pos) (sFldN X.K ta tv f):=by
 intro pins s σ H D I h
 refine plainObj_wpAny_Assign_Attribute (thn (hv pins s σ H _ I h) fun u s1 ⟨y,H1,I1,ry,q⟩=>thn (ha pins s1 σ H1 _ I1 q) fun ov s2 ⟨x,H2,I2,rx,ea,C,ex,hea,hex,hsa,n,hmo,q2⟩=>?_) hs
 subst ex
 obtain rfl:ov=Value.ref ea:=rx
 obtain ⟨hh,g,d,tk,os⟩:=s2
 obtain ⟨⟨t0,e0⟩,_,_⟩:=I2.hok ea _ hea
 obtain ⟨nm,qn,N,bs,bm,sn,sub,ab,col,dd,k0,k1,k2,k3,k5,hC,TL⟩:=excD_of I2.kIn hex
 refine exc_store (B := "ValueError") I2.kIn hsa n hmo TL PySem.F.store_ValueError hC e0 fun h' tk' e1 n1 kp=>?_
 have nd:hh.objs.size ≠ ea:=Nat.ne_of_gt (Heap.lt_size e0)
 have fd:H2 hh.objs.size=none:=I2.hok.fresh (Nat.le_refl _)
 have un1:∀ b o,hh.get? b=some o→b ≠ hh.objs.size:=fun b o z=>Nat.ne_of_lt (Heap.lt_size z)
 have tr:∀ b o,H2 b=some o→b ≠ hh.objs.size:=fun b o z q3=>by rw [q3,fd] at z; cases z
 have off:∀ b o,H2 b=some o→o ≠ exN ea C none→b ≠ ea:=fun b o z no q3=>by rw [q3,hea] at z; exact no (Option.some.inj z).symm
 have at2:∀ b,b ≠ ea→b ≠ hh.objs.size→upd (upd H2 ea (exN ea C (some hh.objs.size))) hh.objs.size (.xd [(f,y)]) b=H2 b:=fun b z1 z2=>by rw [upd_ne z2,upd_ne z1]
 refine ⟨σ,_,?_,q2 hh.objs.size fd nd⟩
 refine I2.un (t':=tk') (h':=h') ⟨fun b ob z1 z2 _ _=>kp b ob (fun z=>by rw [z,hea] at z2; cases z2) z1,fun b ob z1 z2 _ _=>⟨ob.slots,kp b ob (fun z=>by rw [z,hea] at z2; cases z2) z1⟩,fun b ob z1 z2 _=>?_,fun b ob z1 _=>?_,fun b xs z1=>?_,fun b ob u z1=>?_,fun b ps z1=>?_⟩ fun b ob z1=>?_
 ·rw [at2 b (fun z=>by rw [z,hea] at z2; cases z2) (un1 b ob z1)]; exact z2
 ·by_cases z:b=ea
  ·rw [z]; exact ⟨_,e1⟩
  ·exact ⟨ob,kp b ob z z1⟩
 ·rw [at2 b (off b _ z1 (by intro z; cases z)) (tr b _ z1)]; exact z1
 ·rw [at2 b (off b _ z1 (by intro z; cases z)) (tr b _ z1)]; exact z1
 ·exact ⟨#[],by rw [at2 b (off b _ z1 (by intro z; cases z)) (tr b _ z1),Array.append_empty]; exact z1⟩
 ·by_cases zd:b=hh.objs.size
  ·subst zd
   rw [upd_same] at z1
   cases z1
   refine ⟨_,n1,fun g'=>?_⟩
   show RelO (([(f,y)] : List (Str × V)).lookup g') (if g'=f then some u else none)
   by_cases zg:g'=f
   ·subst zg
    rw [if_pos rfl,List.lookup_cons_self]
    exact ry
   ·rw [if_neg zg,List.lookup_cons,beq_false_of_ne zg]
    exact True.intro
  ·rw [upd_ne zd] at z1
   by_cases ze:b=ea
   ·subst ze
    rw [upd_same] at z1
    cases z1
    exact exN_ok e1
   ·rw [upd_ne ze] at z1
    refine (I2.hok b ob z1).stay (fun c v hc z=>kp c v (fun z3=>?_) z) (fun c z=>?_) fun c xs z=>?_
    ·rcases hc with z4 | z4
     ·exact ze (z4.symm.trans z3)
     ·rw [z3,hea] at z4; cases z4
    ·rw [at2 c (off c _ z (by intro z; cases z)) (tr c _ z)]; exact z
    ·rw [at2 c (off c _ z (by intro z; cases z)) (tr c _ z)]; exact z
end
end L2
namespace L2
open PySem PySem.Spec PyProof.Rows
def offE (H:Hp)(a:Addr) : Hp:=fun b=>if b=a then none else H b
theorem offE_same {H:Hp}{a:Addr} : offE H a a=none:=by unfold offE; rw [if_pos rfl]
theorem offE_ne {H:Hp}{a b:Addr}(h:b ≠ a) : offE H a b=H b:=by unfold offE; rw [if_neg h]
theorem offE_some {H:Hp}{a b:Addr}{o:HO}(h:offE H a b=some o) : b ≠ a∧H b=some o:=by
 by_cases z:b=a
 ·rw [z,offE_same] at h; cases h
 ·rw [offE_ne z] at h; exact ⟨z,h⟩
def CXd (P:Program)(w:World) : CXT:=fun outer H s E e s'=>∃ (ea:Addr) (cls:Value) (H':Hp) (B:Heap) (a0:Value) (od:Option Addr),e = .ref ea∧Fly P w outer H s cls H' ea B a0 s'∧(∃ o,s'.heap.get? ea=some o∧o.dict=od)∧E cls od H'
section
variable {X:Cx}{pins:List (Addr × Obj)}{σ:St}{H:Hp}{s s':Shared}{M:Model}{E:Value→Shared→Prop}{Q:Unit→Shared→Prop}
theorem made_flyD (I:Inv X pins σ H s) (hst:X.stack=X.env :: X.outer) (hf:X.env.frame=some X.env.locals) (hex:X.ex = []) {ea C:Addr}{od:Option Addr}(hea:H ea=some (exN ea C od)) (h0:X.H₀ ea=none)
  (k:∀ h' a0,Fly X.prog X.w X.outer X.H₀ X.s₀ (.ref C) (offE H ea) ea (PySem.W.hideAll s.heap (ea :: frs X.stack)) a0 { s with heap:=h' }→(∃ o,h'.get? ea=some o∧o.dict=od)→Q () { s with heap:=h' }) :
  wpAny M X.A (leaving X.env (.ref ea)) Q E s:=by
 have noex:∀ b:Addr,b ∉ X.ex:=fun b z=>by rw [hex] at z; cases z
 obtain ⟨⟨t0,e0⟩,_,_⟩:=I.hok ea _ hea
 have new:X.s₀.heap.get? ea=none:=by
  cases q:X.s₀.heap.get? ea with
  | none=>rfl
  | some o=>have z:=I.base.free ea o q h0 (noex ea); rw [hea] at z; cases z
 have hin:∀ env∈X.stack,∀ a,env.frame=some a→a∈ea :: frs X.stack:=fun env he a ha=>List.mem_cons_of_mem _ (List.mem_filterMap.mpr ⟨env,he,ha⟩)
 have hl:s.heap.FunFrames (PySem.W.hideAll s.heap (ea :: frs X.stack)) (X.env :: X.outer):=by
  have z:=PySem.W.funFrames_hide I.stack hin
  rw [hst] at z ⊢
  exact z
 have hB:(PySem.W.hideAll s.heap (ea :: frs X.stack)).get? ea=none:=PySem.W.hideAll_none _ List.mem_cons_self
 have nstk:∀ b u,H b=some u→b ∉ frs X.stack:=fun b u e z=>by rw [I.stkFree b z] at e; cases e
 have get:∀ b o,s.heap.get? b=some o→b ≠ ea→b ∉ frs X.stack→(PySem.W.hideAll s.heap (ea :: frs X.stack)).get? b=some o:=fun b o e n1 n2=>PySem.W.hideAll_get _ e (fun z=>(List.mem_cons.mp z).elim n1 n2)
 have old:∀ b o,X.s₀.heap.get? b=some o→b ≠ ea:=fun b o e z=>by rw [z,new] at e; cases e
 refine wpAny_mono (soft_any (soft_leaving X.env (.ref ea)) (wpAny_leaving_firstW (Q:=fun _ s'=>∃ h',s' = { s with heap:=h' }∧Heap.LeftW (PySem.W.hideAll s.heap (ea :: frs X.stack)) (X.env :: X.outer) ea (.ref C) (.ref t0) s.heap h')
  (by rw [I.ok.frames,hst]) hl hf e0 (fun b o q=>PySem.W.of_hideAll _ q) hB rfl rfl rfl fun h' z=>⟨h',rfl,z⟩)) (fun _ s' z=>?_) fun _ _ z=>z
 obtain ⟨⟨h',rfl,k1,⟨_,_,k2⟩,k3,k4⟩,kd⟩:=z
 have tr:∀ b u,offE H ea b=some u→∃ o,s.heap.get? b=some o∧h'.get? b=some o∧(PySem.W.hideAll s.heap (ea :: frs X.stack)).get? b=some o:=fun b u e=>by
  obtain ⟨n1,e⟩:=offE_some e
  obtain ⟨o,ho⟩:=(I.hok b u e).there
  have q:=get b o ho n1 (nstk b u e)
  exact ⟨o,ho,k1 b o q,q⟩
 have dk:=kd ea _ e0
 refine k h' (.ref t0) ⟨I.os,I.bare,new,⟨fun b o e n hb _=>?_,fun b o e n hb _=>?_,fun b o e n _=>?_,fun b o e _=>?_,fun b xs e=>?_,fun b o u e=>?_,fun b ps e=>?_⟩,fun a u e=>?_,fun b o e n hb=>?_,fun b u e=>?_,fun b o e hb=>?_,⟨k1,hB,k2,k3⟩⟩ dk
 ·exact k1 b o (get b o (I.base.keep b o e n hb (noex b)) (old b o e) (I.notStk e hb))
 ·obtain ⟨sl,e1⟩:=I.base.slot b o e n hb (noex b)
  obtain ⟨_,o2,ho2,nf⟩:=I.funs.mem hb
  rw [e1] at ho2
  cases ho2
  obtain ⟨sl',e2⟩:=k4 b _ e1 nf
  exact ⟨sl',e2⟩
 ·rw [offE_ne (old b o e)]
  exact I.base.free b o e n (noex b)
 ·by_cases hb:b∈X.fs
  ·obtain ⟨_,o2,ho2,nf⟩:=I.funs.mem hb
   obtain ⟨sl',e2⟩:=k4 b _ ho2 nf
   exact ⟨_,e2⟩
  ·obtain ⟨o',e'⟩:=I.base.there b o e (noex b)
   exact ⟨o',k1 b o' (get b o' e' (old b o e) (I.notStk e hb))⟩
 ·rw [offE_ne (fun z=>by rw [z,h0] at e; cases e)]
  exact I.base.tups b xs e
 ·rw [offE_ne (fun z=>by rw [z,h0] at e; cases e)]
  exact I.base.frzs b o u e
 ·rw [offE_ne (fun z=>by rw [z,h0] at e; cases e)]
  exact I.base.tbls b ps e
 ·obtain ⟨n1,e'⟩:=offE_some e
  refine (I.hok a u e').stay (fun b v hb q=>?_) (fun b q=>?_) fun b xs q=>?_
  ·have z:∃ u',offE H ea b=some u':=by
    rcases hb with z | z
    ·rw [z]; exact ⟨u,e⟩
    ·exact ⟨_,by rw [offE_ne (fun z2=>by rw [z2,hea] at z; cases z)]; exact z⟩
   obtain ⟨u',z⟩:=z
   obtain ⟨o,e1,e2,_⟩:=tr b u' z
   rw [q] at e1
   cases e1
   exact e2
  ·rw [offE_ne (fun z2=>by rw [z2,hea] at q; cases q)]; exact q
  ·rw [offE_ne (fun z2=>by rw [z2,hea] at q; cases q)]; exact q
 ·exact get b o (I.base.keep b o e n hb (noex b)) (old b o e) (I.notStk e hb)
 ·obtain ⟨o,_,e2,e3⟩:=tr b u e
  exact ⟨o,e2,e3⟩
 ·obtain ⟨o',e'⟩:=I.base.there b o e (noex b)
  exact ⟨o',get b o' e' (old b o e) (I.notStk e hb)⟩
end
section
variable {P:Program}{w:World}{K:PySem.W.Frag}{mg:Str→Option Value}{base:Heap}
theorem pass_d {N:List Str}{qual:Str}{scope:Scope}{f:Addr}{cd:Value}{A:Around}{outer:List Env}{s:Shared}{H:Hp}{E E':XK}(hE:∀ cls od H',E' cls od H'→E cls od H') :
  Passes (CXd P w) (cxOf (CXd P w) P w K mg base N qual scope f cd A outer s H E) E':=fun pins σ H1 s1 e s' I h=>by
 obtain ⟨ea,cls,H',B,a0,od,rfl,F,⟨o,ho,hd⟩,q⟩:=h
 refine wpAny_mono (soft_any (soft_leaving _ (.ref ea)) (fly_on (Q:=fun _ s2=>Fly P w outer H s cls H' ea B a0 s2) I rfl rfl rfl F fun h' F'=>F')) (fun _ s2 z=>?_) fun _ _ z=>z
 obtain ⟨F',kd⟩:=z
 obtain ⟨o',ho',hd'⟩:=kd ea o ho
 exact ⟨ea,cls,H',B,a0,od,rfl,F',⟨o',ho',hd'.trans hd⟩,hE _ _ _ q⟩
theorem Fun.okd {x qual:Str}{st:Stmt}{f:Addr}{fd:FuncData}{N ps:List Str}{k:Nat}{sp:Sp}(F:Fun K x qual st f fd) (S:FnScope N ps (defScope st)) (len:∀ vs H Q E,sp vs H Q E→vs.length=ps.length)
  (hbody:∀ (cdv:Value) (A:Around) (outer:List Env) (s:Shared) (H:Hp) (vs:List V) (Q:VK) (E:XK),Room k (A.deeper (envOfC qual (defScope st) s.heap.objs.size f cdv))→sp vs H Q E →
   ∃ t,PSs (cxOf (CXd P w) P w K mg base N qual (defScope st) f cdv A outer s H E) (defBody st) t∧t { nx:=fun _ H'=>Q .non H',rt:=Q } (start N vs) H) : FnOk P w K mg base (CXd P w) (k + 1) f fd ps sp:=by
 obtain ⟨oc,od,kV,doc,pm,an,cdv,ct,osl,rfl,lk,hcd⟩:=F.ex
 exact fn_of lk hcd S len fun A outer s H vs Q E hr hsp=>hbody cdv A outer s H vs Q E hr hsp
end
end L2
namespace L2
open PySem PySem.Spec PyProof.Rows
section
variable {X:Cx}{CX:CXT}{k:Nat}{f C:Addr}{fd:FuncData}{ps:List Str}{sp:Sp}{E:XK}{x:Str}{p pos:Pos}{e:Expr}{es:List Expr}{t:TA}{te:TE}
def tMakeN (C:Addr)(sp:Sp)(E:XK)(t:TA) : TE:=fun σ H Q=>t σ H fun vs H1=>vs.length≤sizeLine∧∀ ea,H1 ea=none→sp (.ref ea :: vs) (upd H1 ea (exN ea C none)) (fun v H2=>v = .non∧Q (.ref ea) H2) E
theorem run_makeN {mg:Str→Option Value}{pins:List (Addr × Obj)}{σ:St}{H:Hp}{s:Shared}{Q:VK}{us:List Value}{vs:List V}(T:ExcN X.K mg x C f) (F:FnOk X.prog X.w X.K X.mg X.base CX k f fd ps sp) (hr:Room (k + 1) X.A) (hb:Binds X.K fd ps [])
  (hx:Passes CX X E) (I:Inv X pins σ H s) (r:Vals vs us) (hz:vs.length≤sizeLine)
  (h:∀ ea,H ea=none→sp (.ref ea :: vs) (upd H ea (exN ea C none)) (fun v H2=>v = .non∧Q (.ref ea) H2) E) :
  wpAny (model X.prog X.w) X.A (call (.ref C) us) (EP X pins σ Q) X.xe s:=by
 have hq:=h (s.heap.objs.size + 1) (I.hok.fresh (Nat.le_succ _))
 obtain ⟨nm,qn,N,bs,bm,sn,sub,ab,col,dd,k0,k1,k2,k3,k5,hC,TL⟩:=excD_of I.kIn T.ob
 obtain ⟨of_,hf,hfc⟩ : ∃ o,s.heap.get? f=some o∧o.cls = .type "function" := by
  have z:PySem.W.typeIn X.K (.ref f)=some (.type "function"):=beq_iff_eq.mp T.fn
  obtain ⟨o,ho,hc⟩:=Option.map_eq_some_iff.mp z
  exact ⟨o,I.kIn _ _ ho,hc⟩
 have e2:((s.heap.push { cls:=.type "tuple", data:=.seq us.toArray }).push (excObj C s.heap.objs.size none)).get? (s.heap.objs.size + 1)=some (excObj C s.heap.objs.size none):=Heap.get?_push_at (by rw [Heap.size_push]) rfl
 have I2:Inv X pins σ (upd H (s.heap.objs.size + 1) (exN (s.heap.objs.size + 1) C none)) { s with heap:=(s.heap.push { cls:=.type "tuple", data:=.seq us.toArray }).push (excObj C s.heap.objs.size none),toks:=s.toks } :=
  I.laid (fun b u q=>Heap.get?_push_of_some _ (Heap.get?_push_of_some _ q)) (Nat.le_succ _) (exN_ok e2)
 have r2:Vals (V.ref (s.heap.objs.size + 1) :: vs) (Value.ref (s.heap.objs.size + 1) :: us):=.cons rfl r
 have hl:(Value.ref (s.heap.objs.size + 1) :: us).length=ps.length:=by
  have z:=r2.length
  rw [F.len _ _ _ _ hq] at z
  exact z.symm
 obtain ⟨hh,g,d,tk,os⟩:=s
 have hbb:=hb _ (Value.ref (hh.objs.size + 1) :: us) I2.kIn (by rw [List.append_nil]; exact hl)
 rw [List.append_nil] at hbb
 refine call_init PySem.F.excBase_ValueError TL hC I.kIn T.init hf hfc (by rw [← r.length]; exact hz) (wpAny_call (codeAny_mono (F.run _ X.stack _ _ ⟨Value.ref (hh.objs.size + 1) :: us,[]⟩ (Value.ref (hh.objs.size + 1) :: us) _ _ E (hr.make C us [])
  (I2.env0.make C us []) hbb r2 hq) fun r s' hq'=>?_))
 cases r with
 | error e=>exact hx pins σ _ _ e s' I2 hq'
 | ok fl =>
  cases fl with
  | ret u =>
   obtain ⟨v,H',I3,rv,ev,q3⟩:=I2.after hq'
   subst ev
   exact ⟨rv,⟨V.ref (hh.objs.size + 1),H',I3,rfl,q3⟩⟩
  | next=>exact False.elim hq'
  | brk=>exact False.elim hq'
  | cont=>exact False.elim hq'
theorem pe_makeN (T:ExcN X.K X.mg x C f) (F:FnOk X.prog X.w X.K X.mg X.base CX k f fd ps sp) (hr:Room (k + 1) X.A) (hg:Gl X x) (hb:Binds X.K fd ps []) (hx:Passes CX X E)
  (ha:PA X (e :: es) t) (hdb:(x == ("__debug__" : Str))=false:=by decide) (he:starEach (e :: es) X.env=(false,eval e X.env) :: starEach es X.env:=by rfl) (hpl:(backTo pos (starEach es X.env)).any (·.1)=false:=by rfl) :
  PE X (.Call (.Name x p) (e :: es) [] pos) (tMakeN C sp E t):=by
 intro pins s σ H Q I h
 refine wpAny_Call_Name_kw (ld_glob I hg T.at' ?_ hdb)
 refine PySem.W.callWith_K (h₀:=X.base) I.ok.mod.kin T.kp (thn (ha pos pins s σ H _ I h) fun us s1 ⟨vs,H1,I1,r,q⟩=>⟨I1.kIn,?_⟩) he hpl
 exact run_makeN T F hr hb hx I1 r q.1 q.2
end
section
variable {P:Program}{w:World}{K:PySem.W.Frag}{mg:Str→Option Value}{base:Heap}{N:List Str}{qual:Str}{scope:Scope}{f:Addr}{cd:Value}{A:Around}{outer:List Env}{s₀:Shared}{H₀:Hp}{E:XK}{e:Expr}{te:TE}{pos:Pos}
def tRaiseV (K:PySem.W.Frag)(H₀:Hp)(E:XK)(te:TE) : TS:=fun _ σ H=>te σ H fun x H1=>∃ ea C od,x = .ref ea∧H1 ea=some (exN ea C od)∧excD K C=true∧H₀ ea=none∧E (.ref C) od (offE H1 ea)
theorem ps_raiseV (he:PE (cxOf (CXd P w) P w K mg base N qual scope f cd A outer s₀ H₀ E) e te) :
  PS (cxOf (CXd P w) P w K mg base N qual scope f cd A outer s₀ H₀ E) (.Raise (some e) none pos) (tRaiseV K H₀ E te):=by
 intro pins s σ H D I h
 rw [arm_exec_Raise]
 refine wpAny_bind (wpAny_standAt ?_)
 unfold raiseStmt
 refine wpAny_bind (wpAny_bind (thn (he pins s σ H _ I h) fun v s1 ⟨x,H1,I1,rx,ea,C,od,ex,hea,hex,h0,q⟩=>wpAny_bind (wpAny_standAt (wpAny_pure ?_))))
 subst ex
 obtain rfl:v=Value.ref ea:=rx
 obtain ⟨⟨t0,e0⟩,_,_⟩:=I1.hok ea _ hea
 obtain ⟨nm,qn,N',bs,bm,sn,sub,ab,col,dd,k0,k1,k2,k3,k5,hC,TL⟩:=excD_of I1.kIn hex
 have fly:((cxOf (CXd P w) P w K mg base N qual scope f cd A outer s₀ H₀ E).xe (.ref ea) s1:Prop):=by
  exact made_flyD I1 rfl rfl rfl hea h0 fun h' a0 F dk=>⟨ea,.ref C,offE H1 ea,_,a0,od,rfl,F,dk,q⟩
 have hcB:(Value.ref C :: bm).contains (.type "BaseException")=true:=by rw [List.contains_cons,TL.hasType PySem.F.excBase_ValueError.hasBase,Bool.or_true]
 have hh:=I.ok.hd rfl
 obtain ⟨hp,g,d,tk,os⟩:=s1
 repeat (first | (with_reducible refine wpAny_loadPart_at e0 ?_) | (with_reducible refine wpAny_loadPart_at hC ?_) | (with_reducible refine wpAny_isSubtype_exc hC ?_; rw [hcB]) | wp_step)
 exact wpAny_raiseNew_none hh fly
end
end L2
namespace L2
open PySem PySem.Spec PyProof.Rows
section
variable {X:Cx}{k:Nat}{f:Addr}{fd:FuncData}{ps:List Str}{sp:Sp}{dvs:List V}{ds:List Value}{x:Str}{p pos:Pos}{e:Expr}{es:List Expr}{t:TA}
end
end L2
namespace L2
open PySem PySem.Spec PyProof.Rows
theorem walk_ofD {l:PySem.W.OpenLaw}{n k:Nat}{q:Program}{loose:List Str}{XP:(Str→Option Value)→Heap→Prop}{YP:World→Heap→Prop}{d:DefRec}{K:Params→PySem.W.Frag}{sp:PySem.W.Frag→Sp}{x:Str}
  (hn:l.most=some n) (hn2:n≤sizeLine) (hdf:d.params.defaults = []) (hr:Room k callerA)
  (hY:∀ (w:World) (h:Heap),YP w h→(K w.params).In h)
  (F:∀ (w:World) (mg:Str→Option Value) (fa:Addr) (h:Heap),(K w.params).In h→h.Ns mainGlobals mg→mg d.name=some (.ref fa) →
   ∃ fd:FuncData,(∀ (s:Shared) (u:Value),BindsTo s fd ⟨[u],[]⟩ [(x,u)]) ∧
    ∀ base:Heap,(K w.params).In base→base.Ns mainGlobals mg→FnOk l.prog w (K w.params) mg base (CXd l.prog w) k fa fd [x] (sp (K w.params)))
  (hsp:∀ (K:PySem.W.Frag) (H:Hp) (a:Addr) (ns:List Int),ns.length≤n→Only H→SqL K H a (ns.map V.int)→sp K [.ref a] H (fun v _=>v = .bl true) fun _ _ _=>False) :
  PySem.W.WalkO q loose XP YP l.row.toRowW d [] (fun f vs=>PySem.call f vs) :=
 walk_of (K:=K) (CX:=fun w=>CXd l.prog w) (sp:=fun w=>sp (K w.params)) hn hn2 hdf hr hY F (fun w H a ns h1 h2 h3=>hsp (K w.params) H a ns h1 h2 h3) fun _ H s e s' h=>by
  obtain ⟨_,_,_,_,_,_,_,_,_,z⟩:=h
  exact z
end L2
namespace L2
open PySem PySem.Spec PyProof.Rows
section
variable {X:Cx}{k:Nat}{f C1 C2:Addr}{fd:FuncData}{ps:List Str}{sp:Sp}{m:Str}{pos apos:Pos}{e o:Expr}{es:List Expr}{ta:TE}{t:TA}
end
end L2
namespace L2
open PySem PySem.Spec PyProof.Rows
theorem passNd {X:Cx} : Passes (CXd X.prog X.w) X E0:=fun _ _ _ _ _ _ _ h=>by
 obtain ⟨_,_,_,_,_,_,_,_,_,z⟩:=h
 exact z.elim
theorem powd {P:Program}{w:World}{K:PySem.W.Frag}{mg:Str→Option Value}{base:Heap}{N:List Str}{qual:Str}{scope:Scope}{f:Addr}{cd:Value}{A:Around}{outer:List Env}{s:Shared}{H:Hp}{E:XK} :
  PassesOwn (model P w) (cxOf (CXd P w) P w K mg base N qual scope f cd A outer s H E).A (cxOf (CXd P w) P w K mg base N qual scope f cd A outer s H E).env (cxOf (CXd P w) P w K mg base N qual scope f cd A outer s H E).xe:=PassesOwn.leaving
end L2
namespace L2
open PySem PySem.Spec PyProof.Rows
section
variable {P:Program}{w:World}{K:PySem.W.Frag}{mg:Str→Option Value}{base:Heap}{N:List Str}{qual:Str}{scope:Scope}{f C:Addr}{cd:Value}{A:Around}{outer:List Env}{s₀:Shared}{H₀:Hp}{E:XK}{x:Str}{e:Expr}{es:List Expr}{t:TA}{np cpos pos:Pos}
end
end L2
namespace L2
open PySem
theorem cxK {CX : CXT} {P : Program} {w : World} {K : PySem.W.Frag} {mg : Str → Option Value} {base : Heap} {N : List Str} {qual : Str} {scope : Scope} {f : Addr} {cd : Value} {A : Around} {outer : List Env} {s : Shared} {H : Hp} {E : XK} : (cxOf CX P w K mg base N qual scope f cd A outer s H E).K = K := rfl
theorem lcK {X : Cx} {scope : Scope} {ts : List Str} {js : List Nat} {C : Addr} {s2 : Shared} {H2 : Hp} {fp : List Addr} : (Cx.lc X scope ts js C s2 H2 fp).K = X.K := rfl
end L2
namespace Lw
open PySem L2
def top (i:Nat) : Stmt:=PySem.Challenge.pw_prunepath_k35_whole_path_against_any.main.body.getD i (.Pass ⟨0,0,0,0⟩)
abbrev s_q1:Stmt:=inClass (top 2) 0
abbrev s_q2:Stmt:=top 4
abbrev s_j9:Stmt:=top 5
abbrev s_j6:Stmt:=top 6
abbrev s_j7:Stmt:=top 7
abbrev s_q4:Stmt:=top 9
abbrev s_qQ:Stmt:=top 10
abbrev s_j8:Stmt:=top 11
abbrev s_q8:Stmt:=top 12
abbrev s_j4:Stmt:=top 13
abbrev s_q5:Stmt:=top 14
abbrev s_qI:Stmt:=top 16
abbrev s_qE:Stmt:=top 17
abbrev s_q9:Stmt:=top 18
abbrev s_q0:Stmt:=top 19
abbrev s_qY:Stmt:=top 20
abbrev s_qB:Stmt:=top 22
abbrev s_qJ:Stmt:=top 23
abbrev s_qF:Stmt:=top 24
abbrev s_jB:Stmt:=top 25
abbrev s_q3:Stmt:=top 27
abbrev s_qG:Stmt:=top 28
abbrev s_qC:Stmt:=top 29
abbrev s_jA:Stmt:=top 30
abbrev s_q6:Stmt:=top 31
abbrev s_qR:Stmt:=top 32
abbrev s_qZ:Stmt:=top 34
abbrev s_j0:Stmt:=top 35
abbrev s_qK:Stmt:=top 36
abbrev s_qS:Stmt:=top 37
abbrev s_qL:Stmt:=top 38
abbrev s_j1:Stmt:=top 39
abbrev s_qT:Stmt:=top 40
abbrev s_qD:Stmt:=top 41
abbrev s_j2:Stmt:=top 42
abbrev s_qU:Stmt:=top 43
abbrev s_qM:Stmt:=top 44
abbrev s_qN:Stmt:=top 45
abbrev s_j5:Stmt:=top 46
abbrev s_j3:Stmt:=top 47
abbrev s_qO:Stmt:=top 48
abbrev s_qP:Stmt:=top 49
abbrev s_qV:Stmt:=top 50
abbrev s_qW:Stmt:=top 51
abbrev s_qH:Stmt:=top 52
abbrev s_q7:Stmt:=top 53
abbrev s_qA:Stmt:=top 54
abbrev s_qX:Stmt:=top 55
abbrev s_law:Stmt:=top 56
set_option genInjectivity false in
set_option genSizeOf false in
structure Tx (K:PySem.W.Frag) (mg:Str→Option Value) where
 c_PruneError:Addr
 m_PruneError:mg "PruneError" = some (.ref c_PruneError)
 ci_PruneError:ClsI K c_PruneError
 c_NoPrice:Addr
 m_NoPrice:mg "NoPrice" = some (.ref c_NoPrice)
 f_q1:Addr
 d_q1:FuncData
 F_q1:Fun K "__init__" "NoPrice.__init__" s_q1 f_q1 d_q1
 b_q1:Binds K d_q1 ["self", "price"] []
 n_NoPrice:ExcN K mg "NoPrice" c_NoPrice f_q1
 f_q2:Addr
 d_q2:FuncData
 F_q2:Fun K "greatest_divisor" "greatest_divisor" s_q2 f_q2 d_q2
 b_q2:Binds K d_q2 ["one", "other"] []
 m_q2:mg "greatest_divisor" = some (.ref f_q2)
 f_j9:Addr
 d_j9:FuncData
 F_j9:Fun K "plus" "plus" s_j9 f_j9 d_j9
 b_j9:Binds K d_j9 ["one", "other"] []
 m_j9:mg "plus" = some (.ref f_j9)
 f_j6:Addr
 d_j6:FuncData
 F_j6:Fun K "minus" "minus" s_j6 f_j6 d_j6
 b_j6:Binds K d_j6 ["one", "other"] []
 m_j6:mg "minus" = some (.ref f_j6)
 f_j7:Addr
 d_j7:FuncData
 F_j7:Fun K "under" "under" s_j7 f_j7 d_j7
 b_j7:Binds K d_j7 ["one", "other"] []
 m_j7:mg "under" = some (.ref f_j7)
 f_q4:Addr
 d_q4:FuncData
 F_q4:Fun K "trees_by_place" "trees_by_place" s_q4 f_q4 d_q4
 b_q4:Binds K d_q4 ["tree"] []
 m_q4:mg "trees_by_place" = some (.ref f_q4)
 f_qQ:Addr
 d_qQ:FuncData
 F_qQ:Fun K "places_of" "places_of" s_qQ f_qQ d_qQ
 b_qQ:Binds K d_qQ ["tree", "sort"] []
 m_qQ:mg "places_of" = some (.ref f_qQ)
 f_j8:Addr
 d_j8:FuncData
 F_j8:Fun K "forks" "forks" s_j8 f_j8 d_j8
 b_j8:Binds K d_j8 ["tree"] []
 m_j8:mg "forks" = some (.ref f_j8)
 f_q8:Addr
 d_q8:FuncData
 F_q8:Fun K "common_bottom" "common_bottom" s_q8 f_q8 d_q8
 b_q8:Binds K d_q8 ["tree"] []
 m_q8:mg "common_bottom" = some (.ref f_q8)
 f_j4:Addr
 d_j4:FuncData
 F_j4:Fun K "lifted" "lifted" s_j4 f_j4 d_j4
 b_j4:Binds K d_j4 ["tree", "bottom"] []
 m_j4:mg "lifted" = some (.ref f_j4)
 f_q5:Addr
 d_q5:FuncData
 F_q5:Fun K "in_whole_costs" "in_whole_costs" s_q5 f_q5 d_q5
 b_q5:Binds K d_q5 ["tree"] []
 m_q5:mg "in_whole_costs" = some (.ref f_q5)
 f_qI:Addr
 d_qI:FuncData
 F_qI:Fun K "beginnings" "beginnings" s_qI f_qI d_qI
 b_qI:Binds K d_qI ["place", "places"] []
 m_qI:mg "beginnings" = some (.ref f_qI)
 f_qE:Addr
 d_qE:FuncData
 F_qE:Fun K "check_price" "check_price" s_qE f_qE d_qE
 b_qE:Binds K d_qE ["price"] []
 m_qE:mg "check_price" = some (.ref f_qE)
 f_q9:Addr
 d_q9:FuncData
 F_q9:Fun K "unreduced_sum" "unreduced_sum" s_q9 f_q9 d_q9
 b_q9:Binds K d_q9 ["one", "other"] []
 m_q9:mg "unreduced_sum" = some (.ref f_q9)
 f_q0:Addr
 d_q0:FuncData
 F_q0:Fun K "cheapest_with_cost" "cheapest_with_cost" s_q0 f_q0 d_q0
 b_q0:Binds K d_q0 ["tree", "price"] []
 m_q0:mg "cheapest_with_cost" = some (.ref f_q0)
 f_qY:Addr
 d_qY:FuncData
 F_qY:Fun K "cheapest" "cheapest" s_qY f_qY d_qY
 b_qY:Binds K d_qY ["tree", "price"] []
 m_qY:mg "cheapest" = some (.ref f_qY)
 f_qB:Addr
 d_qB:FuncData
 F_qB:Fun K "forks_inside" "forks_inside" s_qB f_qB d_qB
 b_qB:Binds K d_qB ["tree", "places"] []
 m_qB:mg "forks_inside" = some (.ref f_qB)
 f_qJ:Addr
 d_qJ:FuncData
 F_qJ:Fun K "shared_out" "shared_out" s_qJ f_qJ d_qJ
 b_qJ:Binds K d_qJ ["one", "many"] []
 m_qJ:mg "shared_out" = some (.ref f_qJ)
 f_qF:Addr
 d_qF:FuncData
 F_qF:Fun K "link_inside" "link_inside" s_qF f_qF d_qF
 b_qF:Binds K d_qF ["tree", "places", "fork"] []
 m_qF:mg "link_inside" = some (.ref f_qF)
 f_jB:Addr
 d_jB:FuncData
 F_jB:Fun K "cut" "cut" s_jB f_jB d_jB
 b_jB:Binds K d_jB ["places", "places_of_forks"] []
 m_jB:mg "cut" = some (.ref f_jB)
 f_q3:Addr
 d_q3:FuncData
 F_q3:Fun K "sums_and_leaves" "sums_and_leaves" s_q3 f_q3 d_q3
 b_q3:Binds K d_q3 ["whole", "places"] []
 m_q3:mg "sums_and_leaves" = some (.ref f_q3)
 f_qG:Addr
 d_qG:FuncData
 F_qG:Fun K "whole_links" "whole_links" s_qG f_qG d_qG
 b_qG:Binds K d_qG ["whole", "places"] []
 m_qG:mg "whole_links" = some (.ref f_qG)
 f_qC:Addr
 d_qC:FuncData
 F_qC:Fun K "least_linked" "least_linked" s_qC f_qC d_qC
 b_qC:Binds K d_qC ["whole", "places"] []
 m_qC:mg "least_linked" = some (.ref f_qC)
 f_jA:Addr
 d_jA:FuncData
 F_jA:Fun K "path" "path" s_jA f_jA d_jA
 b_jA:Binds K d_jA ["tree"] []
 m_jA:mg "path" = some (.ref f_jA)
 f_q6:Addr
 d_q6:FuncData
 F_q6:Fun K "last_not_above" "last_not_above" s_q6 f_q6 d_q6
 b_q6:Binds K d_q6 ["steps", "price"] []
 m_q6:mg "last_not_above" = some (.ref f_q6)
 f_qR:Addr
 d_qR:FuncData
 F_qR:Fun K "for_price" "for_price" s_qR f_qR d_qR
 b_qR:Binds K d_qR ["steps", "price"] []
 m_qR:mg "for_price" = some (.ref f_qR)
 f_qZ:Addr
 d_qZ:FuncData
 F_qZ:Fun K "_law_cell" "_law_cell" s_qZ f_qZ d_qZ
 b_qZ:Binds K d_qZ ["_law_script", "_law_k"] []
 m_qZ:mg "_law_cell" = some (.ref f_qZ)
 f_j0:Addr
 d_j0:FuncData
 F_j0:Fun K "_law_pick" "_law_pick" s_j0 f_j0 d_j0
 b_j0:Binds K d_j0 ["_law_cell_here", "_law_turn", "_law_many"] []
 m_j0:mg "_law_pick" = some (.ref f_j0)
 f_qK:Addr
 d_qK:FuncData
 F_qK:Fun K "_law_lowest" "_law_lowest" s_qK f_qK d_qK
 b_qK:Binds K d_qK ["_law_top", "_law_bottom_here"] []
 m_qK:mg "_law_lowest" = some (.ref f_qK)
 f_qS:Addr
 d_qS:FuncData
 F_qS:Fun K "_law_worth" "_law_worth" s_qS f_qS d_qS
 b_qS:Binds K d_qS ["_law_cell_here", "_law_way"] []
 m_qS:mg "_law_worth" = some (.ref f_qS)
 f_qL:Addr
 d_qL:FuncData
 F_qL:Fun K "_law_joined" "_law_joined" s_qL f_qL d_qL
 b_qL:Binds K d_qL ["_law_cell_here", "_law_one", "_law_two", "_law_way"] []
 m_qL:mg "_law_joined" = some (.ref f_qL)
 f_j1:Addr
 d_j1:FuncData
 F_j1:Fun K "_law_tree" "_law_tree" s_j1 f_j1 d_j1
 b_j1:Binds K d_j1 ["_law_cells", "_law_way"] []
 m_j1:mg "_law_tree" = some (.ref f_j1)
 f_qT:Addr
 d_qT:FuncData
 F_qT:Fun K "_law_digit" "_law_digit" s_qT f_qT d_qT
 b_qT:Binds K d_qT ["_law_bag_here", "_law_many"] []
 m_qT:mg "_law_digit" = some (.ref f_qT)
 f_qD:Addr
 d_qD:FuncData
 F_qD:Fun K "_law_dug_from" "_law_dug_from" s_qD f_qD d_qD
 b_qD:Binds K d_qD ["_law_bag_here", "_law_span"] []
 m_qD:mg "_law_dug_from" = some (.ref f_qD)
 f_j2:Addr
 d_j2:FuncData
 F_j2:Fun K "_law_dug" "_law_dug" s_j2 f_j2 d_j2
 b_j2:Binds K d_j2 ["_law_cell_here"] []
 m_j2:mg "_law_dug" = some (.ref f_j2)
 f_qU:Addr
 d_qU:FuncData
 F_qU:Fun K "_law_level" "_law_level" s_qU f_qU d_qU
 b_qU:Binds K d_qU ["_law_cell_here", "_law_many", "_law_turn"] []
 m_qU:mg "_law_level" = some (.ref f_qU)
 f_qM:Addr
 d_qM:FuncData
 F_qM:Fun K "_law_handed" "_law_handed" s_qM f_qM d_qM
 b_qM:Binds K d_qM ["_law_tree_here", "_law_bottom_here"] []
 m_qM:mg "_law_handed" = some (.ref f_qM)
 f_qN:Addr
 d_qN:FuncData
 F_qN:Fun K "_law_bottom" "_law_bottom" s_qN f_qN d_qN
 b_qN:Binds K d_qN ["_law_cell_here"] []
 m_qN:mg "_law_bottom" = some (.ref f_qN)
 f_j5:Addr
 d_j5:FuncData
 F_j5:Fun K "_law_at" "_law_at" s_j5 f_j5 d_j5
 b_j5:Binds K d_j5 ["_law_tree_here", "_law_place"] []
 m_j5:mg "_law_at" = some (.ref f_j5)
 f_j3:Addr
 d_j3:FuncData
 F_j3:Fun K "_law_bag" "_law_bag" s_j3 f_j3 d_j3
 b_j3:Binds K d_j3 ["_law_cell_here"] []
 m_j3:mg "_law_bag" = some (.ref f_j3)
 f_qO:Addr
 d_qO:FuncData
 F_qO:Fun K "_law_pruned" "_law_pruned" s_qO f_qO d_qO
 b_qO:Binds K d_qO ["_law_tree_here", "_law_place", "_law_bag_here"] []
 m_qO:mg "_law_pruned" = some (.ref f_qO)
 f_qP:Addr
 d_qP:FuncData
 F_qP:Fun K "_law_places" "_law_places" s_qP f_qP d_qP
 b_qP:Binds K d_qP ["_law_tree_here"] []
 m_qP:mg "_law_places" = some (.ref f_qP)
 f_qV:Addr
 d_qV:FuncData
 F_qV:Fun K "_law_price" "_law_price" s_qV f_qV d_qV
 b_qV:Binds K d_qV ["_law_cell_here", "_law_bottom_here"] []
 m_qV:mg "_law_price" = some (.ref f_qV)
 f_qW:Addr
 d_qW:FuncData
 F_qW:Fun K "_law_total" "_law_total" s_qW f_qW d_qW
 b_qW:Binds K d_qW ["_law_mine", "_law_places_here", "_law_top", "_law_low", "_law_bottom_here"] []
 m_qW:mg "_law_total" = some (.ref f_qW)
 f_qH:Addr
 d_qH:FuncData
 F_qH:Fun K "_law_lies_in" "_law_lies_in" s_qH f_qH d_qH
 b_qH:Binds K d_qH ["_law_one", "_law_two"] []
 m_qH:mg "_law_lies_in" = some (.ref f_qH)
 f_q7:Addr
 d_q7:FuncData
 F_q7:Fun K "_law_is_pruning" "_law_is_pruning" s_q7 f_q7 d_q7
 b_q7:Binds K d_q7 ["_law_places_here", "_law_known"] []
 m_q7:mg "_law_is_pruning" = some (.ref f_q7)
 f_qA:Addr
 d_qA:FuncData
 F_qA:Fun K "_law_are_steps" "_law_are_steps" s_qA f_qA d_qA
 b_qA:Binds K d_qA ["_law_steps", "_law_known"] []
 m_qA:mg "_law_are_steps" = some (.ref f_qA)
 f_qX:Addr
 d_qX:FuncData
 F_qX:Fun K "_law_asked" "_law_asked" s_qX f_qX d_qX
 b_qX:Binds K d_qX ["_law_steps", "_law_head", "_law_bottom_here", "_law_small"] []
 m_qX:mg "_law_asked" = some (.ref f_qX)
 f_law:Addr
 d_law:FuncData
 F_law:Fun K "law" "law" s_law f_law d_law
 b_law:Binds K d_law ["_law_script"] []
 m_law:mg "law" = some (.ref f_law)
 z_abs:mg "abs" = none
 z_all:mg "all" = none
 z_any:mg "any" = none
 z_bool:mg "bool" = none
 z_enumerate:mg "enumerate" = none
 z_int:mg "int" = none
 z_isinstance:mg "isinstance" = none
 z_len:mg "len" = none
 z_list:mg "list" = none
 z_range:mg "range" = none
 z_reversed:mg "reversed" = none
 z_set:mg "set" = none
 z_sorted:mg "sorted" = none
 z_str:mg "str" = none
 z_sum:mg "sum" = none
 z_tuple:mg "tuple" = none
 nPp:PySem.W.findIn K (.ref c_NoPrice) "price" = some none
theorem sc_q1:FnScope ["self", "price"] ["self", "price"] (defScope s_q1):=⟨rfl,rfl,rfl,by decide +kernel,rfl,by decide +kernel,by decide +kernel⟩
theorem sc_q2:FnScope ["one", "other", "larger", "smaller", "rest"] ["one", "other"] (defScope s_q2):=⟨rfl,rfl,rfl,by decide +kernel,rfl,by decide +kernel,by decide +kernel⟩
theorem sc_j9:FnScope ["one", "other", "shared", "lift", "top", "divisor"] ["one", "other"] (defScope s_j9):=⟨rfl,rfl,rfl,by decide +kernel,rfl,by decide +kernel,by decide +kernel⟩
theorem sc_j6:FnScope ["one", "other"] ["one", "other"] (defScope s_j6):=⟨rfl,rfl,rfl,by decide +kernel,rfl,by decide +kernel,by decide +kernel⟩
theorem sc_j7:FnScope ["one", "other"] ["one", "other"] (defScope s_j7):=⟨rfl,rfl,rfl,by decide +kernel,rfl,by decide +kernel,by decide +kernel⟩
theorem sc_q4:FnScope ["tree", "found", "waiting", "step", "place", "part"] ["tree"] (defScope s_q4):=⟨rfl,rfl,rfl,by decide +kernel,rfl,by decide +kernel,by decide +kernel⟩
theorem sc_qQ:FnScope ["tree", "sort"] ["tree", "sort"] (defScope s_qQ):=⟨rfl,rfl,rfl,by decide +kernel,rfl,by decide +kernel,by decide +kernel⟩
theorem sc_j8:FnScope ["tree"] ["tree"] (defScope s_j8):=⟨rfl,rfl,rfl,by decide +kernel,rfl,by decide +kernel,by decide +kernel⟩
theorem sc_q8:FnScope ["tree", "shared", "part", "bottom"] ["tree"] (defScope s_q8):=⟨rfl,rfl,rfl,by decide +kernel,rfl,by decide +kernel,by decide +kernel⟩
theorem sc_j4:FnScope ["tree", "bottom", "lift"] ["tree", "bottom"] (defScope s_j4):=⟨rfl,rfl,rfl,by decide +kernel,rfl,by decide +kernel,by decide +kernel⟩
theorem sc_q5:FnScope ["tree"] ["tree"] (defScope s_q5):=⟨rfl,rfl,rfl,by decide +kernel,rfl,by decide +kernel,by decide +kernel⟩
theorem sc_qI:FnScope ["place", "places"] ["place", "places"] (defScope s_qI):=⟨rfl,rfl,rfl,by decide +kernel,rfl,by decide +kernel,by decide +kernel⟩
theorem sc_qE:FnScope ["price"] ["price"] (defScope s_qE):=⟨rfl,rfl,rfl,by decide +kernel,rfl,by decide +kernel,by decide +kernel⟩
theorem sc_q9:FnScope ["one", "other"] ["one", "other"] (defScope s_q9):=⟨rfl,rfl,rfl,by decide +kernel,rfl,by decide +kernel,by decide +kernel⟩
theorem sc_q0:FnScope ["tree", "price", "yes", "no", "places", "both", "spared"] ["tree", "price"] (defScope s_q0):=⟨rfl,rfl,rfl,by decide +kernel,rfl,by decide +kernel,by decide +kernel⟩
theorem sc_qY:FnScope ["tree", "price"] ["tree", "price"] (defScope s_qY):=⟨rfl,rfl,rfl,by decide +kernel,rfl,by decide +kernel,by decide +kernel⟩
theorem sc_qB:FnScope ["tree", "places"] ["tree", "places"] (defScope s_qB):=⟨rfl,rfl,rfl,by decide +kernel,rfl,by decide +kernel,by decide +kernel⟩
theorem sc_qJ:FnScope ["one", "many", "divisor"] ["one", "many"] (defScope s_qJ):=⟨rfl,rfl,rfl,by decide +kernel,rfl,by decide +kernel,by decide +kernel⟩
theorem sc_qF:FnScope ["tree", "places", "fork", "known", "leaves", "dearer", "place"] ["tree", "places", "fork"] (defScope s_qF):=⟨rfl,rfl,rfl,by decide +kernel,rfl,by decide +kernel,by decide +kernel⟩
theorem sc_jB:FnScope ["places", "places_of_forks", "kept", "topmost"] ["places", "places_of_forks"] (defScope s_jB):=⟨rfl,rfl,rfl,by decide +kernel,rfl,by decide +kernel,by decide +kernel⟩
theorem sc_q3:FnScope ["whole", "places", "known", "found", "place", "yes", "no"] ["whole", "places"] (defScope s_q3):=⟨rfl,rfl,rfl,by decide +kernel,rfl,by decide +kernel,by decide +kernel⟩
theorem sc_qG:FnScope ["whole", "places", "known", "found", "place", "both"] ["whole", "places"] (defScope s_qG):=⟨rfl,rfl,rfl,by decide +kernel,rfl,by decide +kernel,by decide +kernel⟩
theorem sc_qC:FnScope ["whole", "places", "links", "least", "one"] ["whole", "places"] (defScope s_qC):=⟨rfl,rfl,rfl,by decide +kernel,rfl,by decide +kernel,by decide +kernel⟩
theorem sc_jA:FnScope ["tree", "whole", "places", "steps", "weakest", "price"] ["tree"] (defScope s_jA):=⟨rfl,rfl,rfl,by decide +kernel,rfl,by decide +kernel,by decide +kernel⟩
theorem sc_q6:FnScope ["steps", "price"] ["steps", "price"] (defScope s_q6):=⟨rfl,rfl,rfl,by decide +kernel,rfl,by decide +kernel,by decide +kernel⟩
theorem sc_qR:FnScope ["steps", "price"] ["steps", "price"] (defScope s_qR):=⟨rfl,rfl,rfl,by decide +kernel,rfl,by decide +kernel,by decide +kernel⟩
theorem sc_qZ:FnScope ["_law_script", "_law_k"] ["_law_script", "_law_k"] (defScope s_qZ):=⟨rfl,rfl,rfl,by decide +kernel,rfl,by decide +kernel,by decide +kernel⟩
theorem sc_j0:FnScope ["_law_cell_here", "_law_turn", "_law_many", "_law_mixed"] ["_law_cell_here", "_law_turn", "_law_many"] (defScope s_j0):=⟨rfl,rfl,rfl,by decide +kernel,rfl,by decide +kernel,by decide +kernel⟩
theorem sc_qK:FnScope ["_law_top", "_law_bottom_here", "_law_one", "_law_two", "_law_rest"] ["_law_top", "_law_bottom_here"] (defScope s_qK):=⟨rfl,rfl,rfl,by decide +kernel,rfl,by decide +kernel,by decide +kernel⟩
theorem sc_qS:FnScope ["_law_cell_here", "_law_way"] ["_law_cell_here", "_law_way"] (defScope s_qS):=⟨rfl,rfl,rfl,by decide +kernel,rfl,by decide +kernel,by decide +kernel⟩
theorem sc_qL:FnScope ["_law_cell_here", "_law_one", "_law_two", "_law_way", "_law_sums", "_law_leaves", "_law_worth_here"] ["_law_cell_here", "_law_one", "_law_two", "_law_way"] (defScope s_qL):=⟨rfl,rfl,rfl,by decide +kernel,rfl,by decide +kernel,by decide +kernel⟩
theorem sc_j1:FnScope ["_law_cells", "_law_way", "_law_pile", "_law_k", "_law_cell_here", "_law_worth_here", "_law_folds", "_law_last"] ["_law_cells", "_law_way"] (defScope s_j1):=⟨rfl,rfl,rfl,by decide +kernel,rfl,by decide +kernel,by decide +kernel⟩
theorem sc_qT:FnScope ["_law_bag_here", "_law_many", "_law_digit_here"] ["_law_bag_here", "_law_many"] (defScope s_qT):=⟨rfl,rfl,rfl,by decide +kernel,rfl,by decide +kernel,by decide +kernel⟩
theorem sc_qD:FnScope ["_law_bag_here", "_law_span", "_law_worth_here", "_law_bit", "_law_yes"] ["_law_bag_here", "_law_span"] (defScope s_qD):=⟨rfl,rfl,rfl,by decide +kernel,rfl,by decide +kernel,by decide +kernel⟩
theorem sc_j2:FnScope ["_law_cell_here"] ["_law_cell_here"] (defScope s_j2):=⟨rfl,rfl,rfl,by decide +kernel,rfl,by decide +kernel,by decide +kernel⟩
theorem sc_qU:FnScope ["_law_cell_here", "_law_many", "_law_turn", "_law_worth_here", "_law_yes", "_law_one", "_law_no", "_law_two"] ["_law_cell_here", "_law_many", "_law_turn"] (defScope s_qU):=⟨rfl,rfl,rfl,by decide +kernel,rfl,by decide +kernel,by decide +kernel⟩
theorem sc_qM:FnScope ["_law_tree_here", "_law_bottom_here", "_law_yes", "_law_no"] ["_law_tree_here", "_law_bottom_here"] (defScope s_qM):=⟨rfl,rfl,rfl,by decide +kernel,rfl,by decide +kernel,by decide +kernel⟩
theorem sc_qN:FnScope ["_law_cell_here", "_law_way"] ["_law_cell_here"] (defScope s_qN):=⟨rfl,rfl,rfl,by decide +kernel,rfl,by decide +kernel,by decide +kernel⟩
theorem sc_j5:FnScope ["_law_tree_here", "_law_place", "_law_sign"] ["_law_tree_here", "_law_place"] (defScope s_j5):=⟨rfl,rfl,rfl,by decide +kernel,rfl,by decide +kernel,by decide +kernel⟩
theorem sc_j3:FnScope ["_law_cell_here"] ["_law_cell_here"] (defScope s_j3):=⟨rfl,rfl,rfl,by decide +kernel,rfl,by decide +kernel,by decide +kernel⟩
theorem sc_qO:FnScope ["_law_tree_here", "_law_place", "_law_bag_here", "_law_digit_here", "_law_yes"] ["_law_tree_here", "_law_place", "_law_bag_here"] (defScope s_qO):=⟨rfl,rfl,rfl,by decide +kernel,rfl,by decide +kernel,by decide +kernel⟩
theorem sc_qP:FnScope ["_law_tree_here", "_law_found", "_law_todo", "_law_place", "_law_part"] ["_law_tree_here"] (defScope s_qP):=⟨rfl,rfl,rfl,by decide +kernel,rfl,by decide +kernel,by decide +kernel⟩
theorem sc_qV:FnScope ["_law_cell_here", "_law_bottom_here", "_law_way"] ["_law_cell_here", "_law_bottom_here"] (defScope s_qV):=⟨rfl,rfl,rfl,by decide +kernel,rfl,by decide +kernel,by decide +kernel⟩
theorem sc_qW:FnScope ["_law_mine", "_law_places_here", "_law_top", "_law_low", "_law_bottom_here", "_law_sums"] ["_law_mine", "_law_places_here", "_law_top", "_law_low", "_law_bottom_here"] (defScope s_qW):=⟨rfl,rfl,rfl,by decide +kernel,rfl,by decide +kernel,by decide +kernel⟩
theorem sc_qH:FnScope ["_law_one", "_law_two", "_law_place"] ["_law_one", "_law_two"] (defScope s_qH):=⟨rfl,rfl,rfl,by decide +kernel,rfl,by decide +kernel,by decide +kernel⟩
theorem sc_q7:FnScope ["_law_places_here", "_law_known", "_law_place", "_law_one", "_law_word", "_law_tops"] ["_law_places_here", "_law_known"] (defScope s_q7):=⟨rfl,rfl,rfl,by decide +kernel,rfl,by decide +kernel,by decide +kernel⟩
theorem sc_qA:FnScope ["_law_steps", "_law_known", "_law_step", "_law_one"] ["_law_steps", "_law_known"] (defScope s_qA):=⟨rfl,rfl,rfl,by decide +kernel,rfl,by decide +kernel,by decide +kernel⟩
theorem sc_qX:FnScope ["_law_steps", "_law_head", "_law_bottom_here", "_law_small", "_law_asked_here", "_law_k", "_law_turn", "_law_step", "_law_top", "_law_low"] ["_law_steps", "_law_head", "_law_bottom_here", "_law_small"] (defScope s_qX):=⟨rfl,rfl,rfl,by decide +kernel,rfl,by decide +kernel,by decide +kernel⟩
theorem sc_law:FnScope ["_law_script", "_law_head", "_law_mine", "_law_bottom_here", "_law_steps", "_law_bag_here", "_law_small", "_law_top", "_law_low", "_law_found", "_law_least", "_law_places_here", "_law_other", "_law_k"] ["_law_script"] (defScope s_law):=⟨rfl,rfl,rfl,by decide +kernel,rfl,by decide +kernel,by decide +kernel⟩
structure Rz (n:Nat) (q:Rat) : Prop where
 zn:Bz n q.num
 zd:Bz n (q.den:Int)
theorem Rz.mono {m n:Nat}{q:Rat}(h:Rz m q)(hn:m≤n) : Rz n q:=⟨h.zn.mono hn,h.zd.mono hn⟩
abbrev rt (q:Rat) : HO:=.tup [.int q.num,.int (q.den:Int)]
def Nw (H:Hp)(Q:VK)(q:Rat) : Prop:=∀ p,H p=none→Q (.ref p) (upd H p (rt q))
theorem dp (q:Rat) : 0 < (q.den:Int):=by
 have:=q.den_pos
 omega
theorem cN (i:Int){j:Int}(h0:0 < j)(h1:j < 340282366920938463463374607431768211456) : CDivB i j:=⟨h0,(Bz.w (by omega) h1).log2⟩
def sp_greatest_divisor:Sp:=fun vs H Q _=>∃ a b:Int,vs = [.int a,.int b]∧b ≠ 0∧Q (.int (M.G a b)) H
theorem rzd {n:Nat}{t b:Int}(hb:b ≠ 0)(zt:Bz n t)(zb:Bz n b) : Rz n (Rat.divInt t b):=by
 rcases Int.lt_or_gt_of_ne hb with h | h
 ·exact ⟨by rw [← M.num_neg h]; exact zt.fdiv,by rw [← M.den_neg h]; exact zb.fdiv⟩
 ·exact ⟨by rw [← M.num_low h]; exact zt.ediv (Int.le_of_lt (M.G_pos t b)),by rw [← M.den_low h]; exact zb.ediv (Int.le_of_lt (M.G_pos t b))⟩
def sp_law_ratio:Sp:=fun vs H Q _=>∃ t b:Int,vs = [.int t,.int b]∧0 < b∧Bz 8000 b∧Nw H Q (Rat.divInt t b)
theorem Nw.low {H:Hp}{Q:VK}{t b:Int}(hb:0 < b)(q:Nw H Q (Rat.divInt t b)) : ∀ p,H p=none→Q (.ref p) (upd H p (.tup [.int (t / M.G t b),.int (b / M.G t b)])):=by
 rw [M.num_low hb,M.den_low hb]
 exact q
inductive Tr where
 | en (w:Int)
 | fk (w:Int) (y n:Tr)
def trD:Tr→PyData
 | .en w=>.tuple [.str "end", .int w]
 | .fk w y n=>.tuple [.str "fork", .int w,trD y,trD n]
def Tr.lv:Tr→Nat
 | .en _=>1
 | .fk _ y n=>y.lv + n.lv
def Tr.dp:Tr→Nat
 | .en _=>0
 | .fk _ y n=>max y.dp n.dp + 1
theorem Tr.lv_pos:∀ t:Tr,0 < t.lv
 | .en _=>Nat.one_pos
 | .fk _ y n=>Nat.add_pos_left (lv_pos y) _
theorem Tr.dp_lt:∀ t:Tr,t.dp < t.lv
 | .en _=>Nat.one_pos
 | .fk _ y n=>by
  have h1:=dp_lt y
  have h2:=dp_lt n
  show max y.dp n.dp + 1 < y.lv + n.lv
  omega
abbrev Pi:=Tr × Int
def piD (i:Pi) : PyData:=.tuple [trD i.1,.int i.2,.int (i.1.lv:Int)]
theorem TV.tri {K:PySem.W.Frag}{H:Hp}{x:V}{a b c:PyData}(h:TV K H x (.tuple [a,b,c])) : ∃ p u v w,x = .ref p∧H p=some (.tup [u,v,w])∧TV K H u a∧TV K H v b∧TV K H w c:=by
 cases h with
 | tup e hs =>
  cases hs with
  | cons h1 hs =>
   cases hs with
   | cons h2 hs =>
    cases hs with
    | cons h3 hs =>
     cases hs
     exact ⟨_,_,_,_,rfl,e,h1,h2,h3⟩
theorem TV.quad {K:PySem.W.Frag}{H:Hp}{x:V}{a b c d:PyData}(h:TV K H x (.tuple [a,b,c,d])) : ∃ p u v w z,x = .ref p∧H p=some (.tup [u,v,w,z])∧TV K H u a∧TV K H v b∧TV K H w c∧TV K H z d:=by
 cases h with
 | tup e hs =>
  cases hs with
  | cons h1 hs =>
   cases hs with
   | cons h2 hs =>
    cases hs with
    | cons h3 hs =>
     cases hs with
     | cons h4 hs =>
      cases hs
      exact ⟨_,_,_,_,_,rfl,e,h1,h2,h3,h4⟩
theorem TV.en {K:PySem.W.Frag}{H:Hp}{x:V}{w:Int}(h:TV K H x (trD (.en w))) : ∃ p,x = .ref p∧H p=some (.tup [.str "end", .int w]):=by
 obtain ⟨p,u,v,rfl,hp,t1,t2⟩:=TV.pair h
 obtain rfl:=t1.strs
 obtain rfl:=t2.ints
 exact ⟨p,rfl,hp⟩
theorem TV.fk {K:PySem.W.Frag}{H:Hp}{x:V}{w:Int}{y n:Tr}(h:TV K H x (trD (.fk w y n))) : ∃ p u v,x = .ref p∧H p=some (.tup [.str "fork", .int w,u,v])∧TV K H u (trD y)∧TV K H v (trD n):=by
 unfold trD at h
 obtain ⟨p,a,b,u,v,rfl,hp,t1,t2,t3,t4⟩:=TV.quad h
 obtain rfl:=t1.strs
 obtain rfl:=t2.ints
 exact ⟨p,u,v,rfl,hp,t3,t4⟩
theorem TV.pi {K:PySem.W.Frag}{H:Hp}{x:V}{i:Pi}(h:TV K H x (piD i)) : ∃ p u,x = .ref p∧H p=some (.tup [u,.int i.2,.int (i.1.lv:Int)])∧TV K H u (trD i.1):=by
 unfold piD at h
 obtain ⟨p,a,b,c,rfl,hp,t1,t2,t3⟩:=TV.tri h
 obtain rfl:=t2.ints
 obtain rfl:=t3.ints
 exact ⟨p,a,rfl,hp,t1⟩
theorem TV.pi' {K:PySem.W.Frag}{H:Hp}{p:Addr}{u:V}{t:Tr}{s:Int}(hp:H p=some (.tup [u,.int s,.int (t.lv:Int)]))(h:TV K H u (trD t)) : TV K H (.ref p) (piD (t,s)):=.tup hp (.cons h (.cons (.int _) (.cons (.int _) .nil)))
theorem TV.fk' {K:PySem.W.Frag}{H:Hp}{p:Addr}{u v:V}{w:Int}{y n:Tr}(hp:H p=some (.tup [.str "fork", .int w,u,v]))(h1:TV K H u (trD y))(h2:TV K H v (trD n)) : TV K H (.ref p) (trD (.fk w y n)):=by
 unfold trD
 exact .tup hp (.cons (.str _) (.cons (.int _) (.cons h1 (.cons h2 .nil))))
theorem TV.en' {K:PySem.W.Frag}{H:Hp}{p:Addr}{w:Int}(hp:H p=some (.tup [.str "end", .int w])) : TV K H (.ref p) (trD (.en w)):=.tup hp (.cons (.str _) (.cons (.int _) .nil))
theorem Same.over {H H':Hp}{z:Addr}(s:Same H H')(hz:H z=none)(o:HO) : Same H (upd H' z o):=fun a u e=>by
 rw [upd_ne (ne_of_none e hz)]
 exact s a u e
theorem SameB.of {b:Addr}{H H':Hp}(s:Same H H') : SameB b H H':=fun a o _ e=>s a o e
theorem cut_all {xs:List V}{j:Nat}(h:xs.length≤j) : cutV xs none (some (j:Int))=xs:=by
 unfold cutV
 rw [HT.sIx_nat]
 have e1:HT.sIx xs.length 0 none=0:=by simp [HT.sIx]
 rw [e1,Nat.min_eq_right h]
 simp
theorem lv_len:∀ is:List Pi,is.length≤(is.map fun i=>i.1.lv).sum
 | []=>Nat.le_refl _
 | i :: is=>by
  have h1:=lv_len is
  have h2:=i.1.lv_pos
  rw [List.length_cons,List.map_cons,List.sum_cons]
  omega
theorem TVs.two {K:PySem.W.Frag}{H:Hp} : ∀ {xs:List V}{is:List Pi},TVs K H xs (is.map piD)→1 < xs.length→∃ ys x1 x2 js i1 i2,xs=ys ++ [x1,x2]∧is=js ++ [i1,i2]∧TVs K H ys (js.map piD)∧TV K H x1 (piD i1)∧TV K H x2 (piD i2)
 | _,[],h,l=>by cases h; exact absurd l (by decide)
 | _,[i],h,l=>by
  cases h with
  | cons _ h=>cases h; exact absurd l (Nat.lt_irrefl 1)
 | _,[i1,i2],h,l=>by
  cases h with
  | cons h1 h =>
   cases h with
   | cons h2 h =>
    cases h
    exact ⟨[],_,_,[],i1,i2,rfl,rfl,.nil,h1,h2⟩
 | _,i :: i1 :: i2 :: is,h,l=>by
  cases h with
  | cons h1 h =>
   obtain ⟨ys,x1,x2,js,j1,j2,rfl,e2,t,t1,t2⟩:=TVs.two (is:=i1 :: i2 :: is) h (by have:=h.length; rw [List.length_map,List.length_cons,List.length_cons] at this; omega)
   refine ⟨_ :: ys,x1,x2,i :: js,j1,j2,rfl,by rw [e2]; rfl,.cons h1 t,t1,t2⟩
theorem TVs.snoc {K:PySem.W.Frag}{H:Hp} : ∀ {xs:List V}{ds:List PyData}{x:V}{d:PyData},TVs K H xs ds→TV K H x d→TVs K H (xs ++ [x]) (ds ++ [d])
 | _,_,_,_,.nil,t=>.cons t .nil
 | _,_,_,_,.cons h hs,t=>.cons h (TVs.snoc hs t)
theorem pop_at (ys:List V)(x1 x2:V) : (ys ++ [x1,x2])[(ys ++ [x1,x2]).length - 1]? = some x2:=by
 rw [List.length_append,List.getElem?_append_right (by simp)]
 have e:ys.length + [x1,x2].length - 1 - ys.length=1:=by show ys.length + 2 - 1 - ys.length=1; omega
 rw [e]
 rfl
theorem pop_rest (ys:List V)(x1 x2:V) : (ys ++ [x1,x2]).dropLast=ys ++ [x1]:=by
 rw [List.dropLast_append_of_ne_nil (by simp)]
 rfl
theorem last_ix (n:Nat) : ixN (n + 1) (-1)=some n:=by
 unfold ixN
 rw [if_neg (by decide),if_pos (by omega)]
 congr 1
 omega
theorem last_at (ys:List V)(x:V) : atI (ys ++ [x]) (-1)=some x:=by
 unfold atI
 rw [List.length_append]
 show (ixN (ys.length + 1) (-1)).bind _=_
 rw [last_ix]
 show (ys ++ [x])[ys.length]? = some x
 rw [List.getElem?_append_right (Nat.le_refl _),Nat.sub_self]
 rfl
theorem set_last (ys:List V)(x v:V) : (ys ++ [x]).set ys.length v=ys ++ [v]:=by
 rw [List.set_append_right _ _ (Nat.le_refl _),Nat.sub_self]
 rfl
theorem lv_app (js:List Pi)(is:List Pi) : ((js ++ is).map fun i=>i.1.lv).sum=(js.map fun i=>i.1.lv).sum + (is.map fun i=>i.1.lv).sum:=by rw [List.map_append,List.sum_append]
theorem ite_yes {A B:Prop}(h:if true=true then A else B) : A:=by rw [if_pos rfl] at h; exact h
theorem fold_ok {K:PySem.W.Frag}{H H' H2:Hp}{z l:Addr}{o:HO}{xs0 ys w:List V}{ds:List PyData}{v:V}{d:PyData}(hz:H z=none) (nl:z ≠ l) (S:Same H H') (hl1:H' l=some o) (hz1:H' z=some (.lst xs0)) (t0:TVs K H' ys ds) (S2:Same (upd H' z (.lst w)) H2) (tv:TV K H2 v d) :
  Same H (upd H2 z (.lst (ys ++ [v])))∧upd H2 z (.lst (ys ++ [v])) l=some o∧TVs K (upd H2 z (.lst (ys ++ [v]))) (ys ++ [v]) (ds ++ [d]):=by
 have st:SameT H' (upd H' z (.lst w)):=(SameT.refl H').lst hz1 _
 have hz2:H2 z=some (.lst w):=S2 _ _ upd_same
 have st2:SameT H2 (upd H2 z (.lst (ys ++ [v]))):=(SameT.refl H2).lst hz2 _
 refine ⟨Same.over ((Same.over S hz _).trans S2) hz _,?_,TVs.snoc (((t0.mono st).mono S2.t).mono st2) (tv.mono st2)⟩
 rw [upd_ne (Ne.symm nl)]
 exact S2 _ _ (by rw [upd_ne (Ne.symm nl)]; exact hl1)
theorem Same.free {H H':Hp}{p:Addr}(s:Same H H')(h:H' p=none) : H p=none:=by
 cases e:H p with
 | none=>rfl
 | some o=>rw [s p o e] at h; cases h
def sp_pick:Sp:=fun vs H Q _=>∃ c k m:Int,vs = [.int c,.int k,.int m]∧0≤k∧k≤1000∧0 < m∧m≤1000∧∀ v:Int,0≤v→v < m→Q (.int v) H
def sp_worth:Sp:=fun vs H Q _=>∃ c y:Int,vs = [.int c,.int y]∧∀ v:Int,-1000000000000000000000000000000 < v→v < 1000000000000000000000000000000→Q (.int v) H
abbrev Bg (n:Int) : Prop:=0≤n∧n < 2147483647
def sp_bag:Sp:=fun vs H Q _=>∃ c:Int,vs = [.int c]∧∀ p b0 b1,H p=none→Bg b1→Q (.ref p) (upd H p (.lst [.int b0,.int b1]))
inductive PI:Tr→Str→List Str→List Str→Prop
 | stop (t:Tr) (q:Str) : PI t q [q] []
 | go {w:Int}{y n:Tr}{q:Str}{ps1 ps2 fs1 fs2:List Str} : PI y (q ++ "y") ps1 fs1→PI n (q ++ "n") ps2 fs2→PI (.fk w y n) q (ps2 ++ ps1) (q :: (fs2 ++ fs1))
theorem PI.len {t:Tr}{q:Str}{ps fs:List Str}(h:PI t q ps fs) : ps.length≤t.lv∧fs.length + 1=ps.length:=by
 induction h with
 | stop t q=>exact ⟨t.lv_pos,rfl⟩
 | @go w y n q ps1 ps2 fs1 fs2 _ _ h1 h2 =>
  rw [List.length_append,List.length_cons,List.length_append]
  show _≤y.lv + n.lv∧_
  omega
def sp_pruned (K:PySem.W.Frag)(d:Nat) : Sp:=fun vs H Q _=>∃ (v:V) (q:Str) (b:Addr) (b0 b1:Int) (t:Tr),vs = [v,.str q,.ref b]∧TV K H v (trD t)∧t.dp≤d∧t.lv≤61∧q.length + d≤100∧H b=some (.lst [.int b0,.int b1])∧Bg b1 ∧
 ∀ H' p c0 c1 ps fs,SameB b H H'→H' b=some (.lst [.int c0,.int c1])→Bg c1→H p=none→H' p=some (.lst (ps.map V.str))→PI t q ps fs→Q (.ref p) H'
def wB (w:Int) : Prop := -100000000000000000000000000000000 < w∧w < 100000000000000000000000000000000
def Tr.B:Tr→Prop
 | .en w=>wB w
 | .fk w y n=>wB w∧y.B∧n.B
def PiOk (i:Pi) : Prop:=i.1.B∧((i.1.lv:Int) * (-1000000000000000000000000000000)≤i.2∧i.2≤(i.1.lv:Int) * 1000000000000000000000000000000)
theorem snoc_all {α:Type}{P:α→Prop}{is:List α}{i:α}(h:∀ x∈is,P x)(h2:P i) : ∀ x∈is ++ [i],P x:=fun x hx=>by
 rcases List.mem_append.mp hx with z | z
 ·exact h x z
 ·rw [List.mem_singleton.mp z]; exact h2
def sp_joined2 (K:PySem.W.Frag) : Sp:=fun vs H Q _=>∃ (c y:Int) (v1 v2:V) (i1 i2:Pi),vs = [.int c,v1,v2,.int y]∧TV K H v1 (piD i1)∧TV K H v2 (piD i2)∧i1.1.lv + i2.1.lv≤50∧PiOk i1∧PiOk i2 ∧
 ∀ H' v i,Same H H'→TV K H' v (piD i)→i.1.lv=i1.1.lv + i2.1.lv→PiOk i→Q v H'
def sp_tree2 (K:PySem.W.Frag) : Sp:=fun vs H Q _=>∃ (a:Addr) (ns:List Int) (y:Int),vs = [.ref a,.int y]∧H a=some (.lst (ns.map V.int))∧1≤ns.length∧ns.length≤21∧∀ H' v t,Same H H'→TV K H' v (trD t)→t.lv≤21→t.B→Q v H'
theorem wB_1 {s a p:Int}(s0 : -50000000000000000000000000000000≤s)(s1:s≤50000000000000000000000000000000)(a0:0≤a)(a1:a≤1000000000000000000000000000000)(p0:0≤p)(p1:p < 9) : wB (s + a * (1 - 2 * (p / 8))):=by
 have h:p / 8=0∨p / 8=1:=by omega
 rcases h with h | h
 ·rw [h]
  constructor <;> omega
 ·rw [h]
  constructor <;> omega
theorem wB_2 {s p l:Int}(s0 : -50000000000000000000000000000000≤s)(s1:s≤50000000000000000000000000000000)(p0:0≤p)(p1:p < 5)(l0:0≤l)(l1:l≤60) : wB (s + (p - 1) * (l - 1)):=by
 have h:p=0∨p=1∨p=2∨p=3∨p=4:=by omega
 rcases h with h | h | h | h | h <;> (rw [h]; constructor <;> omega)
theorem pi_en {w:Int}(h0 : -1000000000000000000000000000000 < w)(h1:w < 1000000000000000000000000000000) : PiOk (.en w,w):=by
 refine ⟨show wB w from ⟨by omega,by omega⟩,?_⟩
 show ((1:Nat) : Int) * (-1000000000000000000000000000000)≤w∧w≤((1:Nat) : Int) * 1000000000000000000000000000000
 omega
def bgs (x:Str)(ps:List Str) : List Str:=ps.filter fun o=>Txt.startswith x o
def kept (ps fs:List Str) : List Str:=ps.filter fun x=>decide ((bgs x fs).length=0)
def tops (fs:List Str) : List Str:=fs.filter fun x=>decide ((bgs x fs).length=1)
def stepS (x s o:Str) : Str:=if Txt.startswith x o=true∧o.length < s.length then o else s
def shortest (x:Str)(fs:List Str) : Str:=fs.foldl (stepS x) x
def stepM (fs:List Str)(m:List Str)(x:Str) : List Str:=if shortest x fs∈m then m else m ++ [shortest x fs]
def made (ps fs:List Str) : List Str:=ps.foldl (stepM fs) []
theorem mem_bgs {x o:Str}{ps:List Str} : o∈bgs x ps↔o∈ps∧cds o <+: cds x:=by
 unfold bgs
 rw [List.mem_filter,starts_iff]
theorem cut_pre (x o:Str) : Txt.slice x none (some (o.length:Int))=o↔Txt.startswith x o=true:=by
 rw [starts_iff]
 by_cases h:o.length≤x.length
 ·rw [cut_to (by omega) (by omega),List.prefix_iff_eq_take,cds_len]
  constructor
  ·intro e
   exact (congrArg cds e).symm
  ·intro e
   exact str_ext e.symm
 ·constructor
  ·intro e
   have:=Txt.slice_le x none (some (o.length:Int))
   rw [e] at this
   omega
  ·intro e
   have:=e.length_le
   rw [cds_len,cds_len] at this
   omega
theorem pre_same {a b:Str}(h:cds a <+: cds b)(l:b.length≤a.length) : a=b:=by
 obtain ⟨r,e⟩:=h
 have l2:=congrArg List.length e
 rw [List.length_append,cds_len,cds_len] at l2
 have:r = []:=List.length_eq_zero_iff.mp (by omega)
 subst this
 rw [List.append_nil] at e
 exact str_ext e
theorem pre_app (q s:Str) : cds q <+: cds (q ++ s):=by rw [cds_app]; exact List.prefix_append _ _
theorem yn_apart {q x:Str}(h1:cds (q ++ "y") <+: cds x)(h2:cds (q ++ "n") <+: cds x) : False:=by
 obtain ⟨r1,e1⟩:=h1
 obtain ⟨r2,e2⟩:=h2
 rw [cds_app,List.append_assoc] at e1 e2
 have e:=List.append_cancel_left (e1.trans e2.symm)
 have z1:cds ("y" : Str) = [121]:=by decide +kernel
 have z2:cds ("n" : Str) = [110]:=by decide +kernel
 rw [z1,z2] at e
 injection e with e _
 exact absurd e (by decide)
theorem longer {q x:Str}{s:Str}(hs:s.length=1)(h:cds (q ++ s) <+: cds x) : ¬ cds x <+: cds q:=by
 intro g
 have l1:=h.length_le
 have l2:=g.length_le
 rw [cds_len,cds_len,len_app] at l1
 rw [cds_len,cds_len] at l2
 omega
theorem PI.pre {t:Tr}{q:Str}{ps gs:List Str}(h:PI t q ps gs) : (∀ x∈ps,cds q <+: cds x)∧(∀ f∈gs,cds q <+: cds f):=by
 induction h with
 | stop t q=>exact ⟨fun x hx=>by rw [List.mem_singleton.mp hx]; exact List.prefix_refl _,fun f hf=>by cases hf⟩
 | @go w y n q ps1 ps2 fs1 fs2 _ _ h1 h2 =>
  refine ⟨fun x hx=>?_,fun f hf=>?_⟩
  ·rcases List.mem_append.mp hx with hx | hx
   ·exact (pre_app q _).trans (h2.1 x hx)
   ·exact (pre_app q _).trans (h1.1 x hx)
  ·rcases List.mem_cons.mp hf with rfl | hf
   ·exact List.prefix_refl _
   ·rcases List.mem_append.mp hf with hf | hf
    ·exact (pre_app q _).trans (h2.2 f hf)
    ·exact (pre_app q _).trans (h1.2 f hf)
theorem ynl:("y" : Str).length=1∧("n" : Str).length=1:=by decide +kernel
structure Facts (ps gs:List Str) : Prop where
 n1:ps.Nodup
 n2:gs.Nodup
 ap:∀ x∈ps,∀ f∈gs,¬ cds x <+: cds f
 co:∀ f∈gs,∃ x∈ps,cds f <+: cds x
 ne:ps ≠ []
theorem PI.facts {t:Tr}{q:Str}{ps gs:List Str}(h:PI t q ps gs) : Facts ps gs:=by
 induction h with
 | stop t q=>exact ⟨List.nodup_cons.mpr ⟨List.not_mem_nil,List.nodup_nil⟩,List.nodup_nil,fun x _ f hf=>(by cases hf),fun f hf=>(by cases hf),(by simp)⟩
 | @go w y n q ps1 ps2 fs1 fs2 g1 g2 h1 h2 =>
  have p1:=g1.pre
  have p2:=g2.pre
  refine ⟨?_,?_,?_,?_,?_⟩
  ·rw [List.nodup_append]
   exact ⟨h2.n1,h1.n1,fun a ha b hb e=>by subst e; exact yn_apart (p1.1 _ hb) (p2.1 _ ha)⟩
  ·rw [List.nodup_cons,List.nodup_append]
   refine ⟨fun z=>?_,h2.n2,h1.n2,fun a ha b hb e=>by subst e; exact yn_apart (p1.2 _ hb) (p2.2 _ ha)⟩
   rcases List.mem_append.mp z with z | z
   ·exact longer ynl.2 (p2.2 _ z) (List.prefix_refl _)
   ·exact longer ynl.1 (p1.2 _ z) (List.prefix_refl _)
  ·intro x hx f hf z
   rcases List.mem_cons.mp hf with rfl | hf
   ·rcases List.mem_append.mp hx with hx | hx
    ·exact longer ynl.2 (p2.1 _ hx) z
    ·exact longer ynl.1 (p1.1 _ hx) z
   ·rcases List.mem_append.mp hx with hx | hx <;> rcases List.mem_append.mp hf with hf | hf
    ·exact h2.ap x hx f hf z
    ·exact yn_apart (p1.2 _ hf) ((p2.1 _ hx).trans z)
    ·exact yn_apart ((p1.1 _ hx).trans z) (p2.2 _ hf)
    ·exact h1.ap x hx f hf z
  ·intro f hf
   rcases List.mem_cons.mp hf with rfl | hf
   ·obtain ⟨x,r,e⟩:=List.exists_cons_of_ne_nil h1.ne
    exact ⟨x,List.mem_append_right _ (by rw [e]; exact List.mem_cons_self),(pre_app _ _).trans (p1.1 x (by rw [e]; exact List.mem_cons_self))⟩
   ·rcases List.mem_append.mp hf with hf | hf
    ·obtain ⟨x,hx,z⟩:=h2.co f hf
     exact ⟨x,List.mem_append_left _ hx,z⟩
    ·obtain ⟨x,hx,z⟩:=h1.co f hf
     exact ⟨x,List.mem_append_right _ hx,z⟩
  ·intro z
   exact h1.ne (List.append_eq_nil_iff.mp z).2
theorem rising_pw:∀ (p:Str) (l:List Str),PyProof.Rows.risingS p l=true→∀ x∈l,cds p≤cds x
 | p,[],_,x,hx=>by cases hx
 | p,y :: r,h,x,hx=>by
  have h:(!PySem.Spec.ltCps y.cps.toList p.cps.toList && PyProof.Rows.risingS y r)=true:=h
  rw [Bool.and_eq_true,Bool.not_eq_true',PyProof.Rows.ltCps_eq,decide_eq_false_iff_not] at h
  have hpy:cds p≤cds y:=h.1
  rcases List.mem_cons.mp hx with rfl | hx
  ·exact hpy
  ·exact List.le_trans hpy (rising_pw y r h.2 x hx)
theorem sorted_tail {a:Str}{l:List Str}(h:PyProof.Rows.sortedS (a :: l)=true) : PyProof.Rows.sortedS l=true:=by
 cases l with
 | nil=>rfl
 | cons b l =>
  have h:(!PySem.Spec.ltCps b.cps.toList a.cps.toList && PyProof.Rows.risingS b l)=true:=h
  rw [Bool.and_eq_true] at h
  exact h.2
theorem sorted_one:∀ {l1 l2:List Str},PyProof.Rows.sortedS l1=true→PyProof.Rows.sortedS l2=true→l1.Perm l2→l1=l2
 | [],l2,_,_,p=>(List.nil_perm.mp p).symm
 | a :: l1,[],_,_,p=>absurd p.symm (by intro z; have:=z.length_eq; cases this)
 | a :: l1,b :: l2,h1,h2,p=>by
  have ha:a∈b :: l2:=p.mem_iff.mp List.mem_cons_self
  have hb:b∈a :: l1:=p.mem_iff.mpr List.mem_cons_self
  have e:a=b:=by
   rcases List.mem_cons.mp ha with e | ha
   ·exact e
   ·rcases List.mem_cons.mp hb with e | hb
    ·exact e.symm
    ·exact str_ext (List.le_antisymm (rising_pw a l1 h1 b hb) (rising_pw b l2 h2 a ha))
  subst e
  rw [sorted_one (sorted_tail h1) (sorted_tail h2) (List.Perm.cons_inv p)]
theorem filter_take {α:Type}{l:List α}{p:α→Bool}{i:Nat}{a:α}(h:l[i]? = some a) : (l.take (i + 1)).filter p=(l.take i).filter p ++ (if p a=true then [a] else []):=by
 rw [List.take_add_one,h,List.filter_append]
 congr 1
 simp [List.filter_cons]
theorem flat_str (ps:List Str) : (ps.map V.str).all flatV=true:=by
 rw [List.all_map]
 exact List.all_eq_true.mpr fun _ _=>rfl
theorem PI.short {t:Tr}{q:Str}{ps gs:List Str}(h:PI t q ps gs) : (∀ x∈ps,x.length≤q.length + t.dp)∧∀ x∈gs,x.length≤q.length + t.dp:=by
 induction h with
 | stop t q=>exact ⟨fun x hx=>by rw [List.mem_singleton.mp hx]; omega,fun x hx=>(by cases hx)⟩
 | @go w y n q ps1 ps2 fs1 fs2 _ _ h1 h2 =>
  have d:(Tr.fk w y n).dp=max y.dp n.dp + 1:=rfl
  rw [len_app,ynl.1] at h1
  rw [len_app,ynl.2] at h2
  refine ⟨fun x hx=>?_,fun x hx=>?_⟩
  ·rcases List.mem_append.mp hx with hx | hx
   ·have:=h2.1 x hx; omega
   ·have:=h1.1 x hx; omega
  ·rcases List.mem_cons.mp hx with rfl | hx
   ·omega
   ·rcases List.mem_append.mp hx with hx | hx
    ·have:=h2.2 x hx; omega
    ·have:=h1.2 x hx; omega
def Asc (x:Str) : Prop:=∀ c∈cds x,c < 128
theorem Asc.app {x y:Str}(h:Asc x)(g:Asc y) : Asc (x ++ y):=fun c hc=>by
 rw [cds_app] at hc
 exact (List.mem_append.mp hc).elim (h c) (g c)
theorem PI.asc {t:Tr}{q:Str}{ps gs:List Str}(h:PI t q ps gs) : Asc q→(∀ x∈ps,Asc x)∧∀ x∈gs,Asc x:=by
 have ay:Asc "y" := by unfold Asc; decide +kernel
 have an:Asc "n" := by unfold Asc; decide +kernel
 induction h with
 | stop t q=>exact fun a=>⟨fun x hx=>by rw [List.mem_singleton.mp hx]; exact a,fun x hx=>(by cases hx)⟩
 | @go w y n q ps1 ps2 fs1 fs2 _ _ h1 h2 =>
  intro a
  have h1:=h1 (a.app ay)
  have h2:=h2 (a.app an)
  refine ⟨fun x hx=>?_,fun x hx=>?_⟩
  ·rcases List.mem_append.mp hx with hx | hx
   ·exact h2.1 x hx
   ·exact h1.1 x hx
  ·rcases List.mem_cons.mp hx with rfl | hx
   ·exact a
   ·rcases List.mem_append.mp hx with hx | hx
    ·exact h2.2 x hx
    ·exact h1.2 x hx
theorem dvS {K:PySem.W.Frag}{H:Hp}{p:Addr}{ps:List Str}(h:H p=some (.lst (ps.map V.str))) : DV K H (.ref p) (.list (ps.map PyData.str)):=.lst (SqL.of h) (TVs.strs ps).dv
theorem shS {n:Nat}{ps:List Str}(h:∀ x∈ps,Asc x) : Shp (n + 1) (.list (ps.map PyData.str)):=.lst fun d hd=>by
 obtain ⟨x,hx,rfl⟩:=List.mem_map.mp hd
 exact .str n (h x hx)
structure Okf (fs gs:List Str) : Prop where
 sb:∀ f∈fs,f∈gs
 nd:fs.Nodup
 ln:fs.length≤gs.length
def sp_beginnings (K:PySem.W.Frag) : Sp:=fun vs H Q _=>∃ (x:Str) (a:Addr) (ps:List Str),vs = [.str x,.ref a]∧H a=some (.lst (ps.map V.str))∧ps.length≤100∧∀ p,H p=none→Q (.ref p) (upd H p (.lst ((bgs x ps).map V.str)))
def sp_cut (K:PySem.W.Frag) : Sp:=fun vs H Q _=>∃ (a b:Addr) (ps fs:List Str),vs = [.ref a,.ref b]∧H a=some (.lst (ps.map V.str))∧H b=some (.lst (fs.map V.str))∧ps.length≤100∧fs.length≤100∧(kept ps fs ++ tops fs).length < 64 ∧
 ∀ H' p rs,Same H H'→H p=none→H' p=some (.lst (rs.map V.str))→rs.Perm (kept ps fs ++ tops fs)→PyProof.Rows.sortedS rs=true→Q (.ref p) H'
def sp_law (K:PySem.W.Frag) : Sp:=fun vs H Q _=>∃ (a:Addr) (ns:List Int),vs = [.ref a]∧SqF K H a (ns.map V.int)∧ns.length≤63∧∀ H',Q (.bl true) H'
theorem cut_some (ns:List Int)(i j:Nat) : ∃ ms:List Int,cutV (ns.map V.int) (some (i:Int)) (some (j:Int))=ms.map V.int∧ms.length≤j - i:=by
 unfold cutV
 rw [HT.sIx_nat,HT.sIx_nat]
 refine ⟨(ns.drop (min i (ns.map V.int).length)).take (min j (ns.map V.int).length - min i (ns.map V.int).length),?_,?_⟩
 ·rw [List.map_take,List.map_drop]
 ·rw [List.length_take]
  omega
def Tr.w:Tr→Int
 | .en w=>w
 | .fk w _ _=>w
inductive PS:Tr→Str→List Str→Int→Prop
 | stop (t:Tr) (q:Str) : PS t q [q] t.w
 | go {w:Int}{y n:Tr}{q:Str}{ps1 ps2:List Str}{s1 s2:Int} : PS y (q ++ "y") ps1 s1→PS n (q ++ "n") ps2 s2→PS (.fk w y n) q (ps2 ++ ps1) (s1 + s2)
theorem PS.pi {t:Tr}{q:Str}{ps:List Str}{s:Int}(h:PS t q ps s) : ∃ gs,PI t q ps gs:=by
 induction h with
 | stop t q=>exact ⟨_,.stop t q⟩
 | go _ _ h1 h2 =>
  obtain ⟨g1,h1⟩:=h1
  obtain ⟨g2,h2⟩:=h2
  exact ⟨_,.go h1 h2⟩
theorem PI.ps {t:Tr}{q:Str}{ps gs:List Str}(h:PI t q ps gs) : ∃ s,PS t q ps s:=by
 induction h with
 | stop t q=>exact ⟨_,.stop t q⟩
 | go _ _ h1 h2 =>
  obtain ⟨g1,h1⟩:=h1
  obtain ⟨g2,h2⟩:=h2
  exact ⟨_,.go h1 h2⟩
def Lies (one other:List Str) : Prop:=∀ x∈other,∃ o∈one,cds o <+: cds x
theorem Lies.refl (ps:List Str) : Lies ps ps:=fun x hx=>⟨x,hx,List.prefix_refl _⟩
theorem Lies.join {a b c d:List Str}(h1:Lies a b)(h2:Lies c d) : Lies (c ++ a) (d ++ b):=fun x hx=>by
 rcases List.mem_append.mp hx with z | z
 ·obtain ⟨o,ho,p⟩:=h2 x z
  exact ⟨o,List.mem_append_left _ ho,p⟩
 ·obtain ⟨o,ho,p⟩:=h1 x z
  exact ⟨o,List.mem_append_right _ ho,p⟩
theorem Lies.root {t:Tr}{q:Str}{ps:List Str}{s:Int}(h:PS t q ps s) : Lies [q] ps:=fun x hx=>by
 obtain ⟨gs,p⟩:=h.pi
 exact ⟨q,List.mem_singleton.mpr rfl,p.pre.1 x hx⟩
def best (b c:Int) : Tr→Str→List Str × Int
 | .en w,q=>([q],w)
 | .fk w y n,q=>if ((best b c y (q ++ "y")).2 + (best b c n (q ++ "n")).2) * b + c * ((best b c n (q ++ "n")).1.length + (best b c y (q ++ "y")).1.length - 1) < w * b then ((best b c n (q ++ "n")).1 ++ (best b c y (q ++ "y")).1,(best b c y (q ++ "y")).2 + (best b c n (q ++ "n")).2) else ([q],w)
theorem best_ps (b c:Int) : ∀ (t:Tr) (q:Str),PS t q (best b c t q).1 (best b c t q).2
 | .en w,q=>.stop (.en w) q
 | .fk w y n,q=>by
  unfold best
  split
  ·exact .go (best_ps b c y _) (best_ps b c n _)
  ·exact .stop (.fk w y n) q
theorem best_least (b c:Int) {t:Tr}{q:Str}{ps:List Str}{s:Int}(h:PS t q ps s) :
  (best b c t q).2 * b + c * ((best b c t q).1.length:Nat)≤s * b + c * (ps.length:Nat)∧((best b c t q).2 * b + c * ((best b c t q).1.length:Nat)=s * b + c * (ps.length:Nat)→Lies (best b c t q).1 ps):=by
 induction h with
 | stop t q =>
  cases t with
  | en w=>exact ⟨Int.le_refl _,fun _=>Lies.refl _⟩
  | fk w y n =>
   unfold best
   split
   ·rename_i hc
    rw [List.length_append]
    generalize (best b c y (q ++ "y")).2=s1 at *
    generalize (best b c n (q ++ "n")).2=s2 at *
    generalize (best b c y (q ++ "y")).1.length=l1 at *
    generalize (best b c n (q ++ "n")).1.length=l2 at *
    have e:((l2 + l1:Nat) : Int)=(l2:Int) + l1:=by omega
    have e2:c * (((l2:Int) + l1) - 1)=c * ((l2:Int) + l1) - c:=by rw [Int.mul_sub,Int.mul_one]
    show (s1 + s2) * b + c * ((l2 + l1:Nat) : Int)≤w * b + c * 1∧_
    have e3:(([q] : List Str).length:Int)=1:=rfl
    rw [e,Int.mul_one]
    rw [e2] at hc
    refine ⟨by omega,fun z=>?_⟩
    exfalso
    have z:(s1 + s2) * b + c * ((l2:Int) + l1)=w * b + c * 1:=by rw [← e]; exact z
    rw [Int.mul_one] at z
    omega
   ·exact ⟨Int.le_refl _,fun _=>Lies.refl _⟩
 | @go w y n q ps1 ps2 s1 s2 h1 h2 i1 i2 =>
  obtain ⟨a1,b1⟩:=i1
  obtain ⟨a2,b2⟩:=i2
  have lr:Lies [q] (ps2 ++ ps1):=Lies.root (.go (w:=w) h1 h2)
  unfold best
  generalize best b c y (q ++ "y")=Y at *
  generalize best b c n (q ++ "n")=N at *
  obtain ⟨py,sy⟩:=Y
  obtain ⟨pn,sn⟩:=N
  dsimp only at *
  have el:((ps2 ++ ps1).length:Int)=(ps2.length:Int) + ps1.length:=by rw [List.length_append]; omega
  have er:((pn ++ py).length:Int)=(pn.length:Int) + py.length:=by rw [List.length_append]; omega
  have d1:c * ((ps2.length:Int) + ps1.length)=c * ps2.length + c * ps1.length:=Int.mul_add _ _ _
  have d2:c * ((pn.length:Int) + py.length)=c * pn.length + c * py.length:=Int.mul_add _ _ _
  have d3:(s1 + s2) * b=s1 * b + s2 * b:=Int.add_mul _ _ _
  have d4:(sy + sn) * b=sy * b + sn * b:=Int.add_mul _ _ _
  have d5:c * (((pn.length:Int) + py.length) - 1)=c * ((pn.length:Int) + py.length) - c:=by rw [Int.mul_sub,Int.mul_one]
  split
  ·show (sy + sn) * b + c * ((pn ++ py).length:Nat)≤_∧((sy + sn) * b + c * ((pn ++ py).length:Nat)=_→Lies (pn ++ py) _)
   rw [el,er,d1,d2,d3,d4]
   exact ⟨by omega,fun z=>Lies.join (b1 (by omega)) (b2 (by omega))⟩
  ·rename_i hc
   rw [d5] at hc
   show w * b + c * 1≤_∧(_→Lies [q] _)
   rw [el,d1,d3,Int.mul_one]
   rw [d4,d2] at hc
   exact ⟨by omega,fun _=>lr⟩
inductive CQ where
 | en (q:Rat)
 | fk (q:Rat) (y n:CQ)
def CQ.dp:CQ→Nat
 | .en _=>0
 | .fk _ y n=>1 + max y.dp n.dp
def rtD (q:Rat) : PyData:=.tuple [.int q.num,.int (q.den:Int)]
inductive CV (K:PySem.W.Frag) (H:Hp) : V→CQ→Prop
 | en {p r:Addr}{q:Rat} : H p=some (.tup [.str "end", .ref r])→H r=some (rt q)→CV K H (.ref p) (.en q)
 | fk {p r:Addr}{q:Rat}{v1 v2:V}{y n:CQ} : H p=some (.tup [.str "fork", .ref r,v1,v2])→H r=some (rt q)→CV K H v1 y→CV K H v2 n→CV K H (.ref p) (.fk q y n)
theorem CV.mono {K:PySem.W.Frag}{H H':Hp}{v:V}{c:CQ}(h:CV K H v c)(s:SameT H H') : CV K H' v c:=by
 induction h with
 | en h1 h2=>exact .en (s _ _ h1) (s _ _ h2)
 | fk h1 h2 _ _ i1 i2=>exact .fk (s _ _ h1) (s _ _ h2) i1 i2
theorem CV.same {K:PySem.W.Frag}{H H':Hp}{v:V}{c:CQ}(h:CV K H v c)(s:Same H H') : CV K H' v c:=h.mono s.t
theorem dvR {K:PySem.W.Frag}{H:Hp}{r:Addr}{q:Rat}(h:H r=some (rt q)) : DV K H (.ref r) (rtD q):=.tup (SqT.of h) (.cons (.int _) (.cons (.int _) .nil))
theorem shpRt (n:Nat)(q:Rat) : Shp (n + 1) (rtD q):=.tup fun d hd=>by
 rcases hd with _ | ⟨_,_ | ⟨_,hd⟩⟩
 ·exact .int n _
 ·exact .int n _
 ·cases hd
def plc:Tr→Str→List (Str × Str)
 | .en _,q=>[(q, "end")]
 | .fk _ y n,q=>(q,("fork" : Str)) :: (plc y (q ++ "y") ++ plc n (q ++ "n"))
theorem plc_len:∀ (t:Tr) (q:Str),(plc t q).length + 1=2 * t.lv
 | .en _,_=>rfl
 | .fk _ y n,q=>by
  have h1:=plc_len y (q ++ "y")
  have h2:=plc_len n (q ++ "n")
  show ((q,("fork" : Str)) :: (plc y (q ++ "y") ++ plc n (q ++ "n"))).length + 1=2 * (y.lv + n.lv)
  rw [List.length_cons,List.length_append]
  omega
def plD (u:Str × Str) : PyData:=.tuple [.str u.1,.str u.2]
def tdD (e:Str × Tr) : PyData:=.tuple [.str e.1,trD e.2]
theorem snocT {P:Str × Tr→Prop}{as:List (Str × Tr)}{e:Str × Tr}(h:∀ x∈as,P x)(he:P e) : ∀ x∈as ++ [e],P x:=fun x hx=>by
 rcases List.mem_append.mp hx with z | z
 ·exact h x z
 ·rw [List.mem_singleton.mp z]; exact he
theorem TVs.last {K:PySem.W.Frag}{H:Hp} : ∀ {ys:List V}{ts:List (Str × Tr)},TVs K H ys (ts.map tdD)→0 < ys.length→∃ zs y as e,ys=zs ++ [y]∧ts=as ++ [e]∧TVs K H zs (as.map tdD)∧TV K H y (tdD e)
 | _,[],h,l=>by cases h; exact absurd l (Nat.lt_irrefl 0)
 | _,[e],h,l=>by
  cases h with
  | cons h1 h=>cases h; exact ⟨[],_,[],e,rfl,rfl,.nil,h1⟩
 | _,e :: e2 :: ts,h,l=>by
  cases h with
  | cons h1 h =>
   obtain ⟨zs,y,as,e',rfl,e3,t,ty⟩:=TVs.last (ts:=e2 :: ts) h (by rw [h.length]; exact Nat.succ_pos _)
   exact ⟨_ :: zs,y,e :: as,e',rfl,by rw [e3]; rfl,.cons h1 t,ty⟩
theorem pop1_at (ys:List V)(x:V) : (ys ++ [x])[(ys ++ [x]).length - 1]? = some x:=by
 rw [List.length_append,List.getElem?_append_right (by simp)]
 simp
theorem pop1_rest (ys:List V)(x:V) : (ys ++ [x]).dropLast=ys:=by simp
def rD (B w:Int) : PyData:=if B=0 then .int w else .tuple [.int (Rat.divInt w B).num,.int ((Rat.divInt w B).den:Int)]
theorem rD_pos {B w:Int}(h:0 < B) : rD B w = .tuple [.int (Rat.divInt w B).num,.int ((Rat.divInt w B).den:Int)]:=if_neg (by omega)
theorem rD_0 {w:Int} : rD 0 w = .int w:=if_pos rfl
def htD (B:Int) : Tr→PyData
 | .en w=>.tuple [.str "end", rD B w]
 | .fk w y n=>.tuple [.str "fork", rD B w,htD B y,htD B n]
theorem htD_0:∀ t:Tr,htD 0 t=trD t
 | .en w=>by rw [htD,trD,rD_0]
 | .fk w y n=>by rw [htD,trD,rD_0,htD_0 y,htD_0 n]
theorem TV.rD {K:PySem.W.Frag}{H:Hp}{x:V}{B w:Int}(hB:0 < B)(h:TV K H x (rD B w)) : ∃ c,x = .ref c∧H c=some (rt (Rat.divInt w B)):=by
 rw [rD_pos hB] at h
 obtain ⟨p,u,v,rfl,hp,t1,t2⟩:=TV.pair h
 obtain rfl:=t1.ints
 obtain rfl:=t2.ints
 exact ⟨p,rfl,hp⟩
theorem TV.rD' {K:PySem.W.Frag}{H:Hp}{c:Addr}{B w:Int}(hB:0 < B)(h:H c=some (rt (Rat.divInt w B))) : TV K H (.ref c) (Lw.rD B w):=by
 rw [rD_pos hB]
 exact .tup h (.cons (.int _) (.cons (.int _) .nil))
theorem TV.hen {K:PySem.W.Frag}{H:Hp}{x:V}{B w:Int}(h:TV K H x (htD B (.en w))) : ∃ p c,x = .ref p∧H p=some (.tup [.str "end", c])∧TV K H c (Lw.rD B w):=by
 unfold htD at h
 obtain ⟨p,u,v,rfl,hp,t1,t2⟩:=TV.pair h
 obtain rfl:=t1.strs
 exact ⟨p,_,rfl,hp,t2⟩
theorem TV.hfk {K:PySem.W.Frag}{H:Hp}{x:V}{B w:Int}{y n:Tr}(h:TV K H x (htD B (.fk w y n))) : ∃ p c u v,x = .ref p∧H p=some (.tup [.str "fork", c,u,v])∧TV K H c (Lw.rD B w)∧TV K H u (htD B y)∧TV K H v (htD B n):=by
 unfold htD at h
 obtain ⟨p,a,b,u,v,rfl,hp,t1,t2,t3,t4⟩:=TV.quad h
 obtain rfl:=t1.strs
 exact ⟨p,b,u,v,rfl,hp,t2,t3,t4⟩
theorem TV.hen' {K:PySem.W.Frag}{H:Hp}{p c:Addr}{B w:Int}(hB:0 < B)(h:H p=some (.tup [.str "end", .ref c]))(hc:H c=some (rt (Rat.divInt w B))) : TV K H (.ref p) (htD B (.en w)):=by
 unfold htD
 exact .tup h (.cons (.str _) (.cons (TV.rD' hB hc) .nil))
theorem TV.hfk' {K:PySem.W.Frag}{H:Hp}{p c:Addr}{u v:V}{B w:Int}{y n:Tr}(hB:0 < B)(h:H p=some (.tup [.str "fork", .ref c,u,v]))(hc:H c=some (rt (Rat.divInt w B)))(h1:TV K H u (htD B y))(h2:TV K H v (htD B n)) : TV K H (.ref p) (htD B (.fk w y n)):=by
 unfold htD
 exact .tup h (.cons (.str _) (.cons (TV.rD' hB hc) (.cons h1 (.cons h2 .nil))))
def knd:Tr→Str
 | .en _ => "end"
 | .fk _ _ _ => "fork"
def plt:Tr→Str→List (Str × Tr)
 | .en w,q=>[(q,.en w)]
 | .fk w y n,q=>(q,.fk w y n) :: (plt y (q ++ "y") ++ plt n (q ++ "n"))
theorem plt_plc:∀ (t:Tr) (q:Str),plc t q=(plt t q).map fun e=>(e.1,knd e.2)
 | .en _,_=>rfl
 | .fk w y n,q=>by
  show (q,("fork" : Str)) :: (plc y (q ++ "y") ++ plc n (q ++ "n"))=(q,("fork" : Str)) :: ((plt y (q ++ "y") ++ plt n (q ++ "n")).map fun e=>(e.1,knd e.2))
  rw [plt_plc y,plt_plc n,List.map_append]
theorem plt_pre:∀ {t:Tr}{q:Str}{e:Str × Tr},e∈plt t q→cds q <+: cds e.1
 | .en _,q,e,h=>by rw [List.mem_singleton.mp h]; exact List.prefix_refl _
 | .fk w y n,q,e,h=>by
  rcases List.mem_cons.mp h with rfl | h
  ·exact List.prefix_refl _
  ·rcases List.mem_append.mp h with h | h
   ·exact (pre_app _ _).trans (plt_pre h)
   ·exact (pre_app _ _).trans (plt_pre h)
theorem plt_nodup:∀ (t:Tr) (q:Str),((plt t q).map (·.1)).Nodup
 | .en _,_=>List.nodup_cons.mpr ⟨List.not_mem_nil,List.nodup_nil⟩
 | .fk w y n,q=>by
  show (q :: ((plt y (q ++ "y") ++ plt n (q ++ "n")).map (·.1))).Nodup
  rw [List.map_append,List.nodup_cons,List.nodup_append]
  refine ⟨fun z=>?_,plt_nodup y _,plt_nodup n _,fun a ha b hb e=>?_⟩
  ·rcases List.mem_append.mp z with z | z
   ·obtain ⟨e,he,rfl⟩:=List.mem_map.mp z
    exact longer ynl.1 (plt_pre he) (List.prefix_refl _)
   ·obtain ⟨e,he,rfl⟩:=List.mem_map.mp z
    exact longer ynl.2 (plt_pre he) (List.prefix_refl _)
  ·obtain ⟨e1,h1,rfl⟩:=List.mem_map.mp ha
   obtain ⟨e2,h2,rfl⟩:=List.mem_map.mp hb
   exact yn_apart (plt_pre h1) (by rw [e]; exact plt_pre h2)
theorem plt_len (t:Tr)(q:Str) : (plt t q).length + 1=2 * t.lv:=by have:=plc_len t q; rw [plt_plc,List.length_map] at this; exact this
theorem plc_nodup (t:Tr)(q:Str) : ((plc t q).map (·.1)).Nodup:=by
 rw [plt_plc,List.map_map]
 exact plt_nodup t q
def thD (B:Int)(e:Str × Tr) : PyData:=.tuple [.str e.1,htD B e.2]
def plts (ts:List (Str × Tr)) : List (Str × Tr):=ts.flatMap fun e=>plt e.2 e.1
theorem plts_app (as bs:List (Str × Tr)) : plts (as ++ bs)=plts as ++ plts bs:=List.flatMap_append
theorem plts_len:∀ as:List (Str × Tr),as.length≤(plts as).length
 | []=>Nat.le_refl _
 | e :: as=>by
  have h:=plts_len as
  have h2:=plt_len e.2 e.1
  have h3:=e.2.lv_pos
  show as.length + 1≤(plt e.2 e.1 ++ plts as).length
  rw [List.length_append]
  omega
theorem plt_step {us A B:List (Str × Tr)}(x:Str × Tr) : ((us ++ [x]) ++ (A ++ B)).Perm (us ++ (A ++ (x :: B))):=by
 rw [List.append_assoc]
 exact List.Perm.append_left us (List.perm_middle (l₁:=A) (a:=x) (l₂:=B)).symm
inductive DT (K:PySem.W.Frag) (B:Int) (H:Hp) : List (Key × V)→List (Str × Tr)→Prop
 | nil:DT K B H [] []
 | cons {v:V}{e:Str × Tr}{kvs:List (Key × V)}{es:List (Str × Tr)} : TV K H v (htD B e.2)→DT K B H kvs es→DT K B H ((.inr e.1,v) :: kvs) (e :: es)
theorem DT.mono {K:PySem.W.Frag}{B:Int}{H H':Hp}{kvs:List (Key × V)}{es:List (Str × Tr)}(h:DT K B H kvs es)(s:SameT H H') : DT K B H' kvs es:=by
 induction h with
 | nil=>exact .nil
 | cons t _ ih=>exact .cons (t.mono s) ih
theorem DT.snoc {K:PySem.W.Frag}{B:Int}{H:Hp}{kvs:List (Key × V)}{es:List (Str × Tr)}{v:V}{e:Str × Tr}(h:DT K B H kvs es)(t:TV K H v (htD B e.2)) : DT K B H (kvs ++ [(.inr e.1,v)]) (es ++ [e]):=by
 induction h with
 | nil=>exact .cons t .nil
 | cons a _ ih=>exact .cons a ih
theorem DT.length {K:PySem.W.Frag}{B:Int}{H:Hp}{kvs:List (Key × V)}{es:List (Str × Tr)}(h:DT K B H kvs es) : kvs.length=es.length:=by
 induction h with
 | nil=>rfl
 | cons _ _ ih=>rw [List.length_cons,List.length_cons,ih]
theorem DT.vno {K:PySem.W.Frag}{B:Int}{H:Hp}{kvs:List (Key × V)}{es:List (Str × Tr)}{x:Str}(h:DT K B H kvs es)(n:x ∉ es.map (·.1)) : valV kvs (.inr x)=none:=by
 induction h with
 | nil=>rfl
 | @cons v e kvs es _ _ ih =>
  rw [List.map_cons,List.mem_cons,not_or] at n
  rw [valV_neg (by intro z; injection z with z; exact n.1 z.symm)]
  exact ih n.2
theorem DT.get {K:PySem.W.Frag}{B:Int}{H:Hp}{kvs:List (Key × V)}{es:List (Str × Tr)}{i:Nat}{k:Key}{v:V}(h:DT K B H kvs es)(e:kvs[i]? = some (k,v)) : ∃ x,es[i]? = some x∧k = .inr x.1∧TV K H v (htD B x.2):=by
 induction h generalizing i with
 | nil=>cases i <;> cases e
 | @cons v' x kvs es t _ ih =>
  cases i with
  | zero =>
   have e:=Option.some.inj e
   cases e
   exact ⟨x,rfl,rfl,t⟩
  | succ i=>exact ih e
theorem TVs.lastH {K:PySem.W.Frag}{H:Hp}{B:Int} : ∀ {ys:List V}{ts:List (Str × Tr)},TVs K H ys (ts.map (thD B))→0 < ys.length→∃ zs y as e,ys=zs ++ [y]∧ts=as ++ [e]∧TVs K H zs (as.map (thD B))∧TV K H y (thD B e)
 | _,[],h,l=>by cases h; exact absurd l (Nat.lt_irrefl 0)
 | _,[e],h,l=>by
  cases h with
  | cons h1 h=>cases h; exact ⟨[],_,[],e,rfl,rfl,.nil,h1⟩
 | _,e :: e2 :: ts,h,l=>by
  cases h with
  | cons h1 h =>
   obtain ⟨zs,y,as,e',rfl,e3,t,ty⟩:=TVs.lastH (ts:=e2 :: ts) h (by rw [h.length]; exact Nat.succ_pos _)
   exact ⟨_ :: zs,y,e :: as,e',rfl,by rw [e3]; rfl,.cons h1 t,ty⟩
def sp_trees (K:PySem.W.Frag) : Sp:=fun vs H Q _=>∃ (v:V) (t:Tr) (B:Int),vs = [v]∧TV K H v (htD B t)∧t.lv≤61∧∀ H' d kvs es,Same H H'→H d=none→H' d=some (.dK kvs)→DT K B H' kvs es→es.Perm (plt t "")→Q (.ref d) H'
theorem st_dk {H H':Hp}{z:Addr}{kvs:List (Key × V)}(s:SameT H H')(hz:H' z=some (.dK kvs))(o:HO) : SameT H (upd H' z o):=fun a xs e=>by
 have e2:=s a xs e
 rw [upd_ne (ne_of e2 hz (by intro q; cases q))]
 exact e2
def plK (t:Tr)(so:Str) : List Str:=((plc t "").filter fun u=>decide (u.2=so)).map (·.1)
def sp_places_of (K:PySem.W.Frag) : Sp:=fun vs H Q _=>∃ (v:V) (t:Tr) (B:Int) (so:Str),vs = [v,.str so]∧TV K H v (htD B t)∧t.lv≤61∧∀ H' p ws,Same H H'→H p=none→H' p=some (.lst (ws.map V.str))→ws.Perm (plK t so)→PyProof.Rows.sortedS ws=true→Q (.ref p) H'
structure IsP (t:Tr) (ps:List Str) : Prop where
 kn:∀ x∈ps,x∈(plc t "").map (·.1)
 up:ps.Pairwise (fun a b=>cds a < cds b)
 one:∀ e∈plK t "end", (bgs e ps).length=1
noncomputable def isP (t:Tr) (ps:List Str) : Bool:=by
 classical
 exact decide (IsP t ps)
theorem sorted_pw:∀ {l:List Str},PyProof.Rows.sortedS l=true→l.Pairwise (fun a b=>cds a≤cds b)
 | [],_=>.nil
 | a :: l,h=>List.pairwise_cons.mpr ⟨rising_pw a l h,sorted_pw (sorted_tail h)⟩
theorem pw_rising:∀ {a:Str}{l:List Str},(a :: l).Pairwise (fun a b=>cds a < cds b)→PyProof.Rows.risingS a l=true
 | _,[],_=>rfl
 | a,b :: l,h=>by
  have h2:=List.pairwise_cons.mp h
  show (!PySem.Spec.ltCps b.cps.toList a.cps.toList && PyProof.Rows.risingS b l)=true
  rw [pw_rising h2.2,Bool.and_true,Bool.not_eq_true',PyProof.Rows.ltCps_eq,decide_eq_false_iff_not]
  exact List.lt_asymm (h2.1 b List.mem_cons_self)
theorem pw_sorted {l:List Str}(h:l.Pairwise (fun a b=>cds a < cds b)) : PyProof.Rows.sortedS l=true:=by
 cases l with
 | nil=>rfl
 | cons a l=>exact pw_rising h
theorem cds_ext {a b:Str}(h:cds a=cds b) : a=b:=by
 cases a with | mk x=>cases b with | mk y=>exact congrArg _ (Array.ext' h)
theorem pw_nodup {l:List Str}(h:l.Pairwise (fun a b=>cds a < cds b)) : l.Nodup:=h.imp fun {a b} z e=>by rw [e] at z; exact List.lt_irrefl _ z
theorem up_of {l:List Str}(h:l.Pairwise (fun a b=>cds a≤cds b))(n:l.Nodup) : l.Pairwise (fun a b=>cds a < cds b):=(h.and n).imp fun {a b} z=>by
 by_cases c:cds a < cds b
 ·exact c
 ·exact absurd (cds_ext (List.le_antisymm z.1 (List.not_lt.mp c))) z.2
theorem sset_iff {ps ws:List Str}(hp:ws.Perm (ddS ps))(hs:PyProof.Rows.sortedS ws=true) : ps=ws↔ps.Pairwise (fun a b=>cds a < cds b):=by
 constructor
 ·intro e
  have n:ws.Nodup:=hp.nodup_iff.mpr (ddS_nodup ps)
  rw [e]
  exact up_of (sorted_pw hs) n
 ·intro h
  rw [ddS_same (pw_nodup h)] at hp
  exact sorted_one (pw_sorted h) hs hp.symm
theorem noMixS:∀ a b:List Str,SeqAt.noMixAll (a.map PyData.str) (b.map PyData.str)=true
 | [],[]=>by simp [SeqAt.noMixAll]
 | [],_ :: _=>by simp [SeqAt.noMixAll]
 | _ :: _,[]=>by simp [SeqAt.noMixAll]
 | k :: ks,l :: ls=>by
  rw [List.map_cons,List.map_cons,SeqAt.noMixAll,noMixS ks ls]
  simp [SeqAt.noMix]
theorem strD_inj:∀ {a b:List Str},a.map PyData.str=b.map PyData.str→a=b
 | [],[],_=>rfl
 | [],_ :: _,h=>nomatch h
 | _ :: _,[],h=>nomatch h
 | x :: a,y :: b,h=>by
  rw [List.map_cons,List.map_cons] at h
  injection h with h1 h2
  injection h1 with h1
  rw [h1,strD_inj h2]
theorem strs_eqv (a b:List Str) : PyData.eqv (.list (a.map PyData.str)) (.list (b.map PyData.str))=decide (a=b):=by
 have nm:SeqAt.noMix (.list (a.map PyData.str)) (.list (b.map PyData.str))=true:=by
  rw [SeqAt.noMix]
  exact noMixS a b
 rw [← SeqAt.same_eq_eqv _ _ nm,Bool.eq_iff_iff,PyProof.Rows.same_iff,decide_eq_true_iff]
 exact ⟨fun z=>strD_inj (by injection z),fun z=>by rw [z]⟩
theorem plc_long:∀ {t:Tr}{q:Str}{u:Str × Str},u∈plc t q→u.1.length≤q.length + t.dp
 | .en _,q,u,h=>by rw [List.mem_singleton.mp h]; exact Nat.le_add_right _ _
 | .fk w y n,q,u,h=>by
  have h:u∈(q,("fork" : Str)) :: (plc y (q ++ "y") ++ plc n (q ++ "n")):=h
  show u.1.length≤q.length + (max y.dp n.dp + 1)
  rcases List.mem_cons.mp h with rfl | h
  ·exact Nat.le_add_right _ _
  ·rcases List.mem_append.mp h with h | h
   ·have:=plc_long h
    rw [len_app,ynl.1] at this
    omega
   ·have:=plc_long h
    rw [len_app,ynl.2] at this
    omega
theorem tr_mix:∀ a b:Tr,SeqAt.noMix (trD a) (trD b)=true
 | .en _,.en _=>by unfold trD; rw [SeqAt.noMix]; simp [SeqAt.noMixAll,SeqAt.noMix]
 | .en _,.fk _ _ _=>by unfold trD; rw [SeqAt.noMix]; simp [SeqAt.noMixAll,SeqAt.noMix]
 | .fk _ _ _,.en _=>by unfold trD; rw [SeqAt.noMix]; simp [SeqAt.noMixAll,SeqAt.noMix]
 | .fk _ y n,.fk _ y2 n2=>by unfold trD; rw [SeqAt.noMix]; simp [SeqAt.noMixAll,SeqAt.noMix,tr_mix y y2,tr_mix n n2]
theorem tr_inj:∀ {a b:Tr},trD a=trD b→a=b
 | .en _,.en _,h=>by
  unfold trD at h
  injection h with h
  injection h with _ h
  injection h with h
  injection h with h
  rw [h]
 | .en _,.fk _ _ _,h=>by
  unfold trD at h
  injection h with h
  injection h with _ h
  injection h with _ h
  cases h
 | .fk _ _ _,.en _,h=>by
  unfold trD at h
  injection h with h
  injection h with _ h
  injection h with _ h
  cases h
 | .fk _ y n,.fk _ y2 n2,h=>by
  unfold trD at h
  injection h with h
  injection h with _ h
  injection h with h1 h
  injection h1 with h1
  injection h with h2 h
  injection h with h3 h
  rw [h1,tr_inj h2,tr_inj h3]
theorem tr_eqv {a b:Tr}(h:PyData.eqv (trD a) (trD b)=true) : a=b:=by
 rw [← SeqAt.same_eq_eqv _ _ (tr_mix a b),PyProof.Rows.same_iff] at h
 exact tr_inj h
theorem ascW (x:Str)(h:(cds x).all (fun c=>decide (c < 128))=true) : Asc x:=fun c hc=>of_decide_eq_true (List.all_eq_true.mp h c hc)
theorem tr_shp:∀ t:Tr,Shp (t.dp + 1) (trD t)
 | .en w=>by
  unfold trD
  refine .tup fun d hd=>?_
  rcases List.mem_cons.mp hd with rfl | hd
  ·exact Shp.str _ (ascW _ (by decide +kernel))
  ·rw [List.mem_singleton.mp hd]
   exact Shp.int _ _
 | .fk w y n=>by
  unfold trD
  refine .tup fun d hd=>?_
  rcases List.mem_cons.mp hd with rfl | hd
  ·exact Shp.str _ (ascW _ (by decide +kernel))
  rcases List.mem_cons.mp hd with rfl | hd
  ·exact Shp.int _ _
  rcases List.mem_cons.mp hd with rfl | hd
  ·exact (tr_shp y).mono (by show y.dp + 1≤max y.dp n.dp + 1; omega)
  ·rw [List.mem_singleton.mp hd]
   exact (tr_shp n).mono (by show n.dp + 1≤max y.dp n.dp + 1; omega)
theorem plc_pre {t:Tr}{q:Str}{u:Str × Str}(h:u∈plc t q) : cds q <+: cds u.1:=by
 rw [plt_plc] at h
 obtain ⟨e,he,rfl⟩:=List.mem_map.mp h
 exact plt_pre he
theorem lt_pre:∀ {l a b:List Nat},a < b→l ++ a < l ++ b
 | [],_,_,h=>h
 | c :: l,_,_,h=>List.cons_lt_cons_iff.mpr (.inr ⟨rfl,lt_pre (l:=l) h⟩)
theorem ny_lt {q x y:Str}(hx:cds (q ++ "n") <+: cds x)(hy:cds (q ++ "y") <+: cds y) : cds x < cds y:=by
 obtain ⟨r1,e1⟩:=hx
 obtain ⟨r2,e2⟩:=hy
 rw [← e1,← e2,cds_app,cds_app,List.append_assoc,List.append_assoc]
 refine lt_pre ?_
 have n1:cds "n" = [110]:=by decide +kernel
 have y1:cds "y" = [121]:=by decide +kernel
 rw [n1,y1]
 exact List.cons_lt_cons_iff.mpr (.inl (by decide))
theorem PI.kn {t:Tr}{q:Str}{ps gs:List Str}(h:PI t q ps gs) : ∀ x∈ps,x∈(plc t q).map (·.1):=by
 induction h with
 | stop t q =>
  intro x hx
  rw [List.mem_singleton.mp hx]
  cases t with
  | en w=>exact List.mem_cons_self
  | fk w y n=>exact List.mem_cons_self
 | @go w y n q ps1 ps2 fs1 fs2 _ _ h1 h2 =>
  intro x hx
  show x∈q :: ((plc y (q ++ "y") ++ plc n (q ++ "n")).map (·.1))
  rw [List.map_append]
  refine List.mem_cons_of_mem _ (List.mem_append.mpr ?_)
  rcases List.mem_append.mp hx with hx | hx
  ·exact .inr (h2 x hx)
  ·exact .inl (h1 x hx)
theorem PI.up {t:Tr}{q:Str}{ps gs:List Str}(h:PI t q ps gs) : ps.Pairwise (fun a b=>cds a < cds b):=by
 induction h with
 | stop t q=>exact List.pairwise_singleton _ _
 | @go w y n q ps1 ps2 fs1 fs2 p1 p2 h1 h2=>exact List.pairwise_append.mpr ⟨h2,h1,fun a ha b hb=>ny_lt (p2.pre.1 a ha) (p1.pre.1 b hb)⟩
theorem bgs_none {e:Str}{ps:List Str}(h:∀ x∈ps,¬ cds x <+: cds e) : bgs e ps = []:=by
 rw [List.eq_nil_iff_forall_not_mem]
 intro x hx
 exact h x (mem_bgs.mp hx).1 (mem_bgs.mp hx).2
theorem bgs_app (e:Str)(a b:List Str) : bgs e (a ++ b)=bgs e a ++ bgs e b:=List.filter_append _ _
theorem PI.one {t:Tr}{q:Str}{ps gs:List Str}(h:PI t q ps gs) : ∀ u∈plc t q,u.2=Str.ofString "end" → (bgs u.1 ps).length=1:=by
 induction h with
 | stop t q =>
  intro u hu _
  have:bgs u.1 [q] = [q]:=List.filter_eq_self.mpr fun x hx=>by
   rw [List.mem_singleton.mp hx]
   exact (starts_iff u.1 q).mpr (plc_pre hu)
  rw [this]
  rfl
 | @go w y n q ps1 ps2 fs1 fs2 p1 p2 h1 h2 =>
  intro u hu e
  have hu:u∈(q,Str.ofString "fork") :: (plc y (q ++ "y") ++ plc n (q ++ "n")):=hu
  rw [bgs_app,List.length_append]
  rcases List.mem_cons.mp hu with rfl | hu
  ·exact absurd e (show ¬ Str.ofString "fork" = Str.ofString "end" by decide +kernel)
  ·rcases List.mem_append.mp hu with hu | hu
   ·rw [bgs_none (ps:=ps2) fun x hx z=>yn_apart (plc_pre hu) ((p2.pre.1 x hx).trans z),h1 u hu e]
    rfl
   ·rw [bgs_none (ps:=ps1) fun x hx z=>yn_apart ((p1.pre.1 x hx).trans z) (plc_pre hu),h2 u hu e]
    rfl
theorem PI.isP {t:Tr}{ps gs:List Str}(h:PI t "" ps gs) : IsP t ps:=⟨h.kn,h.up,fun e he=>by
 unfold plK at he
 obtain ⟨u,hu,rfl⟩:=List.mem_map.mp he
 have h2:=List.mem_filter.mp hu
 exact h.one u h2.1 (of_decide_eq_true h2.2)⟩
theorem _root_.L2.Same.off {H H':Hp}{a:Addr}(s:Same H H')(h:H a=none) : Same H (offE H' a):=fun b o e=>by
 rw [offE_ne (ne_of_none e h)]
 exact s _ _ e
def Tr.wt:Tr→Int
 | .en w=>w
 | .fk w _ _=>w
def Tr.go:Tr→List Nat→Option Tr
 | t,[]=>some t
 | .en _,_ :: _=>none
 | .fk _ y n,c :: cs=>if c=121 then y.go cs else if c=110 then n.go cs else none
theorem cd_yn:cds ("y" : Str) = [121]∧cds ("n" : Str) = [110]:=by decide +kernel
theorem plt_go:∀ {t:Tr}{q:Str}{e:Str × Tr},e∈plt t q→∃ r,cds e.1=cds q ++ r∧t.go r=some e.2
 | .en w,q,e,h=>by rw [List.mem_singleton.mp h]; exact ⟨[],(List.append_nil _).symm,rfl⟩
 | .fk w y n,q,e,h=>by
  rcases List.mem_cons.mp h with rfl | h
  ·exact ⟨[],(List.append_nil _).symm,rfl⟩
  ·rcases List.mem_append.mp h with h | h
   ·obtain ⟨r,h1,h2⟩:=plt_go h
    exact ⟨121 :: r,by rw [h1,cds_app,cd_yn.1,List.append_assoc]; rfl,h2⟩
   ·obtain ⟨r,h1,h2⟩:=plt_go h
    exact ⟨110 :: r,by rw [h1,cds_app,cd_yn.2,List.append_assoc]; rfl,h2⟩
theorem plt_go0 {t u:Tr}{w:Str}(h:(w,u)∈plt t "") : t.go (cds w)=some u:=by
 obtain ⟨r,h1,h2⟩:=plt_go h
 have h1:cds w = [] ++ r:=h1
 rw [h1]
 exact h2
theorem DT.val {K:PySem.W.Frag}{B:Int}{H:Hp}{kvs:List (Key × V)}{es:List (Str × Tr)}{x:Str}{u:Tr}(h:DT K B H kvs es)(nd:(es.map (·.1)).Nodup)(m:(x,u)∈es) : ∃ v,valV kvs (.inr x)=some v∧TV K H v (htD B u):=by
 induction h with
 | nil=>cases m
 | @cons v e kvs es t _ ih =>
  rw [List.map_cons,List.nodup_cons] at nd
  rcases List.mem_cons.mp m with z | z
  ·subst z
   exact ⟨v,valV_pos rfl,t⟩
  ·have ne:e.1 ≠ x:=fun y=>nd.1 (by rw [y]; exact List.mem_map.mpr ⟨(x,u),z,rfl⟩)
   rw [valV_neg (by intro y; injection y with y; exact ne y)]
   exact ih nd.2 z
def sp_forks (K:PySem.W.Frag) : Sp:=fun vs H Q _=>∃ (v:V) (t:Tr) (B:Int),vs = [v]∧TV K H v (htD B t)∧t.lv≤61∧∀ H' p ws,Same H H'→H p=none→H' p=some (.lst (ws.map V.str))→ws.Perm (plK t "fork")→PyProof.Rows.sortedS ws=true→Q (.ref p) H'
def sp_bottom29:Sp:=fun vs H Q _=>∃ c:Int,vs = [.int c]∧∀ v:Int,1≤v→v≤1000000000000000000000000000000→Q (.int v) H
def sp_handed24 (K:PySem.W.Frag)(d:Nat) : Sp:=fun vs H Q _=>∃ (v:V) (t:Tr) (B:Int),vs = [v,.int B]∧TV K H v (trD t)∧t.dp≤d∧t.lv≤61∧0 < B∧Bz 8000 B∧∀ H' x,Same H H'→TV K H' x (htD B t)→Q x H'
def sp_trat (K:PySem.W.Frag) : Sp:=fun vs H Q _=>∃ (v:V) (w:Str) (t u:Tr),vs = [v,.str w]∧TV K H v (trD t)∧w.length≤1000∧t.go (cds w)=some u∧∀ p k r,H p=some (.tup (.str k :: .int u.wt :: r))→Q (.ref p) H
theorem _root_.L2.TV.wt {K:PySem.W.Frag}{H:Hp}{v:V}{u:Tr}(h:TV K H v (trD u)) : ∃ p k r,v = .ref p∧H p=some (.tup (.str k :: .int u.wt :: r)):=by
 cases u with
 | en w=>obtain ⟨p,rfl,hp⟩:=TV.en h; exact ⟨_,_,_,rfl,hp⟩
 | fk w y n=>obtain ⟨p,v1,v2,rfl,hp,_,_⟩:=TV.fk h; exact ⟨_,_,_,rfl,hp⟩
def Rt (H:Hp)(p:Addr)(r:Rat) : Prop:=H p=some (rt r)
def Two (n:Nat)(vs:List V)(H:Hp)(R:Rat→Rat→Prop) : Prop:=∃ (p1 p2:Addr) (r1 r2:Rat),vs = [.ref p1,.ref p2]∧Rt H p1 r1∧Rt H p2 r2∧Rz n r1∧Rz n r2∧R r1 r2
def Nw2 (H:Hp)(Q:VK)(q:Rat) : Prop:=∀ p H',H p=none→Same H H'→H' p=some (rt q)→Q (.ref p) H'
def sp_plus:Sp:=fun vs H Q _=>Two 700 vs H fun r1 r2=>Nw H Q (r1 + r2)
def sp_minus:Sp:=fun vs H Q _=>Two 700 vs H fun r1 r2=>Nw2 H Q (r1 - r2)
theorem cGe {t b:Int}(hb:0 < b)(bz:Bz 8000 b)(i:Int) : CDivB i (M.G t b):=⟨M.G_pos t b,(bz.le (M.G_le (by omega))).log2⟩
theorem Rz.neg {n:Nat}{r:Rat}(h:Rz n r) : Rz n (-r):=⟨h.zn.neg,h.zd⟩
theorem Nw.sum {H:Hp}{Q:VK}{q r:Rat}(h:Nw H Q (q + r)) : ∀ p,H p=none→Q (.ref p) (upd H p (.tup [.int ((q.num * ((r.den:Int) / M.G q.den r.den) + r.num * ((q.den:Int) / M.G q.den r.den)) / M.G (q.num * ((r.den:Int) / M.G q.den r.den) + r.num * ((q.den:Int) / M.G q.den r.den)) (M.G q.den r.den)),.int ((q.den:Int) / M.G (q.num * ((r.den:Int) / M.G q.den r.den) + r.num * ((q.den:Int) / M.G q.den r.den)) (M.G q.den r.den) * ((r.den:Int) / M.G q.den r.den))])):=by
 rw [(M.plus_low q r).1,(M.plus_low q r).2]
 exact h
inductive LK:Tr→Str→List Str→List (Str × Int × Int)→Int→Int→Prop
 | stop (t:Tr) (q:Str) : LK t q [q] [] t.wt 1
 | go {w:Int}{y n:Tr}{q:Str}{ps1 ps2:List Str}{us1 us2:List (Str × Int × Int)}{s1 s2 m1 m2:Int} : LK y (q ++ "y") ps1 us1 s1 m1→LK n (q ++ "n") ps2 us2 s2 m2→LK (.fk w y n) q (ps2 ++ ps1) ((q,w - (s1 + s2),m1 + m2 - 1) :: (us2 ++ us1)) (s1 + s2) (m1 + m2)
theorem LK.pi {t:Tr}{q:Str}{ps:List Str}{us:List (Str × Int × Int)}{s m:Int}(h:LK t q ps us s m) : PI t q ps (us.map (·.1)):=by
 induction h with
 | stop t q=>exact .stop t q
 | go _ _ h1 h2 =>
  rw [List.map_cons,List.map_append]
  exact .go h1 h2
def und (ps:List Str)(f:Str) : List Str:=ps.filter fun x=>Txt.startswith x f
theorem und_app (a b:List Str)(f:Str) : und (a ++ b) f=und a f ++ und b f:=List.filter_append _ _
theorem und_all {ps:List Str}{f:Str}(h:∀ x∈ps,cds f <+: cds x) : und ps f=ps:=List.filter_eq_self.mpr fun x hx=>(starts_iff x f).mpr (h x hx)
theorem und_none {ps:List Str}{f:Str}(h:∀ x∈ps,¬ cds f <+: cds x) : und ps f = []:=by
 rw [List.eq_nil_iff_forall_not_mem]
 intro x hx
 have:=List.mem_filter.mp hx
 exact h x this.1 ((starts_iff x f).mp this.2)
theorem LK.vals (W:Str→Int) {t:Tr}{q:Str}{ps:List Str}{us:List (Str × Int × Int)}{s m:Int}(h:LK t q ps us s m) (hW:∀ e∈plt t q,W e.1=e.2.wt) :
  s=(ps.map W).sum∧m=(ps.length:Int)∧∀ u∈us,u.2.1=W u.1 - ((und ps u.1).map W).sum∧u.2.2=((und ps u.1).length:Int) - 1∧2≤(und ps u.1).length:=by
 induction h with
 | stop t q =>
  have e:W q=t.wt:=by
   cases t with
   | en w=>exact hW (q,.en w) List.mem_cons_self
   | fk w y n=>exact hW (q,.fk w y n) List.mem_cons_self
  refine ⟨?_,rfl,fun u hu=>(by cases hu)⟩
  show t.wt=W q + 0
  omega
 | @go w y n q ps1 ps2 us1 us2 s1 s2 m1 m2 g1 g2 h1 h2 =>
  obtain ⟨a1,a2,a3⟩:=h1 fun e he=>hW e (List.mem_cons_of_mem _ (List.mem_append_left _ he))
  obtain ⟨b1,b2,b3⟩:=h2 fun e he=>hW e (List.mem_cons_of_mem _ (List.mem_append_right _ he))
  have wq:W q=w:=hW (q,.fk w y n) List.mem_cons_self
  have p1:=g1.pi.pre
  have p2:=g2.pi.pre
  have l1:1≤ps1.length:=by have:=g1.pi.len.2; omega
  have l2:1≤ps2.length:=by have:=g2.pi.len.2; omega
  have sm:((ps2 ++ ps1).map W).sum=s1 + s2:=by rw [List.map_append,List.sum_append,← a1,← b1]; omega
  have ln:((ps2 ++ ps1).length:Int)=m1 + m2:=by rw [List.length_append,a2,b2]; omega
  refine ⟨sm.symm,ln.symm,fun u hu=>?_⟩
  rcases List.mem_cons.mp hu with rfl | hu
  ·have al:und (ps2 ++ ps1) q=ps2 ++ ps1:=und_all fun x hx=>by
    rcases List.mem_append.mp hx with hx | hx
    ·exact (pre_app _ _).trans (p2.1 x hx)
    ·exact (pre_app _ _).trans (p1.1 x hx)
   show w - (s1 + s2)=W q - ((und (ps2 ++ ps1) q).map W).sum∧m1 + m2 - 1=((und (ps2 ++ ps1) q).length:Int) - 1∧2≤(und (ps2 ++ ps1) q).length
   rw [al,sm,ln,wq]
   exact ⟨rfl,rfl,by rw [List.length_append]; omega⟩
  ·rcases List.mem_append.mp hu with hu | hu
   ·have c:=p2.2 u.1 (List.mem_map.mpr ⟨u,hu,rfl⟩)
    have e:und (ps2 ++ ps1) u.1=und ps2 u.1:=by rw [und_app,und_none (ps:=ps1) fun x hx z=>yn_apart (p1.1 x hx) (c.trans z),List.append_nil]
    rw [e]
    exact b3 u hu
   ·have c:=p1.2 u.1 (List.mem_map.mpr ⟨u,hu,rfl⟩)
    have e:und (ps2 ++ ps1) u.1=und ps1 u.1:=by rw [und_app,und_none (ps:=ps2) fun x hx z=>yn_apart (c.trans z) (p2.1 x hx),List.nil_append]
    rw [e]
    exact a3 u hu
theorem PI.forks {t:Tr}{q:Str}{ps gs:List Str}(h:PI t q ps gs) : (∀ g∈gs,(g,Str.ofString "fork")∈plc t q)∧∀ u∈plc t q,u.2=Str.ofString "fork" → (bgs u.1 ps = []↔u.1∈gs):=by
 induction h with
 | stop t q =>
  refine ⟨fun g hg=>(by cases hg),fun u hu _=>?_⟩
  have:bgs u.1 [q] = [q]:=List.filter_eq_self.mpr fun x hx=>by
   rw [List.mem_singleton.mp hx]
   exact (starts_iff u.1 q).mpr (plc_pre hu)
  rw [this]
  exact ⟨fun z=>(by cases z),fun z=>(by cases z)⟩
 | @go w y n q ps1 ps2 fs1 fs2 p1 p2 h1 h2 =>
  refine ⟨fun g hg=>?_,fun u hu e=>?_⟩
  ·show (g,Str.ofString "fork")∈(q,Str.ofString "fork") :: (plc y (q ++ "y") ++ plc n (q ++ "n"))
   rcases List.mem_cons.mp hg with rfl | hg
   ·exact List.mem_cons_self
   ·rcases List.mem_append.mp hg with hg | hg
    ·exact List.mem_cons_of_mem _ (List.mem_append_right _ (h2.1 g hg))
    ·exact List.mem_cons_of_mem _ (List.mem_append_left _ (h1.1 g hg))
  ·have hu:u∈(q,Str.ofString "fork") :: (plc y (q ++ "y") ++ plc n (q ++ "n")):=hu
   rw [bgs_app]
   rcases List.mem_cons.mp hu with rfl | hu
   ·refine ⟨fun _=>List.mem_cons_self,fun _=>?_⟩
    show bgs q ps2 ++ bgs q ps1 = []
    rw [bgs_none (ps:=ps2) fun x hx z=>longer ynl.2 (p2.pre.1 x hx) z,bgs_none (ps:=ps1) fun x hx z=>longer ynl.1 (p1.pre.1 x hx) z]
    rfl
   ·rcases List.mem_append.mp hu with hu | hu
    ·have pu:=plc_pre hu
     rw [bgs_none (ps:=ps2) fun x hx z=>yn_apart pu ((p2.pre.1 x hx).trans z),List.nil_append,h1.2 u hu e]
     refine ⟨fun z=>List.mem_cons_of_mem _ (List.mem_append_right _ z),fun z=>?_⟩
     rcases List.mem_cons.mp z with z | z
     ·rw [z] at pu
      exact (longer ynl.1 pu (List.prefix_refl _)).elim
     ·rcases List.mem_append.mp z with z | z
      ·exact (yn_apart pu (p2.pre.2 _ z)).elim
      ·exact z
    ·have pu:=plc_pre hu
     rw [bgs_none (ps:=ps1) fun x hx z=>yn_apart ((p1.pre.1 x hx).trans z) pu,List.append_nil,h2.2 u hu e]
     refine ⟨fun z=>List.mem_cons_of_mem _ (List.mem_append_left _ z),fun z=>?_⟩
     rcases List.mem_cons.mp z with z | z
     ·rw [z] at pu
      exact (longer ynl.2 pu (List.prefix_refl _)).elim
     ·rcases List.mem_append.mp z with z | z
      ·exact z
      ·exact (yn_apart (p1.pre.2 _ z) pu).elim
def insF (t:Tr)(ps:List Str) : List Str:=(plK t "fork").filter fun x=>decide ((bgs x ps).length=0)
theorem insF_perm {t:Tr}{ps gs:List Str}(h:PI t "" ps gs) : (insF t ps).Perm gs:=by
 have f:=h.forks
 have nd:=plc_nodup t ""
 refine (List.perm_ext_iff_of_nodup ?_ h.facts.n2).mpr fun x=>?_
 ·refine List.Nodup.sublist List.filter_sublist ?_
  exact List.Nodup.sublist (List.Sublist.map _ List.filter_sublist) nd
 ·unfold insF plK
  rw [List.mem_filter,List.mem_map]
  constructor
  ·rintro ⟨⟨u,hu,rfl⟩,e⟩
   have hu2:=List.mem_filter.mp hu
   exact (f.2 u hu2.1 (of_decide_eq_true hu2.2)).mp (List.length_eq_zero_iff.mp (of_decide_eq_true e))
  ·intro hx
   have m:=f.1 x hx
   refine ⟨⟨_,List.mem_filter.mpr ⟨m,decide_eq_true rfl⟩,rfl⟩,decide_eq_true ?_⟩
   exact List.length_eq_zero_iff.mpr ((f.2 _ m rfl).mpr hx)
theorem divInt_sub {a c B:Int}(hB:0 < B) : Rat.divInt a B - Rat.divInt c B=Rat.divInt (a - c) B:=by
 have hb:(B:Rat) ≠ 0:=fun z=>by
  have:B=0:=by exact_mod_cast z
  omega
 rw [Rat.divInt_eq_div,Rat.divInt_eq_div,Rat.divInt_eq_div,Rat.intCast_sub]
 grind
theorem G_cop {r:Rat}{m:Int}(hm:0 < m) : M.G r.num ((r.den:Int) * m)=M.G r.num m:=by
 have d0:=dp r
 have h1:0 < (r.den:Int) * m:=Int.mul_pos d0 hm
 rw [M.G_eq (by omega),M.G_eq (by omega),Int.natAbs_mul]
 have e:((r.den:Int)).natAbs=r.den:=rfl
 rw [e,Nat.Coprime.gcd_mul_left_cancel_right _ r.reduced.symm]
theorem shared_low {r:Rat}{m:Int}(hm:0 < m) : r.num / M.G r.num m=(Rat.divInt r.num ((r.den:Int) * m)).num∧(r.den:Int) * (m / M.G r.num m)=((Rat.divInt r.num ((r.den:Int) * m)).den:Int):=by
 have d0:=dp r
 have h1:0 < (r.den:Int) * m:=Int.mul_pos d0 hm
 rw [← M.num_low h1,← M.den_low h1,G_cop hm]
 exact ⟨rfl,(Int.mul_ediv_assoc _ (M.G_dvd r.num m).2).symm⟩
theorem shared_at {x B m:Int} : Rat.divInt (Rat.divInt x B).num (((Rat.divInt x B).den:Int) * m)=Rat.divInt x (m * B):=by
 have h:∀ r:Rat,Rat.divInt r.num ((r.den:Int) * m)=r * Rat.divInt 1 m:=fun r=>by
  have:=Rat.divInt_mul_divInt r.num 1 (d₁:=(r.den:Int)) (d₂:=m)
  rw [Rat.num_divInt_den,Int.mul_one] at this
  exact this.symm
 rw [h,Rat.divInt_mul_divInt,Int.mul_one,Int.mul_comm]
def wA (t:Tr)(x:Str) : Int:=match t.go (cds x) with
 | some u=>u.wt
 | none=>0
theorem wA_at {t:Tr} : ∀ e∈plt t "", wA t e.1=e.2.wt:=fun e he=>by
 unfold wA
 rw [plt_go0 (t:=t) (w:=e.1) (u:=e.2) he]
theorem plt_B:∀ {t:Tr}{q:Str},t.B→∀ e∈plt t q,-100000000000000000000000000000000 < e.2.wt∧e.2.wt < 100000000000000000000000000000000
 | .en w,q,h,e,he=>by rw [List.mem_singleton.mp he]; exact h
 | .fk w y n,q,h,e,he=>by
  rcases List.mem_cons.mp he with z | z
  ·rw [z]; exact h.1
  ·rcases List.mem_append.mp z with z | z
   ·exact plt_B h.2.1 e z
   ·exact plt_B h.2.2 e z
def sp_finside (K:PySem.W.Frag) : Sp:=fun vs H Q _=>∃ (v:V) (t:Tr) (B:Int) (a:Addr) (ps:List Str),vs = [v,.ref a]∧TV K H v (htD B t)∧t.lv≤61∧H a=some (.lst (ps.map V.str))∧ps.length < 64∧∀ H' p rs,Same H H'→H p=none→H' p=some (.lst (rs.map V.str))→rs.Perm (insF t ps)→PyProof.Rows.sortedS rs=true→Q (.ref p) H'
def sp_shared:Sp:=fun vs H Q _=>∃ (a:Addr) (r:Rat) (m:Int),vs = [.ref a,.int m]∧H a=some (rt r)∧0 < m∧m≤100∧Rz 700 r∧Nw H Q (Rat.divInt r.num ((r.den:Int) * m))
def sp_linki (K:PySem.W.Frag) : Sp:=fun vs H Q _=>∃ (v:V) (t:Tr) (B:Int) (a:Addr) (ps:List Str) (f:Str),vs = [v,.ref a,.str f]∧TV K H v (htD B t)∧t.lv≤61∧H a=some (.lst (ps.map V.str))∧ps.length < 64∧(∀ x∈ps,x∈(plc t "").map (·.1))∧f∈(plc t "").map (·.1)∧0 < B∧Bz 128 B∧t.B∧2≤(und ps f).length ∧
 ∀ H' p,Same H H'→H' p=some (rt (Rat.divInt (wA t f - ((und ps f).map (wA t)).sum) ((((und ps f).length:Int) - 1) * B)))→Q (.ref p) H'
theorem rising_le:∀ {a:Str}{l:List Str},(a :: l).Pairwise (fun a b=>cds a≤cds b)→PyProof.Rows.risingS a l=true
 | _,[],_=>rfl
 | a,b :: l,h=>by
  have h2:=List.pairwise_cons.mp h
  show (!PySem.Spec.ltCps b.cps.toList a.cps.toList && PyProof.Rows.risingS b l)=true
  rw [rising_le h2.2,Bool.and_true,Bool.not_eq_true',PyProof.Rows.ltCps_eq,decide_eq_false_iff_not]
  exact List.not_lt.mpr (h2.1 b List.mem_cons_self)
theorem pw_sorted_le {l:List Str}{p:Str→Bool}(h:l.Pairwise (fun a b=>cds a≤cds b)) : PyProof.Rows.sortedS (l.filter p)=true:=by
 have h:=List.Pairwise.sublist (List.filter_sublist (p:=p)) h
 generalize l.filter p=m at h
 cases m with
 | nil=>rfl
 | cons a l=>exact rising_le h
theorem _root_.L2.TV.hw {K:PySem.W.Frag}{H:Hp}{v:V}{B:Int}{u:Tr}(hB:0 < B)(h:TV K H v (htD B u)) : ∃ p k c r,v = .ref p∧H p=some (.tup (.str k :: .ref c :: r))∧H c=some (rt (Rat.divInt u.wt B)):=by
 cases u with
 | en w=>obtain ⟨p,c,rfl,hp,hc⟩:=TV.hen h; obtain ⟨c2,rfl,hc2⟩:=TV.rD hB hc; exact ⟨p,_,c2,_,rfl,hp,hc2⟩
 | fk w y n=>obtain ⟨p,c,a,b,rfl,hp,hc,_,_⟩:=TV.hfk h; obtain ⟨c2,rfl,hc2⟩:=TV.rD hB hc; exact ⟨p,_,c2,_,rfl,hp,hc2⟩
theorem dt_at {K:PySem.W.Frag}{B:Int}(hB:0 < B) {H:Hp}{d:Addr}{kvs:List (Key × V)}{es:List (Str × Tr)}{t:Tr}(hd:H d=some (.dK kvs)) (dt:DT K B H kvs es) (pm:es.Perm (plt t "")) {x:Str}(hx:x∈(plc t "").map (·.1)) :
  ∃ p k c r,DGet H d (.str x) (some (.ref p))∧H p=some (.tup (.str k :: .ref c :: r))∧H c=some (rt (Rat.divInt (wA t x) B)):=by
 have nd:(es.map (·.1)).Nodup:=(pm.map (·.1)).nodup_iff.mpr (plt_nodup t "")
 rw [plt_plc,List.map_map] at hx
 obtain ⟨⟨x',u⟩,he,ex⟩:=List.mem_map.mp hx
 obtain rfl:x'=x:=ex
 obtain ⟨v,ev,tv⟩:=dt.val nd (pm.mem_iff.mpr he)
 obtain ⟨p,k,c,r,rfl,hp,hc⟩:=tv.hw hB
 have g:DGet H d (.str x') (valV kvs (.inr x')):=DGet.k (k:=.inr x') hd
 rw [ev] at g
 exact ⟨p,k,c,r,g,hp,by rw [wA_at _ he]; exact hc⟩
theorem at_1 {k:Str}{c:Addr}{r:List V} : atI (V.str k :: V.ref c :: r) 1=some (.ref c):=by
 have e:atI (V.str k :: V.ref c :: r) ((1:Nat) : Int)=some (.ref c):=atI_nat rfl
 exact e
theorem wA_B {t:Tr}{x:Str}(h:t.B)(hx:x∈(plc t "").map (·.1)) : -100000000000000000000000000000000 < wA t x∧wA t x < 100000000000000000000000000000000:=by
 rw [plt_plc,List.map_map] at hx
 obtain ⟨e,he,rfl⟩:=List.mem_map.mp hx
 have:=plt_B h e he
 show -100000000000000000000000000000000 < wA t e.1∧wA t e.1 < 100000000000000000000000000000000
 rw [wA_at e he]
 exact this
theorem sumB {W:Str→Int} : ∀ {l:List Str},(∀ x∈l,-100000000000000000000000000000000 < W x∧W x < 100000000000000000000000000000000) → -(l.length:Int) * 100000000000000000000000000000000≤(l.map W).sum∧(l.map W).sum≤(l.length:Int) * 100000000000000000000000000000000
 | [],_=>⟨Int.le_refl _,Int.le_refl _⟩
 | x :: l,h=>by
  have h1:=h x List.mem_cons_self
  have h2:=sumB fun y hy=>h y (List.mem_cons_of_mem x hy)
  rw [List.map_cons,List.sum_cons,List.length_cons]
  omega
theorem bz128 {x:Int}(h1 : -10000000000000000000000000000000000≤x)(h2:x≤10000000000000000000000000000000000) : Bz 128 x:=Bz.w (by omega) (by omega)
theorem plc_yn:∀ {t:Tr}{q:Str}{u:Str × Str},(∀ c∈cds q,c=121∨c=110)→u∈plc t q→∀ c∈cds u.1,c=121∨c=110
 | .en _,q,u,a,h=>by rw [List.mem_singleton.mp h]; exact a
 | .fk w y n,q,u,a,h=>by
  have h:u∈(q,("fork" : Str)) :: (plc y (q ++ "y") ++ plc n (q ++ "n")):=h
  have ap:∀ (s:Str) (k:Nat),cds s = [k]→(k=121∨k=110)→∀ c∈cds (q ++ s),c=121∨c=110:=fun s k e hk c hc=>by
   rw [cds_app,e] at hc
   rcases List.mem_append.mp hc with z | z
   ·exact a c z
   ·rw [List.mem_singleton.mp z]; exact hk
  rcases List.mem_cons.mp h with rfl | h
  ·exact a
  ·rcases List.mem_append.mp h with h | h
   ·exact plc_yn (ap "y" 121 cd_yn.1 (.inl rfl)) h
   ·exact plc_yn (ap "n" 110 cd_yn.2 (.inr rfl)) h
theorem pl_yn {t:Tr}{x:Str}(h:x∈(plc t "").map (·.1)) : ∀ c∈cds x,c=121∨c=110:=by
 obtain ⟨u,hu,rfl⟩:=List.mem_map.mp h
 exact plc_yn (fun c hc=>by cases hc) hu
theorem tr_end:∀ (t:Tr) (q:Str),∃ u∈plc t q,u.2=Str.ofString "end"
 | .en _,q=>⟨_,List.mem_singleton.mpr rfl,rfl⟩
 | .fk w y n,q=>by
  obtain ⟨u,hu,e⟩:=tr_end y (q ++ "y")
  exact ⟨u,List.mem_cons_of_mem _ (List.mem_append_left _ hu),e⟩
theorem PI.end' {t:Tr}{q:Str}{ps gs:List Str}(h:PI t q ps gs) : ∀ x∈ps,∃ u∈plc t q,u.2=Str.ofString "end" ∧ cds x <+: cds u.1:=by
 induction h with
 | stop t q =>
  intro x hx
  rw [List.mem_singleton.mp hx]
  obtain ⟨u,hu,e⟩:=tr_end t q
  exact ⟨u,hu,e,plc_pre hu⟩
 | @go w y n q ps1 ps2 fs1 fs2 p1 p2 h1 h2 =>
  intro x hx
  rcases List.mem_append.mp hx with hx | hx
  ·obtain ⟨u,hu,e⟩:=h2 x hx
   exact ⟨u,List.mem_cons_of_mem _ (List.mem_append_right _ hu),e⟩
  ·obtain ⟨u,hu,e⟩:=h1 x hx
   exact ⟨u,List.mem_cons_of_mem _ (List.mem_append_left _ hu),e⟩
def sp_under29:Sp:=fun vs H Q _=>∃ (a b:Addr) (t1 b1 t2 b2:Int),vs = [.ref a,.ref b]∧H a=some (.tup [.int t1,.int b1])∧H b=some (.tup [.int t2,.int b2])∧Bz 8000 t1∧Bz 8000 b1∧Bz 8000 t2∧Bz 8000 b2∧Q (.bl (decide (t1 * b2 < t2 * b1))) H
def sp_usum:Sp:=fun vs H Q _=>∃ (a b:Addr) (t1 b1 t2 b2:Int),vs = [.ref a,.ref b]∧H a=some (.tup [.int t1,.int b1])∧H b=some (.tup [.int t2,.int b2])∧Bz 8000 t1∧Bz 8000 b1∧Bz 8000 t2∧Bz 8000 b2∧∀ p,H p=none→Q (.ref p) (upd H p (.tup [.int (t1 * b2 + t2 * b1),.int (b1 * b2)]))
def sp_digit:Sp:=fun vs H Q _=>∃ (a:Addr) (x y z m:Int),vs = [.ref a,.int m]∧H a=some (.lst [.int x,.int y,.int z])∧0 < m∧m≤1000000000000∧0≤x∧0≤y∧0≤z∧z < 2147483647∧∀ x' z' d:Int,0≤x'→0≤z'→z' < 2147483647→0≤d→d < m→Q (.int d) (upd H a (.lst [.int x',.int y,.int z']))
def sp_price29:Sp:=fun vs H Q _=>∃ c b:Int,vs = [.int c,.int b]∧1≤b∧b≤1000000000000000000000000000000∧∀ (t l:Int) p,0≤t→t < 1000000000000000000000000000000→1≤l→l≤1000000000000000000000000000000→H p=none→Q (.ref p) (upd H p (.tup [.int t,.int l]))
def Tr.ct:Tr→Nat
 | .en _=>1
 | .fk _ y n=>1 + y.ct * n.ct
def sp_lies29:Sp:=fun vs H Q _=>∃ (a b:Addr) (ps qs:List Str),vs = [.ref a,.ref b]∧H a=some (.lst (ps.map V.str))∧H b=some (.lst (qs.map V.str))∧ps.length≤64∧qs.length≤64∧(∀ w∈ps,w.length≤100)∧(∀ w∈qs,w.length≤100)∧∀ (k:Bool) H',(k=true↔Lies ps qs)→Same H H'→Q (.bl k) H'
def CQ.ct:CQ→Nat
 | .en _=>1
 | .fk _ y n=>1 + y.ct * n.ct
def Tr.hd (b:Int) : Tr→CQ
 | .en w=>.en (Rat.divInt w b)
 | .fk w y n=>.fk (Rat.divInt w b) (y.hd b) (n.hd b)
def sp_dugf (K:PySem.W.Frag)(d:Nat) : Sp:=fun vs H Q _=>∃ (a:Addr) (x y z m:Int),vs = [.ref a,.int m]∧H a=some (.lst [.int x,.int y,.int z])∧0 < m∧m≤1000000000000∧0≤x∧0≤y∧y≤(d:Int)∧y≤15∧0≤z∧z < 2147483647 ∧
 ∀ H' v t (x' y' z':Int),SameB a H H'→H' a=some (.lst [.int x',.int y',.int z'])→0≤x'→0≤y'→y'≤y→0≤z'→z' < 2147483647→TV K H' v (trD t)→(t.lv:Int) + y'≤y + 1→t.B→Q v H'
def sp_dug (K:PySem.W.Frag) : Sp:=fun vs H Q _=>∃ c:Int,vs = [.int c]∧0≤c∧∀ H' v t,Same H H'→TV K H' v (trD t)→t.lv≤21→t.B→Q v H'
theorem wB_d {d m:Int}(h0:0≤d)(h1:d < m)(h2:m≤1000000000000) : wB (d - m / 3):=⟨by omega,by omega⟩
theorem cds_x {a b:Str}(h:cds a=cds b) : a=b:=by
 rcases a with ⟨⟨a⟩⟩
 rcases b with ⟨⟨b⟩⟩
 have h:a=b:=h
 rw [h]
theorem str_as (a b c:Str) : a ++ b ++ c=a ++ (b ++ c):=cds_x (by rw [cds_app,cds_app,cds_app,cds_app,List.append_assoc])
theorem str_no (a:Str) : a ++ ("" : Str)=a:=cds_x (by rw [cds_app]; show cds a ++ [] = cds a; rw [List.append_nil])
theorem str_on (a:Str) : ("" : Str) ++ a=a:=cds_x (by rw [cds_app]; rfl)
theorem best_at (b c:Int) : ∀ (t:Tr) (q:Str),best b c t q=((best b c t "").1.map fun x=>q ++ x,(best b c t "").2)
 | .en w,q=>by unfold best; rw [List.map_cons,List.map_nil,str_no]
 | .fk w y n,q=>by
  have e1:=best_at b c y (q ++ "y")
  have e2:=best_at b c n (q ++ "n")
  have f1:=best_at b c y (("" : Str) ++ "y")
  have f2:=best_at b c n (("" : Str) ++ "n")
  unfold best
  rw [e1,e2,f1,f2]
  simp only [List.length_map]
  split
  ·simp only [List.map_append,List.map_map]
   congr 1
   congr 1
   ·refine List.map_congr_left fun x _=>?_
    show q ++ "n" ++ x=q ++ (("" : Str) ++ "n" ++ x)
    rw [str_on,str_as]
   ·refine List.map_congr_left fun x _=>?_
    show q ++ "y" ++ x=q ++ (("" : Str) ++ "y" ++ x)
    rw [str_on,str_as]
  ·simp only [List.map_cons,List.map_nil]
   rw [str_no]
theorem best_fk (b c w:Int)(y n:Tr) : best b c (.fk w y n) "" = if ((best b c y "").2 + (best b c n "").2) * b + c * ((best b c n "").1.length + (best b c y "").1.length - 1) < w * b then ((best b c n "").1.map (fun x=>("n" : Str) ++ x) ++ (best b c y "").1.map (fun x=>("y" : Str) ++ x),(best b c y "").2 + (best b c n "").2) else ([""],w):=by
 have f1:=best_at b c y (("" : Str) ++ "y")
 have f2:=best_at b c n (("" : Str) ++ "n")
 conv=>lhs; unfold best
 rw [f1,f2,str_on,str_on]
 simp only [List.length_map]
theorem low_eq {t b:Int}(hb:0 < b) : (Rat.divInt t b).num * b=t * ((Rat.divInt t b).den:Int):=by
 rw [← M.num_low hb,← M.den_low hb]
 obtain ⟨⟨x,hx⟩,⟨y,hy⟩⟩:=M.G_dvd t b
 have p:=M.G_pos t b
 generalize M.G t b=g at *
 subst hx
 subst hy
 rw [Int.mul_ediv_cancel_left _ (by omega),Int.mul_ediv_cancel_left _ (by omega)]
 grind
theorem low_n {k:Nat}{t b:Int}(hb:0 < b)(h:Bz k t) : Bz k (Rat.divInt t b).num:=by
 rw [← M.num_low hb]
 exact h.ediv (by have:=M.G_pos t b; omega)
theorem low_d {k:Nat}{t b:Int}(hb:0 < b)(h:Bz k b) : Bz k ((Rat.divInt t b).den:Int):=by
 rw [← M.den_low hb]
 exact h.ediv (by have:=M.G_pos t b; omega)
theorem low_p {t b:Int} : 0 < ((Rat.divInt t b).den:Int):=by have:=(Rat.divInt t b).den_pos; omega
theorem low_0 {t b:Int}(hb:0 < b)(h:0≤t) : 0≤(Rat.divInt t b).num:=by
 rw [← M.num_low hb]
 exact Int.ediv_nonneg h (by have:=M.G_pos t b; omega)
theorem cost_sum {t1 b1 t2 b2 s1 s2 b:Int}(h1:t1 * b=s1 * b1)(h2:t2 * b=s2 * b2) : (t1 * b2 + t2 * b1) * b=(s1 + s2) * (b1 * b2):=by grind
theorem cost_lt {ct cb pn pd wn wd s low top b w l:Int}(h1:ct * b=s * cb) (h2:pn * low=top * pd) (h3:wn * b=w * wd) (c0:0 < cb) (p0:0 < pd) (w0:0 < wd) (b0:0 < b) (l0:0 < low) :
  ((ct * pd + pn * (l - 1) * cb) * wd < wn * (cb * pd))↔(s * low + top * b * (l - 1) < w * low):=by
 have g1:0 < b * low:=Int.mul_pos b0 l0
 have g2:0 < cb * pd * wd:=Int.mul_pos (Int.mul_pos c0 p0) w0
 have e1:(ct * pd + pn * (l - 1) * cb) * wd * (b * low)=(s * low + top * b * (l - 1)) * (cb * pd * wd):=by grind
 have e2:wn * (cb * pd) * (b * low)=(w * low) * (cb * pd * wd):=by grind
 rw [← Int.mul_lt_mul_right g1,e1,e2,Int.mul_lt_mul_right g2]
theorem best_len (b c:Int)(t:Tr)(q:Str) : (best b c t q).1.length≤t.lv:=by
 obtain ⟨gs,h⟩:=(best_ps b c t q).pi
 exact h.len.1
theorem best_wd (b c:Int) : ∀ t:Tr,∀ x∈(best b c t "").1,x.length≤t.dp
 | .en w,x,hx=>by
  have hx:x∈[("" : Str)]:=hx
  rw [List.mem_singleton.mp hx]
  show ("" : Str).length≤0
  exact Nat.le_of_eq (by decide +kernel)
 | .fk w y n,x,hx=>by
  rw [best_fk] at hx
  show _≤max y.dp n.dp + 1
  have e1:("y" : Str).length=1:=by decide +kernel
  have e2:("n" : Str).length=1:=by decide +kernel
  have e3:("" : Str).length=0:=by decide +kernel
  split at hx
  ·rcases List.mem_append.mp hx with z | z
   ·obtain ⟨u,hu,rfl⟩:=List.mem_map.mp z
    have:=best_wd b c n u hu
    rw [len_app]
    omega
   ·obtain ⟨u,hu,rfl⟩:=List.mem_map.mp z
    have:=best_wd b c y u hu
    rw [len_app]
    omega
  ·rw [List.mem_singleton.mp hx]
   omega
structure Pr29 (top low b:Int) : Prop where
 t0:0≤top
 t1:top < 1000000000000000000000000000000
 l0:1≤low
 l1:low≤1000000000000000000000000000000
 b0:1≤b
 b1:b≤1000000000000000000000000000000
theorem bz109 {x:Int}(h1 : -100000000000000000000000000000000 < x)(h2:x < 100000000000000000000000000000000) : Bz 109 x:=by
 show x.natAbs < 649037107316853453566312041152512
 omega
theorem Tr.B.w:∀ {t:Tr},t.B→wB t.w
 | .en _,h=>h
 | .fk _ _ _,h=>h.1
structure Cost29 (low c b:Int) (t:Tr) (ct cb:Int) : Prop where
 e:ct * b=(best low c t "").2 * cb
 p:0 < cb
 zt:Bz (110 * t.lv) ct
 zb:Bz (109 * t.lv) cb
def sp_cwc (K:PySem.W.Frag)(d:Nat) : Sp:=fun vs H Q _=>∃ (v:V) (t:Tr) (a:Addr) (top low b:Int),vs = [v,.ref a]∧CV K H v (t.hd b)∧t.dp≤d∧t.lv≤61∧t.B∧Pr29 top low b∧H a=some (rt (Rat.divInt top low)) ∧
 ∀ H' p l r ct cb,Same H H'→H' p=some (.tup [.ref l,.ref r])→H' l=some (.lst ((best low (top * b) t "").1.map V.str))→H' r=some (.tup [.int ct,.int cb])→Cost29 low (top * b) b t ct cb→Q (.ref p) H'
theorem Cost29.stop {low c b:Int}{t:Tr}(b0:1≤b)(b1:b≤1000000000000000000000000000000)(h:t.B)(e:(best low c t "").2=t.w) : Cost29 low c b t (Rat.divInt t.w b).num ((Rat.divInt t.w b).den:Int):=by
 have l:=t.lv_pos
 have w:=h.w
 refine ⟨by rw [e]; exact low_eq (by omega),low_p,(low_n (by omega) (bz109 w.1 w.2)).mono (by omega),(low_d (by omega) (bz109 (by omega) (by omega))).mono (by omega)⟩
theorem Cost29.go {low c b w:Int}{y n:Tr}{t1 b1 t2 b2:Int}(h1:Cost29 low c b y t1 b1)(h2:Cost29 low c b n t2 b2)(e:(best low c (.fk w y n) "").2=(best low c y "").2 + (best low c n "").2) : Cost29 low c b (.fk w y n) (t1 * b2 + t2 * b1) (b1 * b2):=by
 have l1:=y.lv_pos
 have l2:=n.lv_pos
 refine ⟨by rw [e]; exact cost_sum h1.e h2.e,Int.mul_pos h1.p h2.p,?_,?_⟩
 ·exact ((h1.zt.mul h2.zb).add' (h2.zt.mul h1.zb)).mono (by show _≤110 * (y.lv + n.lv); omega)
 ·exact (h1.zb.mul h2.zb).mono (by show _≤109 * (y.lv + n.lv); omega)
inductive PVs (H:Hp) : List V→List (List Str × Int)→Prop
 | nil:PVs H [] []
 | cons {p l:Addr}{ps:List Str}{s:Int}{xs:List V}{rs:List (List Str × Int)} : H p=some (.tup [.ref l,.int s])→H l=some (.lst (ps.map V.str))→PVs H xs rs→PVs H (.ref p :: xs) ((ps,s) :: rs)
def tot (top low b:Int)(r:List Str × Int) : Int:=r.2 * low + top * (r.1.length:Int) * b
inductive LVs (H:Hp) : List V→List (List Str)→Prop
 | nil:LVs H [] []
 | cons {l:Addr}{ps:List Str}{xs:List V}{rs:List (List Str)} : H l=some (.lst (ps.map V.str))→LVs H xs rs→LVs H (.ref l :: xs) (ps :: rs)
def sp_cell29 (K:PySem.W.Frag) : Sp:=fun vs H Q _=>∃ (a:Addr) (ns:List Int) (k:Int),vs = [.ref a,.int k]∧SqL K H a (ns.map V.int)∧0≤k∧Q (.int (ns.getD k.toNat 0)) H
theorem Tr.wt_w (t:Tr) : t.wt=t.w:=by cases t <;> rfl
def sp_npr (CP:Addr) : Sp:=fun vs H Q _=>∃ (ea p:Addr),vs = [.ref ea,.ref p]∧H ea=some (exN ea CP none)∧∀ d,H d=none→d ≠ ea→Q .non (upd (upd H ea (exN ea CP (some d))) d (.xd [("price", .ref p)]))
def sp_check28 (CP:Addr) : Sp:=fun vs H Q E=>∃ (a:Addr) (t b:Int),vs = [.ref a]∧H a=some (.tup [.int t,.int b])∧Bz 8000 t∧Bz 8000 b∧((0≤t∧∀ H',Same H H'→Q .non H')∨(t < 0∧∀ H' d,Same H H'→H' d=some (.xd [("price", .ref a)])→E (.ref CP) (some d) H'))
def sp_cheap28 (CP:Addr)(K:PySem.W.Frag) : Sp:=fun vs H Q E=>∃ (v:V) (t:Tr) (a:Addr) (top low b:Int),vs = [v,.ref a]∧CV K H v (t.hd b)∧t.dp≤20∧t.lv≤61∧t.B∧H a=some (rt (Rat.divInt top low))∧((Pr29 top low b∧∀ H' l,Same H H'→H' l=some (.lst ((best low (top * b) t "").1.map V.str))→Q (.ref l) H')∨(top < 0 ∧ -100000000000000000000000000000000 < top∧1≤low∧low≤1000000000000000000000000000000∧∀ H' d,Same H H'→H' d=some (.xd [("price", .ref a)])→E (.ref CP) (some d) H'))
theorem PI.lk {t:Tr}{q:Str}{ps gs:List Str}(h:PI t q ps gs) : ∃ us s m,LK t q ps us s m∧us.map (·.1)=gs:=by
 induction h with
 | stop t q=>exact ⟨_,_,_,.stop t q,rfl⟩
 | go _ _ h1 h2 =>
  obtain ⟨u1,s1,m1,l1,e1⟩:=h1
  obtain ⟨u2,s2,m2,l2,e2⟩:=h2
  exact ⟨_,_,_,.go l1 l2,by rw [List.map_cons,List.map_append,e1,e2]⟩
theorem LK.one {t:Tr}{q:Str}{ps:List Str}{us:List (Str × Int × Int)}{s m:Int}(h:LK t q ps us s m) : 1≤m∧m=(ps.length:Int)∧(∀ u∈us,1≤u.2.2)∧(us ≠ []→2≤m):=by
 induction h with
 | stop t q=>exact ⟨Int.le_refl _,rfl,fun u hu=>(by cases hu),fun z=>absurd rfl z⟩
 | @go w y n q ps1 ps2 us1 us2 s1 s2 m1 m2 _ _ h1 h2 =>
  refine ⟨by omega,by rw [List.length_append]; omega,fun u hu=>?_,fun _=>by omega⟩
  rcases List.mem_cons.mp hu with rfl | hu
  ·show 1≤m1 + m2 - 1
   omega
  ·rcases List.mem_append.mp hu with hu | hu
   ·exact h2.2.2.1 u hu
   ·exact h1.2.2.1 u hu
theorem best_lk {b:Int}(hb:0 < b) : ∀ (t:Tr) (q:Str),∃ us m,LK t q (best b 0 t q).1 us (best b 0 t q).2 m∧∀ u∈us,0 < u.2.1
 | .en w,q=>⟨[],1,.stop (.en w) q,fun u hu=>(by cases hu)⟩
 | .fk w y n,q=>by
  obtain ⟨u1,m1,l1,p1⟩:=best_lk hb y (q ++ "y")
  obtain ⟨u2,m2,l2,p2⟩:=best_lk hb n (q ++ "n")
  unfold best
  split
  ·rename_i c
   rw [Int.zero_mul,Int.add_zero,Int.mul_lt_mul_right hb] at c
   refine ⟨_,_,.go l1 l2,fun u hu=>?_⟩
   rcases List.mem_cons.mp hu with rfl | hu
   ·show 0 < w - _
    omega
   ·rcases List.mem_append.mp hu with hu | hu
    ·exact p2 u hu
    ·exact p1 u hu
  ·exact ⟨[],1,.stop (.fk w y n) q,fun u hu=>(by cases hu)⟩
def Cutc (a b:Int)(c:Str→Bool)(us:List (Str × Int × Int)) : Prop:=∀ u∈us,(c u.1=true→u.2.1 * b=a * u.2.2)∧(c u.1=false→a * u.2.2 < u.2.1 * b)
structure Cutf (F:List Str) (c:Str→Bool) (q:Str) (us:List (Str × Int × Int)) : Prop where
 nd:F.Nodup
 me:∀ x,(x∈F∧cds q <+: cds x)↔∃ u∈us,u.1=x∧c x=true
 up:∀ x∈F,cds x <+: cds q→x=q
structure Cuts (t:Tr) (q:Str) (a b:Int) (c:Str→Bool) (F ps:List Str) (us:List (Str × Int × Int)) (s m:Int) (ps':List Str) (us':List (Str × Int × Int)) (s' m':Int) : Prop where
 lk:LK t q ps' us' s' m'
 tot:s' * b + a * m'=s * b + a * m
 gt:∀ u∈us',a * u.2.2 < u.2.1 * b
 le:m'≤m
 lt:(∃ u∈us,c u.1=true)→m' < m
 ls:Lies ps' ps
 sub:∀ u∈us',∃ v∈us,v.1=u.1
 me:∀ x,x∈ps'↔(x∈ps∧bgs x F = [])∨(x∈F∧cds q <+: cds x∧(bgs x F).length=1)
theorem one_of {l:List Str}{x y:Str}(hx:x∈l)(hy:y∈l)(h:l.length=1) : x=y:=by
 obtain ⟨z,rfl⟩:=List.length_eq_one_iff.mp h
 rw [List.mem_singleton.mp hx,List.mem_singleton.mp hy]
theorem one_self {l:List Str}{x:Str}(nd:l.Nodup)(hx:x∈l)(h:∀ y∈l,y=x) : l.length=1:=by
 cases l with
 | nil=>cases hx
 | cons a l =>
  cases l with
  | nil=>rfl
  | cons b l =>
   have h1:=h a List.mem_cons_self
   have h2:=h b (List.mem_cons_of_mem _ List.mem_cons_self)
   rw [h1,h2,List.nodup_cons] at nd
   exact absurd List.mem_cons_self nd.1
theorem pre_yn {q x:Str}{s:Str}(hs:s.length=1)(h:cds x <+: cds (q ++ s))(hx:x ≠ q ++ s) : cds x <+: cds q:=by
 by_cases c:(q ++ s).length≤x.length
 ·exact absurd (pre_same h c) hx
 ·refine List.prefix_of_prefix_length_le h (pre_app q s) ?_
  rw [len_app] at c
  rw [cds_len,cds_len]
  omega
theorem Cutf.y {F:List Str}{c:Str→Bool}{q:Str}{us1 us2:List (Str × Int × Int)}{l:Int × Int}(h:Cutf F c q ((q,l) :: (us2 ++ us1)))(hq:c q=false)(p1:∀ u∈us1,cds (q ++ "y") <+: cds u.1)(p2:∀ u∈us2,cds (q ++ "n") <+: cds u.1) : Cutf F c (q ++ "y") us1:=by
 refine ⟨h.nd,fun x=>⟨fun hx=>?_,fun hx=>?_⟩,fun x hx px=>?_⟩
 ·obtain ⟨u,hu,e,cx⟩:=(h.me x).mp ⟨hx.1,(pre_app _ _).trans hx.2⟩
  rcases List.mem_cons.mp hu with rfl | hu
  ·obtain rfl:q=x:=e
   rw [hq] at cx
   cases cx
  ·rcases List.mem_append.mp hu with hu | hu
   ·exact (yn_apart hx.2 (e ▸ p2 u hu)).elim
   ·exact ⟨u,hu,e,cx⟩
 ·obtain ⟨u,hu,e,cx⟩:=hx
  exact ⟨((h.me x).mpr ⟨u,List.mem_cons_of_mem _ (List.mem_append_right _ hu),e,cx⟩).1,e ▸ p1 u hu⟩
 ·by_cases e:x=q ++ "y"
  ·exact e
  ·exfalso
   have e2:=h.up x hx (pre_yn ynl.1 px e)
   subst e2
   obtain ⟨u,hu,e3,cx⟩:=(h.me x).mp ⟨hx,List.prefix_refl _⟩
   rw [hq] at cx
   cases cx
theorem Cutf.n {F:List Str}{c:Str→Bool}{q:Str}{us1 us2:List (Str × Int × Int)}{l:Int × Int}(h:Cutf F c q ((q,l) :: (us2 ++ us1)))(hq:c q=false)(p1:∀ u∈us1,cds (q ++ "y") <+: cds u.1)(p2:∀ u∈us2,cds (q ++ "n") <+: cds u.1) : Cutf F c (q ++ "n") us2:=by
 refine ⟨h.nd,fun x=>⟨fun hx=>?_,fun hx=>?_⟩,fun x hx px=>?_⟩
 ·obtain ⟨u,hu,e,cx⟩:=(h.me x).mp ⟨hx.1,(pre_app _ _).trans hx.2⟩
  rcases List.mem_cons.mp hu with rfl | hu
  ·obtain rfl:q=x:=e
   rw [hq] at cx
   cases cx
  ·rcases List.mem_append.mp hu with hu | hu
   ·exact ⟨u,hu,e,cx⟩
   ·exact (yn_apart (e ▸ p1 u hu) hx.2).elim
 ·obtain ⟨u,hu,e,cx⟩:=hx
  exact ⟨((h.me x).mpr ⟨u,List.mem_cons_of_mem _ (List.mem_append_left _ hu),e,cx⟩).1,e ▸ p2 u hu⟩
 ·by_cases e:x=q ++ "n"
  ·exact e
  ·exfalso
   have e2:=h.up x hx (pre_yn ynl.2 px e)
   subst e2
   obtain ⟨u,hu,e3,cx⟩:=(h.me x).mp ⟨hx,List.prefix_refl _⟩
   rw [hq] at cx
   cases cx
theorem LK.cutc {a b:Int}{c:Str→Bool}{F:List Str}{t:Tr}{q:Str}{ps:List Str}{us:List (Str × Int × Int)}{s m:Int}(h:LK t q ps us s m)(hc:Cutc a b c us)(hF:Cutf F c q us) : ∃ ps' us' s' m',Cuts t q a b c F ps us s m ps' us' s' m':=by
 induction h with
 | stop t q =>
  refine ⟨[q],[],t.wt,1,.stop t q,rfl,fun u hu=>(by cases hu),Int.le_refl _,fun ⟨u,hu,_⟩=>(by cases hu),Lies.refl _,fun u hu=>(by cases hu),fun x=>?_⟩
  have no:∀ x∈F,¬ cds q <+: cds x:=fun x hx z=>by
   obtain ⟨u,hu,_⟩:=(hF.me x).mp ⟨hx,z⟩
   cases hu
  have eb:bgs q F = []:=by
   rw [List.eq_nil_iff_forall_not_mem]
   intro y hy
   obtain ⟨y1,y2⟩:=mem_bgs.mp hy
   have e:=hF.up y y1 y2
   rw [e] at y1
   exact no q y1 (List.prefix_refl _)
  constructor
  ·intro hx
   rw [List.mem_singleton.mp hx]
   exact .inl ⟨List.mem_singleton.mpr rfl,eb⟩
  ·rintro (hx | ⟨h1,h2,_⟩)
   ·exact hx.1
   ·exact (no x h1 h2).elim
 | @go w y n q ps1 ps2 us1 us2 s1 s2 m1 m2 g1 g2 h1 h2 =>
  have p1:=g1.pi.pre
  have p2:=g2.pi.pre
  have f1:∀ u∈us1,cds (q ++ "y") <+: cds u.1:=fun u hu=>p1.2 u.1 (List.mem_map.mpr ⟨u,hu,rfl⟩)
  have f2:∀ u∈us2,cds (q ++ "n") <+: cds u.1:=fun u hu=>p2.2 u.1 (List.mem_map.mpr ⟨u,hu,rfl⟩)
  have o1:=g1.one.1
  have o2:=g2.one.1
  have c0:=hc (q,w - (s1 + s2),m1 + m2 - 1) List.mem_cons_self
  cases e:c q with
  | true =>
   have c1:(w - (s1 + s2)) * b=a * (m1 + m2 - 1):=c0.1 e
   have qF:q∈F:=((hF.me q).mpr ⟨_,List.mem_cons_self,rfl,e⟩).1
   refine ⟨[q],[],w,1,.stop (.fk w y n) q,?_,fun u hu=>(by cases hu),by omega,fun _=>by omega,?_,fun u hu=>(by cases hu),fun x=>?_⟩
   ·rw [Int.sub_mul,Int.mul_sub,Int.mul_one] at c1
    rw [Int.mul_one]
    omega
   ·intro x hx
    refine ⟨q,List.mem_singleton.mpr rfl,?_⟩
    rcases List.mem_append.mp hx with hx | hx
    ·exact (pre_app _ _).trans (p2.1 x hx)
    ·exact (pre_app _ _).trans (p1.1 x hx)
   ·constructor
    ·intro hx
     rw [List.mem_singleton.mp hx]
     refine .inr ⟨qF,List.prefix_refl _,one_self (hF.nd.sublist List.filter_sublist) (mem_bgs.mpr ⟨qF,List.prefix_refl _⟩) fun z hz=>?_⟩
     obtain ⟨z1,z2⟩:=mem_bgs.mp hz
     exact hF.up z z1 z2
    ·rintro (⟨hx,hb⟩ | ⟨h1,h2,h3⟩)
     ·exfalso
      have px:cds q <+: cds x:=by
       rcases List.mem_append.mp hx with hx | hx
       ·exact (pre_app _ _).trans (p2.1 x hx)
       ·exact (pre_app _ _).trans (p1.1 x hx)
      have:q∈bgs x F:=mem_bgs.mpr ⟨qF,px⟩
      rw [hb] at this
      cases this
     ·rw [one_of (mem_bgs.mpr ⟨h1,List.prefix_refl _⟩) (mem_bgs.mpr ⟨qF,h2⟩) h3]
      exact List.mem_singleton.mpr rfl
  | false =>
   have c1:a * (m1 + m2 - 1) < (w - (s1 + s2)) * b:=c0.2 e
   obtain ⟨ps1',us1',s1',m1',C1⟩:=h1 (fun u hu=>hc u (List.mem_cons_of_mem _ (List.mem_append_right _ hu))) (hF.y e f1 f2)
   obtain ⟨ps2',us2',s2',m2',C2⟩:=h2 (fun u hu=>hc u (List.mem_cons_of_mem _ (List.mem_append_left _ hu))) (hF.n e f1 f2)
   have t1:=C1.tot
   have t2:=C2.tot
   have l1:=C1.le
   have l2:=C2.le
   refine ⟨_,_,_,_,.go C1.lk C2.lk,?_,fun u hu=>?_,by omega,?_,Lies.join C1.ls C2.ls,fun u hu=>?_,fun x=>?_⟩
   ·rw [Int.add_mul,Int.mul_add,Int.add_mul,Int.mul_add]
    omega
   ·rcases List.mem_cons.mp hu with rfl | hu
    ·show a * (m1' + m2' - 1) < (w - (s1' + s2')) * b
     rw [Int.sub_mul,Int.add_mul,Int.mul_sub,Int.mul_add,Int.mul_one] at c1 ⊢
     omega
    ·rcases List.mem_append.mp hu with hu | hu
     ·exact C2.gt u hu
     ·exact C1.gt u hu
   ·rintro ⟨u,hu,cu⟩
    rcases List.mem_cons.mp hu with rfl | hu
    ·have cu:c q=true:=cu
     rw [e] at cu
     cases cu
    ·rcases List.mem_append.mp hu with hu | hu
     ·have:=C2.lt ⟨u,hu,cu⟩
      omega
     ·have:=C1.lt ⟨u,hu,cu⟩
      omega
   ·rcases List.mem_cons.mp hu with rfl | hu
    ·exact ⟨_,List.mem_cons_self,rfl⟩
    ·rcases List.mem_append.mp hu with hu | hu
     ·obtain ⟨v,hv,e2⟩:=C2.sub u hu
      exact ⟨v,List.mem_cons_of_mem _ (List.mem_append_left _ hv),e2⟩
     ·obtain ⟨v,hv,e2⟩:=C1.sub u hu
      exact ⟨v,List.mem_cons_of_mem _ (List.mem_append_right _ hv),e2⟩
   ·rw [List.mem_append,C1.me,C2.me,List.mem_append]
    constructor
    ·rintro ((⟨z1,z2⟩ | ⟨z1,z2,z3⟩) | (⟨z1,z2⟩ | ⟨z1,z2,z3⟩))
     ·exact .inl ⟨.inl z1,z2⟩
     ·exact .inr ⟨z1,(pre_app _ _).trans z2,z3⟩
     ·exact .inl ⟨.inr z1,z2⟩
     ·exact .inr ⟨z1,(pre_app _ _).trans z2,z3⟩
    ·rintro (⟨z1 | z1,z2⟩ | ⟨z1,z2,z3⟩)
     ·exact .inl (.inl ⟨z1,z2⟩)
     ·exact .inr (.inl ⟨z1,z2⟩)
     ·obtain ⟨u,hu,eu,cu⟩:=(hF.me x).mp ⟨z1,z2⟩
      rcases List.mem_cons.mp hu with rfl | hu
      ·obtain rfl:q=x:=eu
       rw [e] at cu
       cases cu
      ·rcases List.mem_append.mp hu with hu | hu
       ·exact .inl (.inr ⟨z1,eu ▸ f2 u hu,z3⟩)
       ·exact .inr (.inr ⟨z1,eu ▸ f1 u hu,z3⟩)
inductive Sc (b c:Int) : Tr→Tr→Prop
 | en {w w':Int} : w' * b=w * c→Sc b c (.en w) (.en w')
 | fk {w w':Int}{y n y' n':Tr} : w' * b=w * c→Sc b c y y'→Sc b c n n'→Sc b c (.fk w y n) (.fk w' y' n')
theorem Sc.wt {b c:Int}{t t':Tr}(h:Sc b c t t') : t'.wt * b=t.wt * c:=by cases h <;> assumption
theorem Sc.lv {b c:Int}{t t':Tr}(h:Sc b c t t') : t'.lv=t.lv:=by
 induction h with
 | en _=>rfl
 | fk _ _ _ h1 h2=>show _ + _=_ + _; rw [h1,h2]
theorem Sc.dp {b c:Int}{t t':Tr}(h:Sc b c t t') : t'.dp=t.dp:=by
 induction h with
 | en _=>rfl
 | fk _ _ _ h1 h2=>show max _ _ + 1=max _ _ + 1; rw [h1,h2]
theorem Sc.lk {b c:Int}{t:Tr}{q:Str}{ps:List Str}{us:List (Str × Int × Int)}{s m:Int}(h:LK t q ps us s m) : ∀ {t':Tr},Sc b c t t'→∃ us' s',LK t' q ps us' s' m∧s' * b=s * c∧(∀ u∈us,∃ v∈us',v.1=u.1∧v.2.1 * b=u.2.1 * c∧v.2.2=u.2.2)∧∀ v∈us',∃ u∈us,v.1=u.1∧v.2.1 * b=u.2.1 * c∧v.2.2=u.2.2:=by
 induction h with
 | stop t q=>exact fun h=>⟨[],_,.stop _ q,h.wt,fun u hu=>(by cases hu),fun u hu=>(by cases hu)⟩
 | @go w y n q ps1 ps2 us1 us2 s1 s2 m1 m2 g1 g2 h1 h2 =>
  intro t' h
  cases h with
  | @fk _ w' _ _ y' n' e k1 k2 =>
   obtain ⟨u1,z1,l1,e1,a1,b1⟩:=h1 k1
   obtain ⟨u2,z2,l2,e2,a2,b2⟩:=h2 k2
   have ew:(w' - (z1 + z2)) * b=(w - (s1 + s2)) * c:=by
    rw [Int.sub_mul,Int.sub_mul,Int.add_mul,Int.add_mul]
    omega
   refine ⟨_,_,.go l1 l2,by rw [Int.add_mul,Int.add_mul]; omega,fun u hu=>?_,fun u hu=>?_⟩
   ·rcases List.mem_cons.mp hu with rfl | hu
    ·exact ⟨_,List.mem_cons_self,rfl,ew,rfl⟩
    ·rcases List.mem_append.mp hu with hu | hu
     ·obtain ⟨v,hv,z⟩:=a2 u hu
      exact ⟨v,List.mem_cons_of_mem _ (List.mem_append_left _ hv),z⟩
     ·obtain ⟨v,hv,z⟩:=a1 u hu
      exact ⟨v,List.mem_cons_of_mem _ (List.mem_append_right _ hv),z⟩
   ·rcases List.mem_cons.mp hu with rfl | hu
    ·exact ⟨_,List.mem_cons_self,rfl,ew,rfl⟩
    ·rcases List.mem_append.mp hu with hu | hu
     ·obtain ⟨v,hv,z⟩:=b2 u hu
      exact ⟨v,List.mem_cons_of_mem _ (List.mem_append_left _ hv),z⟩
     ·obtain ⟨v,hv,z⟩:=b1 u hu
      exact ⟨v,List.mem_cons_of_mem _ (List.mem_append_right _ hv),z⟩
def Weak (us:List (Str × Int × Int))(u:Str × Int × Int) : Prop:=u∈us∧∀ v∈us,u.2.1 * v.2.2≤v.2.1 * u.2.2
theorem sc_le {b c x y:Int}{k l x' y':Int}(hb:0 < b)(hc:0 < c)(hx:x' * b=x * c)(hy:y' * b=y * c) : x' * k≤y' * l↔x * k≤y * l:=by
 have e1:x' * k * b=x * k * c:=by grind
 have e2:y' * l * b=y * l * c:=by grind
 rw [← Int.mul_le_mul_right hb,e1,e2,Int.mul_le_mul_right hc]
theorem Weak.sc {b c:Int}{us us':List (Str × Int × Int)}(hb:0 < b)(hc:0 < c)(h1:∀ u∈us,∃ v∈us',v.1=u.1∧v.2.1 * b=u.2.1 * c∧v.2.2=u.2.2)(h2:∀ v∈us',∃ u∈us,v.1=u.1∧v.2.1 * b=u.2.1 * c∧v.2.2=u.2.2)(x:Str) : (∃ v,Weak us' v∧v.1=x)↔∃ u,Weak us u∧u.1=x:=by
 constructor
 ·rintro ⟨v,⟨hv,le⟩,rfl⟩
  obtain ⟨u,hu,e1,e2,e3⟩:=h2 v hv
  refine ⟨u,⟨hu,fun w hw=>?_⟩,e1.symm⟩
  obtain ⟨w',hw',f1,f2,f3⟩:=h1 w hw
  have:=le w' hw'
  rw [f3,e3] at this
  exact (sc_le hb hc e2 f2).mp this
 ·rintro ⟨u,⟨hu,le⟩,rfl⟩
  obtain ⟨v,hv,e1,e2,e3⟩:=h1 u hu
  refine ⟨v,⟨hv,fun w' hw'=>?_⟩,e1⟩
  obtain ⟨w,hw,f1,f2,f3⟩:=h2 w' hw'
  have:=le w hw
  rw [f3,e3]
  exact (sc_le hb hc e2 f2).mpr this
structure Nxt (t:Tr) (B:Int) (x y:Rat × List Str) : Prop where
 ex:∃ us s m us' s' m' F c u,LK t "" x.2 us s m∧Weak us u∧y.1=Rat.divInt u.2.1 (u.2.2 * B)∧0 < u.2.1∧0 < u.2.2∧(∀ z,z∈F↔∃ v,Weak us v∧v.1=z)∧Cuts t "" u.2.1 u.2.2 c F x.2 us s m y.2 us' s' m'∧m' < m
theorem TV.cv {K:PySem.W.Frag}{H:Hp}{B:Int}(hB:0 < B) : ∀ {t:Tr}{v:V},TV K H v (htD B t)→CV K H v (t.hd B)
 | .en w,v,h=>by
  obtain ⟨p,c,rfl,hp,hc⟩:=TV.hen h
  obtain ⟨c2,rfl,hc2⟩:=TV.rD hB hc
  exact .en hp hc2
 | .fk w y n,v,h=>by
  obtain ⟨p,c,a,b,rfl,hp,hc,h1,h2⟩:=TV.hfk h
  obtain ⟨c2,rfl,hc2⟩:=TV.rD hB hc
  exact .fk hp hc2 (TV.cv hB h1) (TV.cv hB h2)
theorem den_dvd {w B:Int}(hB:0 < B) : ((Rat.divInt w B).den:Int) ∣ B:=by
 rw [← M.den_low hB]
 obtain ⟨k,hk⟩:=(M.G_dvd w B).2
 have p:=M.G_pos w B
 refine ⟨M.G w B,?_⟩
 rw [Int.ediv_mul_cancel (M.G_dvd w B).2]
theorem lcm_ok {C D B:Int}(c0:0 < C)(d0:0 < D)(b0:0 < B)(hc:C ∣ B)(hd:D ∣ B) : 0 < C * (D / M.G C D)∧C * (D / M.G C D) ∣ B∧C ∣ C * (D / M.G C D)∧D ∣ C * (D / M.G C D):=by
 obtain ⟨c,rfl⟩ : ∃ c:Nat,C=(c:Int):=⟨C.toNat,by omega⟩
 obtain ⟨d,rfl⟩ : ∃ d:Nat,D=(d:Int):=⟨D.toNat,by omega⟩
 obtain ⟨b,rfl⟩ : ∃ b:Nat,B=(b:Int):=⟨B.toNat,by omega⟩
 have e:(c:Int) * ((d:Int) / M.G (c:Int) (d:Int))=((Nat.lcm c d:Nat) : Int):=by
  rw [M.G_eq (by omega)]
  show (c:Int) * ((d:Int) / ((Nat.gcd c d:Nat) : Int))=_
  rw [← Int.natCast_ediv,← Int.natCast_mul]
  congr 1
  unfold Nat.lcm
  rw [Nat.mul_div_assoc _ (Nat.gcd_dvd_right c d)]
 rw [e]
 have hc:=Int.natCast_dvd_natCast.mp hc
 have hd:=Int.natCast_dvd_natCast.mp hd
 refine ⟨?_,Int.natCast_dvd_natCast.mpr (Nat.lcm_dvd hc hd),Int.natCast_dvd_natCast.mpr (Nat.dvd_lcm_left c d),Int.natCast_dvd_natCast.mpr (Nat.dvd_lcm_right c d)⟩
 have:=Nat.lcm_pos (m:=c) (n:=d) (by omega) (by omega)
 omega
def sp_cbottom (K:PySem.W.Frag) : Sp:=fun vs H Q _=>∃ (v:V) (t:Tr) (B:Int),vs = [v]∧TV K H v (htD B t)∧t.lv≤61∧0 < B∧Bz 128 B∧∀ H' (C:Int),Same H H'→0 < C→C ∣ B→(∀ e∈plt t "", ((Rat.divInt e.2.wt B).den:Int) ∣ C)→Q (.int C) H'
theorem dvd_bz {C B:Int}(b0:0 < B)(bz:Bz 128 B)(h:C ∣ B) : Bz 128 C:=bz.le (Nat.le_of_dvd (by omega) (Int.natAbs_dvd_natAbs.mpr h))
def Dn (B C:Int) : Tr→Prop
 | .en w=>((Rat.divInt w B).den:Int) ∣ C
 | .fk w y n=>((Rat.divInt w B).den:Int) ∣ C∧Dn B C y∧Dn B C n
theorem Dn.of {B C:Int} : ∀ {t:Tr}{q:Str},(∀ e∈plt t q,((Rat.divInt e.2.wt B).den:Int) ∣ C)→Dn B C t
 | .en w,q,h=>h (q,.en w) List.mem_cons_self
 | .fk w y n,q,h=>⟨h (q,.fk w y n) List.mem_cons_self,Dn.of fun e he=>h e (List.mem_cons_of_mem _ (List.mem_append_left _ he)),Dn.of fun e he=>h e (List.mem_cons_of_mem _ (List.mem_append_right _ he))⟩
theorem Dn.w {B C:Int} : ∀ {t:Tr},Dn B C t→((Rat.divInt t.wt B).den:Int) ∣ C
 | .en _,h=>h
 | .fk _ _ _,h=>h.1
theorem lift_w {w B C:Int}(b0:0 < B)(h:((Rat.divInt w B).den:Int) ∣ C) : (Rat.divInt w B).num * (C / ((Rat.divInt w B).den:Int)) * B=w * C:=by
 have e:=low_eq (t:=w) b0
 obtain ⟨k,hk⟩:=h
 have p:=low_p (t:=w) (b:=B)
 generalize (Rat.divInt w B).num=x at *
 generalize ((Rat.divInt w B).den:Int)=y at *
 subst hk
 rw [Int.mul_ediv_cancel_left _ (by omega)]
 grind
def sp_lifted (K:PySem.W.Frag)(d:Nat) : Sp:=fun vs H Q _=>∃ (v:V) (t:Tr) (B C:Int),vs = [v,.int C]∧TV K H v (htD B t)∧t.dp≤d∧0 < B∧Bz 128 B∧t.B∧0 < C∧Bz 128 C∧Dn B C t∧∀ H' x t',Same H H'→TV K H' x (trD t')→Sc B C t t'→Q x H'
theorem sc_bd {w w' B C:Int}(c0:0 < C)(cb:C≤B)(h:w' * B=w * C)(hw:wB w) : wB w':=by
 have b0:0 < B:=by omega
 obtain ⟨h1,h2⟩:=hw
 constructor
 ·refine Int.lt_of_not_ge fun z=>?_
  have e1:w' * B ≤ -100000000000000000000000000000000 * B:=Int.mul_le_mul_of_nonneg_right z (by omega)
  have e2 : -100000000000000000000000000000000 * C < w * C:=Int.mul_lt_mul_of_pos_right h1 c0
  omega
 ·refine Int.lt_of_not_ge fun z=>?_
  have e1:100000000000000000000000000000000 * B≤w' * B:=Int.mul_le_mul_of_nonneg_right z (by omega)
  have e2:w * C < 100000000000000000000000000000000 * C:=Int.mul_lt_mul_of_pos_right h2 c0
  omega
theorem Sc.B {B C:Int}{t t':Tr}(c0:0 < C)(cb:C≤B)(h:Sc B C t t')(hb:t.B) : t'.B:=by
 induction h with
 | en e=>exact sc_bd c0 cb e hb
 | fk e _ _ h1 h2=>exact ⟨sc_bd c0 cb e hb.1,h1 hb.2.1,h2 hb.2.2⟩
def sp_inwhole (K:PySem.W.Frag) : Sp:=fun vs H Q _=>∃ (v:V) (t:Tr) (B:Int),vs = [v]∧TV K H v (htD B t)∧(t.lv≤61∧t.dp≤20)∧0 < B∧Bz 128 B∧t.B∧∀ H' x t' (C:Int),Same H H'→TV K H' x (trD t')→Sc B C t t'→0 < C→C≤B→t'.B→Q x H'
inductive DR (H:Hp) : List (Key × V)→List (Str × Int × Int)→Prop
 | nil:DR H [] []
 | cons {p:Addr}{e:Str × Int × Int}{kvs:List (Key × V)}{es:List (Str × Int × Int)} : H p=some (.tup [.int e.2.1,.int e.2.2])→DR H kvs es→DR H ((.inr e.1,.ref p) :: kvs) (e :: es)
theorem DR.mono {H H':Hp}{kvs:List (Key × V)}{es:List (Str × Int × Int)}(h:DR H kvs es)(s:SameT H H') : DR H' kvs es:=by
 induction h with
 | nil=>exact .nil
 | cons t _ ih=>exact .cons (s _ _ t) ih
theorem DR.snoc {H:Hp}{kvs:List (Key × V)}{es:List (Str × Int × Int)}{p:Addr}{e:Str × Int × Int}(h:DR H kvs es)(t:H p=some (.tup [.int e.2.1,.int e.2.2])) : DR H (kvs ++ [(.inr e.1,.ref p)]) (es ++ [e]):=by
 induction h with
 | nil=>exact .cons t .nil
 | cons a _ ih=>exact .cons a ih
theorem DR.length {H:Hp}{kvs:List (Key × V)}{es:List (Str × Int × Int)}(h:DR H kvs es) : kvs.length=es.length:=by
 induction h with
 | nil=>rfl
 | cons _ _ ih=>rw [List.length_cons,List.length_cons,ih]
theorem DR.vno {H:Hp}{kvs:List (Key × V)}{es:List (Str × Int × Int)}{x:Str}(h:DR H kvs es)(n:x ∉ es.map (·.1)) : valV kvs (.inr x)=none:=by
 induction h with
 | nil=>rfl
 | @cons p e kvs es _ _ ih =>
  rw [List.map_cons,List.mem_cons,not_or] at n
  rw [valV_neg (by intro z; injection z with z; exact n.1 z.symm)]
  exact ih n.2
theorem DR.val {H:Hp}{kvs:List (Key × V)}{es:List (Str × Int × Int)}{e:Str × Int × Int}(h:DR H kvs es)(nd:(es.map (·.1)).Nodup)(m:e∈es) : ∃ p,valV kvs (.inr e.1)=some (.ref p)∧H p=some (.tup [.int e.2.1,.int e.2.2]):=by
 induction h with
 | nil=>cases m
 | @cons p f kvs es t _ ih =>
  rw [List.map_cons,List.nodup_cons] at nd
  rcases List.mem_cons.mp m with z | z
  ·subst z
   exact ⟨p,valV_pos rfl,t⟩
  ·have ne:f.1 ≠ e.1:=fun y=>nd.1 (by rw [y]; exact List.mem_map.mpr ⟨e,z,rfl⟩)
   rw [valV_neg (by intro y; injection y with y; exact ne y)]
   exact ih nd.2 z
theorem DR.get {H:Hp}{kvs:List (Key × V)}{es:List (Str × Int × Int)}{i:Nat}{k:Key}{v:V}(h:DR H kvs es)(e:kvs[i]? = some (k,v)) : ∃ x p,es[i]? = some x∧k = .inr x.1∧v = .ref p∧H p=some (.tup [.int x.2.1,.int x.2.2]):=by
 induction h generalizing i with
 | nil=>cases i <;> cases e
 | @cons p x kvs es t _ ih =>
  cases i with
  | zero =>
   have e:=Option.some.inj e
   cases e
   exact ⟨x,p,rfl,rfl,rfl,t⟩
  | succ i=>exact ih e
def ent (W:Str→Int)(ps:List Str)(x:Str) : Str × Int × Int:=(x,((und ps x).map W).sum,((und ps x).length:Int))
def lnk (W:Str→Int)(ps:List Str)(x:Str) : Str × Int × Int:=(x,W x - ((und ps x).map W).sum,((und ps x).length:Int) - 1)
theorem ent_key (W:Str→Int)(ps xs:List Str) : (xs.map (ent W ps)).map (·.1)=xs:=by rw [List.map_map]; exact List.map_id xs
theorem lnk_key (W:Str→Int)(ps xs:List Str) : (xs.map (lnk W ps)).map (·.1)=xs:=by rw [List.map_map]; exact List.map_id xs
theorem PI.leaf {t:Tr}{ps gs:List Str}(h:PI t "" ps gs){x:Str}(hx:x∈ps) : und ps x = [x]:=by
 have up:=h.isP.up
 have nd:=h.facts.n1
 have ends:=h.end'
 have one:=h.one
 have al:∀ y∈und ps x,y=x:=fun y hy=>by
  obtain ⟨hy1,hy2⟩:=List.mem_filter.mp hy
  have px:=(starts_iff y x).mp hy2
  obtain ⟨u,hu,e,pu⟩:=ends y hy1
  exact one_of (mem_bgs.mpr ⟨hy1,pu⟩) (mem_bgs.mpr ⟨hx,px.trans pu⟩) (one u hu e)
 have mx:x∈und ps x:=List.mem_filter.mpr ⟨hx,(starts_iff x x).mpr (List.prefix_refl _)⟩
 have l1:(und ps x).length=1:=one_self (nd.sublist List.filter_sublist) mx al
 obtain ⟨z,e⟩:=List.length_eq_one_iff.mp l1
 rw [e] at mx ⊢
 rw [List.mem_singleton.mp mx]
theorem filter_two {α:Type}{p p1 p2:α→Bool} : ∀ {l:List α},(∀ x∈l,p x=(p1 x || p2 x)∧(p1 x && p2 x)=false)→(l.filter p).Perm (l.filter p1 ++ l.filter p2)
 | [],_=>List.Perm.refl _
 | x :: l,h=>by
  have ih:=filter_two (l:=l) fun y hy=>h y (List.mem_cons_of_mem _ hy)
  obtain ⟨h1,h2⟩:=h x List.mem_cons_self
  rw [List.filter_cons,List.filter_cons,List.filter_cons,h1]
  cases e1:p1 x with
  | true =>
   rw [e1] at h2
   have e2:p2 x=false:=h2
   rw [e2]
   exact ih.cons x
  | false =>
   cases e2:p2 x with
   | true=>exact (ih.cons x).trans List.perm_middle.symm
   | false=>exact ih
theorem next_yn {f x:Str}(h:cds f <+: cds x)(n:f ≠ x)(yn:∀ c∈cds x,c=121∨c=110) : cds (f ++ "n") <+: cds x∨cds (f ++ "y") <+: cds x:=by
 obtain ⟨r,e⟩:=h
 cases r with
 | nil=>exact absurd (str_ext (by rw [← e,List.append_nil])) n
 | cons c r =>
  have:=yn c (by rw [← e]; exact List.mem_append_right _ List.mem_cons_self)
  rcases this with rfl | rfl
  ·right
   rw [cds_app,cd_yn.1]
   exact ⟨r,by rw [← e,List.append_assoc]; rfl⟩
  ·left
   rw [cds_app,cd_yn.2]
   exact ⟨r,by rw [← e,List.append_assoc]; rfl⟩
theorem PI.und2 {t:Tr}{ps gs:List Str}(h:PI t "" ps gs){f:Str}(hf:f∈gs) : (und ps f).Perm (und ps (f ++ "n") ++ und ps (f ++ "y")):=by
 refine filter_two fun x hx=>?_
 have kn:=pl_yn (h.kn x hx)
 have nf:f ≠ x:=fun e=>h.facts.ap x hx f hf (by rw [e]; exact List.prefix_refl _)
 have s0:=starts_iff x f
 have s1:=starts_iff x (f ++ "n")
 have s2:=starts_iff x (f ++ "y")
 constructor
 ·rw [Bool.eq_iff_iff,Bool.or_eq_true,s0,s1,s2]
  exact ⟨fun z=>next_yn z nf kn,fun z=>z.elim (fun z=>(pre_app _ _).trans z) fun z=>(pre_app _ _).trans z⟩
 ·rw [Bool.eq_false_iff,Ne,Bool.and_eq_true,s1,s2]
  exact fun z=>yn_apart z.2 z.1
theorem sum_perm {l l':List Int}(h:l.Perm l') : l.sum=l'.sum:=by
 induction h with
 | nil=>rfl
 | cons x _ ih=>rw [List.sum_cons,List.sum_cons,ih]
 | swap x y l=>rw [List.sum_cons,List.sum_cons,List.sum_cons,List.sum_cons]; omega
 | trans _ _ h1 h2=>exact h1.trans h2
theorem ent_fork {W:Str→Int}{t:Tr}{ps gs:List Str}(h:PI t "" ps gs){f:Str}(hf:f∈gs) : ent W ps f=(f,(ent W ps (f ++ "y")).2.1 + (ent W ps (f ++ "n")).2.1,(ent W ps (f ++ "y")).2.2 + (ent W ps (f ++ "n")).2.2):=by
 have p:=h.und2 hf
 unfold ent
 have e1:((und ps f).map W).sum=((und ps (f ++ "n")).map W).sum + ((und ps (f ++ "y")).map W).sum:=by rw [sum_perm (p.map W),List.map_append,List.sum_append]
 have e2:(und ps f).length=(und ps (f ++ "n")).length + (und ps (f ++ "y")).length:=by rw [p.length_eq,List.length_append]
 rw [e1,e2]
 congr 1
 congr 1
 ·exact Int.add_comm _ _
 ·show ((_ + _:Nat) : Int)=((und ps (f ++ "y")).length:Int) + ((und ps (f ++ "n")).length:Int)
  omega
theorem PI.kids {t:Tr}{q:Str}{ps gs:List Str}(h:PI t q ps gs) : ∀ f∈gs,(f ++ "y" ∈ ps∨f ++ "y" ∈ gs)∧(f ++ "n" ∈ ps∨f ++ "n" ∈ gs):=by
 induction h with
 | stop t q=>intro f hf; cases hf
 | @go w y n q ps1 ps2 fs1 fs2 g1 g2 h1 h2 =>
  have root:∀ {u:Tr}{r:Str}{qs hs:List Str},PI u r qs hs→r∈qs∨r∈hs:=fun g=>by
   cases g with
   | stop=>exact .inl List.mem_cons_self
   | go=>exact .inr List.mem_cons_self
  intro f hf
  have up:∀ {x:Str}{a b:List Str},x∈a∨x∈b→(a ⊆ ps2 ++ ps1)→(b ⊆ q :: (fs2 ++ fs1))→x∈ps2 ++ ps1∨x∈q :: (fs2 ++ fs1):=fun z s1 s2=>z.imp (fun z=>s1 z) fun z=>s2 z
  have i1:ps1 ⊆ ps2 ++ ps1:=List.subset_append_right _ _
  have i2:ps2 ⊆ ps2 ++ ps1:=List.subset_append_left _ _
  have j1:fs1 ⊆ q :: (fs2 ++ fs1):=fun z hz=>List.mem_cons_of_mem _ (List.mem_append_right _ hz)
  have j2:fs2 ⊆ q :: (fs2 ++ fs1):=fun z hz=>List.mem_cons_of_mem _ (List.mem_append_left _ hz)
  rcases List.mem_cons.mp hf with rfl | hf
  ·exact ⟨up (root g1) i1 j1,up (root g2) i2 j2⟩
  ·rcases List.mem_append.mp hf with hf | hf
   ·exact ⟨up (h2 f hf).1 i2 j2,up (h2 f hf).2 i2 j2⟩
   ·exact ⟨up (h1 f hf).1 i1 j1,up (h1 f hf).2 i1 j1⟩
theorem dt_at0 {K:PySem.W.Frag}{H:Hp}{d:Addr}{kvs:List (Key × V)}{es:List (Str × Tr)}{t:Tr}(hd:H d=some (.dK kvs)) (dt:DT K 0 H kvs es) (pm:es.Perm (plt t "")) {x:Str}(hx:x∈(plc t "").map (·.1)) :
  ∃ p k r,DGet H d (.str x) (some (.ref p))∧H p=some (.tup (.str k :: .int (wA t x) :: r)):=by
 have nd:(es.map (·.1)).Nodup:=(pm.map (·.1)).nodup_iff.mpr (plt_nodup t "")
 rw [plt_plc,List.map_map] at hx
 obtain ⟨⟨x',u⟩,he,ex⟩:=List.mem_map.mp hx
 obtain rfl:x'=x:=ex
 obtain ⟨v,ev,tv⟩:=dt.val nd (pm.mem_iff.mpr he)
 rw [htD_0] at tv
 obtain ⟨p,k,r,rfl,hp⟩:=TV.wt tv
 have g:DGet H d (.str x') (valV kvs (.inr x')):=DGet.k (k:=.inr x') hd
 rw [ev] at g
 exact ⟨p,k,r,g,by rw [wA_at _ he]; exact hp⟩
theorem at1' {k:Str}{w:Int}{r:List V} : atI (V.str k :: V.int w :: r) 1=some (.int w):=by
 have e:atI (V.str k :: V.int w :: r) ((1:Nat) : Int)=some (.int w):=atI_nat rfl
 exact e
theorem nd_take {α:Type}{l:List α}{i:Nat}{x:α}(nd:l.Nodup)(h:l[i]? = some x) : x ∉ l.take i:=fun z=>by
 have n2:=nd
 rw [← List.take_append_drop i l,List.nodup_append] at n2
 refine n2.2.2 x z x ?_ rfl
 refine List.mem_of_getElem? (i:=0) ?_
 rw [List.getElem?_drop]
 exact h
theorem rev_before {l:List Str}(h:l.Pairwise (fun a b=>cds a≤cds b)){i:Nat}{x y:Str}(hx:l.reverse[i]? = some x)(hy:y∈l)(lt:cds x < cds y) : y∈l.reverse.take i:=by
 have h2:l.reverse.Pairwise (fun a b=>cds b≤cds a):=List.pairwise_reverse.mpr h
 have hy2:=List.mem_reverse.mpr hy
 rw [← List.take_append_drop i l.reverse] at hy2 h2
 rcases List.mem_append.mp hy2 with z | z
 ·exact z
 ·exfalso
  have hd:l.reverse.drop i=x :: l.reverse.drop (i + 1):=List.drop_eq_getElem?_toList_append.trans (by rw [hx]; rfl)
  have h3:=(List.pairwise_append.mp h2).2.1
  rw [hd] at z h3
  rcases List.mem_cons.mp z with rfl | z
  ·exact List.lt_irrefl _ lt
  ·exact absurd ((List.pairwise_cons.mp h3).1 y z) (List.not_le.mpr lt)
theorem put_pair {H:Hp}{z p:Addr}{kv:List (Key × V)}{es:List (Str × Int × Int)}{x:Str}{a b:Int}(hp:H p=none) (hz:H z=some (.dK kv)) (dr:DR H kv es) :
  SameT H (upd (upd H p (.tup [.int a,.int b])) z (.dK (kv ++ [(.inr x,.ref p)])))∧upd (upd H p (.tup [.int a,.int b])) z (.dK (kv ++ [(.inr x,.ref p)])) z=some (.dK (kv ++ [(.inr x,.ref p)])) ∧
  DR (upd (upd H p (.tup [.int a,.int b])) z (.dK (kv ++ [(.inr x,.ref p)]))) (kv ++ [(.inr x,.ref p)]) (es ++ [(x,a,b)])∧∀ c o,c ≠ z→H c=some o→upd (upd H p (.tup [.int a,.int b])) z (.dK (kv ++ [(.inr x,.ref p)])) c=some o:=by
 have s1:=(SameT.refl H).new hp (.tup [.int a,.int b])
 have hz1:upd H p (.tup [.int a,.int b]) z=some (.dK kv):=kp hz hp
 have s2:=st_dk (SameT.refl _) hz1 (.dK (kv ++ [(.inr x,.ref p)]))
 refine ⟨st_dk s1 hz1 _,upd_same,?_,fun c o hc e=>?_⟩
 ·exact DR.snoc (e:=(x,a,b)) ((dr.mono s1).mono s2) (s2 _ _ upd_same)
 ·rw [upd_ne hc]
  exact kp e hp
theorem frac_tr {a b c d e f:Int}(b0:0 < b)(d0:0 < d)(f0:0 < f)(h1:a * d≤c * b)(h2:c * f≤e * d) : a * f≤e * b:=by
 have h3:a * d * f≤c * b * f:=Int.mul_le_mul_of_nonneg_right h1 (by omega)
 have h4:c * f * b≤e * d * b:=Int.mul_le_mul_of_nonneg_right h2 (by omega)
 have h5:a * f * d≤e * b * d:=by
  have e1:a * f * d=a * d * f:=by grind
  have e2:e * b * d=e * d * b:=by grind
  have e3:c * b * f=c * f * b:=by grind
  omega
 exact Int.le_of_mul_le_mul_right h5 d0
def sp_sums (K:PySem.W.Frag) : Sp:=fun vs H Q _=>∃ (v:V) (t:Tr) (a:Addr) (ps gs:List Str),vs = [v,.ref a]∧TV K H v (trD t)∧(t.lv≤61∧t.dp≤20)∧t.B∧H a=some (.lst (ps.map V.str))∧PI t "" ps gs ∧
 ∀ H' d kvs (fs:List Str),Same H H'→H d=none→H' d=some (.dK kvs)→fs.Perm gs→DR H' kvs ((ps ++ fs).map (ent (wA t) ps))→Q (.ref d) H'
def sp_wlinks (K:PySem.W.Frag) : Sp:=fun vs H Q _=>∃ (v:V) (t:Tr) (a:Addr) (ps gs:List Str),vs = [v,.ref a]∧TV K H v (trD t)∧(t.lv≤61∧t.dp≤20)∧t.B∧H a=some (.lst (ps.map V.str))∧PI t "" ps gs ∧
 ∀ H' d kvs (fs:List Str),Same H H'→H d=none→H' d=some (.dK kvs)→fs.Perm gs→DR H' kvs (fs.map (lnk (wA t) ps))→Q (.ref d) H'
def sp_least (K:PySem.W.Frag) : Sp:=fun vs H Q _=>∃ (v:V) (t:Tr) (a:Addr) (ps:List Str) (us:List (Str × Int × Int)) (s m:Int),vs = [v,.ref a]∧TV K H v (trD t)∧(t.lv≤61∧t.dp≤20)∧t.B∧H a=some (.lst (ps.map V.str))∧LK t "" ps us s m∧us ≠ [] ∧
 ∀ H' p (rs:List Str),Same H H'→H' p=some (.lst (rs.map V.str))→rs.Nodup→rs ≠ []→(∀ x,x∈rs↔∃ u,Weak us u∧u.1=x)→Q (.ref p) H'
inductive QVs (H:Hp) : List V→List (Rat × List Str)→Prop
 | nil:QVs H [] []
 | cons {p r l:Addr}{q:Rat}{ps:List Str}{xs:List V}{sts:List (Rat × List Str)} : H p=some (.tup [.ref r,.ref l])→H r=some (rt q)→H l=some (.lst (ps.map V.str))→QVs H xs sts→QVs H (.ref p :: xs) ((q,ps) :: sts)
theorem QVs.same {H H':Hp}{xs:List V}{sts:List (Rat × List Str)}(h:QVs H xs sts)(s:Same H H') : QVs H' xs sts:=by
 induction h with
 | nil=>exact .nil
 | cons h1 h2 h3 _ ih=>exact .cons (s _ _ h1) (s _ _ h2) (s _ _ h3) ih
theorem QVs.put {H:Hp}{z p0:Addr}{ys:List V}{xs:List V}{sts:List (Rat × List Str)}(h:QVs H xs sts)(hz:H z=some (.lst (.ref p0 :: ys)))(o:HO) : QVs (upd H z o) xs sts:=by
 induction h with
 | nil=>exact .nil
 | @cons p r l q ps xs sts h1 h2 h3 _ ih =>
  refine .cons (by rw [upd_ne (ne_of h1 hz (by intro z; cases z))]; exact h1) (by rw [upd_ne (ne_of h2 hz (by intro z; cases z))]; exact h2) ?_ ih
  rw [upd_ne (ne_of h3 hz ?_)]
  ·exact h3
  ·intro e
   cases ps <;> cases e
theorem QVs.len {H:Hp}{xs:List V}{sts:List (Rat × List Str)}(h:QVs H xs sts) : xs.length=sts.length:=by
 induction h with
 | nil=>rfl
 | cons _ _ _ _ ih=>rw [List.length_cons,List.length_cons,ih]
theorem QVs.at {H:Hp}{xs:List V}{sts:List (Rat × List Str)}(h:QVs H xs sts) : ∀ {i:Nat}{x:V},xs[i]? = some x→∃ p r l q ps,x = .ref p∧H p=some (.tup [.ref r,.ref l])∧H r=some (rt q)∧H l=some (.lst (ps.map V.str))∧sts[i]? = some (q,ps):=by
 induction h with
 | nil=>intro i x h; cases h
 | cons h1 h2 h3 _ ih =>
  intro i x h
  cases i with
  | zero=>cases h; exact ⟨_,_,_,_,_,rfl,h1,h2,h3,rfl⟩
  | succ i=>exact ih (i:=i) h
theorem QVs.snoc {H:Hp}{xs:List V}{sts:List (Rat × List Str)}{p r l:Addr}{q:Rat}{ps:List Str}(h:QVs H xs sts)(h1:H p=some (.tup [.ref r,.ref l]))(h2:H r=some (rt q))(h3:H l=some (.lst (ps.map V.str))) : QVs H (xs ++ [.ref p]) (sts ++ [(q,ps)]):=by
 induction h with
 | nil=>exact .cons h1 h2 h3 .nil
 | cons a b c _ ih=>exact .cons a b c ih
inductive Pth (t:Tr) (B:Int) : List (Rat × List Str)→Int→Int→List (Str × Int × Int)→Prop
 | one {us:List (Str × Int × Int)}{m:Int} : LK t "" (best 1 0 t "").1 us (best 1 0 t "").2 m→(∀ u∈us,0 < u.2.1)→Pth t B [(0,(best 1 0 t "").1)] 0 1 us
 | step {l:List (Rat × List Str)}{x:Rat × List Str}{a b:Int}{us us':List (Str × Int × Int)}{s m s' m':Int}{u:Str × Int × Int}{c:Str→Bool}{F ps':List Str} : Pth t B (l ++ [x]) a b us→LK t "" x.2 us s m→Weak us u→(∀ z,z∈F↔∃ v,Weak us v∧v.1=z)→Cutc u.2.1 u.2.2 c us→Cutf F c "" us→Cuts t "" u.2.1 u.2.2 c F x.2 us s m ps' us' s' m'→m' < m→Pth t B (l ++ [x] ++ [(Rat.divInt u.2.1 (u.2.2 * B),ps')]) u.2.1 u.2.2 us'
theorem Pth.gt {t:Tr}{B a b:Int}{sts:List (Rat × List Str)}{us:List (Str × Int × Int)}(h:Pth t B sts a b us) : 0≤a∧0 < b∧∀ u∈us,a * u.2.2 < u.2.1 * b:=by
 induction h with
 | one _ h2=>exact ⟨Int.le_refl _,by decide,fun u hu=>by have:=h2 u hu; omega⟩
 | @step l x a b us us' s m s' m' u c F ps' p lk wk hF hc hf ct lt ih =>
  have one:=lk.one.2.2.1 u wk.1
  have g:=ih.2.2 u wk.1
  refine ⟨?_,by omega,ct.gt⟩
  have h1:0≤a * u.2.2:=Int.mul_nonneg ih.1 (by omega)
  have h2:0 < u.2.1 * b:=by omega
  exact Int.le_of_lt (Int.pos_of_mul_pos_left h2 ih.2.1)
theorem LK.bd {t:Tr}{ps:List Str}{us:List (Str × Int × Int)}{s m:Int}(lk:LK t "" ps us s m)(tl:t.lv≤61)(tb:t.B) : ∀ u∈us,-10000000000000000000000000000000000≤u.2.1∧u.2.1≤10000000000000000000000000000000000:=fun u hu=>by
 have vl:=(lk.vals (wA t) wA_at).2.2 u hu
 have pl:=lk.pi.len.1
 have ul:(und ps u.1).length≤ps.length:=List.length_filter_le _ _
 have h1:=sumB (W:=wA t) (l:=und ps u.1) fun x hx=>wA_B tb (lk.pi.kn x (List.mem_filter.mp hx).1)
 have h2 : -100000000000000000000000000000000 < wA t u.1∧wA t u.1 < 100000000000000000000000000000000:=wA_B tb (List.mem_map.mpr ⟨_,lk.pi.forks.1 u.1 (List.mem_map.mpr ⟨u,hu,rfl⟩),rfl⟩)
 rw [vl.1]
 omega
theorem Pth.all {t:Tr}{B a b:Int}{sts:List (Rat × List Str)}{us:List (Str × Int × Int)}(b0:0 < B)(h:Pth t B sts a b us) : (∃ ps l,sts=(0,ps) :: l)∧∀ x∈sts,(∃ gs,PI t "" x.2 gs)∧∃ (n d:Int) (u:Str × Int × Int),x.1=Rat.divInt n (d * B)∧0≤n∧1≤d∧d≤(t.lv:Int)∧(t.lv≤61→t.B→n≤10000000000000000000000000000000000):=by
 induction h with
 | @one us m lk h2 =>
  refine ⟨⟨_,[],rfl⟩,fun x hx=>?_⟩
  rw [List.mem_singleton.mp hx]
  have:=t.lv_pos
  exact ⟨⟨_,lk.pi⟩,0,1,("", 0,0),(Rat.zero_divInt _).symm,Int.le_refl _,Int.le_refl _,by omega,fun _ _=>by omega⟩
 | @step l x a b us us' s m s' m' u c F ps' p lk wk hF hc hf ct lt ih =>
  obtain ⟨⟨ps,l2,e⟩,al⟩:=ih
  refine ⟨⟨ps,l2 ++ [_],by rw [e]; rfl⟩,fun y hy=>?_⟩
  rcases List.mem_append.mp hy with hy | hy
  ·exact al y hy
  ·rw [List.mem_singleton.mp hy]
   have one:=lk.one
   have g:=p.gt
   have g1:=g.2.2 u wk.1
   have o1:=one.2.2.1 u wk.1
   have vl:=(lk.vals (wA t) wA_at).2.2 u wk.1
   have h1:0≤a * u.2.2:=Int.mul_nonneg g.1 (by omega)
   have pl:=lk.pi.len.1
   have ul:(und x.2 u.1).length≤x.2.length:=List.length_filter_le _ _
   refine ⟨⟨_,ct.lk.pi⟩,u.2.1,u.2.2,u,rfl,Int.le_of_lt (Int.pos_of_mul_pos_left (show 0 < u.2.1 * b by omega) g.2.1),o1,by omega,fun tl tb=>(lk.bd tl tb u wk.1).2⟩
theorem us_one {us:List (Str × Int × Int)}(nd:(us.map (·.1)).Nodup){u v:Str × Int × Int}(hu:u∈us)(hv:v∈us)(e:u.1=v.1) : u=v:=by
 induction us with
 | nil=>cases hu
 | cons w us ih =>
  rw [List.map_cons,List.nodup_cons] at nd
  rcases List.mem_cons.mp hu with rfl | hu2 <;> rcases List.mem_cons.mp hv with rfl | hv2
  ·rfl
  ·exact absurd (List.mem_map.mpr ⟨v,hv2,e.symm⟩) nd.1
  ·exact absurd (List.mem_map.mpr ⟨u,hu2,e⟩) nd.1
  ·exact ih nd.2 hu2 hv2
theorem weak_cut {us:List (Str × Int × Int)}{F:List Str}{u:Str × Int × Int}(nd:(us.map (·.1)).Nodup)(d0:∀ v∈us,1≤v.2.2)(hF:∀ z,z∈F↔∃ v,Weak us v∧v.1=z)(hu:Weak us u) : Cutc u.2.1 u.2.2 (fun x=>decide (x∈F)) us:=fun v hv=>by
 have h1:=hu.2 v hv
 have du:=d0 u hu.1
 have dv:=d0 v hv
 constructor
 ·intro c
  obtain ⟨v',wv,e⟩:=(hF v.1).mp (of_decide_eq_true c)
  obtain rfl:=us_one nd wv.1 hv e
  have:=wv.2 u hu.1
  omega
 ·intro c
  have nc:=of_decide_eq_false c
  rcases Int.lt_or_le (u.2.1 * v.2.2) (v.2.1 * u.2.2) with z | z
  ·exact z
  ·exfalso
   refine nc ((hF v.1).mpr ⟨v,⟨hv,fun w hw=>?_⟩,rfl⟩)
   have dw:=d0 w hw
   exact frac_tr (by omega) (by omega) (by omega) z (hu.2 w hw)
theorem weak_f {us:List (Str × Int × Int)}{F:List Str}(nf:F.Nodup)(hF:∀ z,z∈F↔∃ v,Weak us v∧v.1=z) : Cutf F (fun x=>decide (x∈F)) "" us:=by
 refine ⟨nf,fun x=>⟨fun hx=>?_,fun hx=>?_⟩,fun x hx px=>?_⟩
 ·obtain ⟨v,wv,e⟩:=(hF x).mp hx.1
  exact ⟨v,wv.1,e,decide_eq_true hx.1⟩
 ·obtain ⟨u,hu,e,c⟩:=hx
  exact ⟨of_decide_eq_true c,List.nil_prefix⟩
 ·refine str_ext ?_
  have:cds x <+: []:=px
  rw [List.prefix_nil.mp this]
  rfl
theorem nd_len:∀ {l l':List Str},l.Nodup→(∀ x∈l,x∈l')→l.length≤l'.length
 | [],_,_,_=>Nat.zero_le _
 | a :: l,l',nd,s=>by
  rw [List.nodup_cons] at nd
  have ha:=s a List.mem_cons_self
  have h:=nd_len (l:=l) (l':=l'.erase a) nd.2 fun x hx=>(List.mem_erase_of_ne (by rintro rfl; exact nd.1 hx)).mpr (s x (List.mem_cons_of_mem _ hx))
  rw [List.length_erase_of_mem ha] at h
  have:=List.length_pos_of_mem ha
  rw [List.length_cons]
  omega
theorem cut_pm {t:Tr}{ps ps' F:List Str}{us us':List (Str × Int × Int)}{s m s' m' a b:Int}{c:Str→Bool}(h:LK t "" ps us s m)(ct:Cuts t "" a b c F ps us s m ps' us' s' m')(nf:F.Nodup)(sb:∀ f∈F,f∈us.map (·.1)) : (kept ps F ++ tops F).Perm ps':=by
 have fa:=h.pi.facts
 have fa':=ct.lk.pi.facts
 refine (List.perm_ext_iff_of_nodup ?_ fa'.n1).mpr fun x=>?_
 ·rw [List.nodup_append]
  refine ⟨fa.n1.sublist List.filter_sublist,nf.sublist List.filter_sublist,fun x hx y hy e=>?_⟩
  subst e
  exact fa.ap x (List.mem_filter.mp hx).1 x (sb x (List.mem_filter.mp hy).1) (List.prefix_refl _)
 ·rw [ct.me,List.mem_append]
  unfold kept tops
  rw [List.mem_filter,List.mem_filter,decide_eq_true_iff,decide_eq_true_iff,List.length_eq_zero_iff]
  exact or_congr Iff.rfl ⟨fun z=>⟨z.1,List.nil_prefix,z.2⟩,fun z=>⟨z.1,z.2.2⟩⟩
theorem cut_is {t:Tr}{ps ps' F rs:List Str}{us us':List (Str × Int × Int)}{s m s' m' a b:Int}{c:Str→Bool}(h:LK t "" ps us s m)(ct:Cuts t "" a b c F ps us s m ps' us' s' m')(nf:F.Nodup)(sb:∀ f∈F,f∈us.map (·.1))(pm:rs.Perm (kept ps F ++ tops F))(so:PyProof.Rows.sortedS rs=true) : rs=ps':=sorted_one so (pw_sorted ct.lk.pi.isP.up) (pm.trans (cut_pm h ct nf sb))
def sp_path (K:PySem.W.Frag) : Sp:=fun vs H Q _=>∃ (v:V) (t:Tr) (B:Int),vs = [v]∧TV K H v (htD B t)∧(t.lv≤61∧t.dp≤20)∧1≤B∧B≤1000000000000000000000000000000∧t.B ∧
 ∀ H' p xs (sts:List (Rat × List Str)) a b,Same H H'→H p=none→H' p=some (.lst xs)→QVs H' xs sts→Pth t B sts a b []→sts.length≤61→Q (.ref p) H'
def nab (r:Rat)(x:Rat × List Str) : Bool := !decide (r.num * (x.1.den:Int) < x.1.num * (r.den:Int))
def sp_last (CP:Addr)(K:PySem.W.Frag) : Sp:=fun vs H Q E=>∃ (a:Addr) (xs:List V) (sts:List (Rat × List Str)) (pa:Addr) (r:Rat),vs = [.ref a,.ref pa]∧H a=some (.lst xs)∧QVs H xs sts∧sts.length≤64∧H pa=some (rt r)∧Rz 8000 r∧(∀ x∈sts,Rz 8000 x.1) ∧
 ((r.num < 0∧∀ H' d,Same H H'→H' d=some (.xd [("price", .ref pa)])→E (.ref CP) (some d) H')∨(0≤r.num∧(∃ (i:Nat) (x:Rat × List Str),sts[i]? = some x∧nab r x=true)∧∀ H' p rr l q ps,Same H H'→(sts.filter (nab r)).getLast? = some (q,ps)→H' p=some (.tup [.ref rr,.ref l])→H' l=some (.lst (ps.map V.str))→Q (.ref p) H'))
def sp_forp (CP:Addr)(K:PySem.W.Frag) : Sp:=fun vs H Q E=>∃ (a:Addr) (xs:List V) (sts:List (Rat × List Str)) (pa:Addr) (r:Rat),vs = [.ref a,.ref pa]∧H a=some (.lst xs)∧QVs H xs sts∧sts.length≤64∧H pa=some (rt r)∧Rz 8000 r∧(∀ x∈sts,Rz 8000 x.1) ∧
 ((r.num < 0∧∀ H' d,Same H H'→H' d=some (.xd [("price", .ref pa)])→E (.ref CP) (some d) H')∨(0≤r.num∧(∃ (i:Nat) (x:Rat × List Str),sts[i]? = some x∧nab r x=true)∧(∀ x∈sts,x.2.length≤64)∧∀ H' p q ps,Same H H'→H p=none→(sts.filter (nab r)).getLast? = some (q,ps)→H' p=some (.lst (ps.map V.str))→Q (.ref p) H'))
theorem eqLV2 (x y:Int) : eqLV [.int x,.int y] [.int x,.int y] = true:=by
 unfold eqLV
 simp [eqV,List.range_succ]
theorem nab_is {top low:Int}(l0:0 < low)(x:Rat × List Str) : nab (Rat.divInt top low) x=decide (x.1.num * low≤top * (x.1.den:Int)):=by
 have e:=low_eq (t:=top) l0
 have p:=low_p (t:=top) (b:=low)
 have q:0 < (x.1.den:Int):=by have:=x.1.den_pos; omega
 unfold nab
 generalize (Rat.divInt top low).num=n at *
 generalize ((Rat.divInt top low).den:Int)=d at *
 rw [Bool.eq_iff_iff,Bool.not_eq_true',decide_eq_false_iff_not,decide_eq_true_iff,Int.not_lt]
 have e1:x.1.num * d * low=x.1.num * low * d:=by grind
 have e2:n * (x.1.den:Int) * low=top * (x.1.den:Int) * d:=by grind
 rw [← Int.mul_le_mul_right l0,e1,e2,Int.mul_le_mul_right p]
def tlD (x:Int × Int) : PyData:=.tuple [.int x.1,.int x.2]
structure TlOk (x:Int × Int) : Prop where
 t0:0≤x.1
 l0:0 < x.2
 zt:Bz 260 x.1
 zl:Bz 260 x.2
theorem TV.tl {K:PySem.W.Frag}{H:Hp}{v:V}{x:Int × Int}(h:TV K H v (tlD x)) : ∃ p,v = .ref p∧H p=some (.tup [.int x.1,.int x.2]):=by
 obtain ⟨p,u,w,rfl,hp,t1,t2⟩:=TV.pair h
 obtain rfl:=t1.ints
 obtain rfl:=t2.ints
 exact ⟨p,rfl,hp⟩
def plcN:Tr→Str→List (Str × Str)
 | .en _,q=>[(q, "end")]
 | .fk _ y n,q=>(q, "fork") :: (plcN n (q ++ "n") ++ plcN y (q ++ "y"))
theorem plcN_perm:∀ (t:Tr) (q:Str),(plcN t q).Perm (plc t q)
 | .en _,_=>List.Perm.refl _
 | .fk w y n,q=>((plcN_perm n (q ++ "n")).append (plcN_perm y (q ++ "y"))).trans List.perm_append_comm |>.cons _
theorem plcN_len (t:Tr)(q:Str) : (plcN t q).length + 1=2 * t.lv:=by
 rw [(plcN_perm t q).length_eq]
 exact plc_len t q
theorem plcN_up:∀ (t:Tr) (q:Str),((plcN t q).map (·.1)).Pairwise (fun a b=>cds a < cds b)
 | .en _,_=>List.pairwise_singleton _ _
 | .fk w y n,q=>by
  have pr:∀ (u:Tr) (r x:Str),x∈(plcN u r).map (·.1)→cds r <+: cds x:=fun u r x hx=>by
   obtain ⟨e,he,rfl⟩:=List.mem_map.mp hx
   exact plc_pre ((plcN_perm u r).mem_iff.mp he)
  show (q :: ((plcN n (q ++ "n") ++ plcN y (q ++ "y")).map (·.1))).Pairwise _
  rw [List.map_append,List.pairwise_cons,List.pairwise_append]
  refine ⟨fun x hx=>?_,plcN_up n _,plcN_up y _,fun a ha b hb=>ny_lt (pr _ _ _ ha) (pr _ _ _ hb)⟩
  have lt:∀ (s:Str) (c:Nat),cds s = [c]→cds (q ++ s) <+: cds x→cds q < cds x:=fun s c e h=>by
   obtain ⟨r,er⟩:=h
   rw [← er,cds_app,e,List.append_assoc]
   have:=lt_pre (l:=cds q) (a:=[]) (b:=c :: r) (List.nil_lt_cons _ _)
   rw [List.append_nil] at this
   exact this
  rcases List.mem_append.mp hx with hx | hx
  ·exact lt "n" 110 cd_yn.2 (pr _ _ _ hx)
  ·exact lt "y" 121 cd_yn.1 (pr _ _ _ hx)
def plcR (ts:List (Str × Tr)) : List (Str × Str):=ts.foldl (fun acc e=>plcN e.2 e.1 ++ acc) []
theorem plcR_snoc (ts:List (Str × Tr))(e:Str × Tr) : plcR (ts ++ [e])=plcN e.2 e.1 ++ plcR ts:=by
 unfold plcR
 rw [List.foldl_append]
 rfl
theorem plcR_one {t:Tr}{q:Str} : plcR [(q,t)] = plcN t q:=List.append_nil _
theorem plcR_len (ts:List (Str × Tr)) : ts.length≤(plcR ts).length:=by
 suffices h:∀ (l:List (Str × Tr)) (acc:List (Str × Str)),l.length + acc.length≤(l.foldl (fun acc e=>plcN e.2 e.1 ++ acc) acc).length from h ts []
 intro l
 induction l with
 | nil=>exact fun acc=>by show 0 + acc.length≤acc.length; omega
 | cons e l ih =>
  intro acc
  have:=ih (plcN e.2 e.1 ++ acc)
  rw [List.length_append] at this
  have p:=plcN_len e.2 e.1
  have p2:=e.2.lv_pos
  rw [List.length_cons,List.foldl_cons]
  omega
def sp_places28 (K:PySem.W.Frag) : Sp:=fun vs H Q _=>∃ (v:V) (t:Tr),vs = [v]∧TV K H v (trD t)∧t.lv≤61∧∀ H' p xs (us:List (Str × Str)),Same H H'→H p=none→H' p=some (.lst xs)→TVs K H' xs (us.map plD)→us.Perm (plc t "")→Q (.ref p) H'
theorem PS.sum {W:Str→Int}{t:Tr}{q:Str}{ps:List Str}{s:Int}(h:PS t q ps s)(hW:∀ e∈plt t q,W e.1=e.2.wt) : s=(ps.map W).sum:=by
 induction h with
 | stop t q =>
  have e:W q=t.wt:=by
   cases t with
   | en w=>exact hW (q,.en w) List.mem_cons_self
   | fk w y n=>exact hW (q,.fk w y n) List.mem_cons_self
  show t.w=W q + 0
  rw [e,Tr.wt_w]
  omega
 | @go w y n q ps1 ps2 s1 s2 g1 g2 h1 h2 =>
  rw [List.map_append,List.sum_append,← h1 fun e he=>hW e (List.mem_cons_of_mem _ (List.mem_append_left _ he)),← h2 fun e he=>hW e (List.mem_cons_of_mem _ (List.mem_append_right _ he))]
  omega
def sp_level (K:PySem.W.Frag)(d:Nat) : Sp:=fun vs H Q _=>∃ c m k:Int,vs = [.int c,.int m,.int k]∧1≤m∧m≤61∧m≤(2 ^ d:Nat)∧0≤k∧(k + 1) * (2 ^ d:Nat)≤128 ∧
 ∀ H' p v t (s:Int),Same H H'→H' p=some (.tup [v,.int s])→TV K H' v (trD t)→(t.lv:Int)=m→t.B→(-5 * m≤s∧s≤36 * m)→t.dp≤d→Q (.ref p) H'
def sp_isp28 (K:PySem.W.Frag) : Sp:=fun vs H Q _=>∃ (a b:Addr) (t:Tr) (ps gs:List Str) (xs:List V) (us:List (Str × Str)),vs = [.ref a,.ref b]∧H a=some (.lst (ps.map V.str))∧H b=some (.lst xs)∧TVs K H xs (us.map plD)∧us.Perm (plc t "")∧t.lv≤61∧PI t "" ps gs∧∀ H',Same H H'→Q (.bl true) H'
theorem at1 {k:Str}{w:Int}{r:List V} : atI (V.str k :: V.int w :: r) 1=some (.int w):=by
 have e:atI (V.str k :: V.int w :: r) ((1:Nat) : Int)=some (.int w):=atI_nat rfl
 exact e
theorem two_d (d:Nat) : ((2 ^ (d + 1) : Nat) : Int)=2 * ((2 ^ d:Nat) : Int):=by
 rw [Nat.pow_succ]
 omega
theorem lvl_k {k P:Int}(h:(k + 1) * (2 * P)≤128)(p1:1≤P)(k0:0≤k) : (2 * k + 1 + 1) * P≤128∧(2 * k + 1) * P≤128∧k≤127:=by
 have e:(k + 1) * (2 * P)=(2 * k + 1 + 1) * P:=by
  rw [← Int.mul_assoc]
  congr 1
  omega
 rw [e] at h
 have h2:(2 * k + 1) * P≤(2 * k + 1 + 1) * P:=Int.mul_le_mul_of_nonneg_right (by omega) (by omega)
 have h3:(2 * k + 1 + 1) * 1≤(2 * k + 1 + 1) * P:=Int.mul_le_mul_of_nonneg_left p1 (by omega)
 exact ⟨h,by omega,by omega⟩
theorem lvl_w {s p m:Int}(h0 : -305≤s)(h1:s≤2196)(p0:0≤p)(p1:p < 7)(m1:1≤m)(m2:m≤61) : wB (s + (p - 1) * (m - 1)):=by
 have h:p=0∨p=1∨p=2∨p=3∨p=4∨p=5∨p=6:=by omega
 rcases h with h | h | h | h | h | h | h <;> (rw [h]; constructor <;> omega)
theorem plc_short61 {t:Tr}{u:Str × Str}(lt:t.lv≤61)(h:u∈plc t "") : u.1.length≤100:=by
 have:=plc_long h
 have ld:=t.dp_lt
 rw [show ("" : Str).length=0 by decide +kernel] at this
 omega
theorem PS.pos {t:Tr}{q:Str}{ps:List Str}{s:Int}(h:PS t q ps s) : ∃ x l,ps=x :: l:=by
 induction h with
 | stop t q=>exact ⟨q,[],rfl⟩
 | go h1 h2 i1 i2 =>
  obtain ⟨x,l,rfl⟩:=i2
  exact ⟨x,_,rfl⟩
theorem lst_ne {H:Hp}{a b:Addr}{x y:V}{xs ys:List V}(h:H a=some (.lst (x :: xs)))(g:H b=some (.lst (y :: ys)))(n:x ≠ y) : a ≠ b:=ne_of h g (by intro z; injection z with z; injection z with z _; exact n z)
structure Nbr (t:Tr) (B:Int) (x y:Rat × List Str) : Prop where
 ex:∃ (a b n d s m s' m':Int) (us us':List (Str × Int × Int)),x.1=Rat.divInt a (b * B)∧0 < b∧y.1=Rat.divInt n (d * B)∧0 < d∧a * d < n * b∧LK t "" x.2 us s m∧LK t "" y.2 us' s' m'∧s' * d + n * m'=s * d + n * m∧m' < m∧Lies y.2 x.2
theorem LK.ps {t:Tr}{q:Str}{ps:List Str}{us:List (Str × Int × Int)}{s m:Int}(h:LK t q ps us s m) : PS t q ps s:=by
 induction h with
 | stop t q=>rw [Tr.wt_w]; exact .stop t q
 | go _ _ h1 h2=>exact .go h1 h2
theorem Pth.last {t:Tr}{B a b:Int}{sts:List (Rat × List Str)}{us:List (Str × Int × Int)}(h:Pth t B sts a b us) : ∃ l x s m,sts=l ++ [x]∧LK t "" x.2 us s m∧x.1=Rat.divInt a (b * B):=by
 cases h with
 | one lk h2=>exact ⟨[],_,_,_,rfl,lk,(Rat.zero_divInt _).symm⟩
 | step p lk wk hF hc hf ct lt=>exact ⟨_,_,_,_,rfl,ct.lk,rfl⟩
theorem snoc_inj {α:Type}{l l':List α}{x x':α}(h:l ++ [x] = l' ++ [x']) : l=l'∧x=x':=by
 have h1:=congrArg List.dropLast h
 have h2:=congrArg List.getLast? h
 rw [List.dropLast_concat,List.dropLast_concat] at h1
 rw [List.getLast?_concat,List.getLast?_concat] at h2
 exact ⟨h1,Option.some.inj h2⟩
theorem LK.uni {t:Tr}{q:Str}{ps:List Str}{us:List (Str × Int × Int)}{s m:Int}(h:LK t q ps us s m) : ∀ {us':List (Str × Int × Int)}{s' m':Int},LK t q ps us' s' m'→us'=us∧s'=s∧m'=m:=by
 induction h with
 | stop t q =>
  intro us' s' m' h'
  generalize e : [q] = ps at h'
  cases h' with
  | stop=>exact ⟨rfl,rfl,rfl⟩
  | @go w y n _ ps1 ps2 us1 us2 s1 s2 m1 m2 g1 g2 =>
   exfalso
   have h1:=g1.pi.len.2
   have h2:=g2.pi.len.2
   have h3:=congrArg List.length e
   rw [List.length_singleton,List.length_append] at h3
   omega
 | @go w y n q ps1 ps2 us1 us2 s1 s2 m1 m2 g1 g2 i1 i2 =>
  intro us' s' m' h'
  generalize e:ps2 ++ ps1=ps at h'
  cases h' with
  | stop =>
   exfalso
   have h1:=g1.pi.len.2
   have h2:=g2.pi.len.2
   have h3:=congrArg List.length e
   rw [List.length_singleton,List.length_append] at h3
   omega
  | @go _ _ _ _ ps1' ps2' us1' us2' s1' s2' m1' m2' k1 k2 =>
   have a1:=g1.pi.pre.1
   have a2:=g2.pi.pre.1
   have b1:=k1.pi.pre.1
   have b2:=k2.pi.pre.1
   have f:∀ {l1 l2:List Str},(∀ x∈l1,cds (q ++ "y") <+: cds x)→(∀ x∈l2,cds (q ++ "n") <+: cds x)→(l2 ++ l1).filter (fun x=>Txt.startswith x (q ++ "y"))=l1∧(l2 ++ l1).filter (fun x=>Txt.startswith x (q ++ "n"))=l2:=fun {l1 l2} z1 z2=>by
    rw [List.filter_append,List.filter_append]
    have c1:l2.filter (fun x=>Txt.startswith x (q ++ "y")) = []:=List.filter_eq_nil_iff.mpr fun x hx z=>yn_apart ((starts_iff x _).mp z) (z2 x hx)
    have c2:l1.filter (fun x=>Txt.startswith x (q ++ "y"))=l1:=List.filter_eq_self.mpr fun x hx=>(starts_iff x _).mpr (z1 x hx)
    have c3:l2.filter (fun x=>Txt.startswith x (q ++ "n"))=l2:=List.filter_eq_self.mpr fun x hx=>(starts_iff x _).mpr (z2 x hx)
    have c4:l1.filter (fun x=>Txt.startswith x (q ++ "n")) = []:=List.filter_eq_nil_iff.mpr fun x hx z=>yn_apart (z1 x hx) ((starts_iff x _).mp z)
    rw [c1,c2,c3,c4]
    exact ⟨rfl,List.append_nil _⟩
   have e1:=f a1 a2
   have e2:=f b1 b2
   rw [e] at e1
   have d1:ps1=ps1':=e1.1.symm.trans e2.1
   have d2:ps2=ps2':=e1.2.symm.trans e2.2
   subst d1
   subst d2
   obtain ⟨rfl,rfl,rfl⟩:=i1 k1
   obtain ⟨rfl,rfl,rfl⟩:=i2 k2
   exact ⟨rfl,rfl,rfl⟩
structure StepTo (t:Tr) (B:Int) (x:Rat × List Str) (us:List (Str × Int × Int)) (y:Rat × List Str) : Prop where
 ex:∃ (u:Str × Int × Int) (c:Str→Bool) (F:List Str) (s m:Int) (us':List (Str × Int × Int)) (s' m':Int),LK t "" x.2 us s m∧Weak us u∧(∀ z,z∈F↔∃ v,Weak us v∧v.1=z)∧Cutf F c "" us∧Cuts t "" u.2.1 u.2.2 c F x.2 us s m y.2 us' s' m'∧m' < m∧y.1=Rat.divInt u.2.1 (u.2.2 * B)
theorem Pth.split {t:Tr}{B a b:Int}{sts:List (Rat × List Str)}{us:List (Str × Int × Int)}(h:Pth t B sts a b us) : ∀ {p r:List (Rat × List Str)}{z z2:Rat × List Str},sts=p ++ [z] ++ (z2 :: r)→∃ a1 b1 us1,Pth t B (p ++ [z]) a1 b1 us1∧StepTo t B z us1 z2:=by
 induction h with
 | one lk h2 =>
  intro p r z z2 e
  have:=congrArg List.length e
  rw [List.length_append,List.length_append,List.length_singleton,List.length_singleton,List.length_cons] at this
  omega
 | @step l x a b us us' s m s' m' u c F ps' hp lk wk hF hc hf ct lt ih =>
  intro p r z z2 e
  rcases List.eq_nil_or_concat r with rfl | ⟨r0,w,rfl⟩
  ·obtain ⟨e1,e2⟩:=snoc_inj (l:=l ++ [x]) (l':=p ++ [z]) e
   obtain ⟨rfl,rfl⟩:=snoc_inj e1
   exact ⟨a,b,us,hp,⟨u,c,F,s,m,us',s',m',lk,wk,hF,hf,by rw [← e2]; exact ct,lt,by rw [← e2]⟩⟩
  ·have e3:l ++ [x] ++ [(Rat.divInt u.2.1 (u.2.2 * B),ps')] = (p ++ [z] ++ (z2 :: r0)) ++ [w]:=by
    rw [e]
    simp
   exact ih (snoc_inj e3).1
theorem Pth.nbr {t:Tr}{B a b:Int}{sts:List (Rat × List Str)}{us:List (Str × Int × Int)}(h:Pth t B sts a b us){i:Nat}{x y:Rat × List Str}(hx:sts[i]? = some x)(hy:sts[i + 1]? = some y) : Nbr t B x y:=by
 have e:sts=sts.take i ++ [x] ++ (y :: sts.drop (i + 2)):=by
  have d1:sts.drop i=x :: sts.drop (i + 1):=List.drop_eq_getElem?_toList_append.trans (by rw [hx]; rfl)
  have d2:sts.drop (i + 1)=y :: sts.drop (i + 2):=List.drop_eq_getElem?_toList_append.trans (by rw [hy]; rfl)
  rw [← d2,List.append_assoc]
  show sts=sts.take i ++ (x :: sts.drop (i + 1))
  rw [← d1,List.take_append_drop]
 obtain ⟨a1,b1,us1,hp,st⟩:=h.split e
 obtain ⟨u,c,F,s,m,us',s',m',lk,wk,hF,hf,ct,lt,ep⟩:=st.ex
 obtain ⟨l,x',s2,m2,el,lk2,ex⟩:=hp.last
 obtain ⟨_,rfl⟩:=snoc_inj el
 have g:=hp.gt
 have d:=lk.one.2.2.1 u wk.1
 exact ⟨a1,b1,u.2.1,u.2.2,s,m,s',m',us1,us',ex,g.2.1,ep,by omega,g.2.2 u wk.1,lk,ct.lk,ct.tot,lt,ct.ls⟩
theorem Nbr.rise {t:Tr}{B:Int}{x y:Rat × List Str}(b0:0 < B)(h:Nbr t B x y) : ¬ y.1.num * (x.1.den:Int)≤x.1.num * (y.1.den:Int):=by
 obtain ⟨a,b,n,d,s,m,s',m',us,us',ex,hb,ey,hd,lt,_⟩:=h.ex
 have h1:=Int.mul_pos hb b0
 have h2:=Int.mul_pos hd b0
 have e1:=low_eq (t:=a) h1
 have e2:=low_eq (t:=n) h2
 have p1:=low_p (t:=a) (b:=b * B)
 have p2:=low_p (t:=n) (b:=d * B)
 rw [ex,ey]
 generalize (Rat.divInt a (b * B)).num=xn at *
 generalize ((Rat.divInt a (b * B)).den:Int)=xd at *
 generalize (Rat.divInt n (d * B)).num=yn at *
 generalize ((Rat.divInt n (d * B)).den:Int)=yd at *
 rw [Int.not_le]
 have q:0 < b * d * B:=Int.mul_pos (Int.mul_pos hb hd) b0
 have r:0 < xd * yd:=Int.mul_pos p1 p2
 have e3:xn * yd * (b * d * B)=a * d * (xd * yd):=by grind
 have e4:yn * xd * (b * d * B)=n * b * (xd * yd):=by grind
 rw [← Int.mul_lt_mul_right q,e3,e4,Int.mul_lt_mul_right r]
 exact lt
theorem low_self (r:Rat) : Rat.divInt r.num (r.den:Int)=r:=Rat.num_divInt_den r
def sp_aresteps (K:PySem.W.Frag) : Sp:=fun vs H Q _=>∃ (a b:Addr) (t:Tr) (xs xk:List V) (sts:List (Rat × List Str)) (us:List (Str × Str)) (ps0:List Str) (stl:List (Rat × List Str)),vs = [.ref a,.ref b]∧H a=some (.lst xs)∧QVs H xs sts∧sts=(0,ps0) :: stl∧sts.length≤64∧H b=some (.lst xk)∧TVs K H xk (us.map plD)∧us.Perm (plc t "")∧t.lv≤61∧(∀ x∈sts,∃ gs,PI t "" x.2 gs)∧(∀ x∈sts,Rz 300 x.1)∧∀ H',Same H H'→Q (.bl true) H'
def sp_total33 (K:PySem.W.Frag) : Sp:=fun vs H Q _=>∃ (v:V) (a:Addr) (t:Tr) (ps:List Str) (s top low b:Int),vs = [v,.ref a,.int top,.int low,.int b]∧TV K H v (trD t)∧H a=some (.lst (ps.map V.str))∧t.lv≤61∧t.B∧PS t "" ps s∧Bz 260 top∧Bz 260 low∧Bz 128 b∧∀ H',Same H H'→Q (.int (s * low + top * (ps.length:Nat) * b)) H'
inductive QVn (H0 H:Hp) : List V→List (Rat × List Str)→Prop
 | nil:QVn H0 H [] []
 | cons {p r l:Addr}{q:Rat}{ps:List Str}{xs:List V}{sts:List (Rat × List Str)} : H p=some (.tup [.ref r,.ref l])→H r=some (rt q)→H l=some (.lst (ps.map V.str))→H0 l=none→QVn H0 H xs sts→QVn H0 H (.ref p :: xs) ((q,ps) :: sts)
inductive QVt (H0 H:Hp) (n:Nat) : List V→Prop
 | nil:QVt H0 H n []
 | cons {p r l:Addr}{ws:List Str}{o:HO}{xs:List V} : H p=some (.tup [.ref r,.ref l])→H l=some (.lst (ws.map V.str))→H0 l=some o→ws.length≤n→QVt H0 H n xs→QVt H0 H n (.ref p :: xs)
theorem mid_abs {t:TS}{I b0 c0:St→Hp→Prop}{q0:VK}{σ:St}{H:Hp}(h:∀ (r:VK)(b c:St→Hp→Prop),t ⟨I,r,b,c⟩ σ H) : t ⟨I,q0,b0,c0⟩ σ H:=h _ _ _
def Op (t:Tr)(q:Str)(s m a b:Int) : Prop:=∀ qs r,PS t q qs r→s * b + a * m≤r * b + a * (qs.length:Nat)
theorem len_two (a:Int)(l1 l2:List Str) : a * ((l1 ++ l2).length:Nat)=a * (l1.length:Nat) + a * (l2.length:Nat):=by
 rw [List.length_append,← Int.mul_add]
 congr 1
theorem Op.y {w:Int}{y n:Tr}{q:Str}{s1 s2 m1 m2 a b:Int}{ps2:List Str}(h:Op (.fk w y n) q (s1 + s2) (m1 + m2) a b)(h2:PS n (q ++ "n") ps2 s2)(e2:m2=(ps2.length:Nat)) : Op y (q ++ "y") s1 m1 a b:=fun qs r hq=>by
 have h:=h _ _ (.go hq h2)
 rw [len_two,Int.add_mul,Int.add_mul,Int.mul_add,← e2] at h
 omega
theorem Op.n {w:Int}{y n:Tr}{q:Str}{s1 s2 m1 m2 a b:Int}{ps1:List Str}(h:Op (.fk w y n) q (s1 + s2) (m1 + m2) a b)(h1:PS y (q ++ "y") ps1 s1)(e1:m1=(ps1.length:Nat)) : Op n (q ++ "n") s2 m2 a b:=fun qs r hq=>by
 have h:=h _ _ (.go h1 hq)
 rw [len_two,Int.add_mul,Int.add_mul,Int.mul_add,← e1] at h
 omega
theorem up_one {w r a b a' b' k:Int}(b0:0 < b)(b0':0 < b')(le:a * b'≤a' * b)(k1:1≤k)(h:w * b + a * 1≤r * b + a * k) : w * b' + a' * 1≤r * b' + a' * k:=by
 have h1:a * b' * (k - 1)≤a' * b * (k - 1):=Int.mul_le_mul_of_nonneg_right le (by omega)
 have h2:(w * b + a * 1) * b'≤(r * b + a * k) * b':=Int.mul_le_mul_of_nonneg_right h (by omega)
 have h3:(w * b' + a' * 1) * b≤(r * b' + a' * k) * b:=by grind
 exact Int.le_of_mul_le_mul_right h3 b0
theorem LK.up {t:Tr}{q:Str}{ps:List Str}{us:List (Str × Int × Int)}{s m:Int}(h:LK t q ps us s m){a b a' b':Int}(b0:0 < b)(b0':0 < b')(le:a * b'≤a' * b)(o:Op t q s m a b)(g:∀ u∈us,a' * u.2.2≤u.2.1 * b') : Op t q s m a' b':=by
 induction h with
 | stop t q =>
  intro qs r hq
  obtain ⟨gs,pi⟩:=hq.pi
  have:=pi.len.2
  exact up_one b0 b0' le (by omega) (o qs r hq)
 | @go w y n q ps1 ps2 us1 us2 s1 s2 m1 m2 g1 g2 i1 i2 =>
  have o1:=i1 (o.y g2.ps g2.one.2.1) fun u hu=>g u (List.mem_cons_of_mem _ (List.mem_append_right _ hu))
  have o2:=i2 (o.n g1.ps g1.one.2.1) fun u hu=>g u (List.mem_cons_of_mem _ (List.mem_append_left _ hu))
  have k:a' * (m1 + m2 - 1)≤(w - (s1 + s2)) * b':=g _ List.mem_cons_self
  rw [Int.mul_sub,Int.sub_mul,Int.mul_one] at k
  intro qs r hq
  cases hq with
  | stop =>
   show (s1 + s2) * b' + a' * (m1 + m2)≤w * b' + a' * 1
   omega
  | go h1 h2 =>
   have x1:=o1 _ _ h1
   have x2:=o2 _ _ h2
   rw [len_two,Int.add_mul,Int.add_mul,Int.mul_add]
   omega
theorem LK.tie {t:Tr}{q:Str}{ps:List Str}{us:List (Str × Int × Int)}{s m:Int}(h:LK t q ps us s m){a b:Int}(o:Op t q s m a b)(g:∀ u∈us,a * u.2.2 < u.2.1 * b) : ∀ {qs:List Str}{r:Int},PS t q qs r→s * b + a * m=r * b + a * (qs.length:Nat)→Lies ps qs:=by
 induction h with
 | stop t q=>exact fun hq _=>Lies.root hq
 | @go w y n q ps1 ps2 us1 us2 s1 s2 m1 m2 g1 g2 i1 i2 =>
  have o1:=o.y g2.ps g2.one.2.1
  have o2:=o.n g1.ps g1.one.2.1
  have k:a * (m1 + m2 - 1) < (w - (s1 + s2)) * b:=g _ List.mem_cons_self
  rw [Int.mul_sub,Int.sub_mul,Int.mul_one] at k
  intro qs r hq e
  cases hq with
  | stop =>
   exfalso
   have e:(s1 + s2) * b + a * (m1 + m2)=w * b + a * 1:=e
   omega
  | go h1 h2 =>
   have x1:=o1 _ _ h1
   have x2:=o2 _ _ h2
   rw [len_two,Int.add_mul,Int.add_mul,Int.mul_add] at e
   exact Lies.join (i1 o1 (fun u hu=>g u (List.mem_cons_of_mem _ (List.mem_append_right _ hu))) h1 (by omega)) (i2 o2 (fun u hu=>g u (List.mem_cons_of_mem _ (List.mem_append_left _ hu))) h2 (by omega))
theorem Pth.op {t:Tr}{B a b:Int}{sts:List (Rat × List Str)}{us:List (Str × Int × Int)}(h:Pth t B sts a b us) : ∃ l x s m,sts=l ++ [x]∧LK t "" x.2 us s m∧Op t "" s m a b:=by
 induction h with
 | @one us m lk h2 =>
  refine ⟨[],_,_,_,rfl,lk,fun qs r hq=>?_⟩
  have:=(best_least 1 0 hq).1
  rw [lk.one.2.1]
  exact this
 | @step l x a b us us' s m s' m' u c F ps' hp lk wk hF hc hf ct lt ih =>
  obtain ⟨l',x',s1,m1,e,lk1,o⟩:=ih
  obtain ⟨rfl,rfl⟩:=snoc_inj e
  obtain ⟨_,rfl,rfl⟩:=lk1.uni lk
  have g:=hp.gt
  have one:=lk.one.2.2.1 u wk.1
  have o2:=lk.up g.2.1 (by omega) (Int.le_of_lt (g.2.2 u wk.1)) o wk.2
  refine ⟨l ++ [x],_,s',m',rfl,ct.lk,fun qs r hq=>?_⟩
  rw [ct.tot]
  exact o2 qs r hq
theorem last_filter {α:Type}{p:α→Bool}{x:α} : ∀ {l:List α},(l.filter p).getLast? = some x→∃ l1 l2,l=l1 ++ x :: l2∧p x=true∧∀ y∈l2,p y=false
 | [],h=>by cases h
 | y :: l,h=>by
  by_cases c:l.filter p = []
  ·have al:∀ z∈l,p z=false:=fun z hz=>Bool.eq_false_iff.mpr (List.filter_eq_nil_iff.mp c z hz)
   cases e:p y with
   | false=>rw [List.filter_cons_of_neg (by rw [e]; decide),c] at h; cases h
   | true =>
    rw [List.filter_cons_of_pos e,c] at h
    obtain rfl:=Option.some.inj h
    exact ⟨[],l,rfl,e,al⟩
  ·have h2:(l.filter p).getLast? = some x:=by
    cases e:p y with
    | false=>rw [List.filter_cons_of_neg (by rw [e]; decide)] at h; exact h
    | true =>
     rw [List.filter_cons_of_pos e] at h
     obtain ⟨z,r,e2⟩:=List.exists_cons_of_ne_nil c
     rw [e2] at h ⊢
     exact h
   obtain ⟨l1,l2,rfl,k⟩:=last_filter h2
   exact ⟨y :: l1,l2,rfl,k⟩
theorem nab_div {n d top low:Int}(d0:0 < d)(l0:0 < low){x:Rat × List Str}(e:x.1=Rat.divInt n d) : nab (Rat.divInt top low) x=true↔n * low≤top * d:=by
 rw [nab_is l0,decide_eq_true_iff,e]
 have e1:=low_eq (t:=n) d0
 have p:=low_p (t:=n) (b:=d)
 generalize (Rat.divInt n d).num=xn at *
 generalize ((Rat.divInt n d).den:Int)=xd at *
 rw [← Int.mul_le_mul_right d0,show xn * low * d=n * low * xd by grind,show top * xd * d=top * d * xd by grind,Int.mul_le_mul_right p]
theorem Pth.price {t:Tr}{B a b:Int}{sts:List (Rat × List Str)}(b0:0 < B)(h:Pth t B sts a b []){top low:Int}(l0:0 < low){q:Rat}{ps:List Str}(hl:(sts.filter (nab (Rat.divInt top low))).getLast? = some (q,ps)) : ∃ s,PS t "" ps s∧∀ qs r,PS t "" qs r→s * low + top * (ps.length:Nat) * B≤r * low + top * (qs.length:Nat) * B∧(s * low + top * (ps.length:Nat) * B=r * low + top * (qs.length:Nat) * B→Lies ps qs):=by
 have key:∃ us s m,LK t "" ps us s m∧Op t "" s m (top * B) low∧∀ u∈us,top * B * u.2.2 < u.2.1 * low:=by
  obtain ⟨l1,l2,e,np,nl⟩:=last_filter hl
  cases l2 with
  | nil =>
   obtain ⟨l,x,s,m,e2,lk,o⟩:=h.op
   obtain ⟨l',x',s',m',e3,_,ex⟩:=h.last
   rw [e] at e2 e3
   obtain ⟨_,rfl⟩:=snoc_inj e2
   obtain ⟨_,rfl⟩:=snoc_inj e3
   have g:=h.gt
   have k:=(nab_div (Int.mul_pos g.2.1 b0) l0 ex).mp np
   exact ⟨[],s,m,lk,lk.up g.2.1 l0 (by rw [Int.mul_comm b B,← Int.mul_assoc] at k; exact k) o (fun u hu=>by cases hu),fun u hu=>by cases hu⟩
  | cons y r =>
   obtain ⟨a1,b1,us1,hp,st⟩:=h.split (p:=l1) (z:=(q,ps)) (z2:=y) (r:=r) (by rw [e,List.append_assoc]; rfl)
   obtain ⟨u,c,F,s2,m2,us',s',m',lk2,wk,hF,hf,ct,lt,ey⟩:=st.ex
   obtain ⟨l,x,s,m,e2,lk,o⟩:=hp.op
   obtain ⟨l',x',s3,m3,e3,_,ex⟩:=hp.last
   obtain ⟨_,rfl⟩:=snoc_inj e2
   obtain ⟨_,rfl⟩:=snoc_inj e3
   have g:=hp.gt
   have one:=lk.one.2.2.1
   have ou:=one u wk.1
   have k:=(nab_div (Int.mul_pos g.2.1 b0) l0 ex).mp np
   have ny:=nl y List.mem_cons_self
   have k2:¬ u.2.1 * low≤top * (u.2.2 * B):=fun z=>by
    rw [(nab_div (Int.mul_pos (by omega) b0) l0 ey).mpr z] at ny
    cases ny
   have gt:∀ v∈us1,top * B * v.2.2 < v.2.1 * low:=fun v hv=>by
    have h1:=wk.2 v hv
    have h2:=one v hv
    have h3:top * (u.2.2 * B) * v.2.2 < u.2.1 * low * v.2.2:=Int.mul_lt_mul_of_pos_right (by omega) (by omega)
    have h4:u.2.1 * v.2.2 * low≤v.2.1 * u.2.2 * low:=Int.mul_le_mul_of_nonneg_right h1 (by omega)
    have h5:top * B * v.2.2 * u.2.2 < v.2.1 * low * u.2.2:=by
     rw [show top * B * v.2.2 * u.2.2=top * (u.2.2 * B) * v.2.2 by grind,show v.2.1 * low * u.2.2=v.2.1 * u.2.2 * low by grind]
     rw [show u.2.1 * low * v.2.2=u.2.1 * v.2.2 * low by grind] at h3
     omega
    exact Int.lt_of_mul_lt_mul_right h5 (by omega)
   exact ⟨us1,s,m,lk,lk.up g.2.1 l0 (by rw [Int.mul_comm b1 B,← Int.mul_assoc] at k; exact k) o (fun v hv=>Int.le_of_lt (gt v hv)),gt⟩
 obtain ⟨us,s,m,lk,o,gt⟩:=key
 refine ⟨s,lk.ps,fun qs r hq=>?_⟩
 have h1:=o qs r hq
 have h2:=lk.tie o gt hq
 rw [lk.one.2.1] at h1 h2
 rw [Int.mul_right_comm top _ B,Int.mul_right_comm top _ B]
 exact ⟨h1,h2⟩
theorem Pth.pos {t:Tr}{B a b:Int}{sts:List (Rat × List Str)}{us:List (Str × Int × Int)}(b0:0 < B)(h:Pth t B sts a b us)(z:∀ x∈sts,0≤x.1.num) : ∀ (i:Nat) y,sts[i + 1]? = some y→0 < y.1.num:=fun i y hy=>by
 have il:=(List.getElem?_eq_some_iff.mp hy).1
 have hx:=List.getElem?_eq_getElem (show i < sts.length by omega)
 have r:=(h.nbr hx hy).rise b0
 have d1:=z _ (List.mem_of_getElem? hx)
 generalize sts[i] = x at *
 have d2:=y.1.den_pos
 have d3:=x.1.den_pos
 have k:0≤x.1.num * (y.1.den:Int):=Int.mul_nonneg d1 (by omega)
 have k2:0 < y.1.num * (x.1.den:Int):=by omega
 exact Int.pos_of_mul_pos_left k2 (by omega)
def sp_asked35 (K:PySem.W.Frag) : Sp:=fun vs H Q _=>∃ (a:Addr) (xs:List V) (sts:List (Rat × List Str)) (hd B sm:Int),vs = [.ref a,.int hd,.int B,.int sm]∧H a=some (.lst xs)∧QVs H xs sts∧sts.length≤64∧1≤B∧B≤1000000000000000000000000000000∧1≤sm∧sm≤1000000000000000000000000000000∧(∀ x∈sts,Rz 128 x.1∧0≤x.1.num)∧(∀ (i:Nat) y,sts[i + 1]? = some y→0 < y.1.num) ∧
 ∀ H' za xa (tl:List (Int × Int)),Same H H'→H za=none→H' za=some (.lst xa)→TVs K H' xa (tl.map tlD)→(∀ x∈tl,TlOk x)→tl.length≤200→Q (.ref za) H'
theorem plc_cnt:∀ (t:Tr) (q so:Str),((plc t q).filter fun u=>decide (u.2=so)).length + (if so=Str.ofString "end" then 0 else 1)≤t.lv
 | .en w,q,so=>by
  show (List.filter (fun u:Str × Str=>decide (u.2=so)) [(q,Str.ofString "end")]).length + _≤1
  by_cases c:so=Str.ofString "end"
  ·rw [if_pos c]
   exact List.length_filter_le _ _
  ·rw [if_neg c,List.filter_cons_of_neg (by show ¬ decide (Str.ofString "end" = so)=true; rw [decide_eq_true_iff]; exact fun z=>c z.symm)]
   exact Nat.le_refl _
 | .fk w y n,q,so=>by
  have h1:=plc_cnt y (q ++ "y") so
  have h2:=plc_cnt n (q ++ "n") so
  show (List.filter (fun u:Str × Str=>decide (u.2=so)) ((q,Str.ofString "fork") :: (plc y (q ++ "y") ++ plc n (q ++ "n")))).length + _≤y.lv + n.lv
  by_cases c:so=Str.ofString "end"
  ·rw [if_pos c] at h1 h2 ⊢
   rw [List.filter_cons_of_neg (by rw [c]; show ¬ decide (Str.ofString "fork" = Str.ofString "end")=true; decide +kernel),List.filter_append,List.length_append]
   omega
  ·rw [if_neg c] at h1 h2 ⊢
   rw [List.filter_cons]
   split
   ·rw [List.length_cons,List.filter_append,List.length_append]
    omega
   ·rw [List.filter_append,List.length_append]
    omega
theorem plK_len (t:Tr)(so:Str) : (plK t so).length≤t.lv:=by
 have:=plc_cnt t "" so
 unfold plK
 rw [List.length_map]
 omega
theorem QVs.sb {b:Addr}{b0 b1:Int}{H H':Hp}{xs:List V}{sts:List (Rat × List Str)}(h:QVs H xs sts)(S:SameB b H H')(hb:H b=some (.lst [.int b0,.int b1])) : QVs H' xs sts:=by
 induction h with
 | nil=>exact .nil
 | @cons p r l q ps xs sts h1 h2 h3 _ ih =>
  have n3:l ≠ b:=ne_of h3 hb (by intro z; injection z with z; cases ps <;> cases z)
  exact .cons (S _ _ (ne_of h1 hb (by intro z; cases z)) h1) (S _ _ (ne_of h2 hb (by intro z; cases z)) h2) (S _ _ n3 h3) ih
theorem ask_new {K:PySem.W.Frag}{H0 H:Hp}{za p:Addr}{xa:List V}{tl:List (Int × Int)}{t l:Int}(S:Same H0 H)(fz:H0 za=none)(hza:H za=some (.lst xa))(ta:TVs K H xa (tl.map tlD))(fp:H p=none) : Same H0 (upd (upd H p (.tup [.int t,.int l])) za (.lst (xa ++ [.ref p])))∧TVs K (upd (upd H p (.tup [.int t,.int l])) za (.lst (xa ++ [.ref p]))) (xa ++ [.ref p]) ((tl ++ [(t,l)]).map tlD):=by
 have S1:=S.new fp (.tup [.int t,.int l])
 have st1:=(SameT.refl H).new fp (.tup [.int t,.int l])
 have hz1:=kp hza fp (u:=.tup [.int t,.int l])
 have hp1:=upd_same (H:=H) (a:=p) (o:=.tup [.int t,.int l])
 have st2:=st1.lst hz1 (.lst (xa ++ [.ref p]))
 have w2:=(SameT.refl (upd H p (.tup [.int t,.int l]))).lst hz1 (.lst (xa ++ [.ref p]))
 refine ⟨Same.over S1 fz _,?_⟩
 rw [List.map_append]
 exact (ta.mono st2).append (.cons (.tup (w2 _ _ hp1) (.cons (.int _) (.cons (.int _) .nil))) .nil)
local macro_rules | `(tactic| walk_at "o1") => `(tactic| first | exact Or.inl rfl | exact Or.inr rfl)
local macro_rules | `(tactic| walk_at "o2") => `(tactic| first | exact .inl rfl | exact .inr rfl | assumption)
local macro_rules | `(tactic| walk_at "ne") => `(tactic| first | assumption | exact Ne.symm (by assumption) | exact L2.ne_of (by assumption) (by assumption) (by intro z; cases z) | exact L2.ne_fresh (by assumption) (by walk_at "hp") | exact Ne.symm (L2.ne_fresh (by assumption) (by walk_at "hp")))
local macro_rules | `(tactic| walk_at "sf") => `(tactic| first | assumption | ((with_reducible refine L2.SqF.nw (by assumption) ?_); walk_at "sf") | ((with_reducible refine L2.SqF.lst (by walk_at "hp") ?_); walk_at "sf") | ((refine L2.SqF.sm (by assumption) ?_); walk_at "sf") | ((refine L2.SqF.sb (by assumption) (by walk_at "hp") ?_); walk_at "sf") | ((refine L2.SqF.sbi (by assumption) (by walk_at "hp") ?_); walk_at "sf"))
local macro_rules | `(tactic| walk_at "hp") => `(tactic| first | assumption | exact L2.upd_same | ((with_reducible refine L2.kp ?_ (by assumption)); walk_at "hp") | ((with_reducible refine L2.upd_at ?_ ?_); walk_at "ne"; walk_at "hp") | ((refine L2.Same.at' (by assumption) ?_); walk_at "hp") | ((refine L2.SameB.at' (by assumption) ?_ ?_); walk_at "hp"; walk_at "ne") | ((refine L2.SameT.at' (by assumption) ?_); walk_at "hp"))
local macro_rules | `(tactic| walk_at "ty") => `(tactic| first | exact .int _ | exact .bl _ | exact .str _ | exact .non | exact .tup (by walk_at "hp") | exact .lst (by walk_at "hp"))
local macro_rules | `(tactic| walk_at "b0") => `(tactic| first | assumption | exact Bz.w (by omega) (by omega) | exact Bz.mul (by walk_at "b0") (by walk_at "b0") | exact Bz.add' (by walk_at "b0") (by walk_at "b0") | exact Bz.sub' (by walk_at "b0") (by walk_at "b0") | exact Bz.neg (by walk_at "b0"))
local macro_rules | `(tactic| walk_at "bz") => `(tactic| first | walk_at "b0" | exact Bz.mono (by walk_at "b0") (by decide))
local macro_rules | `(tactic| walk_at "ss") => `(tactic| first | exact True.intro | (refine And.intro rfl ?_; walk_at "ss"))
local macro_rules | `(tactic| walk_at "sd") => `(tactic| first | assumption | ((with_reducible show @Eq _ _ _); first | (with_reducible exact rfl) | walk_at "hp" | exact L2.isi_same | exact L2.isi_ib | exact L2.isi_bi | exact L2.atI_mapD (PySem.Str.empty : PySem.Str) (by omega) (by omega) | exact L2.atI_mapD (0 : Int) (by omega) (by omega) | ((with_reducible show PySem.W.kitOne _ _ _ = some _); with_unfolding_all exact rfl) | omega) | ((with_reducible show L2.SqL _ _ _ _); first | (apply L2.SqL.of; walk_at "hp") | (apply L2.SqF.sq; walk_at "sf")) | ((with_reducible show L2.SqT _ _ _ _); exact L2.SqT.of (by walk_at "hp")) | ((with_reducible show L2.SqL _ _ _ _ ∨ L2.SqT _ _ _ _); first | exact Or.inl (L2.SqL.of (by walk_at "hp")) | exact Or.inr (L2.SqT.of (by walk_at "hp")) | exact Or.inl (by assumption) | exact Or.inr (by assumption)) | ((with_reducible show L2.TyOf _ _ _ _); walk_at "ty") | ((with_reducible show L2.tyV _ _ _ _); first | exact rfl | exact Or.inl ⟨rfl, _, L2.SqL.of (by walk_at "hp")⟩) | ((with_reducible show _ ≤ PySem.sizeLine); first | exact L2.sz | exact L2.szB (by omega) | omega) | ((with_reducible show _ < PySem.sizeLine); first | exact L2.small1000 (by omega) | omega) | ((with_reducible show L2.CPow _ _); exact ⟨by decide, by decide, by decide⟩) | ((with_reducible show L2.CDivB _ _); exact Lw.cN _ (by decide) (by decide)) | ((with_reducible show PySem.IntMulOk _ _); exact Bz.mulOk (by walk_at "b0") (by walk_at "b0")) | ((with_reducible show Bz _ _); walk_at "bz") | ((with_reducible show L2.SubS _ _); walk_at "ss") | ((with_reducible show L2.TVs _ _ _ _); exact L2.TVs.mono (L2.Same.t (by assumption)) (by assumption)) | ((with_reducible show @Ne L2.V _ _); walk_at "ne") | ((with_reducible show @Ne PySem.Addr _ _); walk_at "ne") | ((with_reducible show List.length _ < 1000); exact of_decide_eq_true rfl) | exact Exists.intro _ (L2.SqL.of (by walk_at "hp")) | exact Exists.intro _ (L2.SqT.of (by walk_at "hp")) | omega)
local macro_rules | `(tactic| walk_at "nw") => `(tactic| ((fail_if_success (refine ⟨(fun _ _ _ _ => True : Nat → Nat → L2.St → L2.Hp → Prop), ?_⟩)); (fail_if_success (refine ⟨(fun _ _ _ => True : Nat → L2.St → L2.Hp → Prop), ?_⟩)); (fail_if_success (refine ⟨(fun _ _ _ => True : Nat → List L2.V → L2.Hp → Prop), ?_⟩)); (fail_if_success (refine ⟨(fun _ _ => True : L2.St → L2.Hp → Prop), ?_⟩)); (fail_if_success (refine ⟨(PySem.PyData.none : PySem.PyData), ?_⟩))))
local macro_rules | `(tactic| walk_at "r1") => `(tactic| first | (with_reducible intro p hp) | (with_reducible intro p) | (apply And.intro; · ((with_reducible show @Eq _ _ _); exact rfl)) | (apply And.intro; · walk_at "sd") | (walk_at "nw"; apply Exists.intro) | refine L2.iteT ?_ | refine L2.iteF ?_ | refine L2.iteNotT ?_ | refine L2.iteNotF ?_ | refine L2.iteNN ?_ | (refine L2.iteY (by omega) ?_) | (refine L2.iteN (by omega) ?_) | (refine L2.iteYn (by omega) ?_) | (refine L2.iteNS (by omega) ?_) | (refine Or.inl (And.intro (L2.SqL.of (by walk_at "hp")) ?_)) | (intro p hp) | (intro p))
local macro_rules | `(tactic| walk_at "rd") => `(tactic| repeat walk_at "r1")
local macro_rules | `(tactic| walk_at "cf") => `(tactic| (intro σ H Q q; repeat (first | exact q | (apply And.intro; · ((with_reducible show @Eq _ _ _); exact rfl)) | (apply And.intro; · first | ((with_reducible show L2.CPow _ _); exact ⟨by decide, by decide, by decide⟩) | ((with_reducible show PySem.IntMulOk _ _); exact Bz.mulOk (bzl (by decide)) (bzl (by decide)))) | apply Exists.intro)))
local macro_rules | `(tactic| walk_at "sm") => `(tactic| first | assumption | exact L2.Same.refl _ | exact L2.Same.new (by walk_at "sm") (by assumption) _ | exact L2.Same.trans (by assumption) (by walk_at "sm"))
local macro_rules | `(tactic| walk_at "kx") => `(tactic| try dsimp (config := { beta := false, proj := false, zeta := false, eta := false, iota := false }) only [L2.cxK, L2.lcK])
section
variable {P:Program}{w:World}{K:PySem.W.Frag}{mg:Str→Option Value}{base:Heap}
theorem ok_q1 (T:Tx K mg) : FnOk P w K mg base (CXd P w) 1 T.f_q1 T.d_q1 ["self", "price"] (sp_npr T.c_NoPrice):=by
 have sc:=sc_q1
 refine T.F_q1.okd sc (fun vs H Q E h=>?_) (fun cdv A outer s H vs Q E hr h=>?_)
 ·obtain ⟨ea,p,rfl,he,q⟩:=h
  rfl
 obtain ⟨ea,p,rfl,he,q⟩:=h
 have hu:=hr.units0
 have hu2:=hr.units
 have hu1:=Nat.lt_of_le_of_lt (Nat.add_le_add_left (show 1≤64 by decide) _) hu2
 refine ⟨_,(@pss_cons _ _ _ _ _ (ps_expr (pe_baseI (pe_glob (v:=.ref T.c_PruneError) rfl T.m_PruneError rfl) T.ci_PruneError (pa_cons (pv 0) (pa_cons pe_str pa_nil se_c))))
   (@pss_one _ _ _ (ps_fldN (pv 0) (pv 1) rfl))),?_⟩
 walk_at "kx"
 have ob:=T.n_NoPrice.ob
 have sa:=T.n_NoPrice.sa
 have na:NoAttr K T.c_NoPrice "price" := T.nPp
 have mo:=T.n_NoPrice.i.mo
 walk_at "rd"
 exact q _ (by assumption) (by assumption)
theorem ok_q2 (T:Tx K mg) : FnOk P w K mg base (CXd P w) 1 T.f_q2 T.d_q2 ["one", "other"] sp_greatest_divisor:=by
 have sc:=sc_q2
 refine T.F_q2.okd sc (fun vs H Q E h=>?_) (fun cdv A outer s H vs Q E hr h=>?_)
 ·obtain ⟨a,b,rfl,hb,q⟩:=h
  rfl
 obtain ⟨a,b,rfl,hb,q⟩:=h
 have hu:=hr.units0
 have hu2:=hr.units
 have hu1:=Nat.lt_of_le_of_lt (Nat.add_le_add_left (show 1≤64 by decide) _) hu2
 refine ⟨_,(@pss_cons _ _ _ _ _ (@ps_set _ _ 2 _ _ _ _ sc.nd rfl (by walk_at "o1") (pe_callB call_abs rfl T.z_abs bt_abs (pa_cons (pv 0) pa_nil)) (by rfl) (by walk_at "o2"))
   (@pss_cons _ _ _ _ _ (@ps_set _ _ 3 _ _ _ _ sc.nd rfl (by walk_at "o1") (pe_callB call_abs rfl T.z_abs bt_abs (pa_cons (pv 1) pa_nil)) (by rfl) (by walk_at "o2"))
   (@pss_cons _ _ _ _ _ (ps_while powd (@pt_cmpR _ _ _ _ _ _ _ _ op_neI (pv 3) pe_int (nomark _)) (@pss_cons _ _ _ _ _ (@ps_set _ _ 4 _ _ _ _ sc.nd rfl (by walk_at "o1") (@pe_op _ _ _ _ _ _ _ _ op_mod (pv 2) (pv 3)) (by rfl) (by walk_at "o2"))
   (@pss_cons _ _ _ _ _ (@ps_set _ _ 2 _ _ _ _ sc.nd rfl (by walk_at "o1") (pv 3) (by rfl) (by walk_at "o2"))
   (@pss_one _ _ _ (@ps_set _ _ 3 _ _ _ _ sc.nd rfl (by walk_at "o1") (pv 4) (by rfl) (by walk_at "o2"))))))
   (@pss_one _ _ _ (@ps_ret _ _ _ _ (pv 2)))))),?_⟩
 walk_at "kx"
 walk_at "rd"
 refine while_by (fun σ H'=>H'=H∧∃ (x y:Int) (r:Option V),σ = [some (.int a),some (.int b),some (.int x),some (.int y),r]∧M.Inv a b x y)
  (fun σ _=>match σ with | [_,_,_,some (.int y),_]=>y.toNat | _=>0) ⟨rfl,_,_,_,rfl,M.Inv.start2 a b⟩ ?_ ?_
 ·rintro σ' H' ⟨rfl,x,y,r,rfl,iv⟩
  have h1:=iv.y0
  walk_at "rd"
  refine ite3n (fun c=>?_) (fun c=>?_)
  ·have hy:0 < y:=by omega
   walk_at "rd"
   exact ⟨⟨rfl,_,_,_,rfl,iv.turn hy⟩,M.less hy⟩
  ·walk_at "rd"
   rw [iv.out c hb]
   exact q
 ·rintro σ' H' Q1 Q2 hq ⟨v,e,i,j,ei,ej,k,ek,y⟩
  exact ⟨v,e,i,j,ei,ej,k,ek,hq _ _ y⟩
theorem ok_j9 (T:Tx K mg) : FnOk P w K mg base (CXd P w) 2 T.f_j9 T.d_j9 ["one", "other"] sp_plus:=by
 have sc:=sc_j9
 refine T.F_j9.okd sc (fun vs H Q E h=>?_) (fun cdv A outer s H vs Q E hr h=>?_)
 ·obtain ⟨p1,p2,r1,r2,rfl,h1,h2,L1,L2',q⟩:=h
  rfl
 obtain ⟨p1,p2,r1,r2,rfl,h1,h2,L1,L2',q⟩:=h
 have hu:=hr.units0
 have hu2:=hr.units
 have hu1:=Nat.lt_of_le_of_lt (Nat.add_le_add_left (show 1≤64 by decide) _) hu2
 refine ⟨_,(@pss_cons _ _ _ _ _ (@ps_set _ _ 2 _ _ _ _ sc.nd rfl (by walk_at "o1") (pe_call (ok_q2 T) (hr.mono (by decide)) rfl T.m_q2 T.F_q2.kp T.b_q2 .nil (pass_d fun _ _ _ z=>z) (pa_cons (@pe_ix _ _ _ _ _ _ _ ix_tup (pv 0) pe_int (fun _ _=>rfl)) (pa_cons (@pe_ix _ _ _ _ _ _ _ ix_tup (pv 1) pe_int (fun _ _=>rfl)) pa_nil))) (by rfl) (by walk_at "o2"))
   (@pss_cons _ _ _ _ _ (@ps_set _ _ 3 _ _ _ _ sc.nd rfl (by walk_at "o1") (@pe_op _ _ _ _ _ _ _ _ op_fdivB (@pe_ix _ _ _ _ _ _ _ ix_tup (pv 1) pe_int (fun _ _=>rfl)) (pv 2)) (by rfl) (by walk_at "o2"))
   (@pss_cons _ _ _ _ _ (@ps_set _ _ 4 _ _ _ _ sc.nd rfl (by walk_at "o1") (@pe_op _ _ _ _ _ _ _ _ op_add (@pe_op _ _ _ _ _ _ _ _ op_mulB (@pe_ix _ _ _ _ _ _ _ ix_tup (pv 0) pe_int (fun _ _=>rfl)) (pv 3)) (@pe_op _ _ _ _ _ _ _ _ op_mulB (@pe_ix _ _ _ _ _ _ _ ix_tup (pv 1) pe_int (fun _ _=>rfl)) (@pe_op _ _ _ _ _ _ _ _ op_fdivB (@pe_ix _ _ _ _ _ _ _ ix_tup (pv 0) pe_int (fun _ _=>rfl)) (pv 2)))) (by rfl) (by walk_at "o2"))
   (@pss_cons _ _ _ _ _ (@ps_set _ _ 5 _ _ _ _ sc.nd rfl (by walk_at "o1") (pe_call (ok_q2 T) (hr.mono (by decide)) rfl T.m_q2 T.F_q2.kp T.b_q2 .nil (pass_d fun _ _ _ z=>z) (pa_cons (pv 4) (pa_cons (pv 2) pa_nil))) (by rfl) (by walk_at "o2"))
   (@pss_one _ _ _ (@ps_ret _ _ _ _ (pe_tup (pa_cons (@pe_op _ _ _ _ _ _ _ _ op_fdivB (pv 4) (pv 5)) (pa_cons (@pe_op _ _ _ _ _ _ _ _ op_mulB (@pe_op _ _ _ _ _ _ _ _ op_fdivB (@pe_ix _ _ _ _ _ _ _ ix_tup (pv 0) pe_int (fun _ _=>rfl)) (pv 5)) (pv 3)) pa_nil))))))))),?_⟩
 walk_at "kx"
 have z1:=L1.zn
 have z2:=L1.zd
 have z3:=L2'.zn
 have z4:=L2'.zd
 have d1:=dp r1
 have d2:=dp r2
 have h1:H p1=some (rt r1):=h1
 have h2:H p2=some (rt r2):=h2
 have gp:=M.G_pos (r1.den:Int) (r2.den:Int)
 have gb:Bz 700 (M.G (r1.den:Int) (r2.den:Int)):=z4.le (M.G_le (by omega))
 have gz:Bz 8000 (M.G (r1.den:Int) (r2.den:Int)):=gb.mono (by decide)
 have w4:Bz 8000 (r2.den:Int):=z4.mono (by decide)
 have zl:Bz 700 ((r2.den:Int) / M.G (r1.den:Int) (r2.den:Int)):=z4.ediv (Int.le_of_lt gp)
 have zk:Bz 700 ((r1.den:Int) / M.G (r1.den:Int) (r2.den:Int)):=z2.ediv (Int.le_of_lt gp)
 have c1:=cGe (t:=(r1.den:Int)) d2 w4 (r2.den:Int)
 have c2:=cGe (t:=(r1.den:Int)) d2 w4 (r1.den:Int)
 have m1:=z1.mulOk zl
 have m2:=z3.mulOk zk
 have gq:=M.G_pos (r1.num * ((r2.den:Int) / M.G r1.den r2.den) + r2.num * ((r1.den:Int) / M.G r1.den r2.den)) (M.G (r1.den:Int) (r2.den:Int))
 have zd:=z2.ediv (Int.le_of_lt gq)
 have c3:=cGe (t:=r1.num * ((r2.den:Int) / M.G r1.den r2.den) + r2.num * ((r1.den:Int) / M.G r1.den r2.den)) gp gz (r1.num * ((r2.den:Int) / M.G r1.den r2.den) + r2.num * ((r1.den:Int) / M.G r1.den r2.den))
 have c4:=cGe (t:=r1.num * ((r2.den:Int) / M.G r1.den r2.den) + r2.num * ((r1.den:Int) / M.G r1.den r2.den)) gp gz (r1.den:Int)
 have m3:=zd.mulOk zl
 walk_at "rd"
 exact q.sum _ (by assumption)
theorem ok_j6 (T:Tx K mg) : FnOk P w K mg base (CXd P w) 3 T.f_j6 T.d_j6 ["one", "other"] sp_minus:=by
 have sc:=sc_j6
 refine T.F_j6.okd sc (fun vs H Q E h=>?_) (fun cdv A outer s H vs Q E hr h=>?_)
 ·obtain ⟨p1,p2,r1,r2,rfl,h1,h2,L1,L2',q⟩:=h
  rfl
 obtain ⟨p1,p2,r1,r2,rfl,h1,h2,L1,L2',q⟩:=h
 have hu:=hr.units0
 have hu2:=hr.units
 have hu1:=Nat.lt_of_le_of_lt (Nat.add_le_add_left (show 1≤64 by decide) _) hu2
 refine ⟨_,(@pss_one _ _ _ (@ps_ret _ _ _ _ (pe_call (ok_j9 T) (hr.mono (by decide)) rfl T.m_j9 T.F_j9.kp T.b_j9 .nil (pass_d fun _ _ _ z=>z) (pa_cons (pv 0) (pa_cons (pe_tup (pa_cons (pe_un un_neg (@pe_ix _ _ _ _ _ _ _ ix_tup (pv 1) pe_int (fun _ _=>rfl))) (pa_cons (@pe_ix _ _ _ _ _ _ _ ix_tup (pv 1) pe_int (fun _ _=>rfl)) pa_nil))) pa_nil))))),?_⟩
 walk_at "kx"
 have h1:H p1=some (rt r1):=h1
 have h2:H p2=some (rt r2):=h2
 walk_at "rd"
 rename_i pz hz
 have k1:=kp (u:=.tup [.int (-r2.num),.int (r2.den:Int)]) h1 hz
 refine ⟨(k1:Rt _ p1 r1),(upd_same:Rt _ pz (-r2)),L1,L2'.neg,fun r hr=>?_⟩
 exact q _ _ (upd_none hr).2 ((same_new hz _).trans (same_new hr _)) (by rw [upd_same,Rat.sub_eq_add_neg])
theorem ok_j7 (T:Tx K mg) : FnOk P w K mg base (CXd P w) 1 T.f_j7 T.d_j7 ["one", "other"] sp_under29:=by
 have sc:=sc_j7
 refine T.F_j7.okd sc (fun vs H Q E h=>?_) (fun cdv A outer s H vs Q E hr h=>?_)
 ·obtain ⟨a,b,t1,b1,t2,b2,rfl,h1,h2,z1,z2,z3,z4,q⟩:=h
  rfl
 obtain ⟨a,b,t1,b1,t2,b2,rfl,h1,h2,z1,z2,z3,z4,q⟩:=h
 have hu:=hr.units0
 have hu2:=hr.units
 have hu1:=Nat.lt_of_le_of_lt (Nat.add_le_add_left (show 1≤64 by decide) _) hu2
 refine ⟨_,(@pss_one _ _ _ (@ps_ret _ _ _ _ (pe_cmpR op_lt (@pe_op _ _ _ _ _ _ _ _ op_mulB (@pe_ix _ _ _ _ _ _ _ ix_tup (pv 0) pe_int (fun _ _=>rfl)) (@pe_ix _ _ _ _ _ _ _ ix_tup (pv 1) pe_int (fun _ _=>rfl))) (@pe_op _ _ _ _ _ _ _ _ op_mulB (@pe_ix _ _ _ _ _ _ _ ix_tup (pv 1) pe_int (fun _ _=>rfl)) (@pe_ix _ _ _ _ _ _ _ ix_tup (pv 0) pe_int (fun _ _=>rfl))) (nomark _)))),?_⟩
 walk_at "kx"
 walk_at "rd"
 exact q
theorem ok_q4 (T:Tx K mg) : FnOk P w K mg base (CXd P w) 1 T.f_q4 T.d_q4 ["tree"] (sp_trees K):=by
 have sc:=sc_q4
 refine T.F_q4.okd sc (fun vs H Q E h=>?_) (fun cdv A outer s H vs Q E hr h=>?_)
 ·obtain ⟨v,t,B,rfl,tv,lt,q⟩:=h
  rfl
 obtain ⟨v,t,B,rfl,tv,lt,q⟩:=h
 have hu:=hr.units0
 have hu2:=hr.units
 have hu1:=Nat.lt_of_le_of_lt (Nat.add_le_add_left (show 1≤64 by decide) _) hu2
 refine ⟨_,(@pss_cons _ _ _ _ _ (@ps_set _ _ 1 _ _ _ _ sc.nd rfl (by walk_at "o1") pe_dnewK (by rfl) (by walk_at "o2"))
   (@pss_cons _ _ _ _ _ (@ps_set _ _ 2 _ _ _ _ sc.nd rfl (by walk_at "o1") (@pe_lst _ _ _ _ (pa_cons (pe_tup (pa_cons pe_str (pa_cons (pv 0) pa_nil) se_c)) pa_nil)) (by rfl) (by walk_at "o2"))
   (@pss_cons _ _ _ _ _ (ps_while powd (@pt_cmpR _ _ _ _ _ _ _ _ op_gt (pe_callB call_len_seq rfl T.z_len bt_len (pa_cons (pv 2) pa_nil)) pe_int (nomark _)) (@pss_cons _ _ _ _ _ (@ps_mid _ _ _ (@ps_set _ _ 3 _ _ _ _ sc.nd rfl (by walk_at "o1") (pe_bm0 PySem.F.plainAttrs_list PySem.F.slot_list_pop PySem.F.type_list_pop mt_pop (pv 2)) (by rfl) (by walk_at "o2")))
   (@pss_cons _ _ _ _ _ (@ps_set _ _ 4 _ _ _ _ sc.nd rfl (by walk_at "o1") (@pe_ix _ _ _ _ _ _ _ ix_tup (pv 3) pe_int (fun _ _=>rfl)) (by rfl) (by walk_at "o2"))
   (@pss_cons _ _ _ _ _ (@ps_set _ _ 5 _ _ _ _ sc.nd rfl (by walk_at "o1") (@pe_ix _ _ _ _ _ _ _ ix_tup (pv 3) pe_int (fun _ _=>rfl)) (by rfl) (by walk_at "o2"))
   (@pss_cons _ _ _ _ _ (@ps_mid _ _ _ (ps_dput hu1 (pv 1) (pv 4) (pv 5) rfl))
   (@pss_one _ _ _ (@ps_if _ _ _ _ _ _ _ _ (@pt_cmpR _ _ _ _ _ _ _ _ op_eqS (@pe_ix _ _ _ _ _ _ _ ix_tup (pv 5) pe_int (fun _ _=>rfl)) pe_str (nomark _)) (@pss_cons _ _ _ _ _ (ps_expr (pe_bm PySem.F.plainAttrs_list PySem.F.slot_list_append PySem.F.type_list_append mt_append (pv 2) (pa_cons (pe_tup (pa_cons (@pe_op _ _ _ _ _ _ _ _ op_add_str (pv 4) pe_str) (pa_cons (@pe_ix _ _ _ _ _ _ _ ix_tup (pv 5) pe_int (fun _ _=>rfl)) pa_nil))) pa_nil)))
   (@pss_one _ _ _ (ps_expr (pe_bm PySem.F.plainAttrs_list PySem.F.slot_list_append PySem.F.type_list_append mt_append (pv 2) (pa_cons (pe_tup (pa_cons (@pe_op _ _ _ _ _ _ _ _ op_add_str (pv 4) pe_str) (pa_cons (@pe_ix _ _ _ _ _ _ _ ix_tup (pv 5) pe_int (fun _ _=>rfl)) pa_nil))) pa_nil))))) pss_nil)))))))
   (@pss_one _ _ _ (@ps_ret _ _ _ _ (pv 1)))))),?_⟩
 walk_at "kx"
 walk_at "rd"
 rename_i z1 hz1 p1 hp1 z2 hz2
 have n12:z1 ≠ z2:=fun e=>by
  rw [← e,upd_ne (fun e2=>by rw [← e2,upd_same] at hp1; cases hp1),upd_same] at hz2
  cases hz2
 have fz2:H z2=none:=Same.free ((same_new hz1 _).new hp1 _) hz2
 have ld:=t.dp_lt
 have pl:=plt_len t ""
 have tv2:=tv.mono (((same_new hz1 (.dK [])).new hp1 (.tup [.str "", v])).new hz2 (.lst [.ref p1])).t
 have hx0:(upd (upd (upd H z1 (.dK [])) p1 (.tup [.str "", v])) z2 (.lst [.ref p1])) z1=some (.dK []):=kp (kp upd_same hp1) hz2
 have hy0:=upd_same (H:=upd (upd H z1 (.dK [])) p1 (.tup [.str "", v])) (a:=z2) (o:=.lst [.ref p1])
 have hp0:(upd (upd (upd H z1 (.dK [])) p1 (.tup [.str "", v])) z2 (.lst [.ref p1])) p1=some (.tup [.str "", v]):=kp upd_same hz2
 have S0:Same H (upd (upd (upd H z1 (.dK [])) p1 (.tup [.str "", v])) z2 (.lst [.ref p1])):=((same_new hz1 _).new hp1 _).new hz2 _
 generalize upd (upd (upd H z1 (.dK [])) p1 (.tup [.str "", v])) z2 (.lst [.ref p1])=H0 at tv2 hx0 hy0 hp0 S0 ⊢
 refine while_by (fun σ' H'=>Iv (Same H H'∧(∃ kvs es ys ts,H' z1=some (.dK kvs)∧DT K B H' kvs es∧H' z2=some (.lst ys)∧TVs K H' ys ((ts:List (Str × Tr)).map (thD B))∧(∀ e∈ts,e.1.length + e.2.dp≤60)∧(es ++ plts ts).Perm (plt t ""))∧∃ o3 o4 o5,σ' = [some v,some (.ref z1),some (.ref z2),o3,o4,o5])) (fun _ H=>match H z1 with | some (.dK kvs)=>200 - kvs.length | _=>0) ⟨⟨S0,⟨[],[],[.ref p1],[("", t)],hx0,.nil,hy0,.cons (.tup hp0 (.cons (.str _) (.cons tv2 .nil))) .nil,fun e he=>(by rw [List.mem_singleton.mp he]; show ("" : Str).length + t.dp≤60; rw [show ("" : Str).length=0 by decide +kernel]; omega),by rw [List.nil_append]; show (plt t "" ++ []).Perm _; rw [List.append_nil]⟩,_,_,_,rfl⟩⟩ ?_ ?_
 ·rintro σ' H' ⟨⟨S,⟨kvs,es,ys,ts,hx,dt,hy,ty,ht,pm⟩,o3,o4,o5,rfl⟩⟩
  have xl:=dt.length
  have ul:es.length + (plts ts).length≤125:=by have:=pm.length_eq; rw [List.length_append] at this; omega
  walk_at "rd"
  refine ite3 (fun c=>?_) (fun c=>?_)
  ·obtain ⟨zs,y,as,e,rfl,rfl,tz,te⟩:=TVs.lastH ty (by omega)
   have ea:=pop1_at zs y
   have eb:=pop1_rest zs y
   obtain ⟨q0,s0⟩:=e
   obtain ⟨pp,u1,u2,rfl,hpp,t1,t2⟩:=TV.pair te
   obtain rfl:=t1.strs
   have lb:=ht (q0,s0) (List.mem_append_right _ (List.mem_singleton.mpr rfl))
   have ht0:∀ e∈as,e.1.length + e.2.dp≤60:=fun e he=>ht e (List.mem_append_left _ he)
   rw [plts_app] at pm ul
   clear ht te ty t1
   have zl:zs.length=as.length:=by rw [tz.length,List.length_map]
   have al:as.length≤(plts as).length:=plts_len as
   rw [List.length_append] at ul
   have zz:zs.length < sizeLine:=small1000 (by omega)
   have kz:kvs.length < sizeLine:=small1000 (by omega)
   have nz2:z2 ≠ z1:=Ne.symm n12
   have hpp:H' pp=some (.tup [.str q0,u2]):=hpp
   have t2:TV K H' u2 (htD B s0):=t2
   have nq:q0 ∉ es.map (·.1):=fun z=>by
    have nd:=(pm.map (·.1)).nodup_iff.mpr (plt_nodup t "")
    rw [List.map_append,List.nodup_append] at nd
    refine nd.2.2 q0 z q0 ?_ rfl
    rw [List.map_append]
    refine List.mem_append_right _ ?_
    cases s0 with
    | en w=>exact List.mem_cons_self
    | fk w y n=>exact List.mem_cons_self
   refine ⟨fun σ' H1=>Iv (H1=upd H' z2 (.lst zs)∧σ' = [some v,some (.ref z1),some (.ref z2),some (.ref pp),o4,o5]),?_,?_⟩
   ·refine mid_abs fun _ _ _ => ?_
    walk_at "rd"
    rw [eb]
    exact ⟨⟨rfl,rfl⟩⟩
   rintro σ' H1 ⟨⟨e1,rfl⟩⟩
   have st1:SameT H' H1:=by rw [e1]; exact (SameT.refl H').lst hy _
   have hx1:H1 z1=some (.dK kvs):=by rw [e1,upd_ne n12]; exact hx
   have hy1:H1 z2=some (.lst zs):=by rw [e1]; exact upd_same
   have S1:Same H H1:=by rw [e1]; exact Same.over S fz2 _
   have hpp1:=st1 _ _ hpp
   clear e1 ea eb
   have g3:DPut H1 z1 (.str q0) u2 (upd H1 z1 (.dK (putK kvs (.inr q0) u2))):=DPut.k (k:=.inr q0) hx1 kz
   rw [putK_new u2 (dt.vno nq)] at g3
   walk_at "rd"
   refine ⟨fun σ' H2=>Iv (Same H H2∧H2 z1=some (.dK (kvs ++ [(.inr q0,u2)]))∧H2 z2=some (.lst zs)∧SameT H' H2∧σ' = [some v,some (.ref z1),some (.ref z2),some (.ref pp),some (.str q0),some u2]),?_,?_⟩
   ·refine mid_abs fun _ _ _ => ?_
    walk_at "rd"
    exact ⟨⟨Same.over S1 hz1 _,upd_same,by rw [upd_ne nz2]; exact hy1,st_dk st1 hx1 _,rfl⟩⟩
   rintro σ' H2 ⟨⟨S2,hx2,hy2,st2,rfl⟩⟩
   have ms:∀ H3:Hp,H3 z1=some (.dK (kvs ++ [(.inr q0,u2)]))→(match H3 z1 with | some (.dK kvs)=>200 - kvs.length | _=>0) < (match H' z1 with | some (.dK kvs)=>200 - kvs.length | _=>0):=fun H3 e=>by
    rw [e,hx]
    show 200 - (kvs ++ [(Sum.inr q0,u2)]).length < 200 - kvs.length
    rw [List.length_append,List.length_singleton]
    omega
   have tz2:=tz.mono st2
   cases s0 with
   | en w =>
    obtain ⟨p2,c2,rfl,hp2,hc2⟩:=TV.hen t2
    have hp3:=st2 _ _ hp2
    walk_at "rd"
    refine ⟨⟨S2,⟨_,es ++ [(q0,.en w)],zs,as,hx2,(dt.mono st2).snoc (e:=(q0,.en w)) (t2.mono st2),hy2,tz2,ht0,?_⟩,_,_,_,rfl⟩,ms _ hx2⟩
    refine .trans ?_ pm
    have:=plt_step (us:=es) (A:=plts as) (B:=[]) (q0,Tr.en w)
    rw [List.append_nil] at this
    exact this
   | fk w y n =>
    obtain ⟨p2,c2,a2,a3,rfl,hp2,hc2,ty,tn⟩:=TV.hfk t2
    have lb:q0.length + (max y.dp n.dp + 1)≤60:=lb
    have k1:q0.length + ("y" : Str).length≤sizeLine:=szB (by rw [ynl.1]; omega)
    have k2:q0.length + ("n" : Str).length≤sizeLine:=szB (by rw [ynl.2]; omega)
    have hp3:=st2 _ _ hp2
    have ly:∀ z:V,(zs ++ [z]).length < sizeLine:=fun z=>small1000 (by rw [List.length_append,List.length_singleton]; omega)
    have ty2:=ty.mono st2
    have tn2:=tn.mono st2
    have td2:=(dt.mono st2).snoc (e:=(q0,.fk w y n)) (t2.mono st2)
    walk_at "rd"
    rename_i r1 hr1 r2 hr2
    have v1:=(SameT.refl H2).new hr1 (.tup [.str (q0 ++ "y"),a2])
    have S3:=S2.new hr1 (.tup [.str (q0 ++ "y"),a2])
    have hx3:=kp hx2 hr1 (u:=.tup [.str (q0 ++ "y"),a2])
    have hy3:=kp hy2 hr1 (u:=.tup [.str (q0 ++ "y"),a2])
    have hr3:=upd_same (H:=H2) (a:=r1) (o:=.tup [.str (q0 ++ "y"),a2])
    generalize upd H2 r1 (.tup [.str (q0 ++ "y"),a2])=H3 at v1 S3 hx3 hy3 hr3 hr2 ⊢
    have v2:=v1.lst hy3 (.lst (zs ++ [.ref r1]))
    have w2:=(SameT.refl H3).lst hy3 (.lst (zs ++ [.ref r1]))
    have S4:=Same.over S3 fz2 (.lst (zs ++ [.ref r1]))
    have hx4:upd H3 z2 (.lst (zs ++ [.ref r1])) z1=some (.dK (kvs ++ [(.inr q0,.ref p2)])):=by rw [upd_ne n12]; exact hx3
    have hy4:=upd_same (H:=H3) (a:=z2) (o:=.lst (zs ++ [.ref r1]))
    have hr4:=w2 _ _ hr3
    generalize upd H3 z2 (.lst (zs ++ [.ref r1]))=H4 at v2 w2 S4 hx4 hy4 hr4 hr2 ⊢
    have v5:=v2.new hr2 (.tup [.str (q0 ++ "n"),a3])
    have S5:=S4.new hr2 (.tup [.str (q0 ++ "n"),a3])
    have hx5:=kp hx4 hr2 (u:=.tup [.str (q0 ++ "n"),a3])
    have hy5:=kp hy4 hr2 (u:=.tup [.str (q0 ++ "n"),a3])
    have hr5:=kp hr4 hr2 (u:=.tup [.str (q0 ++ "n"),a3])
    have hs5:=upd_same (H:=H4) (a:=r2) (o:=.tup [.str (q0 ++ "n"),a3])
    generalize upd H4 r2 (.tup [.str (q0 ++ "n"),a3])=H5 at v5 S5 hx5 hy5 hr5 hs5 ⊢
    have v6:=v5.lst hy5 (.lst (zs ++ [.ref r1] ++ [.ref r2]))
    have w6:=(SameT.refl H5).lst hy5 (.lst (zs ++ [.ref r1] ++ [.ref r2]))
    have S6:=Same.over S5 fz2 (.lst (zs ++ [.ref r1] ++ [.ref r2]))
    have hx6:upd H5 z2 (.lst (zs ++ [.ref r1] ++ [.ref r2])) z1=some (.dK (kvs ++ [(.inr q0,.ref p2)])):=by rw [upd_ne n12]; exact hx5
    refine ⟨ly _,?_⟩
    walk_at "rd"
    refine ⟨⟨S6,⟨_,es ++ [(q0,.fk w y n)],_,as ++ [(q0 ++ "y", y)] ++ [(q0 ++ "n", n)],hx6,td2.mono v6,upd_same,?_,?_,?_⟩,_,_,_,rfl⟩,ms _ hx6⟩
    ·rw [List.map_append,List.map_append]
     exact TVs.snoc (TVs.snoc (tz2.mono v6) (.tup (w6 _ _ hr5) (.cons (.str _) (.cons (ty2.mono v6) .nil)))) (.tup (w6 _ _ hs5) (.cons (.str _) (.cons (tn2.mono v6) .nil)))
    ·refine snocT (snocT ht0 ?_) ?_
     ·show (q0 ++ "y" : Str).length + y.dp≤60
      rw [len_app,ynl.1]
      omega
     ·show (q0 ++ "n" : Str).length + n.dp≤60
      rw [len_app,ynl.2]
      omega
    ·refine .trans ?_ pm
     have:=plt_step (us:=es) (A:=plts as) (B:=plt y (q0 ++ "y") ++ plt n (q0 ++ "n")) (q0,Tr.fk w y n)
     rw [plts_app,plts_app,List.append_assoc (plts as)]
     show (es ++ [(q0,Tr.fk w y n)] ++ (plts as ++ ((plt y (q0 ++ "y") ++ []) ++ (plt n (q0 ++ "n") ++ [])))).Perm (es ++ (plts as ++ (((q0,Tr.fk w y n) :: (plt y (q0 ++ "y") ++ plt n (q0 ++ "n"))) ++ [])))
     rw [List.append_nil,List.append_nil,List.append_nil]
     exact this
  ·have e0:ys.length=0:=by omega
   obtain rfl:=List.length_eq_zero_iff.mp e0
   have ets:ts = []:=by
    have:=ty.length
    rw [List.length_map] at this
    exact List.length_eq_zero_iff.mp this.symm
   subst ets
   have pm0:es.Perm (plt t ""):=by
    have:=pm
    rw [show plts [] = [] from rfl,List.append_nil] at this
    exact this
   walk_at "rd"
   exact q _ z1 kvs es S hz1 hx dt pm0
 ·rintro σ' H' Q1 Q2 hq ⟨v,e,p,ys,ev,hs,i,j,ei,ej,k,ek,y⟩
  exact ⟨v,e,p,ys,ev,hs,i,j,ei,ej,k,ek,hq _ _ y⟩
theorem ok_qQ (T:Tx K mg) : FnOk P w K mg base (CXd P w) 2 T.f_qQ T.d_qQ ["tree", "sort"] (sp_places_of K):=by
 have sc:=sc_qQ
 refine T.F_qQ.okd sc (fun vs H Q E h=>?_) (fun cdv A outer s H vs Q E hr h=>?_)
 ·obtain ⟨v,t,B,so,rfl,tv,lt,q⟩:=h
  rfl
 obtain ⟨v,t,B,so,rfl,tv,lt,q⟩:=h
 have hu:=hr.units0
 have hu2:=hr.units
 have hu1:=Nat.lt_of_le_of_lt (Nat.add_le_add_left (show 1≤64 by decide) _) hu2
 refine ⟨_,(@pss_one _ _ _ (@ps_ret _ _ _ _ (pe_callB call_sortedS rfl T.z_sorted bt_sorted (pa_cons (pe_lc (ts:=["place", "part"]) (js:=[1]) (LcOk.of rfl) rfl (pi_items (pe_call (ok_q4 T) (hr.mono (by decide)) rfl T.m_q4 T.F_q4.kp T.b_q4 .nil (pass_d fun _ _ _ z=>z) (pa_cons (pv 0) pa_nil)) rfl rfl) (fun _ _ _ _=>(pg_tup rfl (pgs_cons (pg_name (i:=0) (nodup_of rfl) rfl (Or.inl rfl)) (pgs_cons (pg_name (i:=1) (nodup_of rfl) rfl (Or.inl rfl)) pgs_nil)))) (fun _ _ _ _=>(pf_one (@pt_cmpR _ _ _ _ _ _ _ _ op_eqS (@pe_ix _ _ _ _ _ _ _ ix_tup (pv 1) pe_int (fun _ _=>rfl)) (pv 2) (nomark _)))) (fun _ _ _ _=>(pv 0))) pa_nil)))),?_⟩
 walk_at "kx"
 walk_at "rd"
 rename_i H1 d kvs es S1 fd hd dt pm
 refine .inl ⟨hd,fun ep=>?_⟩
 intro C s2 H2 fp
 have pl:=plt_len t ""
 have el:=pm.length_eq
 have kl:=dt.length
 have ml:∀ i,((((es.take i).filter fun e=>decide (knd e.2=so)).map (·.1)).map V.str).length < 130:=fun i=>by
  rw [List.length_map,List.length_map]
  have z1:=List.length_filter_le (fun e=>decide (knd e.2=so)) (es.take i)
  have z2:(es.take i).length≤es.length:=by rw [List.length_take]; omega
  omega
 refine lc_items (P:=P) (w:=w) (a:=d) (kvs:=kvs) (ep:=ep) (fun i ys H'=>Iv (Same H H'∧SameT H1 H'∧H' d=some (FzD P w d kvs ep)∧ys=((((es.take i).filter fun e=>decide (knd e.2=so)).map (·.1)).map V.str))) ?_ ?_ ?_ ?_
 ·exact ⟨⟨Same.over S1 fd _,st_dk (SameT.refl _) hd _,upd_same,by rw [List.take_zero]; rfl⟩⟩
 ·rintro i ys H3 hi ⟨⟨_,_,e1,e2⟩⟩
  refine ⟨e1,?_⟩
  rw [e2]
  have:=ml i
  exact small1000 (by omega)
 ·rintro i k x T0 ys H3 hk ⟨⟨S3,st3,hf,rfl⟩⟩ hT
  obtain ⟨⟨q0,s0⟩,he,rfl,te⟩:=dt.get hk
  have te:TV K H1 x (htD B s0):=te
  have S4:=S3.new hT (.tup [kV (.inr q0),x])
  have st4:=st3.new hT (.tup [kV (.inr q0),x])
  have hf4:=kp hf hT (u:=.tup [kV (.inr q0),x])
  have hT4:upd H3 T0 (.tup [kV (.inr q0),x]) T0=some (.tup [.str q0,x]):=upd_same
  have te4:=te.mono st4
  generalize upd H3 T0 (.tup [kV (.inr q0),x])=H4 at S4 st4 hf4 hT4 te4 ⊢
  have hlt:i < es.length:=(List.getElem?_eq_some_iff.mp he).1
  have tk:es.take (i + 1)=es.take i ++ [(q0,s0)]:=by rw [List.take_add_one,he]; rfl
  have kn:∃ p2 xs2,x = .ref p2∧H4 p2=some (.tup (.str (knd s0) :: xs2)):=by
   cases s0 with
   | en w0 =>
    obtain ⟨p2,c2,rfl,hp2,hc2⟩:=TV.hen te4
    exact ⟨_,_,rfl,hp2⟩
   | fk w0 y n =>
    obtain ⟨p2,c2,a2,a3,rfl,hp2,hc2,ty,tn⟩:=TV.hfk te4
    exact ⟨_,_,rfl,hp2⟩
  obtain ⟨p2,xs2,rfl,hp2⟩:=kn
  walk_at "rd"
  refine ⟨atI_nat (xs:=V.str (knd s0) :: xs2) (j:=0) rfl,?_⟩
  walk_at "rd"
  show if _ then _ else _
  by_cases c:knd s0=so
  ·rw [if_pos (decide_eq_true c)]
   walk_at "rd"
   refine ⟨S4,st4,hf4,?_⟩
   rw [tk,List.filter_append,show List.filter (fun e:Str × Tr=>decide (knd e.2=so)) [(q0,s0)] = [(q0,s0)] from List.filter_cons_of_pos (decide_eq_true c),List.map_append,List.map_append]
   rfl
  ·rw [if_neg (by rw [decide_eq_false c]; exact Bool.false_ne_true)]
   refine ⟨by omega,⟨⟨S4,st4,hf4,?_⟩⟩⟩
   rw [tk,List.filter_append,show List.filter (fun e:Str × Tr=>decide (knd e.2=so)) [(q0,s0)] = [] from List.filter_cons_of_neg (by show ¬ decide (knd s0=so)=true; rw [decide_eq_false c]; exact Bool.false_ne_true),List.append_nil]
 ·rintro ys H3 ⟨⟨S3,st3,hf,rfl⟩⟩ p hp
  walk_at "rd"
  have eT:es.take kvs.length=es:=by rw [kl,List.take_length]
  have m0:=ml kvs.length
  rw [List.length_map,List.length_map] at m0
  rw [List.length_map]
  have lf:=List.length_filter_le (fun e=>decide (knd e.2=so)) (es.take kvs.length)
  rw [eT] at lf ⊢
  have pk:(plK t so)=(((plt t "").filter fun e=>decide (knd e.2=so)).map (·.1)):=by
   unfold plK
   rw [plt_plc,List.filter_map,List.map_map]
   rfl
  have cn:(List.filter (fun e:Str × Tr=>decide (knd e.2=so)) es).length < 64:=by
   have h1:=((pm.filter (fun e:Str × Tr=>decide (knd e.2=so))).map (·.1)).length_eq
   have h2:=plK_len t so
   rw [pk] at h2
   rw [List.length_map] at h1
   omega
  refine ⟨by omega,fun q1 ws' f1 p1 s1=>q _ q1 ws' ((S3.new hp _).new f1 _) (Same.free (S3.new hp _) f1) upd_same (p1.trans ?_) s1⟩
  rw [pk]
  exact (pm.filter _).map _
theorem ok_j8 (T:Tx K mg) : FnOk P w K mg base (CXd P w) 3 T.f_j8 T.d_j8 ["tree"] (sp_forks K):=by
 have sc:=sc_j8
 refine T.F_j8.okd sc (fun vs H Q E h=>?_) (fun cdv A outer s H vs Q E hr h=>?_)
 ·obtain ⟨v,t,B,rfl,tv,lt,q⟩:=h
  rfl
 obtain ⟨v,t,B,rfl,tv,lt,q⟩:=h
 have hu:=hr.units0
 have hu2:=hr.units
 have hu1:=Nat.lt_of_le_of_lt (Nat.add_le_add_left (show 1≤64 by decide) _) hu2
 refine ⟨_,(@pss_one _ _ _ (@ps_ret _ _ _ _ (pe_call (ok_qQ T) (hr.mono (by decide)) rfl T.m_qQ T.F_qQ.kp T.b_qQ .nil (pass_d fun _ _ _ z=>z) (pa_cons (pv 0) (pa_cons pe_str pa_nil se_c))))),?_⟩
 walk_at "kx"
 walk_at "rd"
 rename_i h1 p1 ws s1 f1 e1 m1 o1
 exact q _ _ _ s1 f1 e1 m1 o1
theorem ok_q8 (T:Tx K mg) : FnOk P w K mg base (CXd P w) 2 T.f_q8 T.d_q8 ["tree"] (sp_cbottom K):=by
 have sc:=sc_q8
 refine T.F_q8.okd sc (fun vs H Q E h=>?_) (fun cdv A outer s H vs Q E hr h=>?_)
 ·obtain ⟨v,t,B,rfl,tv,lt,b0,bz,q⟩:=h
  rfl
 obtain ⟨v,t,B,rfl,tv,lt,b0,bz,q⟩:=h
 have hu:=hr.units0
 have hu2:=hr.units
 have hu1:=Nat.lt_of_le_of_lt (Nat.add_le_add_left (show 1≤64 by decide) _) hu2
 refine ⟨_,(@pss_cons _ _ _ _ _ (@ps_set _ _ 1 _ _ _ _ sc.nd rfl (by walk_at "o1") pe_int (by rfl) (by walk_at "o2"))
   (@pss_cons _ _ _ _ _ (ps_for powd rfl (pi_values (pe_call (ok_q4 T) (hr.mono (by decide)) rfl T.m_q4 T.F_q4.kp T.b_q4 .nil (pass_d fun _ _ _ z=>z) (pa_cons (pv 0) pa_nil)) rfl rfl) (pg_name (i:=2) sc.nd rfl (by walk_at "o1"))
   (@pss_cons _ _ _ _ _ (@ps_mid _ _ _ (@ps_set _ _ 3 _ _ _ _ sc.nd rfl (by walk_at "o1") (@pe_ix _ _ _ _ _ _ _ ix_tup (@pe_ix _ _ _ _ _ _ _ ix_tup (pv 2) pe_int (fun _ _=>rfl)) pe_int (fun _ _=>rfl)) (by rfl) (by walk_at "o2")))
   (@pss_one _ _ _ (@ps_set _ _ 1 _ _ _ _ sc.nd rfl (by walk_at "o1") (@pe_op _ _ _ _ _ _ _ _ op_mulB (pv 1) (@pe_op _ _ _ _ _ _ _ _ op_fdivB (pv 3) (pe_call (ok_q2 T) (hr.mono (by decide)) rfl T.m_q2 T.F_q2.kp T.b_q2 .nil (pass_d fun _ _ _ z=>z) (pa_cons (pv 1) (pa_cons (pv 3) pa_nil))))) (by rfl) (by walk_at "o2")))))
   (@pss_one _ _ _ (@ps_ret _ _ _ _ (pv 1))))),?_⟩
 walk_at "kx"
 walk_at "rd"
 rename_i H1 d kvs es S1 fd hd dt pm
 refine .inl ⟨hd,fun ep=>?_⟩
 have kl:=dt.length
 refine for_values (P:=P) (w:=w) (a:=d) (kvs:=kvs) (ep:=ep) (fun i σ' H'=>Iv (∃ (C:Int) (o2 o3:Option V),Same H H'∧SameT H1 H'∧H' d=some (FzD P w d kvs ep)∧0 < C∧C ∣ B∧(∀ e∈es.take i,((Rat.divInt e.2.wt B).den:Int) ∣ C)∧σ' = [some v,some (.int C),o2,o3])) ?_ ?_ ?_ ?_
 ·exact ⟨⟨1,_,_,Same.over S1 fd _,st_dk (SameT.refl _) hd _,upd_same,by decide,Int.one_dvd _,fun e he=>(by rw [List.take_zero] at he; cases he),rfl⟩⟩
 ·rintro i σ' H3 hi ⟨⟨C,o2,o3,S3,st3,hf,_⟩⟩
  exact hf
 ·rintro i k x σ' H3 hk ⟨⟨C,o2,o3,S3,st3,hf,c0,cb,al,rfl⟩⟩
  obtain ⟨⟨q0,s0⟩,he,rfl,te⟩:=dt.get hk
  have te:TV K H1 x (htD B s0):=te
  obtain ⟨p,k,c,r,rfl,hp,hc⟩:=(te.mono st3).hw b0
  have hc:H3 c=some (.tup [.int (Rat.divInt s0.wt B).num,.int ((Rat.divInt s0.wt B).den:Int)]):=hc
  have a1:=at_1 (k:=k) (c:=c) (r:=r)
  have d0:=low_p (t:=s0.wt) (b:=B)
  have db:=den_dvd (w:=s0.wt) b0
  have lo:=lcm_ok c0 d0 b0 cb db
  have zd:Bz 128 ((Rat.divInt s0.wt B).den:Int):=dvd_bz b0 bz db
  have zc:Bz 128 C:=dvd_bz b0 bz cb
  refine ⟨fun σ' H4=>Iv (H4=H3∧σ' = [some v,some (.int C),some (.ref p),some (.int ((Rat.divInt s0.wt B).den:Int))]),?_,?_⟩
  ·refine mid_abs fun _ _ _ => ?_
   walk_at "rd"
   exact ⟨⟨rfl,rfl⟩⟩
  rintro σ' H4 ⟨⟨rfl,rfl⟩⟩
  generalize eD:((Rat.divInt s0.wt B).den:Int)=D at d0 db lo zd
  have zd8:Bz 8000 D:=zd.mono (by decide)
  have cg:=cGe (t:=C) d0 zd8 D
  have nz:D ≠ 0:=by omega
  have zk:Bz 128 (D / M.G C D):=zd.ediv (by have:=M.G_pos C D; omega)
  have mo:=zc.mulOk zk
  walk_at "rd"
  refine ⟨⟨_,_,_,S3,st3,hf,lo.1,lo.2.1,fun e he2=>?_,rfl⟩⟩
  rw [List.take_add_one,he] at he2
  rcases List.mem_append.mp he2 with z | z
  ·exact Int.dvd_trans (al e z) lo.2.2.1
  ·have z:e∈[(q0,s0)]:=z
   rw [List.mem_singleton.mp z]
   show ((Rat.divInt s0.wt B).den:Int) ∣ _
   rw [eD]
   exact lo.2.2.2
 ·rintro σ' H3 ⟨⟨C,o2,o3,S3,st3,hf,c0,cb,al,rfl⟩⟩
  walk_at "rd"
  refine q _ C S3 c0 cb fun e he=>al e ?_
  rw [kl,List.take_length]
  exact pm.mem_iff.mpr he
theorem ok_j40 (T:Tx K mg) : FnOk P w K mg base (CXd P w) (0 + 1) T.f_j4 T.d_j4 ["tree", "bottom"] (sp_lifted K 0):=by
 have sc:=sc_j4
 refine T.F_j4.okd sc (fun vs H Q E h=>?_) (fun cdv A outer s H vs Q E hr h=>?_)
 ·obtain ⟨v,t,B,C,rfl,tv,td,b0,bz,tb,c0,cz,dn,q⟩:=h
  rfl
 obtain ⟨v,t,B,C,rfl,tv,td,b0,bz,tb,c0,cz,dn,q⟩:=h
 have hu:=hr.units0
 have hu2:=hr.units
 have hu1:=Nat.lt_of_le_of_lt (Nat.add_le_add_left (show 1≤64 by decide) _) hu2
 refine ⟨_,(@pss_cons _ _ _ _ _ (@ps_set _ _ 2 _ _ _ _ sc.nd rfl (by walk_at "o1") (@pe_op _ _ _ _ _ _ _ _ op_fdivB (pv 1) (@pe_ix _ _ _ _ _ _ _ ix_tup (@pe_ix _ _ _ _ _ _ _ ix_tup (pv 0) pe_int (fun _ _=>rfl)) pe_int (fun _ _=>rfl))) (by rfl) (by walk_at "o2"))
   (@pss_cons _ _ _ _ _ (@ps_if _ _ _ _ _ _ _ _ (@pt_cmpR _ _ _ _ _ _ _ _ op_eqS (@pe_ix _ _ _ _ _ _ _ ix_tup (pv 0) pe_int (fun _ _=>rfl)) pe_str (nomark _)) (@pss_one _ _ _ ps_never) pss_nil)
   (@pss_one _ _ _ (@ps_ret _ _ _ _ (pe_tup (pa_cons pe_str (pa_cons (@pe_op _ _ _ _ _ _ _ _ op_mulB (@pe_ix _ _ _ _ _ _ _ ix_tup (@pe_ix _ _ _ _ _ _ _ ix_tup (pv 0) pe_int (fun _ _=>rfl)) pe_int (fun _ _=>rfl)) (pv 2)) pa_nil) se_c)))))),?_⟩
 walk_at "kx"
 have wb:=tb.w
 rw [← Tr.wt_w] at wb
 have dn1:=dn.w
 have d0:=low_p (t:=t.wt) (b:=B)
 have zd:Bz 128 ((Rat.divInt t.wt B).den:Int):=dvd_bz b0 bz (den_dvd b0)
 have zn:Bz 128 (Rat.divInt t.wt B).num:=low_n b0 ((bz109 wb.1 wb.2).mono (by decide))
 have cd:CDivB C ((Rat.divInt t.wt B).den:Int):=⟨d0,zd.log2⟩
 have zk:Bz 128 (C / ((Rat.divInt t.wt B).den:Int)):=cz.ediv (Int.le_of_lt d0)
 have mo:=zn.mulOk zk
 have lw:=lift_w b0 dn1
 cases t with
 | en w =>
  obtain ⟨p,c,rfl,hp,hc⟩:=TV.hen tv
  obtain ⟨c,rfl,hc2⟩:=TV.rD b0 hc
  have hc:H c=some (.tup [.int (Rat.divInt (Tr.en w).wt B).num,.int ((Rat.divInt (Tr.en w).wt B).den:Int)]):=hc2
  walk_at "rd"
  rename_i p1 h1
  exact q _ _ (.en _) (same_new h1 _) (TV.en' upd_same) (.en lw)
 | fk w y n=>exact absurd td (by show ¬ max _ _ + 1≤0; omega)
theorem ok_j4S (T:Tx K mg)(d:Nat)(ih:FnOk P w K mg base (CXd P w) (d + 1) T.f_j4 T.d_j4 ["tree", "bottom"] (sp_lifted K d)) : FnOk P w K mg base (CXd P w) (d + 1 + 1) T.f_j4 T.d_j4 ["tree", "bottom"] (sp_lifted K (d + 1)):=by
 have sc:=sc_j4
 refine T.F_j4.okd sc (fun vs H Q E h=>?_) (fun cdv A outer s H vs Q E hr h=>?_)
 ·obtain ⟨v,t,B,C,rfl,tv,td,b0,bz,tb,c0,cz,dn,q⟩:=h
  rfl
 obtain ⟨v,t,B,C,rfl,tv,td,b0,bz,tb,c0,cz,dn,q⟩:=h
 have hu:=hr.units0
 have hu2:=hr.units
 have hu1:=Nat.lt_of_le_of_lt (Nat.add_le_add_left (show 1≤64 by decide) _) hu2
 refine ⟨_,(@pss_cons _ _ _ _ _ (@ps_set _ _ 2 _ _ _ _ sc.nd rfl (by walk_at "o1") (@pe_op _ _ _ _ _ _ _ _ op_fdivB (pv 1) (@pe_ix _ _ _ _ _ _ _ ix_tup (@pe_ix _ _ _ _ _ _ _ ix_tup (pv 0) pe_int (fun _ _=>rfl)) pe_int (fun _ _=>rfl))) (by rfl) (by walk_at "o2"))
   (@pss_cons _ _ _ _ _ (@ps_if _ _ _ _ _ _ _ _ (@pt_cmpR _ _ _ _ _ _ _ _ op_eqS (@pe_ix _ _ _ _ _ _ _ ix_tup (pv 0) pe_int (fun _ _=>rfl)) pe_str (nomark _)) (@pss_one _ _ _ (@ps_ret _ _ _ _ (pe_tup (pa_cons pe_str (pa_cons (@pe_op _ _ _ _ _ _ _ _ op_mulB (@pe_ix _ _ _ _ _ _ _ ix_tup (@pe_ix _ _ _ _ _ _ _ ix_tup (pv 0) pe_int (fun _ _=>rfl)) pe_int (fun _ _=>rfl)) (pv 2)) (pa_cons (pe_call ih (hr.mono (by omega)) rfl T.m_j4 T.F_j4.kp T.b_j4 .nil (pass_d fun _ _ _ z=>z) (pa_cons (@pe_ix _ _ _ _ _ _ _ ix_tup (pv 0) pe_int (fun _ _=>rfl)) (pa_cons (pv 1) pa_nil))) (pa_cons (pe_call ih (hr.mono (by omega)) rfl T.m_j4 T.F_j4.kp T.b_j4 .nil (pass_d fun _ _ _ z=>z) (pa_cons (@pe_ix _ _ _ _ _ _ _ ix_tup (pv 0) pe_int (fun _ _=>rfl)) (pa_cons (pv 1) pa_nil))) pa_nil))) se_c)))) pss_nil)
   (@pss_one _ _ _ (@ps_ret _ _ _ _ (pe_tup (pa_cons pe_str (pa_cons (@pe_op _ _ _ _ _ _ _ _ op_mulB (@pe_ix _ _ _ _ _ _ _ ix_tup (@pe_ix _ _ _ _ _ _ _ ix_tup (pv 0) pe_int (fun _ _=>rfl)) pe_int (fun _ _=>rfl)) (pv 2)) pa_nil) se_c)))))),?_⟩
 walk_at "kx"
 have wb:=tb.w
 rw [← Tr.wt_w] at wb
 have dn1:=dn.w
 have d0:=low_p (t:=t.wt) (b:=B)
 have zd:Bz 128 ((Rat.divInt t.wt B).den:Int):=dvd_bz b0 bz (den_dvd b0)
 have zn:Bz 128 (Rat.divInt t.wt B).num:=low_n b0 ((bz109 wb.1 wb.2).mono (by decide))
 have cd:CDivB C ((Rat.divInt t.wt B).den:Int):=⟨d0,zd.log2⟩
 have zk:Bz 128 (C / ((Rat.divInt t.wt B).den:Int)):=cz.ediv (Int.le_of_lt d0)
 have mo:=zn.mulOk zk
 have lw:=lift_w b0 dn1
 cases t with
 | en w =>
  obtain ⟨p,c,rfl,hp,hc⟩:=TV.hen tv
  obtain ⟨c,rfl,hc2⟩:=TV.rD b0 hc
  have hc:H c=some (.tup [.int (Rat.divInt (Tr.en w).wt B).num,.int ((Rat.divInt (Tr.en w).wt B).den:Int)]):=hc2
  walk_at "rd"
  rename_i p1 h1
  exact q _ _ (.en _) (same_new h1 _) (TV.en' upd_same) (.en lw)
 | fk w y n =>
  obtain ⟨p,c,u1,u2,rfl,hp,hc,t1,t2⟩:=TV.hfk tv
  obtain ⟨c,rfl,hc2⟩:=TV.rD b0 hc
  have hc:H c=some (.tup [.int (Rat.divInt (Tr.fk w y n).wt B).num,.int ((Rat.divInt (Tr.fk w y n).wt B).den:Int)]):=hc2
  have td:max y.dp n.dp + 1≤d + 1:=td
  have dy:y.dp≤d:=by omega
  have dn2:n.dp≤d:=by omega
  have by_:=tb.2.1
  have bn:=tb.2.2
  have ny:=dn.2.1
  have nn:=dn.2.2
  walk_at "rd"
  rename_i H1 x1 t1' S1 tx1 sc1
  have t21:=t2.mono S1.t
  have hp1:=S1 _ _ hp
  walk_at "rd"
  rename_i H2 x2 t2' S2 tx2 sc2 p1 h1
  exact q _ _ (.fk _ t1' t2') ((S1.trans S2).new h1 _) (TV.fk' upd_same ((tx1.mono S2.t).mono (same_new h1 _).t) (tx2.mono (same_new h1 _).t)) (.fk lw sc1 sc2)
theorem ok_j4A (T:Tx K mg) : ∀ d:Nat,FnOk P w K mg base (CXd P w) (d + 1) T.f_j4 T.d_j4 ["tree", "bottom"] (sp_lifted K d):=by
 intro d
 induction d with
 | zero=>exact ok_j40 T
 | succ d ih=>exact ok_j4S T d ih
theorem ok_j4 (T:Tx K mg) : FnOk P w K mg base (CXd P w) (20 + 1) T.f_j4 T.d_j4 ["tree", "bottom"] (sp_lifted K 20):=by exact ok_j4A T 20
theorem ok_q5 (T:Tx K mg) : FnOk P w K mg base (CXd P w) 22 T.f_q5 T.d_q5 ["tree"] (sp_inwhole K):=by
 have sc:=sc_q5
 refine T.F_q5.okd sc (fun vs H Q E h=>?_) (fun cdv A outer s H vs Q E hr h=>?_)
 ·obtain ⟨v,t,B,rfl,tv,lt,b0,bz,tb,q⟩:=h
  rfl
 obtain ⟨v,t,B,rfl,tv,lt,b0,bz,tb,q⟩:=h
 have hu:=hr.units0
 have hu2:=hr.units
 have hu1:=Nat.lt_of_le_of_lt (Nat.add_le_add_left (show 1≤64 by decide) _) hu2
 refine ⟨_,(@pss_one _ _ _ (@ps_ret _ _ _ _ (pe_call (ok_j4 T) (hr.mono (by decide)) rfl T.m_j4 T.F_j4.kp T.b_j4 .nil (pass_d fun _ _ _ z=>z) (pa_cons (pv 0) (pa_cons (pe_call (ok_q8 T) (hr.mono (by decide)) rfl T.m_q8 T.F_q8.kp T.b_q8 .nil (pass_d fun _ _ _ z=>z) (pa_cons (pv 0) pa_nil)) pa_nil))))),?_⟩
 walk_at "kx"
 have ltd:=lt
 obtain ⟨lt,td⟩:=lt
 have lt30:t.lv≤61:=by omega
 walk_at "rd"
 rename_i H1 C S1 c0 cb al
 have tv1:=tv.mono S1.t
 have cz:=dvd_bz b0 bz cb
 have dn:=Dn.of al
 have le:C≤B:=Int.le_of_dvd b0 cb
 walk_at "rd"
 rename_i H2 x t' S2 tx sc
 exact q _ _ t' C (S1.trans S2) tx sc c0 le (sc.B c0 le tb)
theorem ok_qI (T:Tx K mg) : FnOk P w K mg base (CXd P w) 1 T.f_qI T.d_qI ["place", "places"] (sp_beginnings K):=by
 have sc:=sc_qI
 refine T.F_qI.okd sc (fun vs H Q E h=>?_) (fun cdv A outer s H vs Q E hr h=>?_)
 ·obtain ⟨x,a,ps,rfl,ha,hl,q⟩:=h
  rfl
 obtain ⟨x,a,ps,rfl,ha,hl,q⟩:=h
 have hu:=hr.units0
 have hu2:=hr.units
 have hu1:=Nat.lt_of_le_of_lt (Nat.add_le_add_left (show 1≤64 by decide) _) hu2
 refine ⟨_,(@pss_one _ _ _ (@ps_ret _ _ _ _ (pe_lc (ts:=["one"]) (js:=[0]) (LcOk.of rfl) rfl (pi_list (pv 1)) (fun _ _ _ _=>(pg_name (i:=0) (nodup_of rfl) rfl (Or.inl rfl))) (fun _ _ _ _=>(pf_one (pt_val (pe_bm PySem.F.plainAttrs_str PySem.F.slot_str_startswith PySem.F.type_str_startswith mt_startswith (pv 1) (pa_cons (pv 0) pa_nil))))) (fun _ _ _ _=>(pv 0))))),?_⟩
 walk_at "kx"
 have hl2:(ps.map V.str).length=ps.length:=List.length_map _
 walk_at "rd"
 refine lc_list (K:=K) (a:=a) (xs:=ps.map V.str) (fun i ys H'=>Iv (H'=H∧ys=(bgs x (ps.take i)).map V.str)) ⟨⟨rfl,rfl⟩⟩ (fun i ys H' hi z=>⟨SqL.of (by rw [z.o.1]; exact ha),?_⟩) ?_ ?_
 ·rw [z.o.2,List.length_map]
  refine small1000 (Nat.le_trans (List.length_filter_le _ _) ?_)
  rw [List.length_take]
  omega
 ·rintro i v ys H' hi ⟨⟨rfl,rfl⟩⟩
  rw [List.getElem?_map] at hi
  obtain ⟨o,ho,rfl⟩:=Option.map_eq_some_iff.mp hi
  have il:=(List.getElem?_eq_some_iff.mp ho).1
  have ft:=filter_take (p:=fun o=>Txt.startswith x o) ho
  walk_at "rd"
  refine iteB (fun c=>?_) (fun c=>?_)
  ·walk_at "rd"
   refine ⟨⟨rfl,?_⟩⟩
   unfold bgs
   rw [ft,if_pos c,List.map_append]
   rfl
  ·walk_at "rd"
   refine ⟨⟨rfl,?_⟩⟩
   unfold bgs
   rw [ft,if_neg (by rw [c]; decide),List.append_nil]
 ·rintro ys H' ⟨⟨rfl,rfl⟩⟩ p hp
  rw [hl2,List.take_length]
  exact q p hp
theorem ok_qE (T:Tx K mg) : FnOk P w K mg base (CXd P w) 3 T.f_qE T.d_qE ["price"] (sp_check28 T.c_NoPrice):=by
 have sc:=sc_qE
 refine T.F_qE.okd sc (fun vs H Q E h=>?_) (fun cdv A outer s H vs Q E hr h=>?_)
 ·obtain ⟨a,t,b,rfl,h1,z1,z2,q⟩:=h
  rfl
 obtain ⟨a,t,b,rfl,h1,z1,z2,q⟩:=h
 have hu:=hr.units0
 have hu2:=hr.units
 have hu1:=Nat.lt_of_le_of_lt (Nat.add_le_add_left (show 1≤64 by decide) _) hu2
 refine ⟨_,(@pss_one _ _ _ (@ps_if _ _ _ _ _ _ _ _ (pt_val (pe_call (ok_j7 T) (hr.mono (by decide)) rfl T.m_j7 T.F_j7.kp T.b_j7 .nil (pass_d fun _ _ _ z=>z) (pa_cons (pv 0) (pa_cons (pe_tup (pa_cons pe_int (pa_cons pe_int pa_nil))) pa_nil)))) (@pss_one _ _ _ (ps_raiseV (pe_makeN T.n_NoPrice (ok_q1 T) (hr.mono (by decide)) rfl T.b_q1 (pass_d fun _ _ _ z=>z) (pa_cons (pv 0) pa_nil)))) pss_nil)),?_⟩
 walk_at "kx"
 have ob:=T.n_NoPrice.ob
 have y0:Bz 8000 0:=by show (0:Int).natAbs < 2 ^ 8000; exact Nat.two_pow_pos _
 have y1:Bz 8000 1:=Bz.mono (m:=1) (by unfold Bz; decide) (by decide)
 walk_at "rd"
 rename_i p hp
 rcases q with ⟨c,q⟩ | ⟨c,q⟩
 ·refine ite3 (fun e=>absurd e (by omega)) (fun _=>?_)
  walk_at "rd"
  exact q _ (same_new hp _)
 ·refine ite3 (fun _=>?_) (fun e=>absurd e (by omega))
  walk_at "rd"
  rename_i ea hea d hd nde
  have S1:=same_new hp (H:=H) (.tup [.int 0,.int 1])
  have hea0:H ea=none:=S1.free hea
  have hd1:upd (upd (upd H p (.tup [.int 0,.int 1])) ea (exN ea T.c_NoPrice none)) ea (exN ea T.c_NoPrice (some d)) d=none:=by rw [upd_ne nde]; exact hd
  refine ⟨hea0,?_⟩
  refine q _ d ((S1.trans (((same_new hea _).upd hea _).new hd1 _)).off hea0) ?_
  rw [offE_ne nde]
  exact upd_same
theorem ok_q9 (T:Tx K mg) : FnOk P w K mg base (CXd P w) 1 T.f_q9 T.d_q9 ["one", "other"] sp_usum:=by
 have sc:=sc_q9
 refine T.F_q9.okd sc (fun vs H Q E h=>?_) (fun cdv A outer s H vs Q E hr h=>?_)
 ·obtain ⟨a,b,t1,b1,t2,b2,rfl,h1,h2,z1,z2,z3,z4,q⟩:=h
  rfl
 obtain ⟨a,b,t1,b1,t2,b2,rfl,h1,h2,z1,z2,z3,z4,q⟩:=h
 have hu:=hr.units0
 have hu2:=hr.units
 have hu1:=Nat.lt_of_le_of_lt (Nat.add_le_add_left (show 1≤64 by decide) _) hu2
 refine ⟨_,(@pss_one _ _ _ (@ps_ret _ _ _ _ (pe_tup (pa_cons (@pe_op _ _ _ _ _ _ _ _ op_add (@pe_op _ _ _ _ _ _ _ _ op_mulB (@pe_ix _ _ _ _ _ _ _ ix_tup (pv 0) pe_int (fun _ _=>rfl)) (@pe_ix _ _ _ _ _ _ _ ix_tup (pv 1) pe_int (fun _ _=>rfl))) (@pe_op _ _ _ _ _ _ _ _ op_mulB (@pe_ix _ _ _ _ _ _ _ ix_tup (pv 1) pe_int (fun _ _=>rfl)) (@pe_ix _ _ _ _ _ _ _ ix_tup (pv 0) pe_int (fun _ _=>rfl)))) (pa_cons (@pe_op _ _ _ _ _ _ _ _ op_mulB (@pe_ix _ _ _ _ _ _ _ ix_tup (pv 0) pe_int (fun _ _=>rfl)) (@pe_ix _ _ _ _ _ _ _ ix_tup (pv 1) pe_int (fun _ _=>rfl))) pa_nil))))),?_⟩
 walk_at "kx"
 walk_at "rd"
 rename_i p hp
 exact q p hp
theorem ok_q00 (T:Tx K mg) : FnOk P w K mg base (CXd P w) (0 + 2) T.f_q0 T.d_q0 ["tree", "price"] (sp_cwc K 0):=by
 have sc:=sc_q0
 refine T.F_q0.okd sc (fun vs H Q E h=>?_) (fun cdv A outer s H vs Q E hr h=>?_)
 ·obtain ⟨v,t,a,top,low,b,rfl,cv,td,tl,tb,pr,ha,q⟩:=h
  rfl
 obtain ⟨v,t,a,top,low,b,rfl,cv,td,tl,tb,pr,ha,q⟩:=h
 have hu:=hr.units0
 have hu2:=hr.units
 have hu1:=Nat.lt_of_le_of_lt (Nat.add_le_add_left (show 1≤64 by decide) _) hu2
 refine ⟨_,(@pss_cons _ _ _ _ _ (@ps_if _ _ _ _ _ _ _ _ (@pt_cmpR _ _ _ _ _ _ _ _ op_eqS (@pe_ix _ _ _ _ _ _ _ ix_tup (pv 0) pe_int (fun _ _=>rfl)) pe_str (nomark _)) (@pss_one _ _ _ (@ps_ret _ _ _ _ (pe_tup (pa_cons (@pe_lst _ _ _ _ (pa_cons pe_str pa_nil se_c)) (pa_cons (@pe_ix _ _ _ _ _ _ _ ix_tup (pv 0) pe_int (fun _ _=>rfl)) pa_nil))))) pss_nil)
   (@pss_cons _ _ _ _ _ ps_never
   (@pss_cons _ _ _ _ _ ps_never
   (@pss_cons _ _ _ _ _ (@ps_set _ _ 4 _ _ _ _ sc.nd rfl (by walk_at "o1") (@pe_op _ _ _ _ _ _ _ _ op_cat (pe_lc (ts:=["place"]) (js:=[]) (LcOk.of rfl) rfl (pi_list (@pe_ix _ _ _ _ _ _ _ ix_tup (pv 3) pe_int (fun _ _=>rfl))) (fun _ _ _ _=>(pg_name (i:=0) (nodup_of rfl) rfl (Or.inl rfl))) (fun _ _ _ _=>pf_nil) (fun _ _ _ _=>(@pe_op _ _ _ _ _ _ _ _ op_add_str pe_str (pv 0)))) (pe_lc (ts:=["place"]) (js:=[]) (LcOk.of rfl) rfl (pi_list (@pe_ix _ _ _ _ _ _ _ ix_tup (pv 2) pe_int (fun _ _=>rfl))) (fun _ _ _ _=>(pg_name (i:=0) (nodup_of rfl) rfl (Or.inl rfl))) (fun _ _ _ _=>pf_nil) (fun _ _ _ _=>(@pe_op _ _ _ _ _ _ _ _ op_add_str pe_str (pv 0))))) (by rfl) (by walk_at "o2"))
   (@pss_cons _ _ _ _ _ (@ps_set _ _ 5 _ _ _ _ sc.nd rfl (by walk_at "o1") (pe_call (ok_q9 T) (hr.mono (by decide)) rfl T.m_q9 T.F_q9.kp T.b_q9 .nil (pass_d fun _ _ _ z=>z) (pa_cons (@pe_ix _ _ _ _ _ _ _ ix_tup (pv 2) pe_int (fun _ _=>rfl)) (pa_cons (@pe_ix _ _ _ _ _ _ _ ix_tup (pv 3) pe_int (fun _ _=>rfl)) pa_nil))) (by rfl) (by walk_at "o2"))
   (@pss_cons _ _ _ _ _ (@ps_set _ _ 6 _ _ _ _ sc.nd rfl (by walk_at "o1") (pe_tup (pa_cons (@pe_op _ _ _ _ _ _ _ _ op_mulB (@pe_ix _ _ _ _ _ _ _ ix_tup (pv 1) pe_int (fun _ _=>rfl)) (@pe_op _ _ _ _ _ _ _ _ op_sub (pe_callB call_len_seq rfl T.z_len bt_len (pa_cons (pv 4) pa_nil)) pe_int)) (pa_cons (@pe_ix _ _ _ _ _ _ _ ix_tup (pv 1) pe_int (fun _ _=>rfl)) pa_nil))) (by rfl) (by walk_at "o2"))
   (@pss_cons _ _ _ _ _ (@ps_if _ _ _ _ _ _ _ _ (pt_val (pe_call (ok_j7 T) (hr.mono (by decide)) rfl T.m_j7 T.F_j7.kp T.b_j7 .nil (pass_d fun _ _ _ z=>z) (pa_cons (pe_call (ok_q9 T) (hr.mono (by decide)) rfl T.m_q9 T.F_q9.kp T.b_q9 .nil (pass_d fun _ _ _ z=>z) (pa_cons (pv 5) (pa_cons (pv 6) pa_nil))) (pa_cons (@pe_ix _ _ _ _ _ _ _ ix_tup (pv 0) pe_int (fun _ _=>rfl)) pa_nil)))) (@pss_one _ _ _ (@ps_ret _ _ _ _ (pe_tup (pa_cons (pv 4) (pa_cons (pv 5) pa_nil))))) pss_nil)
   (@pss_one _ _ _ (@ps_ret _ _ _ _ (pe_tup (pa_cons (@pe_lst _ _ _ _ (pa_cons pe_str pa_nil se_c)) (pa_cons (@pe_ix _ _ _ _ _ _ _ ix_tup (pv 0) pe_int (fun _ _=>rfl)) pa_nil)))))))))))),?_⟩
 walk_at "kx"
 cases t with
 | en w =>
  cases cv with
  | en h1 h2 =>
   walk_at "rd"
   rename_i l hl p hp
   exact q _ _ _ _ _ _ ((same_new hl _).new hp _) upd_same (kp upd_same hp) (kp (kp h2 hl) hp) (Cost29.stop pr.b0 pr.b1 tb rfl)
 | fk w y n=>exact absurd td (by show ¬ max _ _ + 1≤0; omega)
theorem ok_q0S (T:Tx K mg)(d:Nat)(ih:FnOk P w K mg base (CXd P w) (d + 2) T.f_q0 T.d_q0 ["tree", "price"] (sp_cwc K d)) : FnOk P w K mg base (CXd P w) (d + 1 + 2) T.f_q0 T.d_q0 ["tree", "price"] (sp_cwc K (d + 1)):=by
 have sc:=sc_q0
 refine T.F_q0.okd sc (fun vs H Q E h=>?_) (fun cdv A outer s H vs Q E hr h=>?_)
 ·obtain ⟨v,t,a,top,low,b,rfl,cv,td,tl,tb,pr,ha,q⟩:=h
  rfl
 obtain ⟨v,t,a,top,low,b,rfl,cv,td,tl,tb,pr,ha,q⟩:=h
 have hu:=hr.units0
 have hu2:=hr.units
 have hu1:=Nat.lt_of_le_of_lt (Nat.add_le_add_left (show 1≤64 by decide) _) hu2
 refine ⟨_,(@pss_cons _ _ _ _ _ (@ps_if _ _ _ _ _ _ _ _ (@pt_cmpR _ _ _ _ _ _ _ _ op_eqS (@pe_ix _ _ _ _ _ _ _ ix_tup (pv 0) pe_int (fun _ _=>rfl)) pe_str (nomark _)) (@pss_one _ _ _ (@ps_ret _ _ _ _ (pe_tup (pa_cons (@pe_lst _ _ _ _ (pa_cons pe_str pa_nil se_c)) (pa_cons (@pe_ix _ _ _ _ _ _ _ ix_tup (pv 0) pe_int (fun _ _=>rfl)) pa_nil))))) pss_nil)
   (@pss_cons _ _ _ _ _ (@ps_set _ _ 2 _ _ _ _ sc.nd rfl (by walk_at "o1") (pe_call ih (hr.mono (by omega)) rfl T.m_q0 T.F_q0.kp T.b_q0 .nil (pass_d fun _ _ _ z=>z) (pa_cons (@pe_ix _ _ _ _ _ _ _ ix_tup (pv 0) pe_int (fun _ _=>rfl)) (pa_cons (pv 1) pa_nil))) (by rfl) (by walk_at "o2"))
   (@pss_cons _ _ _ _ _ (@ps_set _ _ 3 _ _ _ _ sc.nd rfl (by walk_at "o1") (pe_call ih (hr.mono (by omega)) rfl T.m_q0 T.F_q0.kp T.b_q0 .nil (pass_d fun _ _ _ z=>z) (pa_cons (@pe_ix _ _ _ _ _ _ _ ix_tup (pv 0) pe_int (fun _ _=>rfl)) (pa_cons (pv 1) pa_nil))) (by rfl) (by walk_at "o2"))
   (@pss_cons _ _ _ _ _ (@ps_set _ _ 4 _ _ _ _ sc.nd rfl (by walk_at "o1") (@pe_op _ _ _ _ _ _ _ _ op_cat (pe_lc (ts:=["place"]) (js:=[]) (LcOk.of rfl) rfl (pi_list (@pe_ix _ _ _ _ _ _ _ ix_tup (pv 3) pe_int (fun _ _=>rfl))) (fun _ _ _ _=>(pg_name (i:=0) (nodup_of rfl) rfl (Or.inl rfl))) (fun _ _ _ _=>pf_nil) (fun _ _ _ _=>(@pe_op _ _ _ _ _ _ _ _ op_add_str pe_str (pv 0)))) (pe_lc (ts:=["place"]) (js:=[]) (LcOk.of rfl) rfl (pi_list (@pe_ix _ _ _ _ _ _ _ ix_tup (pv 2) pe_int (fun _ _=>rfl))) (fun _ _ _ _=>(pg_name (i:=0) (nodup_of rfl) rfl (Or.inl rfl))) (fun _ _ _ _=>pf_nil) (fun _ _ _ _=>(@pe_op _ _ _ _ _ _ _ _ op_add_str pe_str (pv 0))))) (by rfl) (by walk_at "o2"))
   (@pss_cons _ _ _ _ _ (@ps_set _ _ 5 _ _ _ _ sc.nd rfl (by walk_at "o1") (pe_call (ok_q9 T) (hr.mono (by omega)) rfl T.m_q9 T.F_q9.kp T.b_q9 .nil (pass_d fun _ _ _ z=>z) (pa_cons (@pe_ix _ _ _ _ _ _ _ ix_tup (pv 2) pe_int (fun _ _=>rfl)) (pa_cons (@pe_ix _ _ _ _ _ _ _ ix_tup (pv 3) pe_int (fun _ _=>rfl)) pa_nil))) (by rfl) (by walk_at "o2"))
   (@pss_cons _ _ _ _ _ (@ps_set _ _ 6 _ _ _ _ sc.nd rfl (by walk_at "o1") (pe_tup (pa_cons (@pe_op _ _ _ _ _ _ _ _ op_mulB (@pe_ix _ _ _ _ _ _ _ ix_tup (pv 1) pe_int (fun _ _=>rfl)) (@pe_op _ _ _ _ _ _ _ _ op_sub (pe_callB call_len_seq rfl T.z_len bt_len (pa_cons (pv 4) pa_nil)) pe_int)) (pa_cons (@pe_ix _ _ _ _ _ _ _ ix_tup (pv 1) pe_int (fun _ _=>rfl)) pa_nil))) (by rfl) (by walk_at "o2"))
   (@pss_cons _ _ _ _ _ (@ps_if _ _ _ _ _ _ _ _ (pt_val (pe_call (ok_j7 T) (hr.mono (by omega)) rfl T.m_j7 T.F_j7.kp T.b_j7 .nil (pass_d fun _ _ _ z=>z) (pa_cons (pe_call (ok_q9 T) (hr.mono (by omega)) rfl T.m_q9 T.F_q9.kp T.b_q9 .nil (pass_d fun _ _ _ z=>z) (pa_cons (pv 5) (pa_cons (pv 6) pa_nil))) (pa_cons (@pe_ix _ _ _ _ _ _ _ ix_tup (pv 0) pe_int (fun _ _=>rfl)) pa_nil)))) (@pss_one _ _ _ (@ps_ret _ _ _ _ (pe_tup (pa_cons (pv 4) (pa_cons (pv 5) pa_nil))))) pss_nil)
   (@pss_one _ _ _ (@ps_ret _ _ _ _ (pe_tup (pa_cons (@pe_lst _ _ _ _ (pa_cons pe_str pa_nil se_c)) (pa_cons (@pe_ix _ _ _ _ _ _ _ ix_tup (pv 0) pe_int (fun _ _=>rfl)) pa_nil)))))))))))),?_⟩
 walk_at "kx"
 cases t with
 | en w =>
  cases cv with
  | en h1 h2 =>
   walk_at "rd"
   rename_i l hl p hp
   exact q _ _ _ _ _ _ ((same_new hl _).new hp _) upd_same (kp upd_same hp) (kp (kp h2 hl) hp) (Cost29.stop pr.b0 pr.b1 tb rfl)
 | fk w y n =>
  cases cv with
  | fk h1 h2 c1 c2 =>
   rename_i p0 r0 v1 v2
   have dd:max y.dp n.dp + 1≤d + 1:=td
   have ll:y.lv + n.lv≤61:=tl
   obtain ⟨wb,by_,bn⟩:=tb
   have ey:("y" : Str).length=1:=by decide +kernel
   have en:("n" : Str).length=1:=by decide +kernel
   have bl1:=best_len low (top * b) y ""
   have bl2:=best_len low (top * b) n ""
   have dy:=y.dp_lt
   have dn:=n.dp_lt
   walk_at "rd"
   rename_i H1 p1 l1 r1 t1 b1 S1 hp1 hl1 hr1 k1
   have c21:=c2.same S1
   have ha1:=S1 _ _ ha
   walk_at "rd"
   rename_i H2 p2 l2 r2 t2 b2 S2 hp2 hl2 hr2 k2 cA sA hA fA
   have ha2:=S2 _ _ ha1
   have hl12:=S2 _ _ hl1
   have hp12:=S2 _ _ hp1
   have hr12:=S2 _ _ hr1
   have h12:=S2 _ _ (S1 _ _ h1)
   have h22:=S2 _ _ (S1 _ _ h2)
   have S12:=S1.trans S2
   refine lc_list (K:=K) (a:=l2) (xs:=(best low (top * b) n "").1.map V.str) (fun i ys H'=>Iv (H'=H2∧ys=(((best low (top * b) n "").1.take i).map fun x=>("n" : Str) ++ x).map V.str)) ⟨⟨rfl,rfl⟩⟩ (fun j ys H' hj z=>⟨by rw [z.o.1]; exact SqL.of hl2,by rw [z.o.2,List.length_map,List.length_map,List.length_take]; exact small1000 (by omega)⟩) ?_ ?_
   ·rintro i x ys H' hi ⟨⟨rfl,rfl⟩⟩
    have il:i + 1≤((best low (top * b) n "").1.map V.str).length:=(List.getElem?_eq_some_iff.mp hi).1
    rw [List.getElem?_map] at hi
    obtain ⟨o,ho,rfl⟩:=Option.map_eq_some_iff.mp hi
    have lo:=best_wd low (top * b) n o (List.mem_of_getElem? ho)
    have lz:("n" : Str).length + o.length≤sizeLine:=szB (by omega)
    walk_at "rd"
    refine ⟨⟨rfl,?_⟩⟩
    rw [List.take_add_one,ho,List.map_append,List.map_append]
    rfl
   rintro ys H' ⟨⟨rfl,rfl⟩⟩ q1 hq1
   rw [List.length_map,List.take_length]
   obtain ⟨H3,eH⟩ : ∃ H3,H3=upd H' q1 (.lst ((((best low (top * b) n "").1).map fun x=>("n" : Str) ++ x).map V.str)):=⟨_,rfl⟩
   rw [← eH]
   have S3:Same H' H3:=by rw [eH]; exact same_new hq1 _
   have hq1':H3 q1=some (.lst ((((best low (top * b) n "").1).map fun x=>("n" : Str) ++ x).map V.str)):=by rw [eH]; exact upd_same
   clear eH
   have hl13:=S3 _ _ hl12
   have ha3:=S3 _ _ ha2
   have hp13:=S3 _ _ hp12
   have hr13:=S3 _ _ hr12
   have hr23:=S3 _ _ hr2
   have hp23:=S3 _ _ hp2
   have h13:=S3 _ _ h12
   have h23:=S3 _ _ h22
   have S13:=S12.trans S3
   clear ha1 ha2 hl12 hp12 hr12 h12 h22 hp2 hr2 c21 hl2 S12 S1 S2 hp1 hl1 hr1 h1 h2 c1 c2 hq1
   walk_at "rd"
   rename_i cB sB hB fB
   refine lc_list (K:=K) (a:=l1) (xs:=(best low (top * b) y "").1.map V.str) (fun i ys H'=>Iv (H'=H3∧ys=(((best low (top * b) y "").1.take i).map fun x=>("y" : Str) ++ x).map V.str)) ⟨⟨rfl,rfl⟩⟩ (fun j ys H' hj z=>⟨by rw [z.o.1]; exact SqL.of hl13,by rw [z.o.2,List.length_map,List.length_map,List.length_take]; exact small1000 (by omega)⟩) ?_ ?_
   ·rintro i x ys H' hi ⟨⟨rfl,rfl⟩⟩
    have il:i + 1≤((best low (top * b) y "").1.map V.str).length:=(List.getElem?_eq_some_iff.mp hi).1
    rw [List.getElem?_map] at hi
    obtain ⟨o,ho,rfl⟩:=Option.map_eq_some_iff.mp hi
    have lo:=best_wd low (top * b) y o (List.mem_of_getElem? ho)
    have lz:("y" : Str).length + o.length≤sizeLine:=szB (by omega)
    walk_at "rd"
    refine ⟨⟨rfl,?_⟩⟩
    rw [List.take_add_one,ho,List.map_append,List.map_append]
    rfl
   rintro ys H' ⟨⟨rfl,rfl⟩⟩ q2 hq2
   rw [List.length_map,List.take_length]
   obtain ⟨H4,eH⟩ : ∃ H4,H4=upd H' q2 (.lst ((((best low (top * b) y "").1).map fun x=>("y" : Str) ++ x).map V.str)):=⟨_,rfl⟩
   rw [← eH]
   have S4:Same H' H4:=by rw [eH]; exact same_new hq2 _
   have hq2':H4 q2=some (.lst ((((best low (top * b) y "").1).map fun x=>("y" : Str) ++ x).map V.str)):=by rw [eH]; exact upd_same
   clear eH
   have hq1':=S4 _ _ hq1'
   have ha3:=S4 _ _ ha3
   have hp13:=S4 _ _ hp13
   have hr13:=S4 _ _ hr13
   have hr23:=S4 _ _ hr23
   have hp23:=S4 _ _ hp23
   have h13:=S4 _ _ h13
   have h23:=S4 _ _ h23
   have S14:=S13.trans S4
   have zt1:Bz 8000 t1:=k1.zt.mono (by omega)
   have zb1:Bz 8000 b1:=k1.zb.mono (by omega)
   have zt2:Bz 8000 t2:=k2.zt.mono (by omega)
   have zb2:Bz 8000 b2:=k2.zb.mono (by omega)
   clear S4 S13 S3 hq2
   have bf:=best_fk low (top * b) w y n
   have zpn:Bz 109 (Rat.divInt top low).num:=low_n (by have:=pr.l0; omega) (bz109 (by have:=pr.t0; omega) (by have:=pr.t1; omega))
   have zpd:Bz 109 ((Rat.divInt top low).den:Int):=low_d (by have:=pr.l0; omega) (bz109 (by have:=pr.l0; omega) (by have:=pr.l1; omega))
   have zwn:Bz 8000 (Rat.divInt w b).num:=(low_n (by have:=pr.b0; omega) (bz109 wb.1 wb.2)).mono (by decide)
   have zwd:Bz 8000 ((Rat.divInt w b).den:Int):=(low_d (by have:=pr.b0; omega) (bz109 (by have:=pr.b0; omega) (by have:=pr.b1; omega))).mono (by decide)
   have zpd8:Bz 8000 ((Rat.divInt top low).den:Int):=zpd.mono (by decide)
   have zs1:Bz 6800 (t1 * b2 + t2 * b1):=((k1.zt.mul k2.zb).add' (k2.zt.mul k1.zb)).mono (by omega)
   have zs2:Bz 6800 (b1 * b2):=(k1.zb.mul k2.zb).mono (by omega)
   have zs18:Bz 8000 (t1 * b2 + t2 * b1):=zs1.mono (by decide)
   have zs28:Bz 8000 (b1 * b2):=zs2.mono (by decide)
   refine ⟨_,_,_,_,rfl,rfl,hq1',hq2',szB (by rw [List.length_map,List.length_map,List.length_map,List.length_map]; omega),?_⟩
   intro q3 hq3
   rw [← List.map_append]
   have lP:((best low (top * b) n "").1.map (fun x=>("n" : Str) ++ x) ++ (best low (top * b) y "").1.map (fun x=>("y" : Str) ++ x)).length=(best low (top * b) n "").1.length + (best low (top * b) y "").1.length:=by rw [List.length_append,List.length_map,List.length_map]
   clear hq1' hq2'
   generalize (best low (top * b) n "").1.map (fun x=>("n" : Str) ++ x) ++ (best low (top * b) y "").1.map (fun x=>("y" : Str) ++ x)=pl at *
   have lm:(pl.map V.str).length=pl.length:=List.length_map _
   have lq:pl.length≤61:=by omega
   have zl:Bz 109 ((((pl.map V.str).length:Nat) : Int) - 1):=bz109 (by omega) (by omega)
   have zsp:Bz 218 ((Rat.divInt top low).num * ((((pl.map V.str).length:Nat) : Int) - 1)):=zpn.mul zl
   have zsp8:Bz 8000 ((Rat.divInt top low).num * ((((pl.map V.str).length:Nat) : Int) - 1)):=zsp.mono (by decide)
   have msp:IntMulOk (Rat.divInt top low).num ((((pl.map V.str).length:Nat) : Int) - 1):=zpn.mulOk zl
   have zu1:Bz 8000 ((t1 * b2 + t2 * b1) * ((Rat.divInt top low).den:Int) + (Rat.divInt top low).num * ((((pl.map V.str).length:Nat) : Int) - 1) * (b1 * b2)):=((zs1.mul zpd).add' (zsp.mul zs2)).mono (by decide)
   have zu2:Bz 8000 (b1 * b2 * ((Rat.divInt top low).den:Int)):=(zs2.mul zpd).mono (by decide)
   walk_at "rd"
   rename_i q4 hq4 q5 hq5 q6 hq6
   have l0:0 < low:=by have:=pr.l0; omega
   have b0:0 < b:=by have:=pr.b0; omega
   have lt:=cost_lt (l:=(((pl.map V.str).length:Nat) : Int)) (cost_sum k1.e k2.e) (low_eq (t:=top) l0) (low_eq (t:=w) b0) (Int.mul_pos k1.p k2.p) low_p low_p b0 l0
   have el:(((pl.map V.str).length:Nat) : Int)=((best low (top * b) n "").1.length:Int) + ((best low (top * b) y "").1.length:Int):=by omega
   rw [el] at lt
   rw [← el] at lt
   rw [← el] at bf
   clear zu1 zu2 msp zsp8 zsp zl zs28 zs18 zs1 zs2 zpn zpd zwn zwd zpd8 zt1 zt2 zb1 zb2
   refine ite3 (fun c=>?_) (fun c=>?_)
   ·have e:=bf.trans (if_pos (lt.mp c))
    have kc:=Cost29.go (w:=w) k1 k2 (by rw [e])
    rw [e] at q
    walk_at "rd"
    rename_i q7 hq7
    exact q _ _ _ _ _ _ (((((S14.new hq3 _).new hq4 _).new hq5 _).new hq6 _).new hq7 _) upd_same (kp (kp (kp (kp upd_same hq4) hq5) hq6) hq7) (kp (kp (kp upd_same hq5) hq6) hq7) kc
   ·have e:=bf.trans (if_neg (fun z=>c (lt.mpr z)))
    have kc:=Cost29.stop (low:=low) (c:=top * b) (b:=b) (t:=.fk w y n) pr.b0 pr.b1 ⟨wb,by_,bn⟩ (by rw [e]; rfl)
    rw [e] at q
    walk_at "rd"
    rename_i q7 hq7 q8 hq8
    exact q _ _ _ _ _ _ ((((((S14.new hq3 _).new hq4 _).new hq5 _).new hq6 _).new hq7 _).new hq8 _) upd_same (kp upd_same hq8) (kp (kp (kp (kp (kp (kp h23 hq3) hq4) hq5) hq6) hq7) hq8) kc
theorem ok_q0A (T:Tx K mg) : ∀ d:Nat,FnOk P w K mg base (CXd P w) (d + 2) T.f_q0 T.d_q0 ["tree", "price"] (sp_cwc K d):=by
 intro d
 induction d with
 | zero=>exact ok_q00 T
 | succ d ih=>exact ok_q0S T d ih
theorem ok_q0 (T:Tx K mg) : FnOk P w K mg base (CXd P w) (20 + 2) T.f_q0 T.d_q0 ["tree", "price"] (sp_cwc K 20):=by exact ok_q0A T 20
theorem ok_qY (T:Tx K mg) : FnOk P w K mg base (CXd P w) 23 T.f_qY T.d_qY ["tree", "price"] (sp_cheap28 T.c_NoPrice K):=by
 have sc:=sc_qY
 refine T.F_qY.okd sc (fun vs H Q E h=>?_) (fun cdv A outer s H vs Q E hr h=>?_)
 ·obtain ⟨v,t,a,top,low,b,rfl,cv,td,tl,tb,ha,q⟩:=h
  rfl
 obtain ⟨v,t,a,top,low,b,rfl,cv,td,tl,tb,ha,q⟩:=h
 have hu:=hr.units0
 have hu2:=hr.units
 have hu1:=Nat.lt_of_le_of_lt (Nat.add_le_add_left (show 1≤64 by decide) _) hu2
 refine ⟨_,(@pss_cons _ _ _ _ _ (ps_expr (pe_call (ok_qE T) (hr.mono (by decide)) rfl T.m_qE T.F_qE.kp T.b_qE .nil (pass_d fun _ _ _ z=>z) (pa_cons (pv 1) pa_nil)))
   (@pss_one _ _ _ (@ps_ret _ _ _ _ (@pe_ix _ _ _ _ _ _ _ ix_tup (pe_call (ok_q0 T) (hr.mono (by decide)) rfl T.m_q0 T.F_q0.kp T.b_q0 .nil (pass_d fun _ _ _ z=>z) (pa_cons (pv 0) (pa_cons (pv 1) pa_nil))) pe_int (fun _ _=>rfl))))),?_⟩
 walk_at "kx"
 rcases q with ⟨pr,q⟩ | ⟨c,c1,l1,l2,q⟩
 ·have l0:0 < low:=by have:=pr.l0; omega
  have p0:=low_0 l0 pr.t0
  have z1:Bz 8000 (Rat.divInt top low).num:=(low_n l0 (bz109 (by have:=pr.t0; omega) (by have:=pr.t1; omega))).mono (by decide)
  have z2:Bz 8000 ((Rat.divInt top low).den:Int):=(low_d l0 (bz109 (by have:=pr.l0; omega) (by have:=pr.l1; omega))).mono (by decide)
  walk_at "rd"
  refine .inl ⟨p0,fun H1 S1=>?_⟩
  have cv1:=cv.same S1
  have ha1:=S1 _ _ ha
  walk_at "rd"
  rename_i H2 p l r ct cb S2 hp hl hr k
  exact q _ _ (S1.trans S2) hl
 ·have l0:0 < low:=by omega
  have z1:Bz 8000 (Rat.divInt top low).num:=(low_n l0 (bz109 (by omega) (by omega))).mono (by decide)
  have z2:Bz 8000 ((Rat.divInt top low).den:Int):=(low_d l0 (bz109 (by omega) (by omega))).mono (by decide)
  have p0:(Rat.divInt top low).num < 0:=by
   have e:=low_eq (t:=top) l0
   have d:=low_p (t:=top) (b:=low)
   rcases Int.lt_or_le (Rat.divInt top low).num 0 with z | z
   ·exact z
   ·exfalso
    have h1:=Int.mul_nonneg z (Int.le_of_lt l0)
    have h2:top * ((Rat.divInt top low).den:Int) < 0:=Int.mul_neg_of_neg_of_pos c d
    omega
  walk_at "rd"
  exact .inr ⟨p0,q⟩
theorem ok_qB (T:Tx K mg) : FnOk P w K mg base (CXd P w) 4 T.f_qB T.d_qB ["tree", "places"] (sp_finside K):=by
 have sc:=sc_qB
 refine T.F_qB.okd sc (fun vs H Q E h=>?_) (fun cdv A outer s H vs Q E hr h=>?_)
 ·obtain ⟨v,t,B,a,ps,rfl,tv,lt,ha,pl,q⟩:=h
  rfl
 obtain ⟨v,t,B,a,ps,rfl,tv,lt,ha,pl,q⟩:=h
 have hu:=hr.units0
 have hu2:=hr.units
 have hu1:=Nat.lt_of_le_of_lt (Nat.add_le_add_left (show 1≤64 by decide) _) hu2
 refine ⟨_,(@pss_one _ _ _ (@ps_ret _ _ _ _ (pe_lc (ts:=["place"]) (js:=[1]) (LcOk.of rfl) rfl (pi_list (pe_call (ok_j8 T) (hr.mono (by decide)) rfl T.m_j8 T.F_j8.kp T.b_j8 .nil (pass_d fun _ _ _ z=>z) (pa_cons (pv 0) pa_nil))) (fun _ _ _ _=>(pg_name (i:=0) (nodup_of rfl) rfl (Or.inl rfl))) (fun _ _ _ _=>(pf_one (@pt_cmpR _ _ _ _ _ _ _ _ op_eqI (pe_callB call_len_seq rfl T.z_len bt_len (pa_cons (pe_call (ok_qI T) (hr.mono (by decide)) rfl T.m_qI T.F_qI.kp T.b_qI .nil passNd (pa_cons (pv 0) (pa_cons (pv 1) pa_nil))) pa_nil)) pe_int (nomark _)))) (fun _ _ _ _=>(pv 0))))),?_⟩
 walk_at "kx"
 have pl2:ps.length≤100:=by omega
 walk_at "rd"
 rename_i H1 p1 ws S1 fp hp1 pm so cA sA hA fA
 have ha1:=S1 _ _ ha
 have wl:ws.length≤61:=by
  have:=pm.length_eq
  have:=plK_len t (Str.ofString "fork")
  omega
 refine lc_list (K:=K) (a:=p1) (xs:=ws.map V.str) (fun i ys H'=>Iv (Same H1 H'∧ys=((ws.take i).filter fun x=>decide ((bgs x ps).length=0)).map V.str)) ⟨⟨Same.refl _,rfl⟩⟩ (fun i ys H' hi z=>⟨SqL.of (z.o.1 _ _ hp1),?_⟩) ?_ ?_
 ·rw [z.o.2,List.length_map]
  refine small1000 (Nat.le_trans (List.length_filter_le _ _) ?_)
  rw [List.length_take]
  omega
 ·rintro i x ys H' hi ⟨⟨S2,rfl⟩⟩
  have il:=(List.getElem?_eq_some_iff.mp hi).1
  rw [List.getElem?_map] at hi
  obtain ⟨x,hx,rfl⟩:=Option.map_eq_some_iff.mp hi
  have ft:=filter_take (p:=fun x:Str=>decide ((bgs x ps).length=0)) hx
  have ha2:=S2 _ _ ha1
  walk_at "rd"
  rename_i p5 hp5
  have el:(((bgs x ps).map V.str).length:Int)=((bgs x ps).length:Int):=by rw [List.length_map]
  rw [el]
  refine ite3 (fun e=>?_) (fun e=>?_)
  ·walk_at "rd"
   refine ⟨⟨S2.new hp5 _,?_⟩⟩
   rw [ft,if_pos (decide_eq_true (by omega)),List.map_append]
   rfl
  ·walk_at "rd"
   refine ⟨⟨S2.new hp5 _,?_⟩⟩
   rw [ft,if_neg (by rw [decide_eq_false (by omega)]; exact Bool.false_ne_true),List.append_nil]
 ·rintro ys H' ⟨⟨S2,rfl⟩⟩ z hz
  rw [List.length_map,List.take_length]
  refine q _ _ _ ((S1.trans S2).new hz _) ((S1.trans S2).free hz) upd_same ?_ ?_
  ·exact pm.filter _
  ·exact pw_sorted_le (sorted_pw so)
theorem ok_qJ (T:Tx K mg) : FnOk P w K mg base (CXd P w) 2 T.f_qJ T.d_qJ ["one", "many"] sp_shared:=by
 have sc:=sc_qJ
 refine T.F_qJ.okd sc (fun vs H Q E h=>?_) (fun cdv A outer s H vs Q E hr h=>?_)
 ·obtain ⟨a,r,m,rfl,ha,m0,m1,rz,q⟩:=h
  rfl
 obtain ⟨a,r,m,rfl,ha,m0,m1,rz,q⟩:=h
 have hu:=hr.units0
 have hu2:=hr.units
 have hu1:=Nat.lt_of_le_of_lt (Nat.add_le_add_left (show 1≤64 by decide) _) hu2
 refine ⟨_,(@pss_cons _ _ _ _ _ (@ps_set _ _ 2 _ _ _ _ sc.nd rfl (by walk_at "o1") (pe_call (ok_q2 T) (hr.mono (by decide)) rfl T.m_q2 T.F_q2.kp T.b_q2 .nil (pass_d fun _ _ _ z=>z) (pa_cons (@pe_ix _ _ _ _ _ _ _ ix_tup (pv 0) pe_int (fun _ _=>rfl)) (pa_cons (pv 1) pa_nil))) (by rfl) (by walk_at "o2"))
   (@pss_one _ _ _ (@ps_ret _ _ _ _ (pe_tup (pa_cons (@pe_op _ _ _ _ _ _ _ _ op_fdivB (@pe_ix _ _ _ _ _ _ _ ix_tup (pv 0) pe_int (fun _ _=>rfl)) (pv 2)) (pa_cons (@pe_op _ _ _ _ _ _ _ _ op_mulB (@pe_ix _ _ _ _ _ _ _ ix_tup (pv 0) pe_int (fun _ _=>rfl)) (@pe_op _ _ _ _ _ _ _ _ op_fdivB (pv 1) (pv 2))) pa_nil)))))),?_⟩
 walk_at "kx"
 have z1:=rz.zn
 have z2:=rz.zd
 have h1:H a=some (.tup [.int r.num,.int (r.den:Int)]):=ha
 have mz:Bz 8000 m:=Bz.mono (m:=128) (Bz.w (by omega) (by omega)) (by decide)
 have c1:=cGe (t:=r.num) m0 mz r.num
 have c2:=cGe (t:=r.num) m0 mz m
 have gp:=M.G_pos r.num m
 have zk:Bz 128 (m / M.G r.num m):=(Bz.w (by omega) (by omega) : Bz 128 m).ediv (Int.le_of_lt gp)
 have m3:=z2.mulOk zk
 have lo:=shared_low (r:=r) m0
 walk_at "rd"
 rename_i p hp
 show Q (.ref p) (upd H p (.tup [.int (r.num / M.G r.num m),.int ((r.den:Int) * (m / M.G r.num m))]))
 rw [lo.1,lo.2]
 exact q _ hp
theorem ok_qF (T:Tx K mg) : FnOk P w K mg base (CXd P w) 4 T.f_qF T.d_qF ["tree", "places", "fork"] (sp_linki K):=by
 have sc:=sc_qF
 refine T.F_qF.okd sc (fun vs H Q E h=>?_) (fun cdv A outer s H vs Q E hr h=>?_)
 ·obtain ⟨v,t,B,a,ps,f,rfl,tv,lt,ha,pl,pk,fk,b0,bz,tb,u2,q⟩:=h
  rfl
 obtain ⟨v,t,B,a,ps,f,rfl,tv,lt,ha,pl,pk,fk,b0,bz,tb,u2,q⟩:=h
 have hu:=hr.units0
 have hu2:=hr.units
 have hu1:=Nat.lt_of_le_of_lt (Nat.add_le_add_left (show 1≤64 by decide) _) hu2
 refine ⟨_,(@pss_cons _ _ _ _ _ (@ps_mid _ _ _ (@ps_set _ _ 3 _ _ _ _ sc.nd rfl (by walk_at "o1") (pe_call (ok_q4 T) (hr.mono (by decide)) rfl T.m_q4 T.F_q4.kp T.b_q4 .nil (pass_d fun _ _ _ z=>z) (pa_cons (pv 0) pa_nil)) (by rfl) (by walk_at "o2")))
   (@pss_cons _ _ _ _ _ (@ps_mid _ _ _ (by first | exact ps_setLC (i:=4) sc.nd rfl (by walk_at "o1") (ts:=["place"]) (js:=[2]) (LcOk.of rfl) rfl (pi_list (pv 1)) (fun _ _ _ _=>(pg_name (i:=0) (nodup_of rfl) rfl (Or.inl rfl))) (fun _ _ _ _=>(pf_one (pt_val (pe_bm PySem.F.plainAttrs_str PySem.F.slot_str_startswith PySem.F.type_str_startswith mt_startswith (pv 0) (pa_cons (pv 1) pa_nil))))) (fun _ _ _ _=>(pv 0)) | exact ps_set (i:=4) sc.nd rfl (by walk_at "o1") (pe_lc (ts:=["place"]) (js:=[2]) (LcOk.of rfl) rfl (pi_list (pv 1)) (fun _ _ _ _=>(pg_name (i:=0) (nodup_of rfl) rfl (Or.inl rfl))) (fun _ _ _ _=>(pf_one (pt_val (pe_bm PySem.F.plainAttrs_str PySem.F.slot_str_startswith PySem.F.type_str_startswith mt_startswith (pv 0) (pa_cons (pv 1) pa_nil))))) (fun _ _ _ _=>(pv 0)))))
   (@pss_cons _ _ _ _ _ (@ps_mid _ _ _ (@ps_set _ _ 5 _ _ _ _ sc.nd rfl (by walk_at "o1") (@pe_ix _ _ _ _ _ _ _ ix_tup (pe_dget hu1 (pv 3) (pv 2) (fun _ _=>rfl)) pe_int (fun _ _=>rfl)) (by rfl) (by walk_at "o2")))
   (@pss_cons _ _ _ _ _ (@ps_mid _ _ _ (ps_for powd rfl (pi_list (pv 4)) (pg_name (i:=6) sc.nd rfl (by walk_at "o1"))
   (@pss_one _ _ _ (@ps_set _ _ 5 _ _ _ _ sc.nd rfl (by walk_at "o1") (pe_call (ok_j6 T) (hr.mono (by decide)) rfl T.m_j6 T.F_j6.kp T.b_j6 .nil (pass_d fun _ _ _ z=>z) (pa_cons (pv 5) (pa_cons (@pe_ix _ _ _ _ _ _ _ ix_tup (pe_dget hu1 (pv 3) (pv 6) (fun _ _=>rfl)) pe_int (fun _ _=>rfl)) pa_nil))) (by rfl) (by walk_at "o2")))))
   (@pss_one _ _ _ (@ps_ret _ _ _ _ (pe_call (ok_qJ T) (hr.mono (by decide)) rfl T.m_qJ T.F_qJ.kp T.b_qJ .nil (pass_d fun _ _ _ z=>z) (pa_cons (pv 5) (pa_cons (@pe_op _ _ _ _ _ _ _ _ op_sub (pe_callB call_len_seq rfl T.z_len bt_len (pa_cons (pv 4) pa_nil)) pe_int) pa_nil))))))))),?_⟩
 walk_at "kx"
 refine ⟨fun σ' H1=>Iv (∃ (d:Addr) (kvs:List (Key × V)) (es:List (Str × Tr)),Same H H1∧H1 d=some (.dK kvs)∧DT K B H1 kvs es∧es.Perm (plt t "")∧σ' = [some v,some (.ref a),some (.str f),some (.ref d),none,none,none]),?_,?_⟩
 ·refine mid_abs fun _ _ _ => ?_
  walk_at "rd"
  rename_i H1 d kvs es S1 fd hd dt pm
  exact ⟨⟨d,kvs,es,S1,hd,dt,pm,rfl⟩⟩
 rintro σ' H1 ⟨⟨d,kvs,es,S1,hd,dt,pm,rfl⟩⟩
 have ha1:=S1 _ _ ha
 have lu:(und ps f).length≤ps.length:=List.length_filter_le _ _
 refine ⟨fun σ' H2=>Iv (∃ (l:Addr),Same H1 H2∧H2 l=some (.lst ((und ps f).map V.str))∧σ' = [some v,some (.ref a),some (.str f),some (.ref d),some (.ref l),none,none]),?_,?_⟩
 ·refine mid_abs fun _ _ _ => ?_
  walk_at "rd"
  refine lc_list (K:=K) (a:=a) (xs:=ps.map V.str) (fun i ys H'=>Iv (H'=H1∧ys=(und (ps.take i) f).map V.str)) ⟨⟨rfl,rfl⟩⟩ (fun i ys H' hi z=>⟨SqL.of (by rw [z.o.1]; exact ha1),?_⟩) ?_ ?_
  ·rw [z.o.2,List.length_map]
   refine small1000 (Nat.le_trans (List.length_filter_le _ _) ?_)
   rw [List.length_take]
   omega
  ·rintro i x ys H' hi ⟨⟨rfl,rfl⟩⟩
   have il:=(List.getElem?_eq_some_iff.mp hi).1
   rw [List.getElem?_map] at hi
   obtain ⟨x,hx,rfl⟩:=Option.map_eq_some_iff.mp hi
   have ft:und (ps.take (i + 1)) f=und (ps.take i) f ++ (if Txt.startswith x f=true then [x] else []):=filter_take (p:=fun x:Str=>Txt.startswith x f) hx
   walk_at "rd"
   refine iteB (fun e=>?_) (fun e=>?_)
   ·walk_at "rd"
    refine ⟨⟨rfl,?_⟩⟩
    rw [ft,if_pos e,List.map_append]
    rfl
   ·walk_at "rd"
    refine ⟨⟨rfl,?_⟩⟩
    rw [ft,if_neg (by rw [e]; exact Bool.false_ne_true),List.append_nil]
  ·rintro ys H' ⟨⟨rfl,rfl⟩⟩ z hz
   rw [List.length_map,List.take_length]
   exact ⟨⟨z,same_new hz _,upd_same,rfl⟩⟩
 rintro σ' H2 ⟨⟨l,S2,hl,rfl⟩⟩
 have hd2:=S2 _ _ hd
 have dt2:=dt.mono S2.t
 clear hd dt
 have a1 := @at_1
 refine ⟨fun σ' H3=>Iv (∃ (c:Addr),H3=H2∧H2 c=some (rt (Rat.divInt (wA t f) B))∧σ' = [some v,some (.ref a),some (.str f),some (.ref d),some (.ref l),some (.ref c),none]),?_,?_⟩
 ·refine mid_abs fun _ _ _ => ?_
  obtain ⟨p,k,c,r,g,hp,hc⟩:=dt_at b0 hd2 dt2 pm fk
  have a1:=at_1 (k:=k) (c:=c) (r:=r)
  walk_at "rd"
  exact ⟨⟨c,rfl,hc,rfl⟩⟩
 rintro σ' H3 ⟨⟨c,rfl,hc,rfl⟩⟩
 have wf:=wA_B tb fk
 have um:∀ x∈und ps f,x∈(plc t "").map (·.1):=fun x hx=>pk x (List.mem_filter.mp hx).1
 have bd:∀ i,-10000000000000000000000000000000000≤wA t f - (((und ps f).take i).map (wA t)).sum∧wA t f - (((und ps f).take i).map (wA t)).sum≤10000000000000000000000000000000000:=fun i=>by
  have h1:=sumB (W:=wA t) (l:=(und ps f).take i) fun x hx=>wA_B tb (um x (List.mem_of_mem_take hx))
  have h2:((und ps f).take i).length≤63:=by rw [List.length_take]; omega
  omega
 have rzi:∀ i,Rz 700 (Rat.divInt (wA t f - (((und ps f).take i).map (wA t)).sum) B):=fun i=>(rzd (by omega) (bz128 (bd i).1 (bd i).2) bz).mono (by decide)
 have rzx:∀ x∈und ps f,Rz 700 (Rat.divInt (wA t x) B):=fun x hx=>by
  have:=wA_B tb (um x hx)
  exact (rzd (by omega) (bz128 (by omega) (by omega)) bz).mono (by decide)
 refine ⟨fun σ' H4=>Iv (∃ (c:Addr) (o6:Option V),Same H3 H4∧H4 c=some (rt (Rat.divInt (wA t f - ((und ps f).map (wA t)).sum) B))∧σ' = [some v,some (.ref a),some (.str f),some (.ref d),some (.ref l),some (.ref c),o6]),?_,?_⟩
 ·refine mid_abs fun _ _ _ => ?_
  walk_at "rd"
  refine for_list (K:=K) (a:=l) (xs:=(und ps f).map V.str) (fun i σ' H'=>Iv (∃ (c:Addr) (o6:Option V),Same H3 H'∧H' c=some (rt (Rat.divInt (wA t f - (((und ps f).take i).map (wA t)).sum) B))∧σ' = [some v,some (.ref a),some (.str f),some (.ref d),some (.ref l),some (.ref c),o6])) ⟨⟨c,_,Same.refl _,by rw [List.take_zero,List.map_nil,List.sum_nil,Int.sub_zero]; exact hc,rfl⟩⟩ (fun i σ' H' _ y=>by obtain ⟨⟨_,_,s,_⟩⟩:=y; exact SqL.of (s _ _ hl)) ?_ ?_
  ·rintro i x σ' H4 hx ⟨⟨c,o6,S4,hc,rfl⟩⟩
   rw [List.getElem?_map] at hx
   obtain ⟨x,hx2,rfl⟩:=Option.map_eq_some_iff.mp hx
   have xm:=List.mem_of_getElem? hx2
   obtain ⟨p,k,c2,r,g,hp,hc2⟩:=dt_at b0 (S4 _ _ hd2) (dt2.mono S4.t) pm (um x xm)
   have a1:=at_1 (k:=k) (c:=c2) (r:=r)
   walk_at "rd"
   refine ⟨rzi i,rzx x xm,fun p2 H5 fp S5 hp2=>?_⟩
   refine ⟨⟨p2,_,S4.trans S5,?_,rfl⟩⟩
   rw [hp2,divInt_sub b0,List.take_add_one,hx2,List.map_append,List.sum_append]
   show some (rt (Rat.divInt (wA t f - (((und ps f).take i).map (wA t)).sum - wA t x) B))=some (rt (Rat.divInt (wA t f - ((((und ps f).take i).map (wA t)).sum + (wA t x + 0))) B))
   rw [show wA t f - (((und ps f).take i).map (wA t)).sum - wA t x=wA t f - ((((und ps f).take i).map (wA t)).sum + (wA t x + 0)) by omega]
  ·rintro σ' H4 ⟨⟨c,o6,S4,hc,rfl⟩⟩
   rw [List.length_map,List.take_length] at hc
   exact ⟨⟨c,o6,S4,hc,rfl⟩⟩
 rintro σ' H4 ⟨⟨c,o6,S4,hc4,rfl⟩⟩
 have hl4:=S4 _ _ hl
 have rze:=rzi (und ps f).length
 rw [List.take_length] at rze
 walk_at "rd"
 have el:(((und ps f).map V.str).length:Int)=((und ps f).length:Int):=by rw [List.length_map]
 rw [el]
 refine ⟨by omega,by omega,rze,fun p hp=>?_⟩
 refine q _ p (((S1.trans S2).trans S4).new hp _) ?_
 rw [upd_same,shared_at]
theorem ok_jB (T:Tx K mg) : FnOk P w K mg base (CXd P w) 2 T.f_jB T.d_jB ["places", "places_of_forks"] (sp_cut K):=by
 have sc:=sc_jB
 refine T.F_jB.okd sc (fun vs H Q E h=>?_) (fun cdv A outer s H vs Q E hr h=>?_)
 ·obtain ⟨a,b,ps,fs,rfl,ha,hb,p100,f100,hl,q⟩:=h
  rfl
 obtain ⟨a,b,ps,fs,rfl,ha,hb,p100,f100,hl,q⟩:=h
 have hu:=hr.units0
 have hu2:=hr.units
 have hu1:=Nat.lt_of_le_of_lt (Nat.add_le_add_left (show 1≤64 by decide) _) hu2
 refine ⟨_,(@pss_cons _ _ _ _ _ (@ps_mid _ _ _ (by first | exact ps_setLC (i:=2) sc.nd rfl (by walk_at "o1") (ts:=["place"]) (js:=[1]) (LcOk.of rfl) rfl (pi_list (pv 0)) (fun _ _ _ _=>(pg_name (i:=0) (nodup_of rfl) rfl (Or.inl rfl))) (fun _ _ _ _=>(pf_one (@pt_cmpR _ _ _ _ _ _ _ _ op_eqI (pe_callB call_len_seq rfl T.z_len bt_len (pa_cons (pe_call (ok_qI T) (hr.mono (by decide)) rfl T.m_qI T.F_qI.kp T.b_qI .nil passNd (pa_cons (pv 0) (pa_cons (pv 1) pa_nil))) pa_nil)) pe_int (nomark _)))) (fun _ _ _ _=>(pv 0)) | exact ps_set (i:=2) sc.nd rfl (by walk_at "o1") (pe_lc (ts:=["place"]) (js:=[1]) (LcOk.of rfl) rfl (pi_list (pv 0)) (fun _ _ _ _=>(pg_name (i:=0) (nodup_of rfl) rfl (Or.inl rfl))) (fun _ _ _ _=>(pf_one (@pt_cmpR _ _ _ _ _ _ _ _ op_eqI (pe_callB call_len_seq rfl T.z_len bt_len (pa_cons (pe_call (ok_qI T) (hr.mono (by decide)) rfl T.m_qI T.F_qI.kp T.b_qI .nil passNd (pa_cons (pv 0) (pa_cons (pv 1) pa_nil))) pa_nil)) pe_int (nomark _)))) (fun _ _ _ _=>(pv 0)))))
   (@pss_cons _ _ _ _ _ (@ps_mid _ _ _ (by first | exact ps_setLC (i:=3) sc.nd rfl (by walk_at "o1") (ts:=["place"]) (js:=[1]) (LcOk.of rfl) rfl (pi_list (pv 1)) (fun _ _ _ _=>(pg_name (i:=0) (nodup_of rfl) rfl (Or.inl rfl))) (fun _ _ _ _=>(pf_one (@pt_cmpR _ _ _ _ _ _ _ _ op_eqI (pe_callB call_len_seq rfl T.z_len bt_len (pa_cons (pe_call (ok_qI T) (hr.mono (by decide)) rfl T.m_qI T.F_qI.kp T.b_qI .nil passNd (pa_cons (pv 0) (pa_cons (pv 1) pa_nil))) pa_nil)) pe_int (nomark _)))) (fun _ _ _ _=>(pv 0)) | exact ps_set (i:=3) sc.nd rfl (by walk_at "o1") (pe_lc (ts:=["place"]) (js:=[1]) (LcOk.of rfl) rfl (pi_list (pv 1)) (fun _ _ _ _=>(pg_name (i:=0) (nodup_of rfl) rfl (Or.inl rfl))) (fun _ _ _ _=>(pf_one (@pt_cmpR _ _ _ _ _ _ _ _ op_eqI (pe_callB call_len_seq rfl T.z_len bt_len (pa_cons (pe_call (ok_qI T) (hr.mono (by decide)) rfl T.m_qI T.F_qI.kp T.b_qI .nil passNd (pa_cons (pv 0) (pa_cons (pv 1) pa_nil))) pa_nil)) pe_int (nomark _)))) (fun _ _ _ _=>(pv 0)))))
   (@pss_one _ _ _ (@ps_ret _ _ _ _ (pe_callB call_sortedS rfl T.z_sorted bt_sorted (pa_cons (@pe_op _ _ _ _ _ _ _ _ op_cat (pv 2) (pv 3)) pa_nil)))))),?_⟩
 walk_at "kx"
 have hl1:(ps.map V.str).length=ps.length:=List.length_map _
 have hl2:(fs.map V.str).length=fs.length:=List.length_map _
 refine ⟨fun σ' H'=>Iv (∃ p,Same H H'∧H' p=some (.lst ((kept ps fs).map V.str))∧σ' = [some (.ref a),some (.ref b),some (.ref p),none]),?_,?_⟩
 ·refine mid_abs fun _ _ _ => ?_
  have hb0:=hb
  have ha0:=ha
  generalize hH:H=H0 at hb0 ha0 ⊢
  walk_at "rd"
  refine lc_list (K:=K) (a:=a) (xs:=ps.map V.str) (fun i ys H'=>Iv (Same H0 H'∧ys=((ps.take i).filter fun x=>decide ((bgs x fs).length=0)).map V.str)) ⟨⟨Same.refl _,rfl⟩⟩ (fun i ys H' hi z=>⟨SqL.of (z.o.1 _ _ ha0),?_⟩) ?_ ?_
  ·rw [z.o.2,List.length_map]
   refine small1000 (Nat.le_trans (List.length_filter_le _ _) ?_)
   rw [List.length_take]
   omega
  ·rintro i v ys H' hi ⟨⟨S,rfl⟩⟩
   rw [List.getElem?_map] at hi
   obtain ⟨x,hx,rfl⟩:=Option.map_eq_some_iff.mp hi
   have il:=(List.getElem?_eq_some_iff.mp hx).1
   have ft:=filter_take (p:=fun x=>decide ((bgs x fs).length=0)) hx
   have hb1:=S _ _ hb0
   walk_at "rd"
   rename_i p hp
   have S1:=S.new hp (.lst ((bgs x fs).map V.str))
   refine ite3 (fun c=>?_) (fun c=>?_)
   ·rw [List.length_map] at c
    walk_at "rd"
    refine ⟨⟨S1,?_⟩⟩
    rw [ft,if_pos (decide_eq_true (by omega)),List.map_append]
    rfl
   ·rw [List.length_map] at c
    walk_at "rd"
    refine ⟨⟨S1,?_⟩⟩
    rw [ft,if_neg (by rw [decide_eq_false (by omega)]; decide),List.append_nil]
  ·rintro ys H' ⟨⟨S,rfl⟩⟩ p hp
   rw [hl1,List.take_length]
   walk_at "rd"
   exact ⟨⟨p,S.new hp _,upd_same,rfl⟩⟩
 rintro σ' H0 ⟨⟨p1,S1,hp1,rfl⟩⟩
 have ha0:=S1 _ _ ha
 have hb0:=S1 _ _ hb
 refine ⟨fun σ' H'=>Iv (∃ p,Same H0 H'∧H' p=some (.lst ((tops fs).map V.str))∧σ' = [some (.ref a),some (.ref b),some (.ref p1),some (.ref p)]),?_,?_⟩
 ·refine mid_abs fun _ _ _ => ?_
  walk_at "rd"
  refine lc_list (K:=K) (a:=b) (xs:=fs.map V.str) (fun i ys H'=>Iv (Same H0 H'∧ys=((fs.take i).filter fun x=>decide ((bgs x fs).length=1)).map V.str)) ⟨⟨Same.refl _,rfl⟩⟩ (fun i ys H' hi z=>⟨SqL.of (z.o.1 _ _ hb0),?_⟩) ?_ ?_
  ·rw [z.o.2,List.length_map]
   refine small1000 (Nat.le_trans (List.length_filter_le _ _) ?_)
   rw [List.length_take]
   omega
  ·rintro i v ys H' hi ⟨⟨S,rfl⟩⟩
   rw [List.getElem?_map] at hi
   obtain ⟨x,hx,rfl⟩:=Option.map_eq_some_iff.mp hi
   have il:=(List.getElem?_eq_some_iff.mp hx).1
   have ft:=filter_take (p:=fun x=>decide ((bgs x fs).length=1)) hx
   have hb1:=S _ _ hb0
   walk_at "rd"
   rename_i p hp
   have S1:=S.new hp (.lst ((bgs x fs).map V.str))
   refine ite3 (fun c=>?_) (fun c=>?_)
   ·rw [List.length_map] at c
    walk_at "rd"
    refine ⟨⟨S1,?_⟩⟩
    rw [ft,if_pos (decide_eq_true (by omega)),List.map_append]
    rfl
   ·rw [List.length_map] at c
    walk_at "rd"
    refine ⟨⟨S1,?_⟩⟩
    rw [ft,if_neg (by rw [decide_eq_false (by omega)]; decide),List.append_nil]
  ·rintro ys H' ⟨⟨S,rfl⟩⟩ p hp
   rw [hl2,List.take_length]
   walk_at "rd"
   exact ⟨⟨p,S.new hp _,upd_same,rfl⟩⟩
 rintro σ' H2 ⟨⟨p2,S2,hp2,rfl⟩⟩
 have hp3:=S2 _ _ hp1
 have k1:(kept ps fs).length≤ps.length:=List.length_filter_le _ _
 have k2:(tops fs).length≤fs.length:=List.length_filter_le _ _
 have k3:((kept ps fs).map V.str).length + ((tops fs).map V.str).length≤sizeLine:=szB (by rw [List.length_map,List.length_map]; omega)
 walk_at "rd"
 rename_i p3 hp4
 refine ⟨(SqL.of (show _=some (HO.lst ((kept ps fs ++ tops fs).map V.str)) by rw [List.map_append]; exact upd_same) : SqL _ _ _ ((kept ps fs ++ tops fs).map V.str)),hl,fun p5 ws hp5 pm so=>?_⟩
 have S3:=((S1.trans S2).new hp4 (.lst ((kept ps fs).map V.str ++ (tops fs).map V.str)))
 exact q _ _ ws (S3.new hp5 _) (Same.free S3 hp5) upd_same pm so
theorem ok_q3 (T:Tx K mg) : FnOk P w K mg base (CXd P w) 5 T.f_q3 T.d_q3 ["whole", "places"] (sp_sums K):=by
 have sc:=sc_q3
 refine T.F_q3.okd sc (fun vs H Q E h=>?_) (fun cdv A outer s H vs Q E hr h=>?_)
 ·obtain ⟨v,t,a,ps,gs,rfl,tv,lt,tb,ha,pi,q⟩:=h
  rfl
 obtain ⟨v,t,a,ps,gs,rfl,tv,lt,tb,ha,pi,q⟩:=h
 have hu:=hr.units0
 have hu2:=hr.units
 have hu1:=Nat.lt_of_le_of_lt (Nat.add_le_add_left (show 1≤64 by decide) _) hu2
 refine ⟨_,(@pss_cons _ _ _ _ _ (@ps_mid _ _ _ (@ps_set _ _ 2 _ _ _ _ sc.nd rfl (by walk_at "o1") (pe_call (ok_q4 T) (hr.mono (by decide)) rfl T.m_q4 T.F_q4.kp T.b_q4 .nil (pass_d fun _ _ _ z=>z) (pa_cons (pv 0) pa_nil)) (by rfl) (by walk_at "o2")))
   (@pss_cons _ _ _ _ _ (@ps_mid _ _ _ (@ps_set _ _ 3 _ _ _ _ sc.nd rfl (by walk_at "o1") pe_dnewK (by rfl) (by walk_at "o2")))
   (@pss_cons _ _ _ _ _ (@ps_mid _ _ _ (ps_for powd rfl (pi_list (pv 1)) (pg_name (i:=4) sc.nd rfl (by walk_at "o1"))
   (@pss_one _ _ _ (ps_dput hu1 (pv 3) (pv 4) (pe_tup (pa_cons (@pe_ix _ _ _ _ _ _ _ ix_tup (pe_dget hu1 (pv 2) (pv 4) (fun _ _=>rfl)) pe_int (fun _ _=>rfl)) (pa_cons pe_int pa_nil))) rfl))))
   (@pss_cons _ _ _ _ _ (@ps_mid _ _ _ (ps_for powd rfl (pi_rev rfl T.z_reversed (pa_cons (pe_call (ok_qB T) (hr.mono (by decide)) rfl T.m_qB T.F_qB.kp T.b_qB .nil (pass_d fun _ _ _ z=>z) (pa_cons (pv 0) (pa_cons (pv 1) pa_nil))) pa_nil)) (pg_name (i:=4) sc.nd rfl (by walk_at "o1"))
   (@pss_cons _ _ _ _ _ (@ps_mid _ _ _ (@ps_set _ _ 5 _ _ _ _ sc.nd rfl (by walk_at "o1") (pe_dget hu1 (pv 3) (@pe_op _ _ _ _ _ _ _ _ op_add_str (pv 4) pe_str) (fun _ _=>rfl)) (by rfl) (by walk_at "o2")))
   (@pss_cons _ _ _ _ _ (@ps_mid _ _ _ (@ps_set _ _ 6 _ _ _ _ sc.nd rfl (by walk_at "o1") (pe_dget hu1 (pv 3) (@pe_op _ _ _ _ _ _ _ _ op_add_str (pv 4) pe_str) (fun _ _=>rfl)) (by rfl) (by walk_at "o2")))
   (@pss_one _ _ _ (ps_dput hu1 (pv 3) (pv 4) (pe_tup (pa_cons (@pe_op _ _ _ _ _ _ _ _ op_add (@pe_ix _ _ _ _ _ _ _ ix_tup (pv 5) pe_int (fun _ _=>rfl)) (@pe_ix _ _ _ _ _ _ _ ix_tup (pv 6) pe_int (fun _ _=>rfl))) (pa_cons (@pe_op _ _ _ _ _ _ _ _ op_add (@pe_ix _ _ _ _ _ _ _ ix_tup (pv 5) pe_int (fun _ _=>rfl)) (@pe_ix _ _ _ _ _ _ _ ix_tup (pv 6) pe_int (fun _ _=>rfl))) pa_nil))) rfl))))))
   (@pss_one _ _ _ (@ps_ret _ _ _ _ (pv 3))))))),?_⟩
 walk_at "kx"
 have ltd:=lt
 obtain ⟨lt,td⟩:=lt
 have lt30:t.lv≤61:=by omega
 have tv0:TV K H v (htD 0 t):=by rw [htD_0]; exact tv
 have pl:=pi.len
 have pk:=pi.kn
 have fa:=pi.facts
 have psl:ps.length < 64:=by omega
 have wsm:∀ x∈ps,-100000000000000000000000000000000 < wA t x∧wA t x < 100000000000000000000000000000000:=fun x hx=>wA_B tb (pk x hx)
 have esm:∀ x,Bz 128 (ent (wA t) ps x).2.1∧Bz 128 (ent (wA t) ps x).2.2:=fun x=>by
  have h1:=sumB (W:=wA t) (l:=und ps x) fun y hy=>wsm y (List.mem_filter.mp hy).1
  have h2:(und ps x).length≤ps.length:=List.length_filter_le _ _
  exact ⟨bz128 (by show _≤((und ps x).map (wA t)).sum; omega) (by show ((und ps x).map (wA t)).sum≤_; omega),bz128 (by show _≤((und ps x).length:Int); omega) (by show ((und ps x).length:Int)≤_; omega)⟩
 refine ⟨fun σ' H1=>Iv (∃ (d:Addr) (kvs:List (Key × V)) (es:List (Str × Tr)),Same H H1∧H1 d=some (.dK kvs)∧DT K 0 H1 kvs es∧es.Perm (plt t "")∧σ' = [some v,some (.ref a),some (.ref d),none,none,none,none]),?_,?_⟩
 ·refine mid_abs fun _ _ _ => ?_
  walk_at "rd"
  rename_i H1 d kvs es S1 fd hd dt pm
  exact ⟨⟨d,kvs,es,S1,hd,dt,pm,rfl⟩⟩
 rintro σ' H1 ⟨⟨d,kvs,es,S1,hd,dt,pm,rfl⟩⟩
 have ha1:=S1 _ _ ha
 refine ⟨fun σ' H2=>Iv (∃ (z:Addr),H1 z=none∧H2=upd H1 z (.dK [])∧σ' = [some v,some (.ref a),some (.ref d),some (.ref z),none,none,none]),?_,?_⟩
 ·refine mid_abs fun _ _ _ => ?_
  walk_at "rd"
  rename_i z hz
  exact ⟨⟨z,hz,rfl,rfl⟩⟩
 rintro σ' H2 ⟨⟨z,hz,e2,rfl⟩⟩
 have S2:Same H1 H2:=by rw [e2]; exact same_new hz _
 have hz2:H2 z=some (.dK []):=by rw [e2]; exact upd_same
 have zd:z ≠ d:=fun e=>by rw [e,hd] at hz; cases hz
 have za:z ≠ a:=fun e=>by rw [e,ha1] at hz; cases hz
 have Hz:H z=none:=S1.free hz
 clear e2
 have hd2:=S2 _ _ hd
 have dt2:=dt.mono S2.t
 have ha2:=S2 _ _ ha1
 refine ⟨fun σ' H3=>Iv (∃ (kv:List (Key × V)) (o4:Option V),Same H1 H3∧SameT H2 H3∧H3 z=some (.dK kv)∧DR H3 kv (ps.map (ent (wA t) ps))∧σ' = [some v,some (.ref a),some (.ref d),some (.ref z),o4,none,none]),?_,?_⟩
 ·refine mid_abs fun _ _ _ => ?_
  walk_at "rd"
  refine for_list (K:=K) (a:=a) (xs:=ps.map V.str) (fun i σ' H'=>Iv (∃ (kv:List (Key × V)) (o4:Option V),Same H1 H'∧SameT H2 H'∧H' d=some (.dK kvs)∧H' z=some (.dK kv)∧DR H' kv ((ps.take i).map (ent (wA t) ps))∧σ' = [some v,some (.ref a),some (.ref d),some (.ref z),o4,none,none])) ⟨⟨[],_,S2,SameT.refl _,hd2,hz2,.nil,rfl⟩⟩ (fun i σ' H' _ y=>by obtain ⟨⟨_,_,s,_⟩⟩:=y; exact SqL.of (s _ _ ha1)) ?_ ?_
  ·rintro i x σ' H3 hx ⟨⟨kv,o4,S3,st3,hd3,hz3,dr,rfl⟩⟩
   rw [List.getElem?_map] at hx
   obtain ⟨x,hx2,rfl⟩:=Option.map_eq_some_iff.mp hx
   have xm:=List.mem_of_getElem? hx2
   obtain ⟨p0,k0,r0,g0,hp0⟩:=dt_at0 hd3 (dt2.mono st3) pm (pk x xm)
   have a1:=at1' (k:=k0) (w:=wA t x) (r:=r0)
   have kz:kv.length < sizeLine:=small1000 (by rw [dr.length,List.length_map,List.length_take]; omega)
   walk_at "rd"
   rename_i p hp
   have nx:x ∉ ((ps.take i).map (ent (wA t) ps)).map (·.1):=by rw [ent_key]; exact nd_take fa.n1 hx2
   refine ⟨DPut.k (k:=.inr x) (kp hz3 hp) kz,?_⟩
   rw [putK_new _ (dr.vno nx)]
   obtain ⟨p1,p2,p3,p4⟩:=put_pair (x:=x) (a:=wA t x) (b:=1) hp hz3 dr
   refine ⟨⟨_,_,Same.over (S3.new hp _) hz _,fun c o e=>p1 c o (st3 c o e),p4 _ _ (Ne.symm zd) hd3,p2,?_,rfl⟩⟩
   rw [List.take_add_one,hx2,List.map_append]
   have e1:ent (wA t) ps x=(x,wA t x,1):=by
    unfold ent
    rw [pi.leaf xm]
    show (x,wA t x + 0,((1:Nat) : Int))=_
    rw [Int.add_zero]
    rfl
   show DR _ _ (_ ++ [ent (wA t) ps x])
   rw [e1]
   exact p3
  ·rintro σ' H3 ⟨⟨kv,o4,S3,st3,hd3,hz3,dr,rfl⟩⟩
   rw [List.length_map,List.take_length] at dr
   exact ⟨⟨kv,o4,S3,st3,hz3,dr,rfl⟩⟩
 rintro σ' H3 ⟨⟨kv,o4,S3,st3,hz3,dr3,rfl⟩⟩
 have ha3:=S3 _ _ ha1
 have tv3:TV K H3 v (htD 0 t):=tv0.mono (S1.trans S3).t
 refine ⟨fun σ' H4=>Iv (∃ (kv:List (Key × V)) (fs:List Str) (o4 o5 o6:Option V),Same H1 H4∧H4 z=some (.dK kv)∧fs.Perm gs∧DR H4 kv ((ps ++ fs).map (ent (wA t) ps))∧σ' = [some v,some (.ref a),some (.ref d),some (.ref z),o4,o5,o6]),?_,?_⟩
 ·refine mid_abs fun _ _ _ => ?_
  walk_at "rd"
  rename_i H4 p rs S4 fp hp pm2 so
  have pm3:rs.Perm gs:=pm2.trans (insF_perm pi)
  have hz4:=S4 _ _ hz3
  have zp:p ≠ z:=fun e=>by rw [e,hz3] at fp; cases fp
  have dr4:=dr3.mono S4.t
  have rl:rs.length + 1=ps.length:=by rw [pm3.length_eq]; exact pl.2
  have spw:=sorted_pw so
  have ndk:∀ i,(ps ++ rs.reverse.take i).Nodup:=fun i=>by
   rw [List.nodup_append]
   refine ⟨fa.n1,List.Nodup.sublist (List.take_sublist _ _) ((List.reverse_perm _).nodup_iff.mpr (pm3.nodup_iff.mpr fa.n2)),fun x hx y hy e=>?_⟩
   subst e
   exact fa.ap x hx x (pm3.mem_iff.mp (List.mem_reverse.mp (List.mem_of_mem_take hy))) (List.prefix_refl _)
  refine for_rev (K:=K) (a:=p) (xs:=rs.map V.str) (fun i σ' H'=>Iv (∃ (kv:List (Key × V)) (o4 o5 o6:Option V),Same H1 H'∧H' p=some (.lst (rs.map V.str))∧H' z=some (.dK kv)∧DR H' kv ((ps ++ rs.reverse.take i).map (ent (wA t) ps))∧σ' = [some v,some (.ref a),some (.ref d),some (.ref z),o4,o5,o6])) ⟨⟨kv,_,_,_,S3.trans S4,hp,hz4,by rw [List.take_zero,List.append_nil]; exact dr4,rfl⟩⟩ (fun i σ' H' _ y=>by obtain ⟨⟨_,_,_,_,_,s,_⟩⟩:=y; exact SqL.of s) ?_ ?_
  ·rintro i x σ' H5 hx ⟨⟨kv,o4,o5,o6,S5,hp5,hz5,dr5,rfl⟩⟩
   rw [← List.map_reverse,List.getElem?_map] at hx
   obtain ⟨f,hf2,rfl⟩:=Option.map_eq_some_iff.mp hx
   have il:i < rs.length:=by have:=(List.getElem?_eq_some_iff.mp hf2).1; rw [List.length_reverse] at this; exact this
   have fg:f∈gs:=pm3.mem_iff.mp (List.mem_reverse.mp (List.mem_of_getElem? hf2))
   have kd:=pi.kids f fg
   have lt1:∀ (s:Str) (c:Nat),cds s = [c]→cds f < cds (f ++ s):=fun s c e=>by
    rw [cds_app,e]
    have:=lt_pre (l:=cds f) (a:=[]) (b:=[c]) (List.nil_lt_cons _ _)
    rw [List.append_nil] at this
    exact this
   have mem:∀ g,(g∈ps∨g∈gs)→cds f < cds g→g∈ps ++ rs.reverse.take i:=fun g hg l=>hg.elim (fun z=>List.mem_append_left _ z) fun z=>List.mem_append_right _ (rev_before spw hf2 (pm3.mem_iff.mpr z) l)
   have my:=mem _ kd.1 (lt1 "y" 121 cd_yn.1)
   have mn:=mem _ kd.2 (lt1 "n" 110 cd_yn.2)
   have nk:(((ps ++ rs.reverse.take i).map (ent (wA t) ps)).map (·.1)).Nodup:=by rw [ent_key]; exact ndk i
   obtain ⟨py,vy,hy⟩:=dr5.val (e:=ent (wA t) ps (f ++ "y")) nk (List.mem_map.mpr ⟨_,my,rfl⟩)
   obtain ⟨pn,vn,hn⟩:=dr5.val (e:=ent (wA t) ps (f ++ "n")) nk (List.mem_map.mpr ⟨_,mn,rfl⟩)
   have gy:DGet H5 z (.str (f ++ "y")) (some (.ref py)):=by rw [← vy]; exact DGet.k (k:=.inr (f ++ "y")) hz5
   have gn:DGet H5 z (.str (f ++ "n")) (some (.ref pn)):=by rw [← vn]; exact DGet.k (k:=.inr (f ++ "n")) hz5
   have fl:f.length≤60:=by
    have h1:=(pi.short).2 f fg
    have h2:=t.dp_lt
    rw [show ("" : Str).length=0 by decide +kernel] at h1
    omega
   have k1:f.length + ("y" : Str).length≤sizeLine:=szB (by rw [ynl.1]; omega)
   have k2:f.length + ("n" : Str).length≤sizeLine:=szB (by rw [ynl.2]; omega)
   have kz:kv.length < sizeLine:=small1000 (by rw [dr5.length,List.length_map,List.length_append,List.length_take,List.length_reverse]; omega)
   have ef:=ent_fork (W:=wA t) pi fg
   walk_at "rd"
   refine ⟨fun σ' H6=>Iv (H6=H5∧σ' = [some v,some (.ref a),some (.ref d),some (.ref z),some (.str f),some (.ref py),o6]),?_,?_⟩
   ·refine mid_abs fun _ _ _ => ?_
    walk_at "rd"
    exact ⟨⟨rfl,rfl⟩⟩
   rintro σ' H6 ⟨⟨rfl,rfl⟩⟩
   refine ⟨fun σ' H7=>Iv (H7=H6∧σ' = [some v,some (.ref a),some (.ref d),some (.ref z),some (.str f),some (.ref py),some (.ref pn)]),?_,?_⟩
   ·refine mid_abs fun _ _ _ => ?_
    walk_at "rd"
    exact ⟨⟨rfl,rfl⟩⟩
   rintro σ' H7 ⟨⟨rfl,rfl⟩⟩
   walk_at "rd"
   rename_i p7 hp7
   have nx:f ∉ ((ps ++ rs.reverse.take i).map (ent (wA t) ps)).map (·.1):=by
    rw [ent_key]
    intro z
    rcases List.mem_append.mp z with z | z
    ·exact fa.ap f z f fg (List.prefix_refl _)
    ·exact nd_take ((List.reverse_perm _).nodup_iff.mpr (pm3.nodup_iff.mpr fa.n2)) hf2 z
   refine ⟨DPut.k (k:=.inr f) (kp hz5 hp7) kz,?_⟩
   rw [putK_new _ (dr5.vno nx)]
   obtain ⟨p1,p2,p3,p4⟩:=put_pair (x:=f) (a:=(ent (wA t) ps (f ++ "y")).2.1 + (ent (wA t) ps (f ++ "n")).2.1) (b:=(ent (wA t) ps (f ++ "y")).2.2 + (ent (wA t) ps (f ++ "n")).2.2) hp7 hz5 dr5
   refine ⟨⟨_,_,_,_,Same.over (S5.new hp7 _) hz _,p4 _ _ zp hp5,p2,?_,rfl⟩⟩
   rw [List.take_add_one,hf2,← List.append_assoc,List.map_append]
   show DR _ _ (_ ++ [ent (wA t) ps f])
   rw [ef]
   exact p3
  ·rintro σ' H5 ⟨⟨kv,o4,o5,o6,S5,hp5,hz5,dr5,rfl⟩⟩
   rw [List.length_map,← List.length_reverse,List.take_length] at dr5
   exact ⟨⟨kv,rs.reverse,o4,o5,o6,S5,hz5,(List.reverse_perm _).trans pm3,dr5,rfl⟩⟩
 rintro σ' H4 ⟨⟨kv,fs,o4,o5,o6,S4,hz4,pmf,dr4,rfl⟩⟩
 walk_at "rd"
 exact q _ z kv fs (S1.trans S4) Hz hz4 pmf dr4
theorem ok_qG (T:Tx K mg) : FnOk P w K mg base (CXd P w) 6 T.f_qG T.d_qG ["whole", "places"] (sp_wlinks K):=by
 have sc:=sc_qG
 refine T.F_qG.okd sc (fun vs H Q E h=>?_) (fun cdv A outer s H vs Q E hr h=>?_)
 ·obtain ⟨v,t,a,ps,gs,rfl,tv,lt,tb,ha,pi,q⟩:=h
  rfl
 obtain ⟨v,t,a,ps,gs,rfl,tv,lt,tb,ha,pi,q⟩:=h
 have hu:=hr.units0
 have hu2:=hr.units
 have hu1:=Nat.lt_of_le_of_lt (Nat.add_le_add_left (show 1≤64 by decide) _) hu2
 refine ⟨_,(@pss_cons _ _ _ _ _ (@ps_mid _ _ _ (@ps_set _ _ 2 _ _ _ _ sc.nd rfl (by walk_at "o1") (pe_call (ok_q4 T) (hr.mono (by decide)) rfl T.m_q4 T.F_q4.kp T.b_q4 .nil (pass_d fun _ _ _ z=>z) (pa_cons (pv 0) pa_nil)) (by rfl) (by walk_at "o2")))
   (@pss_cons _ _ _ _ _ (@ps_mid _ _ _ (@ps_set _ _ 3 _ _ _ _ sc.nd rfl (by walk_at "o1") pe_dnewK (by rfl) (by walk_at "o2")))
   (@pss_cons _ _ _ _ _ (@ps_mid _ _ _ (ps_for powd rfl (pi_items (pe_call (ok_q3 T) (hr.mono (by decide)) rfl T.m_q3 T.F_q3.kp T.b_q3 .nil (pass_d fun _ _ _ z=>z) (pa_cons (pv 0) (pa_cons (pv 1) pa_nil))) rfl rfl) (pg_tup rfl (pgs_cons (pg_name (i:=4) sc.nd rfl (by walk_at "o1")) (pgs_cons (pg_name (i:=5) sc.nd rfl (by walk_at "o1")) pgs_nil)))
   (@pss_one _ _ _ (@ps_if _ _ _ _ _ _ _ _ (@pt_cmpR _ _ _ _ _ _ _ _ op_gt (@pe_ix _ _ _ _ _ _ _ ix_tup (pv 5) pe_int (fun _ _=>rfl)) pe_int (nomark _)) (@pss_one _ _ _ (ps_dput hu1 (pv 3) (pv 4) (pe_tup (pa_cons (@pe_op _ _ _ _ _ _ _ _ op_sub (@pe_ix _ _ _ _ _ _ _ ix_tup (pe_dget hu1 (pv 2) (pv 4) (fun _ _=>rfl)) pe_int (fun _ _=>rfl)) (@pe_ix _ _ _ _ _ _ _ ix_tup (pv 5) pe_int (fun _ _=>rfl))) (pa_cons (@pe_op _ _ _ _ _ _ _ _ op_sub (@pe_ix _ _ _ _ _ _ _ ix_tup (pv 5) pe_int (fun _ _=>rfl)) pe_int) pa_nil))) rfl)) pss_nil))))
   (@pss_one _ _ _ (@ps_ret _ _ _ _ (pv 3)))))),?_⟩
 walk_at "kx"
 have ltd:=lt
 obtain ⟨lt,td⟩:=lt
 have lt30:t.lv≤61:=by omega
 have tv0:TV K H v (htD 0 t):=by rw [htD_0]; exact tv
 have pl:=pi.len
 have pk:=pi.kn
 have fa:=pi.facts
 have psl:ps.length < 64:=by omega
 obtain ⟨us,s0,m0,lk,eus⟩:=pi.lk
 have vals:=(lk.vals (wA t) wA_at).2.2
 have two:∀ f∈gs,2≤(und ps f).length:=fun f hf=>by
  rw [← eus] at hf
  obtain ⟨u,hu,rfl⟩:=List.mem_map.mp hf
  exact (vals u hu).2.2
 refine ⟨fun σ' H1=>Iv (∃ (d:Addr) (kvs:List (Key × V)) (es:List (Str × Tr)),Same H H1∧H1 d=some (.dK kvs)∧DT K 0 H1 kvs es∧es.Perm (plt t "")∧σ' = [some v,some (.ref a),some (.ref d),none,none,none]),?_,?_⟩
 ·refine mid_abs fun _ _ _ => ?_
  walk_at "rd"
  rename_i H1 d kvs es S1 fd hd dt pm
  exact ⟨⟨d,kvs,es,S1,hd,dt,pm,rfl⟩⟩
 rintro σ' H1 ⟨⟨d,kvs,es,S1,hd,dt,pm,rfl⟩⟩
 have ha1:=S1 _ _ ha
 have tv1:=tv.mono S1.t
 refine ⟨fun σ' H2=>Iv (∃ (z:Addr),H1 z=none∧H2=upd H1 z (.dK [])∧σ' = [some v,some (.ref a),some (.ref d),some (.ref z),none,none]),?_,?_⟩
 ·refine mid_abs fun _ _ _ => ?_
  walk_at "rd"
  rename_i z hz
  exact ⟨⟨z,hz,rfl,rfl⟩⟩
 rintro σ' H2 ⟨⟨z,hz,e2,rfl⟩⟩
 have S2:Same H1 H2:=by rw [e2]; exact same_new hz _
 have hz2:H2 z=some (.dK []):=by rw [e2]; exact upd_same
 have zd:z ≠ d:=fun e=>by rw [e,hd] at hz; cases hz
 have Hz:H z=none:=S1.free hz
 clear e2
 have hd2:=S2 _ _ hd
 have dt2:=dt.mono S2.t
 have ha2:=S2 _ _ ha1
 have tv2:=tv1.mono S2.t
 refine ⟨fun σ' H3=>Iv (∃ (kv:List (Key × V)) (fs:List Str) (o4 o5:Option V),Same H1 H3∧H3 z=some (.dK kv)∧fs.Perm gs∧DR H3 kv (fs.map (lnk (wA t) ps))∧σ' = [some v,some (.ref a),some (.ref d),some (.ref z),o4,o5]),?_,?_⟩
 ·refine mid_abs fun _ _ _ => ?_
  walk_at "rd"
  rename_i H3 d3 kvs3 fs S3 fd3 hd3 pmf dr3
  have hz3:=S3 _ _ hz2
  have hdd3:=S3 _ _ hd2
  have dt3:=dt2.mono S3.t
  have zd3:z ≠ d3:=fun e=>by rw [← e,hz2] at fd3; cases fd3
  have dd3:d ≠ d3:=fun e=>by rw [← e,hd2] at fd3; cases fd3
  have fd1:H1 d3=none:=S2.free fd3
  have fl:=pmf.length_eq
  have kl:kvs3.length=(ps ++ fs).length:=by rw [dr3.length,List.length_map]
  have nda:(ps ++ fs).Nodup:=by
   rw [List.nodup_append]
   refine ⟨fa.n1,pmf.nodup_iff.mpr fa.n2,fun x hx y hy e=>?_⟩
   subst e
   exact fa.ap x hx x (pmf.mem_iff.mp hy) (List.prefix_refl _)
  refine .inl ⟨hd3,fun ep=>?_⟩
  refine for_items (P:=P) (w:=w) (a:=d3) (kvs:=kvs3) (ep:=ep) (fun i σ' H'=>Iv (∃ (kv:List (Key × V)) (o4 o5:Option V),Same H1 H'∧SameT H3 H'∧H' d3=some (FzD P w d3 kvs3 ep)∧H' d=some (.dK kvs)∧H' z=some (.dK kv)∧DR H' kv ((((ps ++ fs).take i).filter fun x=>decide (1 < (und ps x).length)).map (lnk (wA t) ps))∧σ' = [some v,some (.ref a),some (.ref d),some (.ref z),o4,o5])) ?_ ?_ ?_ ?_
  ·exact ⟨⟨[],_,_,Same.over (S2.trans S3) fd1 _,st_dk (SameT.refl _) hd3 _,upd_same,by rw [upd_ne dd3]; exact hdd3,by rw [upd_ne zd3]; exact hz3,.nil,rfl⟩⟩
  ·rintro i σ' H4 hi ⟨⟨kv,o4,o5,S4,st4,hf,_⟩⟩
   exact hf
  ·rintro i k x T0 σ' H4 hk ⟨⟨kv,o4,o5,S4,st4,hf,hd4,hz4,dr4,rfl⟩⟩ hT
   obtain ⟨e,pp,he,rfl,rfl,hpp⟩:=dr3.get hk
   rw [List.getElem?_map] at he
   obtain ⟨f,hf2,rfl⟩:=Option.map_eq_some_iff.mp he
   have fm:=List.mem_of_getElem? hf2
   have fk:f∈(plc t "").map (·.1):=by
    rcases List.mem_append.mp fm with z | z
    ·exact pk f z
    ·exact List.mem_map.mpr ⟨_,pi.forks.1 f (pmf.mem_iff.mp z),rfl⟩
   have S5:=S4.new hT (.tup [kV (.inr (ent (wA t) ps f).1),.ref pp])
   have st5:=st4.new hT (.tup [kV (.inr (ent (wA t) ps f).1),.ref pp])
   have hf5:=kp hf hT (u:=.tup [kV (.inr (ent (wA t) ps f).1),.ref pp])
   have hd5:=kp hd4 hT (u:=.tup [kV (.inr (ent (wA t) ps f).1),.ref pp])
   have hz5:=kp hz4 hT (u:=.tup [kV (.inr (ent (wA t) ps f).1),.ref pp])
   have dr5:=dr4.mono ((SameT.refl H4).new hT (.tup [kV (.inr (ent (wA t) ps f).1),.ref pp]))
   have hT5:upd H4 T0 (.tup [kV (.inr (ent (wA t) ps f).1),.ref pp]) T0=some (.tup [.str f,.ref pp]):=upd_same
   generalize upd H4 T0 (.tup [kV (.inr (ent (wA t) ps f).1),.ref pp])=H5 at S5 st5 hf5 hd5 hz5 dr5 hT5 ⊢
   have hpp5:H5 pp=some (.tup [.int ((und ps f).map (wA t)).sum,.int ((und ps f).length:Int)]):=st5 _ _ hpp
   obtain ⟨p0,k0,r0,g0,hp0⟩:=dt_at0 hd5 (dt3.mono st5) pm fk
   have a1:=at1' (k:=k0) (w:=wA t f) (r:=r0)
   have kz:kv.length < sizeLine:=small1000 (by
    rw [dr5.length,List.length_map]
    have z1:=List.length_filter_le (fun x=>decide (1 < (und ps x).length)) ((ps ++ fs).take i)
    have z2:((ps ++ fs).take i).length≤(ps ++ fs).length:=by rw [List.length_take]; omega
    rw [List.length_append] at z2
    omega)
   have ft:=filter_take (p:=fun x:Str=>decide (1 < (und ps x).length)) hf2
   have nx:f ∉ ((((ps ++ fs).take i).filter fun x=>decide (1 < (und ps x).length)).map (lnk (wA t) ps)).map (·.1):=by
    rw [lnk_key]
    exact fun z=>nd_take nda hf2 (List.mem_filter.mp z).1
   walk_at "rd"
   refine ite3 (fun c=>?_) (fun c=>?_)
   ·have c2:1 < (und ps f).length:=by omega
    rw [if_pos (decide_eq_true c2)] at ft
    walk_at "rd"
    rename_i p7 hp7
    refine ⟨DPut.k (k:=.inr f) (kp hz5 hp7) kz,?_⟩
    rw [putK_new _ (dr5.vno nx)]
    obtain ⟨p1,p2,p3,p4⟩:=put_pair (x:=f) (a:=wA t f - ((und ps f).map (wA t)).sum) (b:=((und ps f).length:Int) - 1) hp7 hz5 dr5
    refine ⟨⟨_,_,_,Same.over (S5.new hp7 _) hz _,fun c o e=>p1 c o (st5 c o e),p4 _ _ (Ne.symm zd3) hf5,p4 _ _ (Ne.symm zd) hd5,p2,?_,rfl⟩⟩
    rw [ft,List.map_append]
    exact p3
   ·have c2:¬ 1 < (und ps f).length:=by omega
    rw [if_neg (by rw [decide_eq_false c2]; exact Bool.false_ne_true),List.append_nil] at ft
    walk_at "rd"
    refine ⟨⟨_,_,_,S5,st5,hf5,hd5,hz5,?_,rfl⟩⟩
    rw [ft]
    exact dr5
  ·rintro σ' H4 ⟨⟨kv,o4,o5,S4,st4,hf,hd4,hz4,dr4,rfl⟩⟩
   have e1:((ps ++ fs).filter fun x=>decide (1 < (und ps x).length))=fs:=by
    rw [List.filter_append,List.filter_eq_nil_iff.mpr,List.nil_append,List.filter_eq_self.mpr]
    ·exact fun x hx=>decide_eq_true (two x (pmf.mem_iff.mp hx))
    ·intro x hx
     rw [pi.leaf hx]
     exact Bool.false_ne_true
   rw [kl,List.take_length,e1] at dr4
   exact ⟨⟨kv,fs,o4,o5,S4,hz4,pmf,dr4,rfl⟩⟩
 rintro σ' H3 ⟨⟨kv,fs,o4,o5,S3,hz3,pmf,dr3,rfl⟩⟩
 walk_at "rd"
 exact q _ z kv fs (S1.trans S3) Hz hz3 pmf dr3
theorem ok_qC (T:Tx K mg) : FnOk P w K mg base (CXd P w) 7 T.f_qC T.d_qC ["whole", "places"] (sp_least K):=by
 have sc:=sc_qC
 refine T.F_qC.okd sc (fun vs H Q E h=>?_) (fun cdv A outer s H vs Q E hr h=>?_)
 ·obtain ⟨v,t,a,ps,us,s0,m0,rfl,tv,lt,tb,ha,lk,une,q⟩:=h
  rfl
 obtain ⟨v,t,a,ps,us,s0,m0,rfl,tv,lt,tb,ha,lk,une,q⟩:=h
 have hu:=hr.units0
 have hu2:=hr.units
 have hu1:=Nat.lt_of_le_of_lt (Nat.add_le_add_left (show 1≤64 by decide) _) hu2
 refine ⟨_,(@pss_cons _ _ _ _ _ (@ps_mid _ _ _ (@ps_set _ _ 2 _ _ _ _ sc.nd rfl (by walk_at "o1") (pe_call (ok_qG T) (hr.mono (by decide)) rfl T.m_qG T.F_qG.kp T.b_qG .nil (pass_d fun _ _ _ z=>z) (pa_cons (pv 0) (pa_cons (pv 1) pa_nil))) (by rfl) (by walk_at "o2")))
   (@pss_cons _ _ _ _ _ (@ps_mid _ _ _ (@ps_set _ _ 3 _ _ _ _ sc.nd rfl (by walk_at "o1") (pe_dget hu1 (pv 2) pe_str (fun _ _=>rfl)) (by rfl) (by walk_at "o2")))
   (@pss_cons _ _ _ _ _ (@ps_mid _ _ _ (ps_for powd rfl (pi_values (pv 2) rfl rfl) (pg_name (i:=4) sc.nd rfl (by walk_at "o1"))
   (@pss_one _ _ _ (@ps_if _ _ _ _ _ _ _ _ (pt_val (pe_call (ok_j7 T) (hr.mono (by decide)) rfl T.m_j7 T.F_j7.kp T.b_j7 .nil (pass_d fun _ _ _ z=>z) (pa_cons (pv 4) (pa_cons (pv 3) pa_nil)))) (@pss_one _ _ _ (@ps_set _ _ 3 _ _ _ _ sc.nd rfl (by walk_at "o1") (pv 4) (by rfl) (by walk_at "o2"))) pss_nil))))
   (@pss_one _ _ _ (@ps_ret _ _ _ _ (pe_lc (ts:=["place", "one"]) (js:=[3]) (LcOk.of rfl) rfl (pi_items (pv 2) rfl rfl) (fun _ _ _ _=>(pg_tup rfl (pgs_cons (pg_name (i:=0) (nodup_of rfl) rfl (Or.inl rfl)) (pgs_cons (pg_name (i:=1) (nodup_of rfl) rfl (Or.inl rfl)) pgs_nil)))) (fun _ _ _ _=>(pf_one (pt_not (pt_val (pe_call (ok_j7 T) (hr.mono (by decide)) rfl T.m_j7 T.F_j7.kp T.b_j7 .nil passNd (pa_cons (pv 2) (pa_cons (pv 1) pa_nil))))))) (fun _ _ _ _=>(pv 0)))))))),?_⟩
 walk_at "kx"
 have ltd:=lt
 obtain ⟨lt,td⟩:=lt
 have pi:=lk.pi
 have pk:=pi.kn
 have pl:=pi.len
 have lo:=lk.one
 have vals:=(lk.vals (wA t) wA_at).2.2
 have euv:∀ u∈us,lnk (wA t) ps u.1=u:=fun u hu=>by
  have:=vals u hu
  unfold lnk
  rw [← this.1,← this.2.1]
 have fgk:∀ f∈us.map (·.1),f∈(plc t "").map (·.1):=fun f hf=>List.mem_map.mpr ⟨_,pi.forks.1 f hf,rfl⟩
 refine ⟨fun σ' H1=>Iv (∃ (d:Addr) (kvs:List (Key × V)) (fs:List Str),Same H H1∧H d=none∧H1 d=some (.dK kvs)∧fs.Perm (us.map (·.1))∧DR H1 kvs (fs.map (lnk (wA t) ps))∧σ' = [some v,some (.ref a),some (.ref d),none,none]),?_,?_⟩
 ·refine mid_abs fun _ _ _ => ?_
  walk_at "rd"
  rename_i H1 d kvs fs S1 fd hd pmf dr
  exact ⟨⟨d,kvs,fs,S1,fd,hd,pmf,dr,rfl⟩⟩
 rintro σ' H1 ⟨⟨d,kvs,fs,S1,fd,hd,pmf,dr,rfl⟩⟩
 have ndf:fs.Nodup:=pmf.nodup_iff.mpr pi.facts.n2
 have iE:∀ g,g∈fs.map (lnk (wA t) ps)↔g∈us:=fun g=>by
  constructor
  ·intro hg
   obtain ⟨f,hf,rfl⟩:=List.mem_map.mp hg
   obtain ⟨u,hu,rfl⟩:=List.mem_map.mp (pmf.mem_iff.mp hf)
   rw [euv u hu]
   exact hu
  ·intro hg
   exact List.mem_map.mpr ⟨g.1,pmf.mem_iff.mpr (List.mem_map.mpr ⟨g,hg,rfl⟩),euv g hg⟩
 have dpos:∀ g∈fs.map (lnk (wA t) ps),0 < g.2.2:=fun g hg=>by have:=lo.2.2.1 g ((iE g).mp hg); omega
 have wsm:∀ x∈ps,-100000000000000000000000000000000 < wA t x∧wA t x < 100000000000000000000000000000000:=fun x hx=>wA_B tb (pk x hx)
 have bzs:∀ g∈fs.map (lnk (wA t) ps),Bz 8000 g.2.1∧Bz 8000 g.2.2:=fun g hg=>by
  obtain ⟨f,hf,rfl⟩:=List.mem_map.mp hg
  have h1:=sumB (W:=wA t) (l:=und ps f) fun y hy=>wsm y (List.mem_filter.mp hy).1
  have h2:(und ps f).length≤ps.length:=List.length_filter_le _ _
  have h3:=wA_B tb (fgk f (pmf.mem_iff.mp hf))
  exact ⟨(bz128 (by show _≤wA t f - ((und ps f).map (wA t)).sum; omega) (by show wA t f - ((und ps f).map (wA t)).sum≤_; omega)).mono (by decide),(bz128 (by show _≤((und ps f).length:Int) - 1; omega) (by show ((und ps f).length:Int) - 1≤_; omega)).mono (by decide)⟩
 have ndk:((fs.map (lnk (wA t) ps)).map (·.1)).Nodup:=by rw [lnk_key]; exact ndf
 have rootg:Str.ofString "" ∈ us.map (·.1):=by
  cases lk with
  | stop=>exact absurd rfl une
  | go=>exact List.mem_cons_self
 generalize hE:fs.map (lnk (wA t) ps)=E at dr iE dpos bzs ndk
 have kl:=dr.length
 have el:E.length≤60:=by
  have h1:=pmf.length_eq
  have h2:=pl.2
  rw [← hE,List.length_map]
  omega
 have r0E:∃ g∈E,g.1=Str.ofString "" := by
  obtain ⟨u,hu,e⟩:=List.mem_map.mp rootg
  exact ⟨u,(iE u).mpr hu,e⟩
 obtain ⟨g0,g0E,g0e⟩:=r0E
 refine ⟨fun σ' H2=>Iv (∃ (p0:Addr),H2=H1∧H1 p0=some (.tup [.int g0.2.1,.int g0.2.2])∧σ' = [some v,some (.ref a),some (.ref d),some (.ref p0),none]),?_,?_⟩
 ·refine mid_abs fun _ _ _ => ?_
  obtain ⟨p0,v0,hp0⟩:=dr.val ndk g0E
  rw [g0e] at v0
  have gg:DGet H1 d (.str "") (some (.ref p0)):=by rw [← v0]; exact DGet.k (k:=.inr "") hd
  walk_at "rd"
  exact ⟨⟨p0,rfl,hp0,rfl⟩⟩
 rintro σ' H2 ⟨⟨p0,rfl,hp0,rfl⟩⟩
 refine ⟨fun σ' H3=>Iv (∃ (ep:Nat) (p1:Addr) (g1:Str × Int × Int) (o4:Option V),Same H H3∧SameT H2 H3∧H3 d=some (FzD P w d kvs ep)∧g1∈E∧H3 p1=some (.tup [.int g1.2.1,.int g1.2.2])∧(∀ g∈E,g1.2.1 * g.2.2≤g.2.1 * g1.2.2)∧σ' = [some v,some (.ref a),some (.ref d),some (.ref p1),o4]),?_,?_⟩
 ·refine mid_abs fun _ _ _ => ?_
  walk_at "rd"
  refine .inl ⟨hd,fun ep=>?_⟩
  refine for_values (P:=P) (w:=w) (a:=d) (kvs:=kvs) (ep:=ep) (fun i σ' H'=>Iv (∃ (p1:Addr) (g1:Str × Int × Int) (o4:Option V),Same H H'∧SameT H2 H'∧H' d=some (FzD P w d kvs ep)∧g1∈E∧H' p1=some (.tup [.int g1.2.1,.int g1.2.2])∧(∀ g∈E.take i,g1.2.1 * g.2.2≤g.2.1 * g1.2.2)∧σ' = [some v,some (.ref a),some (.ref d),some (.ref p1),o4])) ?_ ?_ ?_ ?_
  ·exact ⟨⟨p0,g0,_,Same.over S1 fd _,st_dk (SameT.refl _) hd _,upd_same,g0E,st_dk (SameT.refl _) hd _ _ _ hp0,fun g hg=>(by rw [List.take_zero] at hg; cases hg),rfl⟩⟩
  ·rintro i σ' H3 hi ⟨⟨p1,g1,o4,S3,st3,hf,_⟩⟩
   exact hf
  ·rintro i k x σ' H3 hk ⟨⟨p1,g1,o4,S3,st3,hf,g1E,hp1,le,rfl⟩⟩
   obtain ⟨g2,p2,he,rfl,rfl,hpp⟩:=dr.get hk
   have g2E:=List.mem_of_getElem? he
   have hp2:=st3 _ _ hpp
   have b1:=bzs g1 g1E
   have b2:=bzs g2 g2E
   have d1:=dpos g1 g1E
   have d2:=dpos g2 g2E
   have z1:=b1.1
   have z2:=b1.2
   have z3:=b2.1
   have z4:=b2.2
   walk_at "rd"
   refine ite3 (fun c=>?_) (fun c=>?_)
   ·walk_at "rd"
    refine ⟨⟨p2,g2,_,S3,st3,hf,g2E,hp2,fun g hg=>?_,rfl⟩⟩
    rw [List.take_add_one,he] at hg
    rcases List.mem_append.mp hg with z | z
    ·have gE:=List.mem_of_mem_take z
     exact frac_tr d2 d1 (dpos g gE) (Int.le_of_lt c) (le g z)
    ·have z:g∈[g2]:=z
     rw [List.mem_singleton.mp z]
     exact Int.le_refl _
   ·walk_at "rd"
    refine ⟨⟨p1,g1,_,S3,st3,hf,g1E,hp1,fun g hg=>?_,rfl⟩⟩
    rw [List.take_add_one,he] at hg
    rcases List.mem_append.mp hg with z | z
    ·exact le g z
    ·have z:g∈[g2]:=z
     rw [List.mem_singleton.mp z]
     omega
  ·rintro σ' H3 ⟨⟨p1,g1,o4,S3,st3,hf,g1E,hp1,le,rfl⟩⟩
   rw [kl,List.take_length] at le
   exact ⟨⟨ep,p1,g1,o4,S3,st3,hf,g1E,hp1,le,rfl⟩⟩
 rintro σ' H3 ⟨⟨ep,p1,g1,o4,S3,st3,hf,g1E,hp1,le,rfl⟩⟩
 have b1:=bzs g1 g1E
 have d1:=dpos g1 g1E
 walk_at "rd"
 refine .inr ⟨ep,hf,?_⟩
 intro C s2 H2' fp
 refine lc_items (P:=P) (w:=w) (a:=d) (kvs:=kvs) (ep:=ep) (fun i ys H'=>Iv (Same H H'∧SameT H3 H'∧H' d=some (FzD P w d kvs ep)∧ys=((((E.take i).filter fun g => !decide (g1.2.1 * g.2.2 < g.2.1 * g1.2.2)).map (·.1)).map V.str))) ?_ ?_ ?_ ?_
 ·exact ⟨⟨S3,SameT.refl _,hf,by rw [List.take_zero]; rfl⟩⟩
 ·rintro i ys H4 hi ⟨⟨_,_,e1,e2⟩⟩
  refine ⟨e1,?_⟩
  rw [e2,List.length_map,List.length_map]
  have z1:=List.length_filter_le (fun g:Str × Int × Int => !decide (g1.2.1 * g.2.2 < g.2.1 * g1.2.2)) (E.take i)
  have z2:(E.take i).length≤E.length:=by rw [List.length_take]; omega
  exact small1000 (by omega)
 ·rintro i k x T0 ys H4 hk ⟨⟨S4,st4,hf4,rfl⟩⟩ hT
  obtain ⟨g2,p2,he,rfl,rfl,hpp⟩:=dr.get hk
  have g2E:=List.mem_of_getElem? he
  have b2:=bzs g2 g2E
  have z1:=b1.1
  have z2:=b1.2
  have z3:=b2.1
  have z4:=b2.2
  have S5:=S4.new hT (.tup [kV (.inr g2.1),.ref p2])
  have st5:=st4.new hT (.tup [kV (.inr g2.1),.ref p2])
  have hf5:=kp hf4 hT (u:=.tup [kV (.inr g2.1),.ref p2])
  have hT5:upd H4 T0 (.tup [kV (.inr g2.1),.ref p2]) T0=some (.tup [.str g2.1,.ref p2]):=upd_same
  have ft:=filter_take (p:=fun g:Str × Int × Int => !decide (g1.2.1 * g.2.2 < g.2.1 * g1.2.2)) he
  have hlt:i < E.length:=(List.getElem?_eq_some_iff.mp he).1
  generalize upd H4 T0 (.tup [kV (.inr g2.1),.ref p2])=H5 at S5 st5 hf5 hT5 ⊢
  have hp2:=st5 _ _ (st3 _ _ hpp)
  have hp1':=st5 _ _ hp1
  walk_at "rd"
  show if (!decide (g1.2.1 * g2.2.2 < g2.2.1 * g1.2.2))=true then _ else _
  by_cases c:(!decide (g1.2.1 * g2.2.2 < g2.2.1 * g1.2.2))=true
  ·rw [if_pos c] at ft ⊢
   walk_at "rd"
   refine ⟨S5,st5,hf5,?_⟩
   rw [ft,List.map_append,List.map_append]
   rfl
  ·rw [if_neg c] at ft ⊢
   refine ⟨by omega,⟨⟨S5,st5,hf5,?_⟩⟩⟩
   rw [ft,List.append_nil]
 ·rintro ys H4 ⟨⟨S4,st4,hf4,rfl⟩⟩ p hp
  rw [kl,List.take_length]
  refine q _ p _ (S4.new hp _) upd_same (List.Nodup.sublist (List.Sublist.map _ List.filter_sublist) ndk) ?_ fun x=>?_
  ·have mg:g1.1∈(E.filter fun g => !decide (g1.2.1 * g.2.2 < g.2.1 * g1.2.2)).map (·.1):=List.mem_map.mpr ⟨g1,List.mem_filter.mpr ⟨g1E,by rw [decide_eq_false (by omega)]; rfl⟩,rfl⟩
   exact List.ne_nil_of_mem mg
  ·rw [List.mem_map]
   constructor
   ·rintro ⟨g,hg,rfl⟩
    obtain ⟨gE,c⟩:=List.mem_filter.mp hg
    rw [Bool.not_eq_true',decide_eq_false_iff_not] at c
    refine ⟨g,⟨(iE g).mp gE,fun u hu=>?_⟩,rfl⟩
    have uE:=(iE u).mpr hu
    exact frac_tr (dpos g gE) d1 (dpos u uE) (by omega) (le u uE)
   ·rintro ⟨u,⟨hu,lu⟩,rfl⟩
    have uE:=(iE u).mpr hu
    refine ⟨u,List.mem_filter.mpr ⟨uE,?_⟩,rfl⟩
    rw [Bool.not_eq_true',decide_eq_false_iff_not]
    have:=lu g1 ((iE g1).mp g1E)
    omega
theorem ok_jA (T:Tx K mg) : FnOk P w K mg base (CXd P w) 24 T.f_jA T.d_jA ["tree"] (sp_path K):=by
 have sc:=sc_jA
 refine T.F_jA.okd sc (fun vs H Q E h=>?_) (fun cdv A outer s H vs Q E hr h=>?_)
 ·obtain ⟨v,t,B,rfl,tv,lt,b1,b2,tb,q⟩:=h
  rfl
 obtain ⟨v,t,B,rfl,tv,lt,b1,b2,tb,q⟩:=h
 have hu:=hr.units0
 have hu2:=hr.units
 have hu1:=Nat.lt_of_le_of_lt (Nat.add_le_add_left (show 1≤64 by decide) _) hu2
 refine ⟨_,(@pss_cons _ _ _ _ _ (@ps_mid _ _ _ (@ps_set _ _ 1 _ _ _ _ sc.nd rfl (by walk_at "o1") (pe_call (ok_q5 T) (hr.mono (by decide)) rfl T.m_q5 T.F_q5.kp T.b_q5 .nil (pass_d fun _ _ _ z=>z) (pa_cons (pv 0) pa_nil)) (by rfl) (by walk_at "o2")))
   (@pss_cons _ _ _ _ _ (@ps_mid _ _ _ (@ps_set _ _ 2 _ _ _ _ sc.nd rfl (by walk_at "o1") (pe_call (ok_qY T) (hr.mono (by decide)) rfl T.m_qY T.F_qY.kp T.b_qY .nil (pass_d fun _ _ _ z=>z) (pa_cons (pv 0) (pa_cons (pe_tup (pa_cons pe_int (pa_cons pe_int pa_nil))) pa_nil))) (by rfl) (by walk_at "o2")))
   (@pss_cons _ _ _ _ _ (@ps_mid _ _ _ (@ps_set _ _ 3 _ _ _ _ sc.nd rfl (by walk_at "o1") (@pe_lst _ _ _ _ (pa_cons (pe_tup (pa_cons (pe_tup (pa_cons pe_int (pa_cons pe_int pa_nil))) (pa_cons (pv 2) pa_nil))) pa_nil)) (by rfl) (by walk_at "o2")))
   (@pss_cons _ _ _ _ _ (ps_while powd (@pt_cmpR _ _ _ _ _ _ _ _ (op_neD hu2) (pv 2) (@pe_lst _ _ _ _ (pa_cons pe_str pa_nil se_c)) (nomark _)) (@pss_cons _ _ _ _ _ (@ps_mid _ _ _ (@ps_set _ _ 4 _ _ _ _ sc.nd rfl (by walk_at "o1") (pe_call (ok_qC T) (hr.mono (by decide)) rfl T.m_qC T.F_qC.kp T.b_qC .nil (pass_d fun _ _ _ z=>z) (pa_cons (pv 1) (pa_cons (pv 2) pa_nil))) (by rfl) (by walk_at "o2")))
   (@pss_cons _ _ _ _ _ (@ps_mid _ _ _ (@ps_set _ _ 5 _ _ _ _ sc.nd rfl (by walk_at "o1") (pe_call (ok_qF T) (hr.mono (by decide)) rfl T.m_qF T.F_qF.kp T.b_qF .nil (pass_d fun _ _ _ z=>z) (pa_cons (pv 0) (pa_cons (pv 2) (pa_cons (@pe_ix _ _ _ _ _ _ _ ix_list (pv 4) pe_int (fun _ _=>rfl)) pa_nil)))) (by rfl) (by walk_at "o2")))
   (@pss_cons _ _ _ _ _ (@ps_mid _ _ _ (@ps_set _ _ 2 _ _ _ _ sc.nd rfl (by walk_at "o1") (pe_call (ok_jB T) (hr.mono (by decide)) rfl T.m_jB T.F_jB.kp T.b_jB .nil (pass_d fun _ _ _ z=>z) (pa_cons (pv 2) (pa_cons (pv 4) pa_nil))) (by rfl) (by walk_at "o2")))
   (@pss_one _ _ _ (ps_expr (pe_bm PySem.F.plainAttrs_list PySem.F.slot_list_append PySem.F.type_list_append mt_append (pv 3) (pa_cons (pe_tup (pa_cons (pv 5) (pa_cons (pv 2) pa_nil))) pa_nil))))))))
   (@pss_one _ _ _ (@ps_ret _ _ _ _ (pv 3))))))),?_⟩
 walk_at "kx"
 have ltd:=lt
 obtain ⟨lt,td⟩:=lt
 have b0:0 < B:=by omega
 have bz:Bz 128 B:=Bz.w (by omega) (by omega)
 have lt30:t.lv≤61:=by omega
 refine ⟨fun σ' H1=>Iv (∃ (x:V) (t':Tr) (C:Int),Same H H1∧TV K H1 x (trD t')∧Sc B C t t'∧0 < C∧t'.B∧σ' = [some v,some x,none,none,none,none]),?_,?_⟩
 ·refine mid_abs fun _ _ _ => ?_
  walk_at "rd"
  rename_i H1 x t' C S1 tx sc c0 cb tb'
  exact ⟨⟨x,t',C,S1,tx,sc,c0,tb',rfl⟩⟩
 rintro σ' H1 ⟨⟨x,t',C,S1,tx,sc,c0,tb',rfl⟩⟩
 have tv1:=tv.mono S1.t
 have cv1:=TV.cv b0 tv1
 have pr:Pr29 0 1 B:=⟨Int.le_refl _,by decide,Int.le_refl _,by decide,b1,b2⟩
 refine ⟨fun σ' H2=>Iv (∃ (pa:Addr),Same H1 H2∧H2 pa=some (.lst ((best 1 0 t "").1.map V.str))∧σ' = [some v,some x,some (.ref pa),none,none,none]),?_,?_⟩
 ·refine mid_abs fun _ _ _ => ?_
  walk_at "rd"
  rename_i p0 hp0
  have cv2:=cv1.same (same_new hp0 (.tup [.int 0,.int 1]))
  have e01:rt (Rat.divInt 0 1) = .tup [.int 0,.int 1]:=by
   rw [Rat.zero_divInt]
   rfl
  refine ⟨cv2,td,lt,tb,(by rw [e01]; exact upd_same:_=some (rt (Rat.divInt 0 1))),.inl ⟨pr,fun H2 l S2 hl=>?_⟩⟩
  rw [Int.zero_mul] at hl
  exact ⟨⟨l,(same_new hp0 _).trans S2,hl,rfl⟩⟩
 rintro σ' H2 ⟨⟨pa,S2,hpa,rfl⟩⟩
 obtain ⟨us0,m0,lk0,up0⟩:=best_lk (b:=1) (by decide) t ""
 have P0:Pth t B [(0,(best 1 0 t "").1)] 0 1 us0:=.one lk0 up0
 have tx2:=tx.mono S2.t
 have tv2:=tv1.mono S2.t
 have S02:=S1.trans S2
 refine ⟨fun σ' H3=>Iv (∃ (z p0:Addr),Same H2 H3∧H2 z=none∧H3 z=some (.lst [.ref p0])∧QVs H3 [.ref p0] [(0,(best 1 0 t "").1)]∧σ' = [some v,some x,some (.ref pa),some (.ref z),none,none]),?_,?_⟩
 ·refine mid_abs fun _ _ _ => ?_
  walk_at "rd"
  rename_i r hr p0 hp0 z hz
  have S3:=((same_new hr (H:=H2) (.tup [.int 0,.int 1])).new hp0 (.tup [.ref r,.ref pa])).new hz (.lst [.ref p0])
  exact ⟨⟨z,p0,S3,Same.free ((same_new hr _).new hp0 _) hz,upd_same,.cons (kp upd_same hz) (kp (kp upd_same hp0) hz:_=some (rt 0)) (S3 _ _ hpa) .nil,rfl⟩⟩
 rintro σ' H3 ⟨⟨z,p0,S3,fz,hz3,qv3,rfl⟩⟩
 have Hz:H z=none:=S02.free fz
 have hpa3:=S3 _ _ hpa
 refine while_by (fun σ' H'=>Iv (∃ (pa:Addr) (xs:List V) (sts l:List (Rat × List Str)) (y:Rat × List Str) (a b:Int) (us:List (Str × Int × Int)) (s m:Int) (o4 o5:Option V),Same H2 H'∧H' z=some (.lst (.ref p0 :: xs))∧QVs H' (.ref p0 :: xs) sts∧sts=l ++ [y]∧Pth t B sts a b us∧LK t "" y.2 us s m∧H' pa=some (.lst (y.2.map V.str))∧sts.length + y.2.length≤62∧σ' = [some v,some x,some (.ref pa),some (.ref z),o4,o5])) (fun σ H=>match σ.getD 2 none with | some (.ref a)=>(match H a with | some (.lst xs)=>xs.length | _=>0) | _=>0) ⟨⟨pa,[],_,[],_,0,1,us0,_,m0,_,_,S3,hz3,qv3,rfl,P0,lk0,hpa3,by have:=best_len 1 0 t ""; show 1 + (best 1 0 t "").1.length≤62; omega,rfl⟩⟩ ?_ ?_
 ·rintro σ' H4 ⟨⟨pa,xs,sts,l,y,a,b,us,s,m,o4,o5,S4,hz4,qv4,est,pth,lk,hpa4,sl,rfl⟩⟩
  have pi:=lk.pi
  have asc:=(pi.asc (fun c hc=>by cases hc)).1
  have lo:=lk.one
  walk_at "rd"
  rename_i n hn
  refine ⟨.list (y.2.map PyData.str),.list ([Str.ofString ""].map PyData.str),dvS (kp hpa4 hn),dvS upd_same,((shS (n:=62) asc).mono (by decide)).shaped,((shS (n:=62) (ps:=[Str.ofString ""]) (fun u hu=>by rw [List.mem_singleton.mp hu]; exact fun c hc=>by cases hc)).mono (by decide)).shaped,?_⟩
  rw [strs_eqv]
  refine ⟨_,rfl,?_⟩
  have S45:=same_new hn (H:=H4) (.lst [.str (Str.ofString "")])
  generalize upd H4 n (.lst [.str (Str.ofString "")])=H5 at S45 ⊢
  have S5:=S4.trans S45
  have hz5:=S45 _ _ hz4
  have qv5:=qv4.same S45
  have hpa5:=S45 _ _ hpa4
  by_cases c:y.2 = [Str.ofString ""]
  ·rw [decide_eq_true c]
   have ue:us = []:=by
    cases us with
    | nil=>rfl
    | cons u us =>
     have h1:=lo.2.2.2 (by simp)
     have h2:=lo.2.1
     rw [c] at h2
     have h3:m=1:=h2
     omega
   subst ue
   walk_at "rd"
   exact q _ z _ sts a b (S02.trans S5) Hz hz5 qv5 pth (by have h1:1≤y.2.length:=(by rw [c]; exact Nat.le_refl 1); omega)
  ·rw [decide_eq_false c]
   have une:us ≠ []:=fun e=>by
    subst e
    generalize hps:y.2=ps at lk c
    cases lk
    exact c rfl
   obtain ⟨us',s',lk',_,h1,h2⟩:=Sc.lk lk sc
   have une':us' ≠ []:=fun e=>by
    obtain ⟨u,hu⟩:=List.exists_mem_of_ne_nil us une
    obtain ⟨v',hv,_⟩:=h1 u hu
    rw [e] at hv
    cases hv
   have lt':t'.lv≤61∧t'.dp≤20:=by rw [sc.lv,sc.dp]; exact ltd
   have tx5:=tx2.mono S5.t
   have tv5:=tv2.mono S5.t
   have wsc:=Weak.sc b0 c0 h1 h2
   walk_at "rd"
   refine ⟨fun σ' H6=>Iv (∃ (wk:Addr) (rs:List Str),Same H5 H6∧H6 wk=some (.lst (rs.map V.str))∧rs.Nodup∧rs ≠ []∧(∀ x,x∈rs↔∃ u,Weak us u∧u.1=x)∧σ' = [some v,some x,some (.ref pa),some (.ref z),some (.ref wk),o5]),?_,?_⟩
   ·refine mid_abs fun _ _ _ => ?_
    walk_at "rd"
    rename_i H6 wk rs S6 hwk ndr rne me
    exact ⟨⟨wk,rs,S6,hwk,ndr,rne,fun z=>(me z).trans (wsc z),rfl⟩⟩
   rintro σ' H6 ⟨⟨wk,rs,S6,hwk,ndr,rne,me,rfl⟩⟩
   obtain ⟨f,rs',rfl⟩:=List.exists_cons_of_ne_nil rne
   obtain ⟨u,wu,eu⟩:=(me f).mp List.mem_cons_self
   have vl:=(lk.vals (wA t) wA_at).2.2 u wu.1
   have at0:atI ((f :: rs').map V.str) 0=some (.str f):=atI_nat (j:=0) rfl
   have sub:∀ g∈f :: rs',g∈us.map (·.1):=fun g hg=>by
    obtain ⟨v',wv,ev⟩:=(me g).mp hg
    exact List.mem_map.mpr ⟨v',wv.1,ev⟩
   have fgk:∀ g∈us.map (·.1),g∈(plc t "").map (·.1):=fun g hg=>List.mem_map.mpr ⟨_,pi.forks.1 g hg,rfl⟩
   have fk:=fgk f (sub f List.mem_cons_self)
   have pk:=pi.kn
   have pl:=pi.len
   have rl:(f :: rs').length≤(us.map (·.1)).length:=nd_len ndr sub
   have y64:y.2.length < 64:=by omega
   rw [eu] at vl
   have u2:=vl.2.2
   have tv6:=tv5.mono S6.t
   have hpa6:=S6 _ _ hpa5
   have hz6:=S6 _ _ hz5
   have qv6:=qv5.same S6
   refine ⟨fun σ' H7=>Iv (∃ (r:Addr),Same H6 H7∧H7 r=some (rt (Rat.divInt u.2.1 (u.2.2 * B)))∧σ' = [some v,some x,some (.ref pa),some (.ref z),some (.ref wk),some (.ref r)]),?_,?_⟩
   ·refine mid_abs fun _ _ _ => ?_
    walk_at "rd"
    rename_i H7 r S7 hr
    refine ⟨⟨r,S7,?_,rfl⟩⟩
    rw [hr,vl.1,vl.2.1]
   rintro σ' H7 ⟨⟨r,S7,hr7,rfl⟩⟩
   obtain ⟨ps',us2,s2,m2,ct⟩:=lk.cutc (weak_cut pi.facts.n2 lo.2.2.1 me wu) (weak_f ndr me)
   have ml:=ct.lt ⟨u,wu.1,decide_eq_true (by rw [eu]; exact List.mem_cons_self)⟩
   have lo2:=ct.lk.one
   have sm1:y.2.length≤100:=by omega
   have sm2:(f :: rs').length≤100:=by omega
   have sm:(kept y.2 (f :: rs') ++ tops (f :: rs')).length < 64:=by rw [(cut_pm lk ct ndr sub).length_eq]; omega
   have hpa7:=S7 _ _ hpa6
   have hwk7:=S7 _ _ hwk
   have hz7:=S7 _ _ hz6
   have qv7:=qv6.same S7
   refine ⟨fun σ' H8=>Iv (∃ (pb:Addr),Same H7 H8∧H8 pb=some (.lst (ps'.map V.str))∧σ' = [some v,some x,some (.ref pb),some (.ref z),some (.ref wk),some (.ref r)]),?_,?_⟩
   ·refine mid_abs fun _ _ _ => ?_
    walk_at "rd"
    rename_i H8 pb qs S8 fb hb pmq soq
    obtain rfl:=cut_is lk ct ndr sub pmq soq
    exact ⟨⟨pb,S8,hb,rfl⟩⟩
   rintro σ' H8 ⟨⟨pb,S8,hb8,rfl⟩⟩
   have hr8:=S8 _ _ hr7
   have hz8:=S8 _ _ hz7
   have qv8:=qv7.same S8
   have S28:=((S5.trans S6).trans S7).trans S8
   have xl:(V.ref p0 :: xs).length < sizeLine:=small1000 (by rw [qv8.len]; omega)
   walk_at "rd"
   rename_i p9 hp9
   subst est
   have S9:=same_new hp9 (H:=H8) (.tup [.ref r,.ref pb])
   have hz9:=kp hz8 hp9 (u:=.tup [.ref r,.ref pb])
   have qv9:=((qv8.same S9).snoc upd_same (S9 _ _ hr8) (S9 _ _ hb8)).put hz9 (.lst ((.ref p0 :: xs) ++ [.ref p9]))
   have nbz:pb ≠ z:=ne_of hb8 hz8 (by intro e; cases ps' <;> cases e)
   have hb9:upd (upd H8 p9 (.tup [.ref r,.ref pb])) z (.lst ((.ref p0 :: xs) ++ [.ref p9])) pb=some (.lst (ps'.map V.str)):=by
    rw [upd_ne nbz]
    exact S9 _ _ hb8
   have qv10:QVs (upd (upd H8 p9 (.tup [.ref r,.ref pb])) z (.lst ((.ref p0 :: xs) ++ [.ref p9]))) (V.ref p0 :: (xs ++ [V.ref p9])) (l ++ [y] ++ [(Rat.divInt u.2.1 (u.2.2 * B),ps')]):=qv9
   refine ⟨⟨⟨pb,xs ++ [V.ref p9],_,l ++ [y],(Rat.divInt u.2.1 (u.2.2 * B),ps'),u.2.1,u.2.2,us2,s2,m2,_,_,Same.over (S28.trans S9) fz _,upd_same,qv10,rfl,.step pth lk wu me (weak_cut pi.facts.n2 lo.2.2.1 me wu) (weak_f ndr me) ct ml,ct.lk,hb9,?_,rfl⟩⟩,?_⟩
   ·have h1:=lo.2.1
    have h2:=lo2.2.1
    show (l ++ [y] ++ [(Rat.divInt u.2.1 (u.2.2 * B),ps')]).length + ps'.length≤62
    rw [List.length_append,List.length_singleton]
    omega
   ·show (match upd (upd H8 p9 (.tup [.ref r,.ref pb])) z (.lst ((.ref p0 :: xs) ++ [.ref p9])) pb with | some (.lst xs)=>xs.length | _=>0) < (match H4 pa with | some (.lst xs)=>xs.length | _=>0)
    rw [hb9,hpa4]
    show (ps'.map V.str).length < (y.2.map V.str).length
    rw [List.length_map,List.length_map]
    have h1:=lo.2.1
    have h2:=lo2.2.1
    omega
 ·rintro σ' H' Q1 Q2 hq ⟨v,e,ln,f⟩
  exact ⟨v,e,ln,fun p hp=>by
   obtain ⟨dx,dy,d1,d2,s1,s2,k,ek,y⟩:=f p hp
   exact ⟨dx,dy,d1,d2,s1,s2,k,ek,hq _ _ y⟩⟩
theorem ok_q6 (T:Tx K mg) : FnOk P w K mg base (CXd P w) 4 T.f_q6 T.d_q6 ["steps", "price"] (sp_last T.c_NoPrice K):=by
 have sc:=sc_q6
 refine T.F_q6.okd sc (fun vs H Q E h=>?_) (fun cdv A outer s H vs Q E hr h=>?_)
 ·obtain ⟨a,xs,sts,pa,r,rfl,ha,qv,sl,hp,rz,rzs,q⟩:=h
  rfl
 obtain ⟨a,xs,sts,pa,r,rfl,ha,qv,sl,hp,rz,rzs,q⟩:=h
 have hu:=hr.units0
 have hu2:=hr.units
 have hu1:=Nat.lt_of_le_of_lt (Nat.add_le_add_left (show 1≤64 by decide) _) hu2
 refine ⟨_,(@pss_cons _ _ _ _ _ (ps_expr (pe_call (ok_qE T) (hr.mono (by decide)) rfl T.m_qE T.F_qE.kp T.b_qE .nil (pass_d fun _ _ _ z=>z) (pa_cons (pv 1) pa_nil)))
   (@pss_one _ _ _ (@ps_ret _ _ _ _ (@pe_ix _ _ _ _ _ _ _ ix_list (pe_lc (ts:=["step"]) (js:=[1]) (LcOk.of rfl) rfl (pi_list (pv 0)) (fun _ _ _ _=>(pg_name (i:=0) (nodup_of rfl) rfl (Or.inl rfl))) (fun _ _ _ _=>(pf_one (pt_not (pt_val (pe_call (ok_j7 T) (hr.mono (by decide)) rfl T.m_j7 T.F_j7.kp T.b_j7 .nil passNd (pa_cons (pv 1) (pa_cons (@pe_ix _ _ _ _ _ _ _ ix_tup (pv 0) pe_int (fun _ _=>rfl)) pa_nil))))))) (fun _ _ _ _=>(pv 0))) (pe_un un_neg pe_int) (fun _ _=>rfl))))),?_⟩
 walk_at "kx"
 have hp':H pa=some (.tup [.int r.num,.int (r.den:Int)]):=hp
 have z1:=rz.zn
 have z2:=rz.zd
 walk_at "rd"
 rcases q with ⟨c,q⟩ | ⟨c,⟨i0,x0,hx0,nx0⟩,q⟩
 ·exact .inr ⟨c,q⟩
 ·refine .inl ⟨c,fun H1 S1=>?_⟩
  have ha1:=S1 _ _ ha
  have hp1:=S1 _ _ hp'
  have qv1:=qv.same S1
  have xl:=qv.len
  walk_at "rd"
  refine lc_list (K:=K) (a:=a) (xs:=xs) (fun i ys H'=>Iv (H'=H1∧QVs H1 ys ((sts.take i).filter (nab r)))) ⟨⟨rfl,.nil⟩⟩ (fun i ys H' hi z=>⟨SqL.of (by rw [z.o.1]; exact ha1),?_⟩) ?_ ?_
  ·rw [z.o.2.len]
   refine small1000 (Nat.le_trans (List.length_filter_le _ _) ?_)
   rw [List.length_take]
   omega
  ·rintro i x ys H' hi ⟨⟨rfl,qy⟩⟩
   have il:=(List.getElem?_eq_some_iff.mp hi).1
   obtain ⟨p,rr,l,q0,ps,rfl,hpp,hr,hl,hs⟩:=qv1.at hi
   have hr':H' rr=some (.tup [.int q0.num,.int (q0.den:Int)]):=hr
   have ft:=filter_take (p:=nab r) hs
   have rq:=rzs _ (List.mem_of_getElem? hs)
   have z3:Bz 8000 q0.num:=rq.zn
   have z4:Bz 8000 (q0.den:Int):=rq.zd
   walk_at "rd"
   show if nab r (q0,ps)=true then _ else _
   by_cases c:nab r (q0,ps)=true
   ·rw [if_pos c] at ft ⊢
    walk_at "rd"
    refine ⟨rfl,?_⟩
    rw [ft]
    exact qy.snoc hpp hr hl
   ·rw [if_neg c] at ft ⊢
    refine ⟨by omega,⟨⟨rfl,?_⟩⟩⟩
    rw [ft,List.append_nil]
    exact qy
  ·rintro ys H' ⟨⟨rfl,qy⟩⟩ z hz
   rw [xl,List.take_length] at qy
   have ne:(sts.filter (nab r)) ≠ []:=List.ne_nil_of_mem (List.mem_filter.mpr ⟨List.mem_of_getElem? hx0,nx0⟩)
   obtain ⟨L,y,eL⟩ : ∃ L y,sts.filter (nab r)=L ++ [y]:=⟨_,_,(List.dropLast_concat_getLast ne).symm⟩
   have yl:=qy.len
   obtain ⟨Y,v,eY⟩ : ∃ Y v,ys=Y ++ [v]:=by
    have:ys ≠ []:=fun e=>by rw [e,eL,List.length_append] at yl; exact absurd yl (by rw [List.length_nil,List.length_singleton]; omega)
    exact ⟨_,_,(List.dropLast_concat_getLast this).symm⟩
   subst eY
   have la:=last_at Y v
   have iv:(Y ++ [v])[Y.length]? = some v:=by rw [List.getElem?_append_right (Nat.le_refl _),Nat.sub_self]; rfl
   obtain ⟨p,rr,l,q0,ps,rfl,hpp,hr,hl,hs⟩:=qy.at iv
   walk_at "rd"
   have S2:=S1.new hz (.lst (Y ++ [.ref p]))
   refine q _ p rr l q0 ps S2 ?_ (kp hpp hz) (kp hl hz)
   rw [eL] at hs yl ⊢
   rw [List.length_append,List.length_append,List.length_singleton,List.length_singleton] at yl
   rw [show Y.length=L.length by omega,List.getElem?_append_right (Nat.le_refl _),Nat.sub_self] at hs
   have hs:some y=some (q0,ps):=hs
   rw [List.getLast?_append,← hs]
   rfl
theorem ok_qR (T:Tx K mg) : FnOk P w K mg base (CXd P w) 5 T.f_qR T.d_qR ["steps", "price"] (sp_forp T.c_NoPrice K):=by
 have sc:=sc_qR
 refine T.F_qR.okd sc (fun vs H Q E h=>?_) (fun cdv A outer s H vs Q E hr h=>?_)
 ·obtain ⟨a,xs,sts,pa,r,rfl,ha,qv,sl,hp,rz,rzs,q⟩:=h
  rfl
 obtain ⟨a,xs,sts,pa,r,rfl,ha,qv,sl,hp,rz,rzs,q⟩:=h
 have hu:=hr.units0
 have hu2:=hr.units
 have hu1:=Nat.lt_of_le_of_lt (Nat.add_le_add_left (show 1≤64 by decide) _) hu2
 refine ⟨_,(@pss_one _ _ _ (@ps_ret _ _ _ _ (pe_callTy call_list_of rfl T.z_list bt_list (pa_cons (@pe_ix _ _ _ _ _ _ _ ix_tup (pe_call (ok_q6 T) (hr.mono (by decide)) rfl T.m_q6 T.F_q6.kp T.b_q6 .nil (pass_d fun _ _ _ z=>z) (pa_cons (pv 0) (pa_cons (pv 1) pa_nil))) pe_int (fun _ _=>rfl)) pa_nil)))),?_⟩
 walk_at "kx"
 walk_at "rd"
 rcases q with ⟨c,q⟩ | ⟨c,ex,pl,q⟩
 ·exact .inl ⟨c,q⟩
 ·refine .inr ⟨c,ex,fun H1 p rr l q0 ps S1 la hpp hl=>?_⟩
  have psl:ps.length≤64:=pl (q0,ps) (List.mem_filter.mp (List.mem_of_getLast? la)).1
  walk_at "rd"
  rename_i z hz
  exact q _ z q0 ps (S1.new hz _) (S1.free hz) la upd_same
theorem ok_qZ (T:Tx K mg) : FnOk P w K mg base (CXd P w) 1 T.f_qZ T.d_qZ ["_law_script", "_law_k"] (sp_cell29 K):=by
 have sc:=sc_qZ
 refine T.F_qZ.okd sc (fun vs H Q E h=>?_) (fun cdv A outer s H vs Q E hr h=>?_)
 ·obtain ⟨a,ns,k,rfl,hS,hk,q⟩:=h
  rfl
 obtain ⟨a,ns,k,rfl,hS,hk,q⟩:=h
 have hu:=hr.units0
 have hu2:=hr.units
 have hu1:=Nat.lt_of_le_of_lt (Nat.add_le_add_left (show 1≤64 by decide) _) hu2
 refine ⟨_,(@pss_cons _ _ _ _ _ (@ps_if _ _ _ _ _ _ _ _ (@pt_cmpR _ _ _ _ _ _ _ _ op_lt (pv 1) (pe_callB call_len_seq rfl T.z_len bt_len (pa_cons (pv 0) pa_nil)) (nomark _)) (@pss_one _ _ _ (@ps_ret _ _ _ _ (@pe_ix _ _ _ _ _ _ _ ix_list (pv 0) (pv 1) (fun _ _=>rfl)))) pss_nil)
   (@pss_one _ _ _ (@ps_ret _ _ _ _ pe_int))),?_⟩
 walk_at "kx"
 have hl2:(ns.map V.int).length=ns.length:=List.length_map _
 walk_at "rd"
 refine ite3 (fun h=>?_) (fun h=>?_)
 ·have hv:=atI_mapD (f:=V.int) (0:Int) hk (show k < (ns.length:Int) by omega)
  walk_at "rd"
  exact q
 ·have e:ns.getD k.toNat 0=0:=by rw [List.getD_eq_getElem?_getD,List.getElem?_eq_none (by omega)]; rfl
  rw [e] at q
  exact q
theorem ok_j0 (T:Tx K mg) : FnOk P w K mg base (CXd P w) 1 T.f_j0 T.d_j0 ["_law_cell_here", "_law_turn", "_law_many"] sp_pick:=by
 have sc:=sc_j0
 refine T.F_j0.okd sc (fun vs H Q E h=>?_) (fun cdv A outer s H vs Q E hr h=>?_)
 ·obtain ⟨c,k,m,rfl,k0,k1,m0,m1,q⟩:=h
  rfl
 obtain ⟨c,k,m,rfl,k0,k1,m0,m1,q⟩:=h
 have hu:=hr.units0
 have hu2:=hr.units
 have hu1:=Nat.lt_of_le_of_lt (Nat.add_le_add_left (show 1≤64 by decide) _) hu2
 refine ⟨_,(@pss_cons _ _ _ _ _ (@ps_set _ _ 3 _ _ _ _ sc.nd rfl (by walk_at "o1") (@pe_op _ _ _ _ _ _ _ _ op_mod (@pe_op _ _ _ _ _ _ _ _ op_mulB (@pe_op _ _ _ _ _ _ _ _ op_add (@pe_op _ _ _ _ _ _ _ _ op_mod (pv 0) pe_int) pe_int) (@pe_op _ _ _ _ _ _ _ _ op_add pe_int (@pe_op _ _ _ _ _ _ _ _ op_mulB pe_int (pv 1)))) pe_int) (by rfl) (by walk_at "o2"))
   (@pss_one _ _ _ (@ps_ret _ _ _ _ (@pe_op _ _ _ _ _ _ _ _ op_mod (@pe_op _ _ _ _ _ _ _ _ op_fdivB (@pe_op _ _ _ _ _ _ _ _ op_mod (@pe_op _ _ _ _ _ _ _ _ op_mulB (pv 3) pe_int) pe_int) pe_int) (pv 2))))),?_⟩
 walk_at "kx"
 walk_at "rd"
 exact q _ (Int.emod_nonneg _ (by omega)) (Int.emod_lt_of_pos _ m0)
theorem ok_qK (T:Tx K mg) : FnOk P w K mg base (CXd P w) 1 T.f_qK T.d_qK ["_law_top", "_law_bottom_here"] sp_law_ratio:=by
 have sc:=sc_qK
 refine T.F_qK.okd sc (fun vs H Q E h=>?_) (fun cdv A outer s H vs Q E hr h=>?_)
 ·obtain ⟨t,b,rfl,hb,bz,q⟩:=h
  rfl
 obtain ⟨t,b,rfl,hb,bz,q⟩:=h
 have hu:=hr.units0
 have hu2:=hr.units
 have hu1:=Nat.lt_of_le_of_lt (Nat.add_le_add_left (show 1≤64 by decide) _) hu2
 refine ⟨_,(@pss_cons _ _ _ _ _ (@ps_set _ _ 2 _ _ _ _ sc.nd rfl (by walk_at "o1") (pe_callB call_abs rfl T.z_abs bt_abs (pa_cons (pv 0) pa_nil)) (by rfl) (by walk_at "o2"))
   (@pss_cons _ _ _ _ _ (@ps_set _ _ 3 _ _ _ _ sc.nd rfl (by walk_at "o1") (pv 1) (by rfl) (by walk_at "o2"))
   (@pss_cons _ _ _ _ _ (ps_while powd (@pt_cmpR _ _ _ _ _ _ _ _ op_gt (pv 3) pe_int (nomark _)) (@pss_cons _ _ _ _ _ (@ps_set _ _ 4 _ _ _ _ sc.nd rfl (by walk_at "o1") (@pe_op _ _ _ _ _ _ _ _ op_mod (pv 2) (pv 3)) (by rfl) (by walk_at "o2"))
   (@pss_cons _ _ _ _ _ (@ps_set _ _ 2 _ _ _ _ sc.nd rfl (by walk_at "o1") (pv 3) (by rfl) (by walk_at "o2"))
   (@pss_one _ _ _ (@ps_set _ _ 3 _ _ _ _ sc.nd rfl (by walk_at "o1") (pv 4) (by rfl) (by walk_at "o2"))))))
   (@pss_one _ _ _ (@ps_ret _ _ _ _ (pe_tup (pa_cons (@pe_op _ _ _ _ _ _ _ _ op_fdivB (pv 0) (pv 2)) (pa_cons (@pe_op _ _ _ _ _ _ _ _ op_fdivB (pv 1) (pv 2)) pa_nil)))))))),?_⟩
 walk_at "kx"
 walk_at "rd"
 refine while_by (fun σ H'=>H'=H∧∃ (x y:Int) (r:Option V),σ = [some (.int t),some (.int b),some (.int x),some (.int y),r]∧M.Inv t b x y)
  (fun σ _=>match σ with | [_,_,_,some (.int y),_]=>y.toNat | _=>0) ⟨rfl,_,_,_,rfl,M.Inv.start t b (by omega)⟩ ?_ ?_
 ·rintro σ' H' ⟨rfl,x,y,r,rfl,iv⟩
  have h1:=iv.y0
  walk_at "rd"
  refine ite3 (fun hy=>?_) (fun c=>?_)
  ·walk_at "rd"
   exact ⟨⟨rfl,_,_,_,rfl,iv.turn hy⟩,M.less hy⟩
  ·have e:=iv.out (show y=0 by omega) (by omega)
   subst e
   have cm:∀ i,CDivB i (M.G t b):=fun i=>⟨M.G_pos t b,(bz.le (M.G_le (by omega))).log2⟩
   have c1:=cm t
   have c2:=cm b
   walk_at "rd"
   exact Nw.low hb q _ (by assumption)
 ·rintro σ' H' Q1 Q2 hq ⟨v,e,i,j,ei,ej,k,ek,y⟩
  exact ⟨v,e,i,j,ei,ej,k,ek,hq _ _ y⟩
theorem ok_qS (T:Tx K mg) : FnOk P w K mg base (CXd P w) 2 T.f_qS T.d_qS ["_law_cell_here", "_law_way"] sp_worth:=by
 have sc:=sc_qS
 refine T.F_qS.okd sc (fun vs H Q E h=>?_) (fun cdv A outer s H vs Q E hr h=>?_)
 ·obtain ⟨c,y,rfl,q⟩:=h
  rfl
 obtain ⟨c,y,rfl,q⟩:=h
 have hu:=hr.units0
 have hu2:=hr.units
 have hu1:=Nat.lt_of_le_of_lt (Nat.add_le_add_left (show 1≤64 by decide) _) hu2
 refine ⟨_,(@pss_cons _ _ _ _ _ (@ps_if _ _ _ _ _ _ _ _ (@pt_cmpR _ _ _ _ _ _ _ _ op_eqI (@pe_op _ _ _ _ _ _ _ _ op_fdivB (pv 1) pe_int) pe_int (nomark _)) (@pss_one _ _ _ (@ps_ret _ _ _ _ (@pe_op _ _ _ _ _ _ _ _ op_sub (pe_call (ok_j0 T) (hr.mono (by decide)) rfl T.m_j0 T.F_j0.kp T.b_j0 .nil (pass_d fun _ _ _ z=>z) (pa_cons (pv 0) (pa_cons pe_int (pa_cons pe_int pa_nil)))) pe_int))) pss_nil)
   (@pss_cons _ _ _ _ _ (@ps_if _ _ _ _ _ _ _ _ (@pt_cmpR _ _ _ _ _ _ _ _ op_eqI (@pe_op _ _ _ _ _ _ _ _ op_fdivB (pv 1) pe_int) pe_int (nomark _)) (@pss_one _ _ _ (@ps_ret _ _ _ _ (@pe_op _ _ _ _ _ _ _ _ op_mod (pv 0) pe_int))) pss_nil)
   (@pss_one _ _ _ (@ps_ret _ _ _ _ (@pe_op _ _ _ _ _ _ _ _ op_sub (@pe_op _ _ _ _ _ _ _ _ op_mod (pv 0) (pe_fold (.int 1000000000000000000000000000000) (@pe_op _ _ _ _ _ _ _ _ op_pow pe_int pe_int) (by walk_at "cf"))) (pe_fold (.int 500000000000000000000000000000) (@pe_op _ _ _ _ _ _ _ _ op_mulB pe_int (@pe_op _ _ _ _ _ _ _ _ op_pow pe_int pe_int)) (by walk_at "cf"))))))),?_⟩
 walk_at "kx"
 walk_at "rd"
 refine ite3 (fun _=>?_) (fun _=>?_)
 ·walk_at "rd"
  exact q _ (by omega) (by omega)
 walk_at "rd"
 refine ite3 (fun _=>?_) (fun _=>?_)
 ·walk_at "rd"
  exact q _ (by omega) (by omega)
 walk_at "rd"
 exact q _ (by omega) (by omega)
theorem ok_qL (T:Tx K mg) : FnOk P w K mg base (CXd P w) 3 T.f_qL T.d_qL ["_law_cell_here", "_law_one", "_law_two", "_law_way"] (sp_joined2 K):=by
 have sc:=sc_qL
 refine T.F_qL.okd sc (fun vs H Q E h=>?_) (fun cdv A outer s H vs Q E hr h=>?_)
 ·obtain ⟨c,y,v1,v2,i1,i2,rfl,t1,t2,hl,k1,k2,q⟩:=h
  rfl
 obtain ⟨c,y,v1,v2,i1,i2,rfl,t1,t2,hl,k1,k2,q⟩:=h
 have hu:=hr.units0
 have hu2:=hr.units
 have hu1:=Nat.lt_of_le_of_lt (Nat.add_le_add_left (show 1≤64 by decide) _) hu2
 refine ⟨_,(@pss_cons _ _ _ _ _ (@ps_set _ _ 4 _ _ _ _ sc.nd rfl (by walk_at "o1") (@pe_op _ _ _ _ _ _ _ _ op_add (@pe_ix _ _ _ _ _ _ _ ix_tup (pv 1) pe_int (fun _ _=>rfl)) (@pe_ix _ _ _ _ _ _ _ ix_tup (pv 2) pe_int (fun _ _=>rfl))) (by rfl) (by walk_at "o2"))
   (@pss_cons _ _ _ _ _ (@ps_set _ _ 5 _ _ _ _ sc.nd rfl (by walk_at "o1") (@pe_op _ _ _ _ _ _ _ _ op_add (@pe_ix _ _ _ _ _ _ _ ix_tup (pv 1) pe_int (fun _ _=>rfl)) (@pe_ix _ _ _ _ _ _ _ ix_tup (pv 2) pe_int (fun _ _=>rfl))) (by rfl) (by walk_at "o2"))
   (@pss_cons _ _ _ _ _ (@ps_set _ _ 6 _ _ _ _ sc.nd rfl (by walk_at "o1") (@pe_op _ _ _ _ _ _ _ _ op_add (pv 4) (@pe_op _ _ _ _ _ _ _ _ op_mulB (@pe_op _ _ _ _ _ _ _ _ op_sub (pe_call (ok_j0 T) (hr.mono (by decide)) rfl T.m_j0 T.F_j0.kp T.b_j0 .nil (pass_d fun _ _ _ z=>z) (pa_cons (pv 0) (pa_cons pe_int (pa_cons pe_int pa_nil)))) pe_int) (@pe_op _ _ _ _ _ _ _ _ op_sub (pv 5) pe_int))) (by rfl) (by walk_at "o2"))
   (@pss_cons _ _ _ _ _ (@ps_mid _ _ _ (@ps_if _ _ _ _ _ _ _ _ (@pt_cmpR _ _ _ _ _ _ _ _ op_eqI (@pe_op _ _ _ _ _ _ _ _ op_mod (pv 3) pe_int) pe_int (nomark _)) (@pss_one _ _ _ (@ps_set _ _ 6 _ _ _ _ sc.nd rfl (by walk_at "o1") (@pe_op _ _ _ _ _ _ _ _ op_add (pv 4) (@pe_op _ _ _ _ _ _ _ _ op_mulB (pe_callB call_abs rfl T.z_abs bt_abs (pa_cons (pe_call (ok_qS T) (hr.mono (by decide)) rfl T.m_qS T.F_qS.kp T.b_qS .nil (pass_d fun _ _ _ z=>z) (pa_cons (@pe_op _ _ _ _ _ _ _ _ op_add (@pe_op _ _ _ _ _ _ _ _ op_fdivB (pv 0) pe_int) pe_int) (pa_cons (pv 3) pa_nil))) pa_nil)) (@pe_op _ _ _ _ _ _ _ _ op_sub pe_int (@pe_op _ _ _ _ _ _ _ _ op_mulB pe_int (@pe_op _ _ _ _ _ _ _ _ op_fdivB (pe_call (ok_j0 T) (hr.mono (by decide)) rfl T.m_j0 T.F_j0.kp T.b_j0 .nil (pass_d fun _ _ _ z=>z) (pa_cons (pv 0) (pa_cons pe_int (pa_cons pe_int pa_nil)))) pe_int))))) (by rfl) (by walk_at "o2"))) pss_nil))
   (@pss_cons _ _ _ _ _ (@ps_if _ _ _ _ _ _ _ _ (@pt_cmpR _ _ _ _ _ _ _ _ op_eqI (pe_call (ok_j0 T) (hr.mono (by decide)) rfl T.m_j0 T.F_j0.kp T.b_j0 .nil (pass_d fun _ _ _ z=>z) (pa_cons (pv 0) (pa_cons pe_int (pa_cons pe_int pa_nil)))) pe_int (nomark _)) (@pss_one _ _ _ (@ps_ret _ _ _ _ (pe_tup (pa_cons (pe_tup (pa_cons pe_str (pa_cons (pv 6) (pa_cons (@pe_ix _ _ _ _ _ _ _ ix_tup (pv 1) pe_int (fun _ _=>rfl)) (pa_cons (@pe_ix _ _ _ _ _ _ _ ix_tup (pv 2) pe_int (fun _ _=>rfl)) pa_nil))) se_c)) (pa_cons (pv 4) (pa_cons (pv 5) pa_nil)))))) pss_nil)
   (@pss_one _ _ _ (@ps_ret _ _ _ _ (pe_tup (pa_cons (pe_tup (pa_cons pe_str (pa_cons (pv 6) (pa_cons (@pe_ix _ _ _ _ _ _ _ ix_tup (pv 2) pe_int (fun _ _=>rfl)) (pa_cons (@pe_ix _ _ _ _ _ _ _ ix_tup (pv 1) pe_int (fun _ _=>rfl)) pa_nil))) se_c)) (pa_cons (pv 4) (pa_cons (pv 5) pa_nil))))))))))),?_⟩
 walk_at "kx"
 have hl1:=i1.1.lv_pos
 have hl2:=i2.1.lv_pos
 obtain ⟨s1,s2⟩:=k1.2
 obtain ⟨s3,s4⟩:=k2.2
 obtain ⟨a1,u1,rfl,h1,t1⟩:=TV.pi t1
 obtain ⟨a2,u2,rfl,h2,t2⟩:=TV.pi t2
 walk_at "rd"
 refine ⟨fun σ' H'=>Iv (H'=H∧∃ x:Int,wB x∧σ' = [some (.int c),some (.ref a1),some (.ref a2),some (.int y),some (.int (i1.2 + i2.2)),some (.int (↑i1.1.lv + ↑i2.1.lv)),some (.int x)]),?_,?_⟩
 ·walk_at "rd"
  refine ite3 (fun _=>?_) (fun _=>?_)
  ·walk_at "rd"
   rename_i g0 g1 g2 g3 g4 g5 g6 g7 g8
   refine ⟨⟨rfl,_,wB_1 (by omega) (by omega) (by omega) (by omega) g7 g8,rfl⟩⟩
  ·walk_at "rd"
   rename_i g0 g1 g2
   exact ⟨⟨rfl,_,wB_2 (by omega) (by omega) g0 g1 (by omega) (by omega),rfl⟩⟩
 rintro σ' H' ⟨⟨rfl,x,xB,rfl⟩⟩
 walk_at "rd"
 refine ite3 (fun _=>?_) (fun _=>?_)
 ·walk_at "rd"
  rename_i p1 hp1 p2 hp2
  have S1:=same_new hp1 (H:=H') (.tup [.str "fork", .int x,u1,u2])
  have S2:=S1.new hp2 (.tup [.ref p1,.int (i1.2 + i2.2),.int (↑i1.1.lv + ↑i2.1.lv)])
  exact q _ _ (.fk x i1.1 i2.1,i1.2 + i2.2) S2 (TV.pi' (t:=.fk x i1.1 i2.1) upd_same (TV.fk' (kp upd_same hp2) (t1.mono S2.t) (t2.mono S2.t))) rfl ⟨⟨xB,k1.1,k2.1⟩,by show ((i1.1.lv + i2.1.lv:Nat) : Int) * (-1000000000000000000000000000000)≤i1.2 + i2.2∧i1.2 + i2.2≤((i1.1.lv + i2.1.lv:Nat) : Int) * 1000000000000000000000000000000; omega⟩
 ·walk_at "rd"
  rename_i p1 hp1 p2 hp2
  have S1:=same_new hp1 (H:=H') (.tup [.str "fork", .int x,u2,u1])
  have S2:=S1.new hp2 (.tup [.ref p1,.int (i1.2 + i2.2),.int (↑i1.1.lv + ↑i2.1.lv)])
  have e:((Tr.fk x i2.1 i1.1).lv:Int) = ↑i1.1.lv + ↑i2.1.lv:=by show ((i2.1.lv + i1.1.lv:Nat) : Int)=_; omega
  exact q _ _ (.fk x i2.1 i1.1,i1.2 + i2.2) S2 (TV.pi' (t:=.fk x i2.1 i1.1) (by rw [e]; exact upd_same) (TV.fk' (kp upd_same hp2) (t2.mono S2.t) (t1.mono S2.t))) (by show i2.1.lv + i1.1.lv=_; omega) ⟨⟨xB,k2.1,k1.1⟩,by show ((i2.1.lv + i1.1.lv:Nat) : Int) * (-1000000000000000000000000000000)≤i1.2 + i2.2∧i1.2 + i2.2≤((i2.1.lv + i1.1.lv:Nat) : Int) * 1000000000000000000000000000000; omega⟩
theorem ok_j1 (T:Tx K mg) : FnOk P w K mg base (CXd P w) 4 T.f_j1 T.d_j1 ["_law_cells", "_law_way"] (sp_tree2 K):=by
 have sc:=sc_j1
 refine T.F_j1.okd sc (fun vs H Q E h=>?_) (fun cdv A outer s H vs Q E hr h=>?_)
 ·obtain ⟨a,ns,y,rfl,ha,l1,l2,q⟩:=h
  rfl
 obtain ⟨a,ns,y,rfl,ha,l1,l2,q⟩:=h
 have hu:=hr.units0
 have hu2:=hr.units
 have hu1:=Nat.lt_of_le_of_lt (Nat.add_le_add_left (show 1≤64 by decide) _) hu2
 refine ⟨_,(@pss_cons _ _ _ _ _ (@ps_set _ _ 2 _ _ _ _ sc.nd rfl (by walk_at "o1") (@pe_lst _ _ _ _ pa_nil) (by rfl) (by walk_at "o2"))
   (@pss_cons _ _ _ _ _ (ps_for powd rfl (pi_enum rfl T.z_enumerate (pa_cons (pe_slice sl_list (pv 0) po_none (po_some pe_int)) pa_nil)) (pg_tup rfl (pgs_cons (pg_name (i:=3) sc.nd rfl (by walk_at "o1")) (pgs_cons (pg_name (i:=4) sc.nd rfl (by walk_at "o1")) pgs_nil)))
   (@pss_cons _ _ _ _ _ (@ps_set _ _ 5 _ _ _ _ sc.nd rfl (by walk_at "o1") (pe_call (ok_qS T) (hr.mono (by decide)) rfl T.m_qS T.F_qS.kp T.b_qS .nil (pass_d fun _ _ _ z=>z) (pa_cons (pv 4) (pa_cons (@pe_op _ _ _ _ _ _ _ _ op_mod (pv 1) pe_int) pa_nil))) (by rfl) (by walk_at "o2"))
   (@pss_cons _ _ _ _ _ (@ps_mid _ _ _ (ps_expr (pe_bm PySem.F.plainAttrs_list PySem.F.slot_list_append PySem.F.type_list_append mt_append (pv 2) (pa_cons (pe_tup (pa_cons (pe_tup (pa_cons pe_str (pa_cons (pv 5) pa_nil) se_c)) (pa_cons (pv 5) (pa_cons pe_int pa_nil)))) pa_nil))))
   (@pss_cons _ _ _ _ _ (@ps_set _ _ 6 _ _ _ _ sc.nd rfl (by walk_at "o1") (pe_call (ok_j0 T) (hr.mono (by decide)) rfl T.m_j0 T.F_j0.kp T.b_j0 .nil (pass_d fun _ _ _ z=>z) (pa_cons (pv 4) (pa_cons pe_int (pa_cons pe_int pa_nil)))) (by rfl) (by walk_at "o2"))
   (@pss_cons _ _ _ _ _ (@ps_mid _ _ _ (@ps_if _ _ _ _ _ _ _ _ (@pt_cmpR _ _ _ _ _ _ _ _ op_eqI (@pe_op _ _ _ _ _ _ _ _ op_fdivB (pv 1) pe_int) pe_int (nomark _)) (@pss_one _ _ _ (@ps_set _ _ 6 _ _ _ _ sc.nd rfl (by walk_at "o1") pe_int (by rfl) (by walk_at "o2"))) pss_nil))
   (@pss_one _ _ _ (ps_while powd (PW.pt (pw_and (@pt_cmpR _ _ _ _ _ _ _ _ op_gt (pv 6) pe_int (nomark _)) (pw_and1 (@pt_cmpR _ _ _ _ _ _ _ _ op_gt (pe_callB call_len_seq rfl T.z_len bt_len (pa_cons (pv 2) pa_nil)) pe_int (nomark _))))) (@pss_cons _ _ _ _ _ (@ps_mid _ _ _ (@ps_set _ _ 7 _ _ _ _ sc.nd rfl (by walk_at "o1") (pe_bm0 PySem.F.plainAttrs_list PySem.F.slot_list_pop PySem.F.type_list_pop mt_pop (pv 2)) (by rfl) (by walk_at "o2")))
   (@pss_cons _ _ _ _ _ (ps_asg (pe_call (ok_qL T) (hr.mono (by decide)) rfl T.m_qL T.F_qL.kp T.b_qL .nil (pass_d fun _ _ _ z=>z) (pa_cons (@pe_op _ _ _ _ _ _ _ _ op_add (pv 4) (pv 6)) (pa_cons (@pe_ix _ _ _ _ _ _ _ ix_list (pv 2) (pe_un un_neg pe_int) (fun _ _=>rfl)) (pa_cons (pv 7) (pa_cons (@pe_op _ _ _ _ _ _ _ _ op_mod (pv 1) pe_int) pa_nil))))) (pg_sub (pv 2) (pe_un un_neg pe_int) set_list))
   (@pss_one _ _ _ (ps_aug (i:=6) sc.nd rfl (by walk_at "o1") pe_int iop_sub)))))))))))
   (@pss_cons _ _ _ _ _ (ps_while powd (@pt_cmpR _ _ _ _ _ _ _ _ op_gt (pe_callB call_len_seq rfl T.z_len bt_len (pa_cons (pv 2) pa_nil)) pe_int (nomark _)) (@pss_cons _ _ _ _ _ (@ps_mid _ _ _ (@ps_set _ _ 7 _ _ _ _ sc.nd rfl (by walk_at "o1") (pe_bm0 PySem.F.plainAttrs_list PySem.F.slot_list_pop PySem.F.type_list_pop mt_pop (pv 2)) (by rfl) (by walk_at "o2")))
   (@pss_one _ _ _ (ps_asg (pe_call (ok_qL T) (hr.mono (by decide)) rfl T.m_qL T.F_qL.kp T.b_qL .nil (pass_d fun _ _ _ z=>z) (pa_cons (@pe_op _ _ _ _ _ _ _ _ op_add (@pe_ix _ _ _ _ _ _ _ ix_list (pv 0) pe_int (fun _ _=>rfl)) (pe_callB call_len_seq rfl T.z_len bt_len (pa_cons (pv 2) pa_nil))) (pa_cons (@pe_ix _ _ _ _ _ _ _ ix_list (pv 2) (pe_un un_neg pe_int) (fun _ _=>rfl)) (pa_cons (pv 7) (pa_cons (@pe_op _ _ _ _ _ _ _ _ op_mod (pv 1) pe_int) pa_nil))))) (pg_sub (pv 2) (pe_un un_neg pe_int) set_list)))))
   (@pss_cons _ _ _ _ _ (@ps_mid _ _ _ (@ps_if _ _ _ _ _ _ _ _ (PW.pt (pw_and (@pt_cmpR _ _ _ _ _ _ _ _ op_eqI (pe_call (ok_j0 T) (hr.mono (by decide)) rfl T.m_j0 T.F_j0.kp T.b_j0 .nil (pass_d fun _ _ _ z=>z) (pa_cons (@pe_ix _ _ _ _ _ _ _ ix_list (pv 0) pe_int (fun _ _=>rfl)) (pa_cons pe_int (pa_cons pe_int pa_nil)))) pe_int (nomark _)) (pw_and1 (@pt_cmpR _ _ _ _ _ _ _ _ op_lt (@pe_ix _ _ _ _ _ _ _ ix_tup (@pe_ix _ _ _ _ _ _ _ ix_list (pv 2) pe_int (fun _ _=>rfl)) pe_int (fun _ _=>rfl)) pe_int (nomark _))))) (@pss_one _ _ _ (ps_asg (pe_call (ok_qL T) (hr.mono (by decide)) rfl T.m_qL T.F_qL.kp T.b_qL .nil (pass_d fun _ _ _ z=>z) (pa_cons (@pe_ix _ _ _ _ _ _ _ ix_list (pv 0) pe_int (fun _ _=>rfl)) (pa_cons (@pe_ix _ _ _ _ _ _ _ ix_list (pv 2) pe_int (fun _ _=>rfl)) (pa_cons (@pe_ix _ _ _ _ _ _ _ ix_list (pv 2) pe_int (fun _ _=>rfl)) (pa_cons (@pe_op _ _ _ _ _ _ _ _ op_mod (pv 1) pe_int) pa_nil))))) (pg_sub (pv 2) pe_int set_list))) pss_nil))
   (@pss_one _ _ _ (@ps_ret _ _ _ _ (@pe_ix _ _ _ _ _ _ _ ix_tup (@pe_ix _ _ _ _ _ _ _ ix_list (pv 2) pe_int (fun _ _=>rfl)) pe_int (fun _ _=>rfl)))))))),?_⟩
 walk_at "kx"
 have hl:(ns.map V.int).length=ns.length:=List.length_map _
 walk_at "rd"
 rename_i z hz l hl0
 have ec:cutV (ns.map V.int) none (some 21)=ns.map V.int:=cut_all (by rw [hl]; omega)
 rw [ec]
 have na:a ≠ z:=fun e=>by rw [e,hz] at ha; cases ha
 have nl:z ≠ l:=fun e=>by rw [← e,upd_same] at hl0; cases hl0
 clear ec
 refine for_enum (K:=K) (a:=l) (xs:=ns.map V.int) (fun i σ H'=>Iv (Same H H'∧H' l=some (.lst (ns.map V.int))∧(∃ (xs:List V) (is:List Pi),H' z=some (.lst xs)∧TVs K H' xs (is.map piD)∧(is.map fun i=>i.1.lv).sum=i∧(∀ i∈is,PiOk i))∧∃ o1 o2 o3 o4 o5,σ = [some (.ref a),some (.int y),some (.ref z),o1,o2,o3,o4,o5])) ⟨⟨(same_new hz _).new hl0 _,upd_same,⟨[],[],kp upd_same hl0,.nil,rfl,fun i hi=>(by cases hi)⟩,_,_,_,_,_,rfl⟩⟩ (fun i σ H' _ z=>SqL.of z.o.2.1) ?_ ?_
 ·rintro i v σ H' T hi ⟨⟨S,hl1,⟨xs,is,hz1,tv,es,ok⟩,o1,o2,o3,o4,o5,rfl⟩⟩ hT
  have il:i < 21:=by have:=(List.getElem?_eq_some_iff.mp hi).1; omega
  rw [List.getElem?_map] at hi
  obtain ⟨c,hc,rfl⟩:=Option.map_eq_some_iff.mp hi
  have xl:xs.length≤i:=by rw [tv.length,List.length_map,← es]; exact lv_len is
  have xz:xs.length < sizeLine:=small1000 (by omega)
  have S':=S.new hT (.tup [.int (i:Int),.int c])
  have hl2:=kp hl1 hT (u:=.tup [.int (i:Int),.int c])
  have hz2:=kp hz1 hT (u:=.tup [.int (i:Int),.int c])
  have tv2:=tv.mono ((SameT.refl H').new hT (.tup [.int (i:Int),.int c]))
  have hS0:=hT
  clear hi hc S hl1 hz1 tv hT
  walk_at "rd"
  generalize upd H' T (.tup [.int (i:Int),.int c])=H1 at S' hl2 hz2 tv2 ⊢
  refine ⟨fun σ' H'=>Iv (Same H H'∧H' l=some (.lst (ns.map V.int))∧(∃ (xs:List V) (is:List Pi),H' z=some (.lst xs)∧TVs K H' xs (is.map piD)∧(is.map fun i=>i.1.lv).sum=i + 1∧(∀ i∈is,PiOk i))∧∃ o3,σ' = [some (.ref a),some (.int y),some (.ref z),some (.int (i:Int)),some (.int c),o3,o4,o5]),?_,?_⟩
  ·walk_at "rd"
   rename_i w w1 w2 p1 hp1 p2 hp2
   have S3:=(S'.new hp1 (.tup [.str "end", .int w])).new hp2 (.tup [.ref p1,.int w,.int 1])
   have st:=((SameT.refl H1).new hp1 (.tup [.str "end", .int w])).new hp2 (.tup [.ref p1,.int w,.int 1])
   have hz3:=kp (kp hz2 hp1 (u:=.tup [.str "end", .int w])) hp2 (u:=.tup [.ref p1,.int w,.int 1])
   have st2:=(SameT.refl _).lst hz3 (.lst (xs ++ [.ref p2]))
   refine ⟨⟨Same.over S3 hz _,?_,⟨xs ++ [.ref p2],is ++ [(.en w,w)],upd_same,?_,?_,snoc_all ok (pi_en (by omega) (by omega))⟩,_,rfl⟩⟩
   ·rw [upd_ne (Ne.symm nl)]
    exact kp (kp hl2 hp1) hp2
   ·rw [List.map_append]
    exact TVs.snoc (tv2.mono (st.trans st2)) (TV.pi' (t:=.en w) (st2 _ _ upd_same) (TV.en' (st2 _ _ (kp upd_same hp2))))
   ·rw [lv_app,es]
    rfl
  clear S' hl2 hz2 tv2 es xl xz ok xs is
  rintro σ' H2 ⟨⟨S,hl2,⟨xs,is,hz2,tv,es,ok⟩,o3,rfl⟩⟩
  walk_at "rd"
  refine ⟨fun σ' H'=>Iv (H'=H2∧∃ f:Int,σ' = [some (.ref a),some (.int y),some (.ref z),some (.int (i:Int)),some (.int c),o3,some (.int f),o5]),?_,?_⟩
  ·walk_at "rd"
   refine ite3 (fun _=>?_) (fun _=>?_)
   ·walk_at "rd"
    exact ⟨⟨rfl,_,rfl⟩⟩
   ·walk_at "rd"
    exact ⟨⟨rfl,_,rfl⟩⟩
  rintro σ' H' ⟨⟨rfl,f,rfl⟩⟩
  refine while_by (fun σ' H'=>Iv (Same H H'∧H' l=some (.lst (ns.map V.int))∧(∃ (xs:List V) (is:List Pi),H' z=some (.lst xs)∧TVs K H' xs (is.map piD)∧(is.map fun i=>i.1.lv).sum=i + 1∧(∀ i∈is,PiOk i))∧∃ (f:Int) (o5:Option V),σ' = [some (.ref a),some (.int y),some (.ref z),some (.int (i:Int)),some (.int c),o3,some (.int f),o5]))
   (fun σ _=>match σ with | [_,_,_,_,_,_,some (.int f),_]=>f.toNat | _=>0) ⟨⟨S,hl2,⟨xs,is,hz2,tv,es,ok⟩,f,o5,rfl⟩⟩ ?_ ?_
  ·clear S hl2 hz2 tv es ok xs is f
   rintro σ' H' ⟨⟨S,hl1,⟨xs,is,hz1,tv,es,ok⟩,f,o5,rfl⟩⟩
   walk_at "rd"
   refine ite3 (fun c1=>?_) (fun c1=>?_)
   ·walk_at "rd"
    refine ite3 (fun c2=>?_) (fun c2=>?_)
    ·skip
     obtain ⟨ys,x1,x2,js,i1,i2,rfl,rfl,t0,t1,t2⟩:=TVs.two tv (by omega)
     have ea:=pop_at ys x1 x2
     have eb:=pop_rest ys x1 x2
     have ec:=last_at ys x1
     have ed:ixN (ys ++ [x1]).length (-1)=some ys.length:=by rw [List.length_append]; exact last_ix ys.length
     rw [lv_app] at es
     have es2:(js.map fun i=>i.1.lv).sum + (i1.1.lv + (i2.1.lv + 0))=i + 1:=es
     have hl50:i1.1.lv + i2.1.lv≤50:=by omega
     have ok1:PiOk i1:=ok i1 (List.mem_append_right _ List.mem_cons_self)
     have ok2:PiOk i2:=ok i2 (List.mem_append_right _ (List.mem_cons_of_mem _ List.mem_cons_self))
     have okj:∀ i∈js,PiOk i:=fun i hi=>ok i (List.mem_append_left _ hi)
     have st1:SameT H' (upd H' z (.lst (ys ++ [x1]))):=(SameT.refl H').lst hz1 _
     have u1:=t1.mono st1
     have u2:=t2.mono st1
     refine ⟨fun σ' H1=>Iv (H1=upd H' z (.lst (ys ++ [x1]))∧σ' = [some (.ref a),some (.int y),some (.ref z),some (.int (i:Int)),some (.int c),o3,some (.int f),some x2]),?_,?_⟩
     ·walk_at "rd"
      rw [eb]
      exact ⟨⟨rfl,rfl⟩⟩
     clear eb ea c2
     rintro σ' H1 ⟨⟨rfl,rfl⟩⟩
     walk_at "rd"
     rename_i H2 v iv S2 tv2 lv2 okiv
     have okv:∀ i∈js ++ [iv],PiOk i:=snoc_all okj okiv
     have hz2:H2 z=some (.lst (ys ++ [x1])):=S2 _ _ upd_same
     walk_at "rd"
     rw [set_last]
     obtain ⟨f1,f2,f3⟩:=fold_ok hz nl S hl1 hz1 t0 S2 tv2
     have es3:((js ++ [iv]).map fun i=>i.1.lv).sum=i + 1:=by
      rw [lv_app]
      show _ + (iv.1.lv + 0)=_
      omega
     walk_at "rd"
     exact ⟨⟨⟨f1,f2,⟨ys ++ [v],js ++ [iv],upd_same,by rw [List.map_append]; exact f3,es3,okv⟩,_,_,rfl⟩⟩,by show (f - 1).toNat < f.toNat; omega⟩
    ·walk_at "rd"
     exact ⟨⟨S,hl1,⟨xs,is,hz1,tv,es,ok⟩,_,_,_,_,_,rfl⟩⟩
   ·walk_at "rd"
    exact ⟨⟨S,hl1,⟨xs,is,hz1,tv,es,ok⟩,_,_,_,_,_,rfl⟩⟩
  ·rintro σ' H' Q1 Q2 hq ⟨v,e,i,j,ei,ej,k,ek,y⟩
   refine ⟨v,e,i,j,ei,ej,k,ek,?_⟩
   cases k with
   | false=>exact iteF (hq _ _ (by simpa using y))
   | true =>
    obtain ⟨v,e,p,ys,ev,hs,i,j,ei,ej,k,ek,y⟩:=ite_yes y
    exact iteT ⟨v,e,p,ys,ev,hs,i,j,ei,ej,k,ek,hq _ _ y⟩
 ·rintro σ H' ⟨⟨S,hl1,⟨xs,is,hz1,tv,es,ok⟩,o1,o2,o3,o4,o5,rfl⟩⟩
  rw [hl] at es
  refine while_by (fun σ' H'=>Iv (Same H H'∧H' l=some (.lst (ns.map V.int))∧(∃ (xs:List V) (is:List Pi),H' z=some (.lst xs)∧TVs K H' xs (is.map piD)∧(is.map fun i=>i.1.lv).sum=ns.length∧(∀ i∈is,PiOk i))∧∃ o5,σ' = [some (.ref a),some (.int y),some (.ref z),o1,o2,o3,o4,o5]))
   (fun _ H=>match H z with | some (.lst xs)=>xs.length | _=>0) ⟨⟨S,hl1,⟨xs,is,hz1,tv,es,ok⟩,o5,rfl⟩⟩ ?_ ?_
  ·clear S hl1 hz1 tv es ok xs is o5
   rintro σ' H' ⟨⟨S,hl1,⟨xs,is,hz1,tv,es,ok⟩,o5,rfl⟩⟩
   have ha1:=S _ _ ha
   obtain ⟨c,cs,rfl⟩ : ∃ c cs,ns=c :: cs:=by
    cases ns with
    | nil=>exact absurd l1 (by decide)
    | cons c cs=>exact ⟨c,cs,rfl⟩
   walk_at "rd"
   refine ite3 (fun c2=>?_) (fun c2=>?_)
   ·skip
    obtain ⟨ys,x1,x2,js,i1,i2,rfl,rfl,t0,t1,t2⟩:=TVs.two tv (by omega)
    have ea:=pop_at ys x1 x2
    have eb:=pop_rest ys x1 x2
    have ec:=last_at ys x1
    have ed:ixN (ys ++ [x1]).length (-1)=some ys.length:=by rw [List.length_append]; exact last_ix ys.length
    rw [lv_app] at es
    have es2:(js.map fun i=>i.1.lv).sum + (i1.1.lv + (i2.1.lv + 0))=(c :: cs).length:=es
    have hl50:i1.1.lv + i2.1.lv≤50:=by omega
    have ok1:PiOk i1:=ok i1 (List.mem_append_right _ List.mem_cons_self)
    have ok2:PiOk i2:=ok i2 (List.mem_append_right _ (List.mem_cons_of_mem _ List.mem_cons_self))
    have okj:∀ i∈js,PiOk i:=fun i hi=>ok i (List.mem_append_left _ hi)
    have st1:SameT H' (upd H' z (.lst (ys ++ [x1]))):=(SameT.refl H').lst hz1 _
    have u1:=t1.mono st1
    have u2:=t2.mono st1
    refine ⟨fun σ' H1=>Iv (H1=upd H' z (.lst (ys ++ [x1]))∧σ' = [some (.ref a),some (.int y),some (.ref z),o1,o2,o3,o4,some x2]),?_,?_⟩
    ·walk_at "rd"
     rw [eb]
     exact ⟨⟨rfl,rfl⟩⟩
    clear eb ea c2
    rintro σ' H1 ⟨⟨rfl,rfl⟩⟩
    walk_at "rd"
    rename_i H2 v iv S2 tv2 lv2 okiv
    have okv:∀ i∈js ++ [iv],PiOk i:=snoc_all okj okiv
    have hz2:H2 z=some (.lst (ys ++ [x1])):=S2 _ _ upd_same
    walk_at "rd"
    rw [set_last]
    obtain ⟨f1,f2,f3⟩:=fold_ok hz nl S hl1 hz1 t0 S2 tv2
    have es3:((js ++ [iv]).map fun i=>i.1.lv).sum=(c :: cs).length:=by
     rw [lv_app]
     show _ + (iv.1.lv + 0)=_
     omega
    exact ⟨⟨⟨f1,f2,⟨ys ++ [v],js ++ [iv],upd_same,by rw [List.map_append]; exact f3,es3,okv⟩,_,rfl⟩⟩,by rw [upd_same,hz1]; show (ys ++ [v]).length < (ys ++ [x1,x2]).length; rw [List.length_append,List.length_append]; exact Nat.lt_succ_self _⟩
   ·have xl:=tv.length
    rw [List.length_map] at xl
    obtain ⟨i1,rfl⟩ : ∃ i1,is = [i1]:=by
     rcases is with _ | ⟨i1,_ | ⟨i2,is⟩⟩
     ·exact absurd es (by show ¬ 0=(c :: cs).length; rw [List.length_cons]; omega)
     ·exact ⟨i1,rfl⟩
     ·rw [List.length_cons,List.length_cons] at xl; omega
    have ok1:PiOk i1:=ok i1 List.mem_cons_self
    have es:i1.1.lv + 0=(c :: cs).length:=es
    cases tv with
    | cons t1 tn =>
     cases tn
     rename_i x1
     obtain ⟨p1,u1,rfl,hp1,tu⟩:=TV.pi t1
     walk_at "rd"
     refine ⟨fun σ' H1=>Iv (Same H H1∧(∃ (x:V) (i:Pi),H1 z=some (.lst [x])∧TV K H1 x (piD i)∧i.1.lv≤21∧PiOk i)∧σ' = [some (.ref a),some (.int y),some (.ref z),o1,o2,o3,o4,o5]),?_,?_⟩
     ·walk_at "rd"
      refine ite3 (fun _=>?_) (fun _=>?_)
      ·walk_at "rd"
       refine ite3 (fun c3=>?_) (fun c3=>?_)
       ·have hl50:i1.1.lv + i1.1.lv≤50:=by omega
        walk_at "rd"
        rename_i H2 v iv S2 tv2 lv2 okiv
        have hz2:H2 z=some (.lst [.ref p1]):=S2 _ _ hz1
        have st2:=(SameT.refl H2).lst hz2 (.lst [v])
        exact ⟨⟨Same.over (S.trans S2) hz _,⟨v,iv,upd_same,tv2.mono st2,by omega,okiv⟩,rfl⟩⟩
       ·walk_at "rd"
        exact ⟨⟨S,⟨_,i1,hz1,t1,by omega,ok1⟩,rfl⟩⟩
      ·walk_at "rd"
       exact ⟨⟨S,⟨_,i1,hz1,t1,by omega,ok1⟩,rfl⟩⟩
     rintro σ' H1 ⟨⟨S1,⟨x,i,hz3,t3,l3,ok3⟩,rfl⟩⟩
     obtain ⟨p2,u2,rfl,hp2,tu2⟩:=TV.pi t3
     walk_at "rd"
     exact q _ _ i.1 S1 tu2 l3 ok3.1
  ·rintro σ' H' Q1 Q2 hq ⟨v,e,p,ys,ev,hs,i,j,ei,ej,k,ek,y⟩
   exact ⟨v,e,p,ys,ev,hs,i,j,ei,ej,k,ek,hq _ _ y⟩
theorem ok_qT (T:Tx K mg) : FnOk P w K mg base (CXd P w) 1 T.f_qT T.d_qT ["_law_bag_here", "_law_many"] sp_digit:=by
 have sc:=sc_qT
 refine T.F_qT.okd sc (fun vs H Q E h=>?_) (fun cdv A outer s H vs Q E hr h=>?_)
 ·obtain ⟨a,x,y,z,m,rfl,ha,hm,hm2,x0,y0,z0,z1,q⟩:=h
  rfl
 obtain ⟨a,x,y,z,m,rfl,ha,hm,hm2,x0,y0,z0,z1,q⟩:=h
 have hu:=hr.units0
 have hu2:=hr.units
 have hu1:=Nat.lt_of_le_of_lt (Nat.add_le_add_left (show 1≤64 by decide) _) hu2
 refine ⟨_,(@pss_cons _ _ _ _ _ (@ps_if _ _ _ _ _ _ _ _ (@pt_cmpR _ _ _ _ _ _ _ _ op_gt (@pe_ix _ _ _ _ _ _ _ ix_list (pv 0) pe_int (fun _ _=>rfl)) pe_int (nomark _)) (@pss_cons _ _ _ _ _ (@ps_set _ _ 2 _ _ _ _ sc.nd rfl (by walk_at "o1") (@pe_op _ _ _ _ _ _ _ _ op_mod (@pe_ix _ _ _ _ _ _ _ ix_list (pv 0) pe_int (fun _ _=>rfl)) (pv 1)) (by rfl) (by walk_at "o2"))
   (@pss_cons _ _ _ _ _ (ps_asg (@pe_op _ _ _ _ _ _ _ _ op_fdivB (@pe_ix _ _ _ _ _ _ _ ix_list (pv 0) pe_int (fun _ _=>rfl)) (pv 1)) (pg_sub (pv 0) pe_int set_list))
   (@pss_one _ _ _ (@ps_ret _ _ _ _ (pv 2))))) pss_nil)
   (@pss_cons _ _ _ _ _ (ps_asg (@pe_op _ _ _ _ _ _ _ _ op_mod (@pe_op _ _ _ _ _ _ _ _ op_add (@pe_op _ _ _ _ _ _ _ _ op_mulB (@pe_ix _ _ _ _ _ _ _ ix_list (pv 0) pe_int (fun _ _=>rfl)) pe_int) pe_int) pe_int) (pg_sub (pv 0) pe_int set_list))
   (@pss_one _ _ _ (@ps_ret _ _ _ _ (@pe_op _ _ _ _ _ _ _ _ op_mod (@pe_op _ _ _ _ _ _ _ _ op_fdivB (@pe_ix _ _ _ _ _ _ _ ix_list (pv 0) pe_int (fun _ _=>rfl)) pe_int) (pv 1)))))),?_⟩
 walk_at "kx"
 have cd:∀ i,CDivB i m:=fun i=>cN i hm (by omega)
 have cx:=cd x
 have zz:Bz 31 z:=by show z.natAbs < 2 ^ 31; omega
 walk_at "rd"
 refine ite3 (fun c=>?_) (fun c=>?_)
 ·walk_at "rd"
  exact q _ z _ (Int.ediv_nonneg x0 (by omega)) z0 z1 (Int.emod_nonneg _ (by omega)) (Int.emod_lt_of_pos _ hm)
 ·walk_at "rd"
  exact q x ((z * 48271 + 11) % 2147483647) ((z * 48271 + 11) % 2147483647 / 64 % m) x0 (by omega) (by omega) (Int.emod_nonneg _ (by omega)) (Int.emod_lt_of_pos _ hm)
theorem ok_qD0 (T:Tx K mg) : FnOk P w K mg base (CXd P w) (0 + 2) T.f_qD T.d_qD ["_law_bag_here", "_law_span"] (sp_dugf K 0):=by
 have sc:=sc_qD
 refine T.F_qD.okd sc (fun vs H Q E h=>?_) (fun cdv A outer s H vs Q E hr h=>?_)
 ·obtain ⟨a,x,y,z,m,rfl,ha,hm,hm2,x0,y0,yd,y15,z0,z1,q⟩:=h
  rfl
 obtain ⟨a,x,y,z,m,rfl,ha,hm,hm2,x0,y0,yd,y15,z0,z1,q⟩:=h
 have hu:=hr.units0
 have hu2:=hr.units
 have hu1:=Nat.lt_of_le_of_lt (Nat.add_le_add_left (show 1≤64 by decide) _) hu2
 refine ⟨_,(@pss_cons _ _ _ _ _ (@ps_set _ _ 2 _ _ _ _ sc.nd rfl (by walk_at "o1") (@pe_op _ _ _ _ _ _ _ _ op_sub (pe_call (ok_qT T) (hr.mono (by decide)) rfl T.m_qT T.F_qT.kp T.b_qT .nil (pass_d fun _ _ _ z=>z) (pa_cons (pv 0) (pa_cons (pv 1) pa_nil))) (@pe_op _ _ _ _ _ _ _ _ op_fdivB (pv 1) pe_int)) (by rfl) (by walk_at "o2"))
   (@pss_cons _ _ _ _ _ (@ps_set _ _ 3 _ _ _ _ sc.nd rfl (by walk_at "o1") (pe_call (ok_qT T) (hr.mono (by decide)) rfl T.m_qT T.F_qT.kp T.b_qT .nil (pass_d fun _ _ _ z=>z) (pa_cons (pv 0) (pa_cons pe_int pa_nil))) (by rfl) (by walk_at "o2"))
   (@pss_cons _ _ _ _ _ (@ps_if _ _ _ _ _ _ _ _ (PW.pt (pw_or (@pt_cmpR _ _ _ _ _ _ _ _ op_eqI (pv 3) pe_int (nomark _)) (pw_or1 (@pt_cmpR _ _ _ _ _ _ _ _ op_eqI (@pe_ix _ _ _ _ _ _ _ ix_list (pv 0) pe_int (fun _ _=>rfl)) pe_int (nomark _))))) (@pss_one _ _ _ (@ps_ret _ _ _ _ (pe_tup (pa_cons pe_str (pa_cons (pv 2) pa_nil) se_c)))) pss_nil)
   (@pss_cons _ _ _ _ _ (ps_augS (pv 0) pe_int gt_list pe_int ip_sub set_list)
   (@pss_cons _ _ _ _ _ ps_never
   (@pss_one _ _ _ ps_never)))))),?_⟩
 walk_at "kx"
 have g3:CDivB m 3:=cN m (by decide) (by decide)
 walk_at "rd"
 rename_i x1 z1' d1 a1 a2 a3 a4 a5 x2 z2 d2 b1 b2 b3 b4 b5
 have wb:=wB_d a4 a5 hm2
 have S0:SameB a H (upd (upd H a (.lst [.int x1,.int y,.int z1'])) a (.lst [.int x2,.int y,.int z2])):=((SameB.refl a H).at _).at _
 have ha0:(upd (upd H a (.lst [.int x1,.int y,.int z1'])) a (.lst [.int x2,.int y,.int z2])) a=some (.lst [.int x2,.int y,.int z2]):=upd_same
 generalize upd (upd H a (.lst [.int x1,.int y,.int z1'])) a (.lst [.int x2,.int y,.int z2])=H0 at *
 have en:∀ p,H0 p=none→Q (.ref p) (upd H0 p (.tup [.str "end", .int (d1 - m / 3)])):=fun p hp=>q _ _ (.en (d1 - m / 3)) x2 y z2 (S0.new hp _) (kp ha0 hp) b1 y0 (by omega) b2 b3 (TV.en' upd_same) (by show ((1:Nat) : Int) + y≤y + 1; omega) wb
 refine ite3 (fun c=>?_) (fun c=>?_)
 ·walk_at "rd"
  rename_i p hp
  exact en p hp
 ·walk_at "rd"
  rename_i p hp
  exact en p hp
theorem ok_qDS (T:Tx K mg)(d:Nat)(ih:FnOk P w K mg base (CXd P w) (d + 2) T.f_qD T.d_qD ["_law_bag_here", "_law_span"] (sp_dugf K d)) : FnOk P w K mg base (CXd P w) (d + 1 + 2) T.f_qD T.d_qD ["_law_bag_here", "_law_span"] (sp_dugf K (d + 1)):=by
 have sc:=sc_qD
 refine T.F_qD.okd sc (fun vs H Q E h=>?_) (fun cdv A outer s H vs Q E hr h=>?_)
 ·obtain ⟨a,x,y,z,m,rfl,ha,hm,hm2,x0,y0,yd,y15,z0,z1,q⟩:=h
  rfl
 obtain ⟨a,x,y,z,m,rfl,ha,hm,hm2,x0,y0,yd,y15,z0,z1,q⟩:=h
 have hu:=hr.units0
 have hu2:=hr.units
 have hu1:=Nat.lt_of_le_of_lt (Nat.add_le_add_left (show 1≤64 by decide) _) hu2
 refine ⟨_,(@pss_cons _ _ _ _ _ (@ps_set _ _ 2 _ _ _ _ sc.nd rfl (by walk_at "o1") (@pe_op _ _ _ _ _ _ _ _ op_sub (pe_call (ok_qT T) (hr.mono (by omega)) rfl T.m_qT T.F_qT.kp T.b_qT .nil (pass_d fun _ _ _ z=>z) (pa_cons (pv 0) (pa_cons (pv 1) pa_nil))) (@pe_op _ _ _ _ _ _ _ _ op_fdivB (pv 1) pe_int)) (by rfl) (by walk_at "o2"))
   (@pss_cons _ _ _ _ _ (@ps_set _ _ 3 _ _ _ _ sc.nd rfl (by walk_at "o1") (pe_call (ok_qT T) (hr.mono (by omega)) rfl T.m_qT T.F_qT.kp T.b_qT .nil (pass_d fun _ _ _ z=>z) (pa_cons (pv 0) (pa_cons pe_int pa_nil))) (by rfl) (by walk_at "o2"))
   (@pss_cons _ _ _ _ _ (@ps_if _ _ _ _ _ _ _ _ (PW.pt (pw_or (@pt_cmpR _ _ _ _ _ _ _ _ op_eqI (pv 3) pe_int (nomark _)) (pw_or1 (@pt_cmpR _ _ _ _ _ _ _ _ op_eqI (@pe_ix _ _ _ _ _ _ _ ix_list (pv 0) pe_int (fun _ _=>rfl)) pe_int (nomark _))))) (@pss_one _ _ _ (@ps_ret _ _ _ _ (pe_tup (pa_cons pe_str (pa_cons (pv 2) pa_nil) se_c)))) pss_nil)
   (@pss_cons _ _ _ _ _ (ps_augS (pv 0) pe_int gt_list pe_int ip_sub set_list)
   (@pss_cons _ _ _ _ _ (@ps_set _ _ 4 _ _ _ _ sc.nd rfl (by walk_at "o1") (pe_call ih (hr.mono (by omega)) rfl T.m_qD T.F_qD.kp T.b_qD .nil (pass_d fun _ _ _ z=>z) (pa_cons (pv 0) (pa_cons (pv 1) pa_nil))) (by rfl) (by walk_at "o2"))
   (@pss_one _ _ _ (@ps_ret _ _ _ _ (pe_tup (pa_cons pe_str (pa_cons (pv 2) (pa_cons (pv 4) (pa_cons (pe_call ih (hr.mono (by omega)) rfl T.m_qD T.F_qD.kp T.b_qD .nil (pass_d fun _ _ _ z=>z) (pa_cons (pv 0) (pa_cons (pv 1) pa_nil))) pa_nil))) se_c))))))))),?_⟩
 walk_at "kx"
 have g3:CDivB m 3:=cN m (by decide) (by decide)
 walk_at "rd"
 rename_i x1 z1' d1 a1 a2 a3 a4 a5 x2 z2 d2 b1 b2 b3 b4 b5
 have wb:=wB_d a4 a5 hm2
 have S0:SameB a H (upd (upd H a (.lst [.int x1,.int y,.int z1'])) a (.lst [.int x2,.int y,.int z2])):=((SameB.refl a H).at _).at _
 have ha0:(upd (upd H a (.lst [.int x1,.int y,.int z1'])) a (.lst [.int x2,.int y,.int z2])) a=some (.lst [.int x2,.int y,.int z2]):=upd_same
 generalize upd (upd H a (.lst [.int x1,.int y,.int z1'])) a (.lst [.int x2,.int y,.int z2])=H0 at *
 have en:∀ p,H0 p=none→Q (.ref p) (upd H0 p (.tup [.str "end", .int (d1 - m / 3)])):=fun p hp=>q _ _ (.en (d1 - m / 3)) x2 y z2 (S0.new hp _) (kp ha0 hp) b1 y0 (by omega) b2 b3 (TV.en' upd_same) (by show ((1:Nat) : Int) + y≤y + 1; omega) wb
 refine ite3 (fun c=>?_) (fun c=>?_)
 ·walk_at "rd"
  rename_i p hp
  exact en p hp
 ·walk_at "rd"
  refine ite3 (fun c2=>?_) (fun c2=>?_)
  ·walk_at "rd"
   rename_i p hp
   exact en p hp
  ·walk_at "rd"
   refine ⟨by show 0≤y - 1; omega,by show y - 1≤(d:Int); omega,by show y - 1≤15; omega,b2,b3,?_⟩
   intro H1 v1 t1 x3 y3 z3 S1 ha1 e1 e2 e3 e4 e5 tv1 l1 B1
   have e3:y3≤y - 1:=e3
   have l1:(t1.lv:Int) + y3≤y - 1 + 1:=l1
   have S1:SameB a H H1:=(S0.at _).trans S1
   walk_at "rd"
   rename_i H2 v2 t2 x4 y4 z4 S2 ha2 f1 f2 f3 f4 f5 tv2 l2 B2 p hp
   have tv3:=tv1.mono (S2.t ha1)
   have st:=(same_new hp (H:=H2) (.tup [.str "fork", .int (d1 - m / 3),v1,v2])).t
   exact q _ _ (.fk (d1 - m / 3) t1 t2) x4 y4 z4 ((S1.trans S2).new hp _) (kp ha2 hp) f1 f2 (by omega) f4 f5 (TV.fk' upd_same (tv3.mono st) (tv2.mono st)) (by show ((t1.lv + t2.lv:Nat) : Int) + y4≤y + 1; omega) ⟨wb,B1,B2⟩
theorem ok_qDA (T:Tx K mg) : ∀ d:Nat,FnOk P w K mg base (CXd P w) (d + 2) T.f_qD T.d_qD ["_law_bag_here", "_law_span"] (sp_dugf K d):=by
 intro d
 induction d with
 | zero=>exact ok_qD0 T
 | succ d ih=>exact ok_qDS T d ih
theorem ok_qD (T:Tx K mg) : FnOk P w K mg base (CXd P w) (20 + 2) T.f_qD T.d_qD ["_law_bag_here", "_law_span"] (sp_dugf K 20):=by exact ok_qDA T 20
theorem ok_j2 (T:Tx K mg) : FnOk P w K mg base (CXd P w) 23 T.f_j2 T.d_j2 ["_law_cell_here"] (sp_dug K):=by
 have sc:=sc_j2
 refine T.F_j2.okd sc (fun vs H Q E h=>?_) (fun cdv A outer s H vs Q E hr h=>?_)
 ·obtain ⟨c,rfl,c0,q⟩:=h
  rfl
 obtain ⟨c,rfl,c0,q⟩:=h
 have hu:=hr.units0
 have hu2:=hr.units
 have hu1:=Nat.lt_of_le_of_lt (Nat.add_le_add_left (show 1≤64 by decide) _) hu2
 refine ⟨_,(@pss_one _ _ _ (@ps_ret _ _ _ _ (pe_call (ok_qD T) (hr.mono (by decide)) rfl T.m_qD T.F_qD.kp T.b_qD .nil (pass_d fun _ _ _ z=>z) (pa_cons (@pe_lst _ _ _ _ (pa_cons (@pe_op _ _ _ _ _ _ _ _ op_fdivB (pv 0) pe_int) (pa_cons pe_int (pa_cons (@pe_op _ _ _ _ _ _ _ _ op_mod (pv 0) pe_int) pa_nil)))) (pa_cons (@pe_ix _ _ _ _ _ _ _ ix_list (@pe_lst _ _ _ _ (pa_cons pe_int (pa_cons pe_int (pa_cons (pe_fold (.int 1000000000000) (@pe_op _ _ _ _ _ _ _ _ op_pow pe_int pe_int) (by walk_at "cf")) pa_nil)))) (@pe_op _ _ _ _ _ _ _ _ op_mod (pv 0) pe_int) (fun _ _=>rfl)) pa_nil))))),?_⟩
 walk_at "kx"
 obtain ⟨m,em,m0,m1⟩ : ∃ m:Int,atI [V.int 5,V.int 41,V.int 1000000000000] (c % 3)=some (V.int m)∧0 < m∧m≤1000000000000:=by
  have h:c % 3=0∨c % 3=1∨c % 3=2:=by omega
  rcases h with h | h | h <;> rw [h]
  ·exact ⟨5,rfl,by decide,by decide⟩
  ·exact ⟨41,rfl,by decide,by decide⟩
  ·exact ⟨1000000000000,rfl,by decide,by decide⟩
 walk_at "rd"
 rename_i p hp p2 hp2 H1 v t x' y' z' S ha a1 a2 a3 a4 a5 tv l B
 have SS:Same H H1:=fun b o e=>by
  refine S b o (ne_of_none e hp) ?_
  rw [upd_ne (ne_of_none (kp e hp) hp2)]
  exact kp e hp
 exact q _ _ t SS tv (by omega) B
theorem ok_qU0 (T:Tx K mg) : FnOk P w K mg base (CXd P w) (0 + 2) T.f_qU T.d_qU ["_law_cell_here", "_law_many", "_law_turn"] (sp_level K 0):=by
 have sc:=sc_qU
 refine T.F_qU.okd sc (fun vs H Q E h=>?_) (fun cdv A outer s H vs Q E hr h=>?_)
 ·obtain ⟨c,m,k,rfl,m1,m61,md,k0,kd,q⟩:=h
  rfl
 obtain ⟨c,m,k,rfl,m1,m61,md,k0,kd,q⟩:=h
 have hu:=hr.units0
 have hu2:=hr.units
 have hu1:=Nat.lt_of_le_of_lt (Nat.add_le_add_left (show 1≤64 by decide) _) hu2
 refine ⟨_,(@pss_cons _ _ _ _ _ (@ps_if _ _ _ _ _ _ _ _ (@pt_cmpR _ _ _ _ _ _ _ _ op_eqI (pv 1) pe_int (nomark _)) (@pss_cons _ _ _ _ _ (@ps_set _ _ 3 _ _ _ _ sc.nd rfl (by walk_at "o1") (@pe_op _ _ _ _ _ _ _ _ op_sub (pe_call (ok_j0 T) (hr.mono (by decide)) rfl T.m_j0 T.F_j0.kp T.b_j0 .nil (pass_d fun _ _ _ z=>z) (pa_cons (pv 0) (pa_cons (pv 2) (pa_cons pe_int pa_nil)))) pe_int) (by rfl) (by walk_at "o2"))
   (@pss_one _ _ _ (@ps_ret _ _ _ _ (pe_tup (pa_cons (pe_tup (pa_cons pe_str (pa_cons (pv 3) pa_nil) se_c)) (pa_cons (pv 3) pa_nil)))))) pss_nil)
   (@pss_cons _ _ _ _ _ ps_never
   (@pss_cons _ _ _ _ _ ps_never
   (@pss_cons _ _ _ _ _ (@ps_set _ _ 3 _ _ _ _ sc.nd rfl (by walk_at "o1") (@pe_op _ _ _ _ _ _ _ _ op_add (@pe_op _ _ _ _ _ _ _ _ op_add (pv 5) (pv 7)) (@pe_op _ _ _ _ _ _ _ _ op_mulB (@pe_op _ _ _ _ _ _ _ _ op_sub (pe_call (ok_j0 T) (hr.mono (by decide)) rfl T.m_j0 T.F_j0.kp T.b_j0 .nil (pass_d fun _ _ _ z=>z) (pa_cons (pv 0) (pa_cons (@pe_op _ _ _ _ _ _ _ _ op_add (pv 2) pe_int) (pa_cons pe_int pa_nil)))) pe_int) (@pe_op _ _ _ _ _ _ _ _ op_sub (pv 1) pe_int))) (by rfl) (by walk_at "o2"))
   (@pss_one _ _ _ (@ps_ret _ _ _ _ (pe_tup (pa_cons (pe_tup (pa_cons pe_str (pa_cons (pv 3) (pa_cons (pv 4) (pa_cons (pv 6) pa_nil))) se_c)) (pa_cons (@pe_op _ _ _ _ _ _ _ _ op_add (pv 5) (pv 7)) pa_nil))))))))),?_⟩
 walk_at "kx"
 have e1:m=1:=by
  have:m≤((2 ^ 0:Nat) : Int):=md
  rw [show ((2 ^ 0:Nat) : Int)=1 from rfl] at this
  omega
 have k127:k≤127:=by
  rw [show ((2 ^ 0:Nat) : Int)=1 from rfl] at kd
  omega
 subst e1
 ·have e1:(1:Int)=1:=rfl
  walk_at "rd"
  rename_i x x0 x1 p1 hp1 p2 hp2
  exact q _ p2 _ (.en (x - 5)) (x - 5) ((same_new hp1 _).new hp2 _) upd_same (TV.en' (kp upd_same hp2)) (by rw [e1]; rfl) (show wB _ from ⟨by omega,by omega⟩) ⟨by omega,by omega⟩ (Nat.zero_le _)
theorem ok_qUS (T:Tx K mg)(d:Nat)(ih:FnOk P w K mg base (CXd P w) (d + 2) T.f_qU T.d_qU ["_law_cell_here", "_law_many", "_law_turn"] (sp_level K d)) : FnOk P w K mg base (CXd P w) (d + 1 + 2) T.f_qU T.d_qU ["_law_cell_here", "_law_many", "_law_turn"] (sp_level K (d + 1)):=by
 have sc:=sc_qU
 refine T.F_qU.okd sc (fun vs H Q E h=>?_) (fun cdv A outer s H vs Q E hr h=>?_)
 ·obtain ⟨c,m,k,rfl,m1,m61,md,k0,kd,q⟩:=h
  rfl
 obtain ⟨c,m,k,rfl,m1,m61,md,k0,kd,q⟩:=h
 have hu:=hr.units0
 have hu2:=hr.units
 have hu1:=Nat.lt_of_le_of_lt (Nat.add_le_add_left (show 1≤64 by decide) _) hu2
 refine ⟨_,(@pss_cons _ _ _ _ _ (@ps_if _ _ _ _ _ _ _ _ (@pt_cmpR _ _ _ _ _ _ _ _ op_eqI (pv 1) pe_int (nomark _)) (@pss_cons _ _ _ _ _ (@ps_set _ _ 3 _ _ _ _ sc.nd rfl (by walk_at "o1") (@pe_op _ _ _ _ _ _ _ _ op_sub (pe_call (ok_j0 T) (hr.mono (by omega)) rfl T.m_j0 T.F_j0.kp T.b_j0 .nil (pass_d fun _ _ _ z=>z) (pa_cons (pv 0) (pa_cons (pv 2) (pa_cons pe_int pa_nil)))) pe_int) (by rfl) (by walk_at "o2"))
   (@pss_one _ _ _ (@ps_ret _ _ _ _ (pe_tup (pa_cons (pe_tup (pa_cons pe_str (pa_cons (pv 3) pa_nil) se_c)) (pa_cons (pv 3) pa_nil)))))) pss_nil)
   (@pss_cons _ _ _ _ _ (@ps_mid _ _ _ (ps_asg (pe_call ih (hr.mono (by omega)) rfl T.m_qU T.F_qU.kp T.b_qU .nil (pass_d fun _ _ _ z=>z) (pa_cons (pv 0) (pa_cons (@pe_op _ _ _ _ _ _ _ _ op_fdivB (pv 1) pe_int) (pa_cons (@pe_op _ _ _ _ _ _ _ _ op_mulB pe_int (pv 2)) pa_nil)))) (pg_tup rfl (pgs_cons (pg_name (i:=4) sc.nd rfl (by walk_at "o1")) (pgs_cons (pg_name (i:=5) sc.nd rfl (by walk_at "o1")) pgs_nil)))))
   (@pss_cons _ _ _ _ _ (@ps_mid _ _ _ (ps_asg (pe_call ih (hr.mono (by omega)) rfl T.m_qU T.F_qU.kp T.b_qU .nil (pass_d fun _ _ _ z=>z) (pa_cons (pv 0) (pa_cons (@pe_op _ _ _ _ _ _ _ _ op_sub (pv 1) (@pe_op _ _ _ _ _ _ _ _ op_fdivB (pv 1) pe_int)) (pa_cons (@pe_op _ _ _ _ _ _ _ _ op_add (@pe_op _ _ _ _ _ _ _ _ op_mulB pe_int (pv 2)) pe_int) pa_nil)))) (pg_tup rfl (pgs_cons (pg_name (i:=6) sc.nd rfl (by walk_at "o1")) (pgs_cons (pg_name (i:=7) sc.nd rfl (by walk_at "o1")) pgs_nil)))))
   (@pss_cons _ _ _ _ _ (@ps_set _ _ 3 _ _ _ _ sc.nd rfl (by walk_at "o1") (@pe_op _ _ _ _ _ _ _ _ op_add (@pe_op _ _ _ _ _ _ _ _ op_add (pv 5) (pv 7)) (@pe_op _ _ _ _ _ _ _ _ op_mulB (@pe_op _ _ _ _ _ _ _ _ op_sub (pe_call (ok_j0 T) (hr.mono (by omega)) rfl T.m_j0 T.F_j0.kp T.b_j0 .nil (pass_d fun _ _ _ z=>z) (pa_cons (pv 0) (pa_cons (@pe_op _ _ _ _ _ _ _ _ op_add (pv 2) pe_int) (pa_cons pe_int pa_nil)))) pe_int) (@pe_op _ _ _ _ _ _ _ _ op_sub (pv 1) pe_int))) (by rfl) (by walk_at "o2"))
   (@pss_one _ _ _ (@ps_ret _ _ _ _ (pe_tup (pa_cons (pe_tup (pa_cons pe_str (pa_cons (pv 3) (pa_cons (pv 4) (pa_cons (pv 6) pa_nil))) se_c)) (pa_cons (@pe_op _ _ _ _ _ _ _ _ op_add (pv 5) (pv 7)) pa_nil))))))))),?_⟩
 walk_at "kx"
 have P1:1≤((2 ^ d:Nat) : Int):=by have:=Nat.two_pow_pos d; omega
 rw [two_d] at md kd
 generalize hP:((2 ^ d:Nat) : Int)=P at md kd P1
 obtain ⟨kd1,kd2,k127⟩:=lvl_k kd P1 k0
 by_cases e1:m=1
 ·subst e1
  have e1:(1:Int)=1:=rfl
  walk_at "rd"
  rename_i x x0 x1 p1 hp1 p2 hp2
  exact q _ p2 _ (.en (x - 5)) (x - 5) ((same_new hp1 _).new hp2 _) upd_same (TV.en' (kp upd_same hp2)) (by rw [e1]; rfl) (show wB _ from ⟨by omega,by omega⟩) ⟨by omega,by omega⟩ (Nat.zero_le _)
 ·have mh1:1≤m / 2:=by omega
  have mh2:m / 2≤P:=by omega
  have mg2:m - m / 2≤P:=by omega
  walk_at "rd"
  refine ⟨fun σ' H1=>Iv (∃ (v1:V) (t1:Tr) (s1:Int),Same H H1∧TV K H1 v1 (trD t1)∧(t1.lv:Int)=m / 2∧t1.B∧(-5 * (m / 2)≤s1∧s1≤36 * (m / 2))∧t1.dp≤d∧σ' = [some (.int c),some (.int m),some (.int k),none,some v1,some (.int s1),none,none]),?_,?_⟩
  ·refine mid_abs fun _ _ _ => ?_
   walk_at "rd"
   refine ⟨by rw [hP]; exact kd2,fun H1 p v1 t1 s1 S1 hp tv1 l1 b1 d1 dp1=>?_⟩
   walk_at "rd"
   exact ⟨⟨v1,t1,s1,S1,tv1,l1,b1,d1,dp1,rfl⟩⟩
  rintro σ' H1 ⟨⟨v1,t1,s1,S1,tv1,l1,b1,d1,dp1,rfl⟩⟩
  refine ⟨fun σ' H2=>Iv (∃ (v2:V) (t2:Tr) (s2:Int),Same H1 H2∧TV K H2 v2 (trD t2)∧(t2.lv:Int)=m - m / 2∧t2.B∧(-5 * (m - m / 2)≤s2∧s2≤36 * (m - m / 2))∧t2.dp≤d∧σ' = [some (.int c),some (.int m),some (.int k),none,some v1,some (.int s1),some v2,some (.int s2)]),?_,?_⟩
  ·refine mid_abs fun _ _ _ => ?_
   walk_at "rd"
   refine ⟨by rw [hP]; exact kd1,fun H2 p v2 t2 s2 S2 hp tv2 l2 b2 d2 dp2=>?_⟩
   walk_at "rd"
   exact ⟨⟨v2,t2,s2,S2,tv2,l2,b2,d2,dp2,rfl⟩⟩
  rintro σ' H2 ⟨⟨v2,t2,s2,S2,tv2,l2,b2,d2,dp2,rfl⟩⟩
  have tv12:=tv1.mono S2.t
  walk_at "rd"
  rename_i x x0 x1 p1 hp1 p2 hp2
  have st:=((same_new hp1 (H:=H2) (.tup [.str (Str.ofString "fork"),.int (s1 + s2 + (x - 1) * (m - 1)),v1,v2])).new hp2 (.tup [.ref p1,.int (s1 + s2)]))
  refine q _ p2 _ (.fk (s1 + s2 + (x - 1) * (m - 1)) t1 t2) (s1 + s2) ((S1.trans S2).trans st) upd_same (TV.fk' (kp upd_same hp2) (tv12.mono st.t) (tv2.mono st.t)) ?_ ⟨lvl_w (by omega) (by omega) x0 x1 m1 m61,b1,b2⟩ ⟨by omega,by omega⟩ ?_
  ·show ((t1.lv + t2.lv:Nat) : Int)=m
   omega
  ·show max t1.dp t2.dp + 1≤d + 1
   omega
theorem ok_qUA (T:Tx K mg) : ∀ d:Nat,FnOk P w K mg base (CXd P w) (d + 2) T.f_qU T.d_qU ["_law_cell_here", "_law_many", "_law_turn"] (sp_level K d):=by
 intro d
 induction d with
 | zero=>exact ok_qU0 T
 | succ d ih=>exact ok_qUS T d ih
theorem ok_qU (T:Tx K mg) : FnOk P w K mg base (CXd P w) (6 + 2) T.f_qU T.d_qU ["_law_cell_here", "_law_many", "_law_turn"] (sp_level K 6):=by exact ok_qUA T 6
theorem ok_qM0 (T:Tx K mg) : FnOk P w K mg base (CXd P w) (0 + 2) T.f_qM T.d_qM ["_law_tree_here", "_law_bottom_here"] (sp_handed24 K 0):=by
 have sc:=sc_qM
 refine T.F_qM.okd sc (fun vs H Q E h=>?_) (fun cdv A outer s H vs Q E hr h=>?_)
 ·obtain ⟨v,t,B,rfl,tv,td,tl,b0,bz,q1⟩:=h
  rfl
 obtain ⟨v,t,B,rfl,tv,td,tl,b0,bz,q1⟩:=h
 have hu:=hr.units0
 have hu2:=hr.units
 have hu1:=Nat.lt_of_le_of_lt (Nat.add_le_add_left (show 1≤64 by decide) _) hu2
 refine ⟨_,(@pss_cons _ _ _ _ _ (@ps_if _ _ _ _ _ _ _ _ (@pt_cmpR _ _ _ _ _ _ _ _ op_eqS (@pe_ix _ _ _ _ _ _ _ ix_tup (pv 0) pe_int (fun _ _=>rfl)) pe_str (nomark _)) (@pss_one _ _ _ (@ps_ret _ _ _ _ (pe_tup (pa_cons pe_str (pa_cons (pe_call (ok_qK T) (hr.mono (by decide)) rfl T.m_qK T.F_qK.kp T.b_qK .nil (pass_d fun _ _ _ z=>z) (pa_cons (@pe_ix _ _ _ _ _ _ _ ix_tup (pv 0) pe_int (fun _ _=>rfl)) (pa_cons (pv 1) pa_nil))) pa_nil) se_c)))) pss_nil)
   (@pss_cons _ _ _ _ _ ps_never
   (@pss_cons _ _ _ _ _ (@ps_set _ _ 3 _ _ _ _ sc.nd rfl (by walk_at "o1") (pv 2) (by rfl) (by walk_at "o2"))
   (@pss_cons _ _ _ _ _ (@ps_if _ _ _ _ _ _ _ _ (@pt_cmpR _ _ _ _ _ _ _ _ (op_neD hu2) (@pe_ix _ _ _ _ _ _ _ ix_tup (pv 0) pe_int (fun _ _=>rfl)) (@pe_ix _ _ _ _ _ _ _ ix_tup (pv 0) pe_int (fun _ _=>rfl)) (nomark _)) (@pss_one _ _ _ ps_never) pss_nil)
   (@pss_one _ _ _ (@ps_ret _ _ _ _ (pe_tup (pa_cons pe_str (pa_cons (pe_call (ok_qK T) (hr.mono (by decide)) rfl T.m_qK T.F_qK.kp T.b_qK .nil (pass_d fun _ _ _ z=>z) (pa_cons (@pe_ix _ _ _ _ _ _ _ ix_tup (pv 0) pe_int (fun _ _=>rfl)) (pa_cons (pv 1) pa_nil))) (pa_cons (pv 2) (pa_cons (pv 3) pa_nil))) se_c)))))))),?_⟩
 walk_at "kx"
 cases t with
 | fk w y n=>exact absurd td (by show ¬ max y.dp n.dp + 1≤0; omega)
 | en w =>
  obtain ⟨p,rfl,hp⟩:=TV.en tv
  walk_at "rd"
  rename_i p1 h1 p2 h2
  exact q1 _ _ ((same_new h1 _).new h2 _) (TV.hen' b0 upd_same (kp upd_same h2))
theorem ok_qMS (T:Tx K mg)(d:Nat)(ih:FnOk P w K mg base (CXd P w) (d + 2) T.f_qM T.d_qM ["_law_tree_here", "_law_bottom_here"] (sp_handed24 K d)) : FnOk P w K mg base (CXd P w) (d + 1 + 2) T.f_qM T.d_qM ["_law_tree_here", "_law_bottom_here"] (sp_handed24 K (d + 1)):=by
 have sc:=sc_qM
 refine T.F_qM.okd sc (fun vs H Q E h=>?_) (fun cdv A outer s H vs Q E hr h=>?_)
 ·obtain ⟨v,t,B,rfl,tv,td,tl,b0,bz,q1⟩:=h
  rfl
 obtain ⟨v,t,B,rfl,tv,td,tl,b0,bz,q1⟩:=h
 have hu:=hr.units0
 have hu2:=hr.units
 have hu1:=Nat.lt_of_le_of_lt (Nat.add_le_add_left (show 1≤64 by decide) _) hu2
 refine ⟨_,(@pss_cons _ _ _ _ _ (@ps_if _ _ _ _ _ _ _ _ (@pt_cmpR _ _ _ _ _ _ _ _ op_eqS (@pe_ix _ _ _ _ _ _ _ ix_tup (pv 0) pe_int (fun _ _=>rfl)) pe_str (nomark _)) (@pss_one _ _ _ (@ps_ret _ _ _ _ (pe_tup (pa_cons pe_str (pa_cons (pe_call (ok_qK T) (hr.mono (by omega)) rfl T.m_qK T.F_qK.kp T.b_qK .nil (pass_d fun _ _ _ z=>z) (pa_cons (@pe_ix _ _ _ _ _ _ _ ix_tup (pv 0) pe_int (fun _ _=>rfl)) (pa_cons (pv 1) pa_nil))) pa_nil) se_c)))) pss_nil)
   (@pss_cons _ _ _ _ _ (@ps_set _ _ 2 _ _ _ _ sc.nd rfl (by walk_at "o1") (pe_call ih (hr.mono (by omega)) rfl T.m_qM T.F_qM.kp T.b_qM .nil (pass_d fun _ _ _ z=>z) (pa_cons (@pe_ix _ _ _ _ _ _ _ ix_tup (pv 0) pe_int (fun _ _=>rfl)) (pa_cons (pv 1) pa_nil))) (by rfl) (by walk_at "o2"))
   (@pss_cons _ _ _ _ _ (@ps_set _ _ 3 _ _ _ _ sc.nd rfl (by walk_at "o1") (pv 2) (by rfl) (by walk_at "o2"))
   (@pss_cons _ _ _ _ _ (@ps_if _ _ _ _ _ _ _ _ (@pt_cmpR _ _ _ _ _ _ _ _ (op_neD hu2) (@pe_ix _ _ _ _ _ _ _ ix_tup (pv 0) pe_int (fun _ _=>rfl)) (@pe_ix _ _ _ _ _ _ _ ix_tup (pv 0) pe_int (fun _ _=>rfl)) (nomark _)) (@pss_one _ _ _ (@ps_set _ _ 3 _ _ _ _ sc.nd rfl (by walk_at "o1") (pe_call ih (hr.mono (by omega)) rfl T.m_qM T.F_qM.kp T.b_qM .nil (pass_d fun _ _ _ z=>z) (pa_cons (@pe_ix _ _ _ _ _ _ _ ix_tup (pv 0) pe_int (fun _ _=>rfl)) (pa_cons (pv 1) pa_nil))) (by rfl) (by walk_at "o2"))) pss_nil)
   (@pss_one _ _ _ (@ps_ret _ _ _ _ (pe_tup (pa_cons pe_str (pa_cons (pe_call (ok_qK T) (hr.mono (by omega)) rfl T.m_qK T.F_qK.kp T.b_qK .nil (pass_d fun _ _ _ z=>z) (pa_cons (@pe_ix _ _ _ _ _ _ _ ix_tup (pv 0) pe_int (fun _ _=>rfl)) (pa_cons (pv 1) pa_nil))) (pa_cons (pv 2) (pa_cons (pv 3) pa_nil))) se_c)))))))),?_⟩
 walk_at "kx"
 cases t with
 | en w =>
  obtain ⟨p,rfl,hp⟩:=TV.en tv
  walk_at "rd"
  rename_i p1 h1 p2 h2
  exact q1 _ _ ((same_new h1 _).new h2 _) (TV.hen' b0 upd_same (kp upd_same h2))
 | fk w y n =>
  obtain ⟨p,u,v,rfl,hp,tu,tn⟩:=TV.fk tv
  have td:max y.dp n.dp + 1≤d + 1:=td
  have tl:y.lv + n.lv≤61:=tl
  have y1:=y.lv_pos
  have n1:=n.lv_pos
  have y2:=y.dp_lt
  have n2:=n.dp_lt
  have dy:y.dp≤d:=by omega
  have dn:n.dp≤d:=by omega
  have ly:y.lv≤61:=by omega
  have ln:n.lv≤61:=by omega
  walk_at "rd"
  rename_i H1 x S1 tx
  have hp1:=S1 _ _ hp
  have tu1:=tu.mono S1.t
  have tn1:=tn.mono S1.t
  walk_at "rd"
  refine ⟨trD n,trD y,tn1.dv,tu1.dv,((tr_shp n).mono (by omega)).shaped,((tr_shp y).mono (by omega)).shaped,?_⟩
  by_cases c:PyData.eqv (trD n) (trD y)=true
  ·obtain rfl:=tr_eqv c
   rw [c]
   refine ⟨_,rfl,iteB (fun c=>absurd c (by decide)) (fun _=>?_)⟩
   walk_at "rd"
   rename_i p1 h1 p2 h2
   have st:=((SameT.refl H1).new h1 (rt (Rat.divInt w B))).new h2 (HO.tup [V.str (Str.ofString "fork"),V.ref p1,x,x])
   exact q1 _ _ ((S1.new h1 _).new h2 _) (TV.hfk' b0 upd_same (kp upd_same h2) (tx.mono st) (tx.mono st))
  ·rw [Bool.eq_false_iff.mpr c]
   refine ⟨_,rfl,iteB (fun _=>?_) (fun c=>absurd c (by decide))⟩
   walk_at "rd"
   rename_i H2 x2 S2 tx2 p1 h1 p2 h2
   have st:=((SameT.refl H2).new h1 (rt (Rat.divInt w B))).new h2 (HO.tup [V.str (Str.ofString "fork"),V.ref p1,x,x2])
   exact q1 _ _ (((S1.trans S2).new h1 _).new h2 _) (TV.hfk' b0 upd_same (kp upd_same h2) ((tx.mono S2.t).mono st) (tx2.mono st))
theorem ok_qMA (T:Tx K mg) : ∀ d:Nat,FnOk P w K mg base (CXd P w) (d + 2) T.f_qM T.d_qM ["_law_tree_here", "_law_bottom_here"] (sp_handed24 K d):=by
 intro d
 induction d with
 | zero=>exact ok_qM0 T
 | succ d ih=>exact ok_qMS T d ih
theorem ok_qM (T:Tx K mg) : FnOk P w K mg base (CXd P w) (20 + 2) T.f_qM T.d_qM ["_law_tree_here", "_law_bottom_here"] (sp_handed24 K 20):=by exact ok_qMA T 20
theorem ok_qN (T:Tx K mg) : FnOk P w K mg base (CXd P w) 2 T.f_qN T.d_qN ["_law_cell_here"] sp_bottom29:=by
 have sc:=sc_qN
 refine T.F_qN.okd sc (fun vs H Q E h=>?_) (fun cdv A outer s H vs Q E hr h=>?_)
 ·obtain ⟨c,rfl,q⟩:=h
  rfl
 obtain ⟨c,rfl,q⟩:=h
 have hu:=hr.units0
 have hu2:=hr.units
 have hu1:=Nat.lt_of_le_of_lt (Nat.add_le_add_left (show 1≤64 by decide) _) hu2
 refine ⟨_,(@pss_cons _ _ _ _ _ (@ps_set _ _ 1 _ _ _ _ sc.nd rfl (by walk_at "o1") (pe_call (ok_j0 T) (hr.mono (by decide)) rfl T.m_j0 T.F_j0.kp T.b_j0 .nil (pass_d fun _ _ _ z=>z) (pa_cons (pv 0) (pa_cons pe_int (pa_cons pe_int pa_nil)))) (by rfl) (by walk_at "o2"))
   (@pss_cons _ _ _ _ _ (@ps_if _ _ _ _ _ _ _ _ (@pt_cmpR _ _ _ _ _ _ _ _ op_eqI (pv 1) pe_int (nomark _)) (@pss_one _ _ _ (@ps_ret _ _ _ _ pe_int)) pss_nil)
   (@pss_cons _ _ _ _ _ (@ps_if _ _ _ _ _ _ _ _ (@pt_cmpR _ _ _ _ _ _ _ _ op_eqI (pv 1) pe_int (nomark _)) (@pss_one _ _ _ (@ps_ret _ _ _ _ (@pe_op _ _ _ _ _ _ _ _ op_add pe_int (@pe_op _ _ _ _ _ _ _ _ op_mod (@pe_op _ _ _ _ _ _ _ _ op_fdivB (pv 0) pe_int) (pe_fold (.int 999999999999999999999999999999) (@pe_op _ _ _ _ _ _ _ _ op_sub (@pe_op _ _ _ _ _ _ _ _ op_pow pe_int pe_int) pe_int) (by walk_at "cf")))))) pss_nil)
   (@pss_one _ _ _ (@ps_ret _ _ _ _ (@pe_op _ _ _ _ _ _ _ _ op_add pe_int (@pe_op _ _ _ _ _ _ _ _ op_mod (@pe_op _ _ _ _ _ _ _ _ op_fdivB (pv 0) pe_int) pe_int))))))),?_⟩
 walk_at "kx"
 walk_at "rd"
 rename_i v v0 v1
 refine ite3 (fun _=>?_) (fun _=>?_)
 ·walk_at "rd"
  exact q _ (by omega) (by omega)
 ·walk_at "rd"
  refine ite3 (fun _=>?_) (fun _=>?_)
  ·walk_at "rd"
   exact q _ (by omega) (by omega)
  ·walk_at "rd"
   exact q _ (by omega) (by omega)
theorem ok_j5 (T:Tx K mg) : FnOk P w K mg base (CXd P w) 1 T.f_j5 T.d_j5 ["_law_tree_here", "_law_place"] (sp_trat K):=by
 have sc:=sc_j5
 refine T.F_j5.okd sc (fun vs H Q E h=>?_) (fun cdv A outer s H vs Q E hr h=>?_)
 ·obtain ⟨v,pw,t,u,rfl,tv,lw,hg,q⟩:=h
  rfl
 obtain ⟨v,pw,t,u,rfl,tv,lw,hg,q⟩:=h
 have hu:=hr.units0
 have hu2:=hr.units
 have hu1:=Nat.lt_of_le_of_lt (Nat.add_le_add_left (show 1≤64 by decide) _) hu2
 refine ⟨_,(@pss_cons _ _ _ _ _ (ps_for powd rfl (pi_str (pv 1)) (pg_name (i:=2) sc.nd rfl (by walk_at "o1"))
   (@pss_one _ _ _ (@ps_set _ _ 0 _ _ _ _ sc.nd rfl (by walk_at "o1") (@pe_ix _ _ _ _ _ _ _ ix_tup (pv 0) (@pe_op _ _ _ _ _ _ _ _ op_add pe_int (pe_callTy call_int1 rfl T.z_int bt_int (pa_cons (pe_cmpR op_eqS (pv 2) pe_str (nomark _)) pa_nil))) (fun _ _=>rfl)) (by rfl) (by walk_at "o2"))))
   (@pss_one _ _ _ (@ps_ret _ _ _ _ (pv 0)))),?_⟩
 walk_at "kx"
 have hcl:(cds pw).length=pw.cps.size:=cds_len pw
 have hwz:pw.length≤sizeLine:=szB (by omega)
 walk_at "rd"
 refine for_str (fun i σ H'=>Iv (H'=H∧∃ (v':V) (t':Tr) (o3:Option V),σ = [some v',some (.str pw),o3]∧TV K H v' (trD t')∧t'.go ((cds pw).drop i)=some u)) ⟨⟨rfl,v,t,_,rfl,tv,hg⟩⟩ ?_ ?_
 ·rintro i c σ H' hi ⟨⟨rfl,v',t',o3,rfl,tv',hg'⟩⟩
  have e2:(cds pw)[i]? = some c:=by rw [show cds pw=pw.cps.toList from rfl,Array.getElem?_toList]; exact hi
  have ed:(cds pw).drop i=c :: (cds pw).drop (i + 1):=by
   have il:=(List.getElem?_eq_some_iff.mp e2)
   rw [List.drop_eq_getElem_cons il.1,il.2]
  rw [ed] at hg'
  cases t' with
  | en w=>cases hg'
  | fk w y n =>
   have hg':(if c=121 then y.go ((cds pw).drop (i + 1)) else if c=110 then n.go ((cds pw).drop (i + 1)) else none)=some u:=hg'
   obtain ⟨p,v1,v2,rfl,hp,ty,tn⟩:=TV.fk tv'
   by_cases e:c=121
   ·rw [if_pos e] at hg'
    subst e
    have k1:decide ((⟨#[121]⟩ : Str)=Str.ofString "n")=false:=by decide +kernel
    walk_at "rd"
    refine .inr ⟨_,rfl,?_⟩
    rw [k1]
    walk_at "rd"
    exact ⟨⟨rfl,_,y,_,rfl,ty,hg'⟩⟩
   ·rw [if_neg e] at hg'
    by_cases e2:c=110
    ·rw [if_pos e2] at hg'
     subst e2
     have k1:decide ((⟨#[110]⟩ : Str)=Str.ofString "n")=true:=by decide +kernel
     walk_at "rd"
     refine .inr ⟨_,rfl,?_⟩
     rw [k1]
     walk_at "rd"
     exact ⟨⟨rfl,_,n,_,rfl,tn,hg'⟩⟩
    ·rw [if_neg e2] at hg'
     cases hg'
 ·rintro σ H' ⟨⟨rfl,v',t',o3,rfl,tv',hg'⟩⟩
  rw [← hcl,List.drop_length] at hg'
  have hg2:some t'=some u:=by rw [← hg']; cases t' <;> rfl
  obtain rfl:t'=u:=Option.some.inj hg2
  obtain ⟨p,k,r,rfl,hp⟩:=tv'.wt
  walk_at "rd"
  exact q _ _ _ hp
theorem ok_j3 (T:Tx K mg) : FnOk P w K mg base (CXd P w) 1 T.f_j3 T.d_j3 ["_law_cell_here"] sp_bag:=by
 have sc:=sc_j3
 refine T.F_j3.okd sc (fun vs H Q E h=>?_) (fun cdv A outer s H vs Q E hr h=>?_)
 ·obtain ⟨c,rfl,q⟩:=h
  rfl
 obtain ⟨c,rfl,q⟩:=h
 have hu:=hr.units0
 have hu2:=hr.units
 have hu1:=Nat.lt_of_le_of_lt (Nat.add_le_add_left (show 1≤64 by decide) _) hu2
 refine ⟨_,(@pss_one _ _ _ (@ps_ret _ _ _ _ (@pe_lst _ _ _ _ (pa_cons (@pe_op _ _ _ _ _ _ _ _ op_mulB (pv 0) (pe_callTy call_int1 rfl T.z_int bt_int (pa_cons (pe_cmpR op_ge (pv 0) (pe_fold (.int 1000000000000000000) (@pe_op _ _ _ _ _ _ _ _ op_pow pe_int pe_int) (by walk_at "cf")) (nomark _)) pa_nil))) (pa_cons (@pe_op _ _ _ _ _ _ _ _ op_mod (pv 0) pe_int) pa_nil))))),?_⟩
 walk_at "kx"
 have m:∀ k:Bool,IntMulOk c (if k=true then 1 else 0):=fun k=>IntMulOk.of_right (by cases k <;> decide +kernel)
 walk_at "rd"
 refine .inr ⟨_,rfl,?_⟩
 have m1:=m (decide (1000000000000000000≤c))
 walk_at "rd"
 exact q _ _ _ (by assumption) ⟨by omega,by omega⟩
theorem ok_qO0 (T:Tx K mg) : FnOk P w K mg base (CXd P w) (0 + 1) T.f_qO T.d_qO ["_law_tree_here", "_law_place", "_law_bag_here"] (sp_pruned K 0):=by
 have sc:=sc_qO
 refine T.F_qO.okd sc (fun vs H Q E h=>?_) (fun cdv A outer s H vs Q E hr h=>?_)
 ·obtain ⟨v,q,b,b0,b1,t,rfl,tv,td,tl,ql,hb,bg,q1⟩:=h
  rfl
 obtain ⟨v,q,b,b0,b1,t,rfl,tv,td,tl,ql,hb,bg,q1⟩:=h
 have hu:=hr.units0
 have hu2:=hr.units
 have hu1:=Nat.lt_of_le_of_lt (Nat.add_le_add_left (show 1≤64 by decide) _) hu2
 refine ⟨_,(@pss_cons _ _ _ _ _ (@ps_if _ _ _ _ _ _ _ _ (@pt_cmpR _ _ _ _ _ _ _ _ op_eqS (@pe_ix _ _ _ _ _ _ _ ix_tup (pv 0) pe_int (fun _ _=>rfl)) pe_str (nomark _)) (@pss_one _ _ _ (@ps_ret _ _ _ _ (@pe_lst _ _ _ _ (pa_cons (pv 1) pa_nil)))) pss_nil)
   (@pss_cons _ _ _ _ _ (@ps_mid _ _ _ (@ps_if _ _ _ _ _ _ _ _ (@pt_cmpR _ _ _ _ _ _ _ _ op_gt (@pe_ix _ _ _ _ _ _ _ ix_list (pv 2) pe_int (fun _ _=>rfl)) pe_int (nomark _)) (@pss_cons _ _ _ _ _ (@ps_set _ _ 3 _ _ _ _ sc.nd rfl (by walk_at "o1") (@pe_op _ _ _ _ _ _ _ _ op_mod (@pe_ix _ _ _ _ _ _ _ ix_list (pv 2) pe_int (fun _ _=>rfl)) pe_int) (by rfl) (by walk_at "o2"))
   (@pss_one _ _ _ (ps_asg (@pe_op _ _ _ _ _ _ _ _ op_fdivB (@pe_ix _ _ _ _ _ _ _ ix_list (pv 2) pe_int (fun _ _=>rfl)) pe_int) (pg_sub (pv 2) pe_int set_list)))) (@pss_cons _ _ _ _ _ (ps_asg (@pe_op _ _ _ _ _ _ _ _ op_mod (@pe_op _ _ _ _ _ _ _ _ op_add (@pe_op _ _ _ _ _ _ _ _ op_mulB (@pe_ix _ _ _ _ _ _ _ ix_list (pv 2) pe_int (fun _ _=>rfl)) pe_int) pe_int) pe_int) (pg_sub (pv 2) pe_int set_list))
   (@pss_one _ _ _ (@ps_set _ _ 3 _ _ _ _ sc.nd rfl (by walk_at "o1") (@pe_op _ _ _ _ _ _ _ _ op_mod (@pe_op _ _ _ _ _ _ _ _ op_fdivB (@pe_ix _ _ _ _ _ _ _ ix_list (pv 2) pe_int (fun _ _=>rfl)) pe_int) pe_int) (by rfl) (by walk_at "o2"))))))
   (@pss_cons _ _ _ _ _ (@ps_if _ _ _ _ _ _ _ _ (@pt_cmpR _ _ _ _ _ _ _ _ op_eqI (pv 3) pe_int (nomark _)) (@pss_one _ _ _ (@ps_ret _ _ _ _ (@pe_lst _ _ _ _ (pa_cons (pv 1) pa_nil)))) pss_nil)
   (@pss_cons _ _ _ _ _ ps_never
   (@pss_one _ _ _ ps_never))))),?_⟩
 walk_at "kx"
 have g1:=bg.1
 have g2:=bg.2
 cases t with
 | fk w y n=>exact absurd td (by show ¬ max y.dp n.dp + 1≤0; omega)
 | en w =>
  obtain ⟨p,rfl,hp⟩:=TV.en tv
  walk_at "rd"
  exact q1 _ _ b0 b1 [q] [] (SameB.of (same_new (by assumption) _)) (kp hb (by assumption)) bg (by assumption) upd_same (.stop _ q)
theorem ok_qOS (T:Tx K mg)(d:Nat)(ih:FnOk P w K mg base (CXd P w) (d + 1) T.f_qO T.d_qO ["_law_tree_here", "_law_place", "_law_bag_here"] (sp_pruned K d)) : FnOk P w K mg base (CXd P w) (d + 1 + 1) T.f_qO T.d_qO ["_law_tree_here", "_law_place", "_law_bag_here"] (sp_pruned K (d + 1)):=by
 have sc:=sc_qO
 refine T.F_qO.okd sc (fun vs H Q E h=>?_) (fun cdv A outer s H vs Q E hr h=>?_)
 ·obtain ⟨v,q,b,b0,b1,t,rfl,tv,td,tl,ql,hb,bg,q1⟩:=h
  rfl
 obtain ⟨v,q,b,b0,b1,t,rfl,tv,td,tl,ql,hb,bg,q1⟩:=h
 have hu:=hr.units0
 have hu2:=hr.units
 have hu1:=Nat.lt_of_le_of_lt (Nat.add_le_add_left (show 1≤64 by decide) _) hu2
 refine ⟨_,(@pss_cons _ _ _ _ _ (@ps_if _ _ _ _ _ _ _ _ (@pt_cmpR _ _ _ _ _ _ _ _ op_eqS (@pe_ix _ _ _ _ _ _ _ ix_tup (pv 0) pe_int (fun _ _=>rfl)) pe_str (nomark _)) (@pss_one _ _ _ (@ps_ret _ _ _ _ (@pe_lst _ _ _ _ (pa_cons (pv 1) pa_nil)))) pss_nil)
   (@pss_cons _ _ _ _ _ (@ps_mid _ _ _ (@ps_if _ _ _ _ _ _ _ _ (@pt_cmpR _ _ _ _ _ _ _ _ op_gt (@pe_ix _ _ _ _ _ _ _ ix_list (pv 2) pe_int (fun _ _=>rfl)) pe_int (nomark _)) (@pss_cons _ _ _ _ _ (@ps_set _ _ 3 _ _ _ _ sc.nd rfl (by walk_at "o1") (@pe_op _ _ _ _ _ _ _ _ op_mod (@pe_ix _ _ _ _ _ _ _ ix_list (pv 2) pe_int (fun _ _=>rfl)) pe_int) (by rfl) (by walk_at "o2"))
   (@pss_one _ _ _ (ps_asg (@pe_op _ _ _ _ _ _ _ _ op_fdivB (@pe_ix _ _ _ _ _ _ _ ix_list (pv 2) pe_int (fun _ _=>rfl)) pe_int) (pg_sub (pv 2) pe_int set_list)))) (@pss_cons _ _ _ _ _ (ps_asg (@pe_op _ _ _ _ _ _ _ _ op_mod (@pe_op _ _ _ _ _ _ _ _ op_add (@pe_op _ _ _ _ _ _ _ _ op_mulB (@pe_ix _ _ _ _ _ _ _ ix_list (pv 2) pe_int (fun _ _=>rfl)) pe_int) pe_int) pe_int) (pg_sub (pv 2) pe_int set_list))
   (@pss_one _ _ _ (@ps_set _ _ 3 _ _ _ _ sc.nd rfl (by walk_at "o1") (@pe_op _ _ _ _ _ _ _ _ op_mod (@pe_op _ _ _ _ _ _ _ _ op_fdivB (@pe_ix _ _ _ _ _ _ _ ix_list (pv 2) pe_int (fun _ _=>rfl)) pe_int) pe_int) (by rfl) (by walk_at "o2"))))))
   (@pss_cons _ _ _ _ _ (@ps_if _ _ _ _ _ _ _ _ (@pt_cmpR _ _ _ _ _ _ _ _ op_eqI (pv 3) pe_int (nomark _)) (@pss_one _ _ _ (@ps_ret _ _ _ _ (@pe_lst _ _ _ _ (pa_cons (pv 1) pa_nil)))) pss_nil)
   (@pss_cons _ _ _ _ _ (@ps_set _ _ 4 _ _ _ _ sc.nd rfl (by walk_at "o1") (pe_call ih (hr.mono (by omega)) rfl T.m_qO T.F_qO.kp T.b_qO .nil (pass_d fun _ _ _ z=>z) (pa_cons (@pe_ix _ _ _ _ _ _ _ ix_tup (pv 0) pe_int (fun _ _=>rfl)) (pa_cons (@pe_op _ _ _ _ _ _ _ _ op_add_str (pv 1) pe_str) (pa_cons (pv 2) pa_nil)))) (by rfl) (by walk_at "o2"))
   (@pss_one _ _ _ (@ps_ret _ _ _ _ (@pe_op _ _ _ _ _ _ _ _ op_cat (pe_call ih (hr.mono (by omega)) rfl T.m_qO T.F_qO.kp T.b_qO .nil (pass_d fun _ _ _ z=>z) (pa_cons (@pe_ix _ _ _ _ _ _ _ ix_tup (pv 0) pe_int (fun _ _=>rfl)) (pa_cons (@pe_op _ _ _ _ _ _ _ _ op_add_str (pv 1) pe_str) (pa_cons (pv 2) pa_nil)))) (pv 4)))))))),?_⟩
 walk_at "kx"
 have g1:=bg.1
 have g2:=bg.2
 have qz:q.length≤sizeLine:=szB (by omega)
 cases t with
 | en w =>
  obtain ⟨p,rfl,hp⟩:=TV.en tv
  walk_at "rd"
  exact q1 _ _ b0 b1 [q] [] (SameB.of (same_new (by assumption) _)) (kp hb (by assumption)) bg (by assumption) upd_same (.stop _ q)
 | fk w y n =>
  obtain ⟨p,u,v,rfl,hp,tu,tn⟩:=TV.fk tv
  clear tv
  have td:max y.dp n.dp + 1≤d + 1:=td
  have d1:y.dp≤d:=by omega
  have d2:n.dp≤d:=by omega
  have tl:y.lv + n.lv≤61:=tl
  have tl1:y.lv≤61:=by omega
  have tl2:n.lv≤61:=by omega
  have e1:("y" : Str).length=1:=by decide +kernel
  have e2:("n" : Str).length=1:=by decide +kernel
  have k1:q.length + ("y" : Str).length≤sizeLine:=szB (by omega)
  have k2:q.length + ("n" : Str).length≤sizeLine:=szB (by omega)
  have k3:(q ++ "y" : Str).length + d≤100:=by rw [len_app]; omega
  have k4:(q ++ "n" : Str).length + d≤100:=by rw [len_app]; omega
  walk_at "rd"
  refine ⟨fun σ' H'=>Iv (∃ c0 c1 g:Int,SameB b H H'∧H' b=some (.lst [.int c0,.int c1])∧Bg c1∧σ' = [some (.ref p),some (.str q),some (.ref b),some (.int g),none]),?_,?_⟩
  ·refine mid_abs fun _ _ _ => ?_
   walk_at "rd"
   refine ite3 (fun c=>?_) (fun c=>?_)
   ·walk_at "rd"
    exact ⟨⟨_,_,_,(SameB.refl b H).at _,upd_same,bg,rfl⟩⟩
   ·walk_at "rd"
    exact ⟨⟨_,_,_,(SameB.refl b H).at _,upd_same,⟨by omega,by omega⟩,rfl⟩⟩
  rintro σ' H' ⟨⟨c0,c1,g,S1,hb1,bg1,rfl⟩⟩
  have st1:=S1.t hb
  have tu1:=tu.mono st1
  have tn1:=tn.mono st1
  have hp1:=st1 _ _ hp
  walk_at "rd"
  refine ite3 (fun c=>?_) (fun c=>?_)
  ·walk_at "rd"
   rename_i z hz
   exact q1 _ _ c0 c1 [q] [] (S1.new hz _) (kp hb1 hz) bg1 (S1.free hz hb1) upd_same (.stop _ q)
  walk_at "rd"
  rename_i H2 p2 x0 x1 ps1 fs1 S2 hb2 bg2 f2 hp2 pi1
  have st2:=S2.t hb1
  have tn2:=tn1.mono st2
  have hp3:=st2 _ _ hp1
  walk_at "rd"
  rename_i H3 p3 z0 z1 ps2 fs2 S3 hb3 bg3 f3 hp4 pi2
  have ne:p2 ≠ b:=fun z=>by subst z; rw [hb1] at f2; cases f2
  have hp5:=S3 _ _ ne hp2
  have n1:=pi1.len.1
  have n2:=pi2.len.1
  have lz:(ps2.map V.str).length + (ps1.map V.str).length≤sizeLine:=szB (by rw [List.length_map,List.length_map]; omega)
  walk_at "rd"
  rename_i z hz
  have S:=(S1.trans S2).trans S3
  exact q1 _ _ z0 z1 (ps2 ++ ps1) (q :: (fs2 ++ fs1)) (S.new hz _) (kp hb3 hz) bg3 (S.free hz hb3) (by rw [List.map_append]; exact upd_same) (.go pi1 pi2)
theorem ok_qOA (T:Tx K mg) : ∀ d:Nat,FnOk P w K mg base (CXd P w) (d + 1) T.f_qO T.d_qO ["_law_tree_here", "_law_place", "_law_bag_here"] (sp_pruned K d):=by
 intro d
 induction d with
 | zero=>exact ok_qO0 T
 | succ d ih=>exact ok_qOS T d ih
theorem ok_qO (T:Tx K mg) : FnOk P w K mg base (CXd P w) (20 + 1) T.f_qO T.d_qO ["_law_tree_here", "_law_place", "_law_bag_here"] (sp_pruned K 20):=by exact ok_qOA T 20
theorem ok_qP (T:Tx K mg) : FnOk P w K mg base (CXd P w) 1 T.f_qP T.d_qP ["_law_tree_here"] (sp_places28 K):=by
 have sc:=sc_qP
 refine T.F_qP.okd sc (fun vs H Q E h=>?_) (fun cdv A outer s H vs Q E hr h=>?_)
 ·obtain ⟨v,t,rfl,tv,lt,q⟩:=h
  rfl
 obtain ⟨v,t,rfl,tv,lt,q⟩:=h
 have hu:=hr.units0
 have hu2:=hr.units
 have hu1:=Nat.lt_of_le_of_lt (Nat.add_le_add_left (show 1≤64 by decide) _) hu2
 refine ⟨_,(@pss_cons _ _ _ _ _ (@ps_set _ _ 1 _ _ _ _ sc.nd rfl (by walk_at "o1") (@pe_lst _ _ _ _ pa_nil) (by rfl) (by walk_at "o2"))
   (@pss_cons _ _ _ _ _ (@ps_set _ _ 2 _ _ _ _ sc.nd rfl (by walk_at "o1") (@pe_lst _ _ _ _ (pa_cons (pe_tup (pa_cons pe_str (pa_cons (pv 0) pa_nil) se_c)) pa_nil)) (by rfl) (by walk_at "o2"))
   (@pss_cons _ _ _ _ _ (ps_while powd (@pt_cmpR _ _ _ _ _ _ _ _ op_gt (pe_callB call_len_seq rfl T.z_len bt_len (pa_cons (pv 2) pa_nil)) pe_int (nomark _)) (@pss_cons _ _ _ _ _ (@ps_mid _ _ _ (ps_asg (pe_bm0 PySem.F.plainAttrs_list PySem.F.slot_list_pop PySem.F.type_list_pop mt_pop (pv 2)) (pg_tup rfl (pgs_cons (pg_name (i:=3) sc.nd rfl (by walk_at "o1")) (pgs_cons (pg_name (i:=4) sc.nd rfl (by walk_at "o1")) pgs_nil)))))
   (@pss_cons _ _ _ _ _ (@ps_mid _ _ _ (ps_expr (pe_bm PySem.F.plainAttrs_list PySem.F.slot_list_append PySem.F.type_list_append mt_append (pv 1) (pa_cons (pe_tup (pa_cons (pv 3) (pa_cons (@pe_ix _ _ _ _ _ _ _ ix_tup (pv 4) pe_int (fun _ _=>rfl)) pa_nil))) pa_nil))))
   (@pss_one _ _ _ (@ps_if _ _ _ _ _ _ _ _ (@pt_cmpR _ _ _ _ _ _ _ _ op_eqS (@pe_ix _ _ _ _ _ _ _ ix_tup (pv 4) pe_int (fun _ _=>rfl)) pe_str (nomark _)) (@pss_cons _ _ _ _ _ (ps_expr (pe_bm PySem.F.plainAttrs_list PySem.F.slot_list_append PySem.F.type_list_append mt_append (pv 2) (pa_cons (pe_tup (pa_cons (@pe_op _ _ _ _ _ _ _ _ op_add_str (pv 3) pe_str) (pa_cons (@pe_ix _ _ _ _ _ _ _ ix_tup (pv 4) pe_int (fun _ _=>rfl)) pa_nil))) pa_nil)))
   (@pss_one _ _ _ (ps_expr (pe_bm PySem.F.plainAttrs_list PySem.F.slot_list_append PySem.F.type_list_append mt_append (pv 2) (pa_cons (pe_tup (pa_cons (@pe_op _ _ _ _ _ _ _ _ op_add_str (pv 3) pe_str) (pa_cons (@pe_ix _ _ _ _ _ _ _ ix_tup (pv 4) pe_int (fun _ _=>rfl)) pa_nil))) pa_nil))))) pss_nil)))))
   (@pss_one _ _ _ (@ps_ret _ _ _ _ (pe_callB call_sortedPU rfl T.z_sorted bt_sorted (pa_cons (pv 1) pa_nil))))))),?_⟩
 walk_at "kx"
 walk_at "rd"
 rename_i z1 hz1 p1 hp1 z2 hz2
 have n12:z1 ≠ z2:=fun e=>by
  rw [← e,upd_ne (fun e2=>by rw [← e2,upd_same] at hp1; cases hp1),upd_same] at hz2
  cases hz2
 have fz2:H z2=none:=Same.free ((same_new hz1 _).new hp1 _) hz2
 have ld:=t.dp_lt
 have pl:=plc_len t ""
 have tv2:TV K (upd (upd (upd H z1 (.lst [])) p1 (.tup [.str "", v])) z2 (.lst [.ref p1])) v (trD t):=tv.mono (((same_new hz1 _).new hp1 _).new hz2 _).t
 have hx0:(upd (upd (upd H z1 (.lst [])) p1 (.tup [.str "", v])) z2 (.lst [.ref p1])) z1=some (.lst []):=kp (kp upd_same hp1) hz2
 have hy0:=upd_same (H:=upd (upd H z1 (.lst [])) p1 (.tup [.str "", v])) (a:=z2) (o:=.lst [.ref p1])
 have hp0:(upd (upd (upd H z1 (.lst [])) p1 (.tup [.str "", v])) z2 (.lst [.ref p1])) p1=some (.tup [.str "", v]):=kp upd_same hz2
 have S0:Same H (upd (upd (upd H z1 (.lst [])) p1 (.tup [.str "", v])) z2 (.lst [.ref p1])):=((same_new hz1 _).new hp1 _).new hz2 _
 generalize upd (upd (upd H z1 (.lst [])) p1 (.tup [.str "", v])) z2 (.lst [.ref p1])=H0 at tv2 hx0 hy0 hp0 S0 ⊢
 refine while_by (fun σ' H'=>Iv (Same H H'∧(∃ xs us ys ts,H' z1=some (.lst xs)∧TVs K H' xs ((us:List (Str × Str)).map plD)∧H' z2=some (.lst ys)∧TVs K H' ys ((ts:List (Str × Tr)).map tdD)∧(∀ e∈ts,e.1.length + e.2.dp≤60)∧us ++ plcR ts=plcN t "")∧∃ o3 o4,σ' = [some v,some (.ref z1),some (.ref z2),o3,o4])) (fun _ H=>match H z1 with | some (.lst xs)=>300 - xs.length | _=>0) ⟨⟨S0,⟨[],[],[.ref p1],[("", t)],hx0,.nil,hy0,.cons (.tup hp0 (.cons (.str _) (.cons tv2 .nil))) .nil,fun e he=>(by rw [List.mem_singleton.mp he]; show ("" : Str).length + t.dp≤60; rw [show ("" : Str).length=0 by decide +kernel]; omega),by rw [List.nil_append]; exact plcR_one⟩,_,_,rfl⟩⟩ ?_ ?_
 ·rintro σ' H' ⟨⟨S,⟨xs,us,ys,ts,hx,tx,hy,ty,ht,pm⟩,o3,o4,rfl⟩⟩
  have xl:xs.length=us.length:=by rw [tx.length,List.length_map]
  have ul:us.length + (plcR ts).length≤130:=by have:=congrArg List.length pm; rw [List.length_append] at this; have:=plcN_len t ""; omega
  walk_at "rd"
  refine ite3 (fun c=>?_) (fun c=>?_)
  ·obtain ⟨zs,y,as,e,rfl,rfl,tz,te⟩:=TVs.last ty (by omega)
   have ea:=pop1_at zs y
   have eb:=pop1_rest zs y
   obtain ⟨q0,s0⟩:=e
   obtain ⟨pp,u1,u2,rfl,hpp,t1,t2⟩:=TV.pair te
   obtain rfl:=t1.strs
   have lb:=ht (q0,s0) (List.mem_append_right _ (List.mem_singleton.mpr rfl))
   have ht0:∀ e∈as,e.1.length + e.2.dp≤60:=fun e he=>ht e (List.mem_append_left _ he)
   rw [plcR_snoc] at pm ul
   clear ht te ty t1
   have xz:xs.length < sizeLine:=small1000 (by omega)
   have zl:zs.length=as.length:=by rw [tz.length,List.length_map]
   have al:as.length≤(plcR as).length:=plcR_len as
   rw [List.length_append] at ul
   have zz:zs.length < sizeLine:=small1000 (by omega)
   have nz2:z2 ≠ z1:=Ne.symm n12
   have hpp:H' pp=some (.tup [.str q0,u2]):=hpp
   refine ⟨fun σ' H1=>Iv (H1=upd H' z2 (.lst zs)∧σ' = [some v,some (.ref z1),some (.ref z2),some (.str q0),some u2]),?_,?_⟩
   ·refine mid_abs fun _ _ _ => ?_
    walk_at "rd"
    rw [eb]
    exact ⟨⟨rfl,rfl⟩⟩
   rintro σ' H1 ⟨⟨e1,rfl⟩⟩
   have st1:SameT H' H1:=by rw [e1]; exact (SameT.refl H').lst hy _
   have hx1:H1 z1=some (.lst xs):=by rw [e1,upd_ne n12]; exact hx
   have hy1:H1 z2=some (.lst zs):=by rw [e1]; exact upd_same
   have S1:Same H H1:=by rw [e1]; exact Same.over S fz2 _
   clear e1 ea eb
   cases s0 with
   | en w =>
    obtain ⟨p2,rfl,hp2⟩:=TV.en t2
    have hp1':=st1 _ _ hp2
    refine ⟨fun σ' H2=>Iv (∃ p,Same H H2∧H2 z1=some (.lst (xs ++ [.ref p]))∧TVs K H2 (xs ++ [.ref p]) ((us ++ [(q0,("end" : Str))]).map plD)∧H2 z2=some (.lst zs)∧SameT H' H2∧σ' = [some v,some (.ref z1),some (.ref z2),some (.str q0),some (.ref p2)]),?_,?_⟩
    ·refine mid_abs fun _ _ _ => ?_
     walk_at "rd"
     rename_i p hp
     have st2:=st1.new hp (.tup [.str q0,.str "end"])
     have hx2:upd H1 p (.tup [.str q0,.str "end"]) z1=some (.lst xs):=kp hx1 hp
     have st3:=st2.lst hx2 (.lst (xs ++ [.ref p]))
     have npz:p ≠ z1:=fun e=>by rw [← e,upd_same] at hx2; cases hx2
     refine ⟨⟨p,Same.over (S1.new hp _) hz1 _,upd_same,?_,?_,st3,rfl⟩⟩
     ·rw [List.map_append]
      exact TVs.snoc (tx.mono st3) (.tup (by rw [upd_ne npz]; exact upd_same) (.cons (.str _) (.cons (.str _) .nil)))
     ·rw [upd_ne nz2]
      exact kp hy1 hp
    rintro σ' H2 ⟨⟨p,S2,hx2,tx2,hy2,st2,rfl⟩⟩
    have ms:∀ H3:Hp,H3 z1=some (.lst (xs ++ [.ref p]))→(match H3 z1 with | some (.lst xs)=>300 - xs.length | _=>0) < (match H' z1 with | some (.lst xs)=>300 - xs.length | _=>0):=fun H3 e=>by
     rw [e,hx]
     show 300 - (xs ++ [V.ref p]).length < 300 - xs.length
     rw [List.length_append,List.length_singleton]
     omega
    have hp3:=st2 _ _ hp2
    walk_at "rd"
    refine ⟨⟨S2,⟨_,_,zs,as,hx2,tx2,hy2,tz.mono st2,ht0,?_⟩,_,_,rfl⟩,ms _ hx2⟩
    rw [← pm,List.append_assoc]
    rfl
   | fk w y n =>
    obtain ⟨p2,a2,a3,rfl,hp2,ty,tn⟩:=TV.fk t2
    have lb:q0.length + (max y.dp n.dp + 1)≤60:=lb
    have k1:q0.length + ("y" : Str).length≤sizeLine:=szB (by rw [ynl.1]; omega)
    have k2:q0.length + ("n" : Str).length≤sizeLine:=szB (by rw [ynl.2]; omega)
    have hp1':=st1 _ _ hp2
    refine ⟨fun σ' H2=>Iv (∃ p,Same H H2∧H2 z1=some (.lst (xs ++ [.ref p]))∧TVs K H2 (xs ++ [.ref p]) ((us ++ [(q0,("fork" : Str))]).map plD)∧H2 z2=some (.lst zs)∧SameT H' H2∧σ' = [some v,some (.ref z1),some (.ref z2),some (.str q0),some (.ref p2)]),?_,?_⟩
    ·refine mid_abs fun _ _ _ => ?_
     walk_at "rd"
     rename_i p hp
     have st2:=st1.new hp (.tup [.str q0,.str "fork"])
     have hx2:upd H1 p (.tup [.str q0,.str "fork"]) z1=some (.lst xs):=kp hx1 hp
     have st3:=st2.lst hx2 (.lst (xs ++ [.ref p]))
     have npz:p ≠ z1:=fun e=>by rw [← e,upd_same] at hx2; cases hx2
     refine ⟨⟨p,Same.over (S1.new hp _) hz1 _,upd_same,?_,?_,st3,rfl⟩⟩
     ·rw [List.map_append]
      exact TVs.snoc (tx.mono st3) (.tup (by rw [upd_ne npz]; exact upd_same) (.cons (.str _) (.cons (.str _) .nil)))
     ·rw [upd_ne nz2]
      exact kp hy1 hp
    rintro σ' H2 ⟨⟨p,S2,hx2,tx2,hy2,st2,rfl⟩⟩
    have ms:∀ H3:Hp,H3 z1=some (.lst (xs ++ [.ref p]))→(match H3 z1 with | some (.lst xs)=>300 - xs.length | _=>0) < (match H' z1 with | some (.lst xs)=>300 - xs.length | _=>0):=fun H3 e=>by
     rw [e,hx]
     show 300 - (xs ++ [V.ref p]).length < 300 - xs.length
     rw [List.length_append,List.length_singleton]
     omega
    have hp3:=st2 _ _ hp2
    have ly:∀ z:V,(zs ++ [z]).length < sizeLine:=fun z=>small1000 (by rw [List.length_append,List.length_singleton]; omega)
    have tz2:=tz.mono st2
    have ty2:=ty.mono st2
    have tn2:=tn.mono st2
    walk_at "rd"
    rename_i r1 hr1 r2 hr2
    have v1:=(SameT.refl H2).new hr1 (.tup [.str (q0 ++ "y"),a2])
    have S3:=S2.new hr1 (.tup [.str (q0 ++ "y"),a2])
    have hx3:=kp hx2 hr1 (u:=.tup [.str (q0 ++ "y"),a2])
    have hy3:=kp hy2 hr1 (u:=.tup [.str (q0 ++ "y"),a2])
    have hr3:=upd_same (H:=H2) (a:=r1) (o:=.tup [.str (q0 ++ "y"),a2])
    generalize upd H2 r1 (.tup [.str (q0 ++ "y"),a2])=H3 at v1 S3 hx3 hy3 hr3 hr2 ⊢
    have v2:=v1.lst hy3 (.lst (zs ++ [.ref r1]))
    have w2:=(SameT.refl H3).lst hy3 (.lst (zs ++ [.ref r1]))
    have S4:=Same.over S3 fz2 (.lst (zs ++ [.ref r1]))
    have hx4:upd H3 z2 (.lst (zs ++ [.ref r1])) z1=some (.lst (xs ++ [.ref p])):=by rw [upd_ne n12]; exact hx3
    have hy4:=upd_same (H:=H3) (a:=z2) (o:=.lst (zs ++ [.ref r1]))
    have hr4:=w2 _ _ hr3
    generalize upd H3 z2 (.lst (zs ++ [.ref r1]))=H4 at v2 w2 S4 hx4 hy4 hr4 hr2 ⊢
    have v5:=v2.new hr2 (.tup [.str (q0 ++ "n"),a3])
    have S5:=S4.new hr2 (.tup [.str (q0 ++ "n"),a3])
    have hx5:=kp hx4 hr2 (u:=.tup [.str (q0 ++ "n"),a3])
    have hy5:=kp hy4 hr2 (u:=.tup [.str (q0 ++ "n"),a3])
    have hr5:=kp hr4 hr2 (u:=.tup [.str (q0 ++ "n"),a3])
    have hs5:=upd_same (H:=H4) (a:=r2) (o:=.tup [.str (q0 ++ "n"),a3])
    generalize upd H4 r2 (.tup [.str (q0 ++ "n"),a3])=H5 at v5 S5 hx5 hy5 hr5 hs5 ⊢
    have v6:=v5.lst hy5 (.lst (zs ++ [.ref r1] ++ [.ref r2]))
    have w6:=(SameT.refl H5).lst hy5 (.lst (zs ++ [.ref r1] ++ [.ref r2]))
    have S6:=Same.over S5 fz2 (.lst (zs ++ [.ref r1] ++ [.ref r2]))
    have hx6:upd H5 z2 (.lst (zs ++ [.ref r1] ++ [.ref r2])) z1=some (.lst (xs ++ [.ref p])):=by rw [upd_ne n12]; exact hx5
    refine ⟨ly _,?_⟩
    walk_at "rd"
    refine ⟨⟨S6,⟨_,_,_,as ++ [(q0 ++ "y", y)] ++ [(q0 ++ "n", n)],hx6,tx2.mono v6,upd_same,?_,?_,?_⟩,_,_,rfl⟩,ms _ hx6⟩
    ·rw [List.map_append,List.map_append]
     exact TVs.snoc (TVs.snoc (tz2.mono v6) (.tup (w6 _ _ hr5) (.cons (.str _) (.cons (ty2.mono v6) .nil)))) (.tup (w6 _ _ hs5) (.cons (.str _) (.cons (tn2.mono v6) .nil)))
    ·refine snocT (snocT ht0 ?_) ?_
     ·show (q0 ++ "y" : Str).length + y.dp≤60
      rw [len_app,ynl.1]
      omega
     ·show (q0 ++ "n" : Str).length + n.dp≤60
      rw [len_app,ynl.2]
      omega
    ·rw [← pm,plcR_snoc,plcR_snoc,List.append_assoc]
     show us ++ ((q0,("fork" : Str)) :: (plcN n (q0 ++ "n") ++ (plcN y (q0 ++ "y") ++ plcR as)))=us ++ ((q0,("fork" : Str)) :: ((plcN n (q0 ++ "n") ++ plcN y (q0 ++ "y")) ++ plcR as))
     rw [List.append_assoc]
  ·have e0:ys.length=0:=by omega
   obtain rfl:=List.length_eq_zero_iff.mp e0
   have ets:ts = []:=by
    have:=ty.length
    rw [List.length_map] at this
    exact List.length_eq_zero_iff.mp this.symm
   subst ets
   have eu:us=plcN t "" := by
    have:=pm
    rw [show plcR [] = [] from rfl,List.append_nil] at this
    exact this
   have pm0:us.Perm (plc t ""):=by rw [eu]; exact plcN_perm t ""
   have x128:xs.length < 128:=by have:=plcN_len t ""; rw [← eu] at this; omega
   have up0:(us.map (·.1)).Pairwise (fun a b=>a.cps.toList < b.cps.toList):=by rw [eu]; exact plcN_up t ""
   have lx2:xs.length=(us.map (·.1)).length:=by rw [List.length_map]; exact xl
   have prs2:∀ (i:Nat) (y:V),xs[i]? = some y→∃ a x z,(us.map (·.1))[i]? = some x∧y=V.ref a∧H' a=some (.tup [.str x,.str z]):=fun i y hy1=>by
    have hi:=(List.getElem?_eq_some_iff.mp hy1).1
    have iu:i < us.length:=by omega
    obtain ⟨y',e1,ty'⟩:=tx.getD (i:=i) (d:=plD us[i]) (by rw [List.getElem?_map,List.getElem?_eq_getElem iu]; rfl)
    rw [hy1] at e1
    obtain rfl:=Option.some.inj e1
    obtain ⟨pp,u1,u2,e2,hpp,t1,t2⟩:=TV.pair ty'
    obtain rfl:=t1.strs
    obtain rfl:=t2.strs
    exact ⟨pp,_,_,by rw [List.getElem?_map,List.getElem?_eq_getElem iu]; rfl,e2,hpp⟩
   walk_at "rd"
   rename_i r hr
   exact q _ r xs us (S.new hr _) (S.free hr) upd_same (tx.mono (same_new hr _).t) pm0
 ·rintro σ' H' Q1 Q2 hq ⟨v,e,p,ys,ev,hs,i,j,ei,ej,k,ek,y⟩
  exact ⟨v,e,p,ys,ev,hs,i,j,ei,ej,k,ek,hq _ _ y⟩
theorem ok_qV (T:Tx K mg) : FnOk P w K mg base (CXd P w) 2 T.f_qV T.d_qV ["_law_cell_here", "_law_bottom_here"] sp_price29:=by
 have sc:=sc_qV
 refine T.F_qV.okd sc (fun vs H Q E h=>?_) (fun cdv A outer s H vs Q E hr h=>?_)
 ·obtain ⟨c,b,rfl,b0,b1,q⟩:=h
  rfl
 obtain ⟨c,b,rfl,b0,b1,q⟩:=h
 have hu:=hr.units0
 have hu2:=hr.units
 have hu1:=Nat.lt_of_le_of_lt (Nat.add_le_add_left (show 1≤64 by decide) _) hu2
 refine ⟨_,(@pss_cons _ _ _ _ _ (@ps_set _ _ 2 _ _ _ _ sc.nd rfl (by walk_at "o1") (pe_call (ok_j0 T) (hr.mono (by decide)) rfl T.m_j0 T.F_j0.kp T.b_j0 .nil (pass_d fun _ _ _ z=>z) (pa_cons (pv 0) (pa_cons pe_int (pa_cons pe_int pa_nil)))) (by rfl) (by walk_at "o2"))
   (@pss_cons _ _ _ _ _ (@ps_if _ _ _ _ _ _ _ _ (@pt_cmpR _ _ _ _ _ _ _ _ op_lt (pv 2) pe_int (nomark _)) (@pss_one _ _ _ (@ps_ret _ _ _ _ (pe_tup (pa_cons (pe_call (ok_j0 T) (hr.mono (by decide)) rfl T.m_j0 T.F_j0.kp T.b_j0 .nil (pass_d fun _ _ _ z=>z) (pa_cons (pv 0) (pa_cons pe_int (pa_cons pe_int pa_nil)))) (pa_cons (pv 1) pa_nil))))) pss_nil)
   (@pss_cons _ _ _ _ _ (@ps_if _ _ _ _ _ _ _ _ (@pt_cmpR _ _ _ _ _ _ _ _ op_eqI (pv 2) pe_int (nomark _)) (@pss_one _ _ _ (@ps_ret _ _ _ _ (pe_tup (pa_cons (@pe_op _ _ _ _ _ _ _ _ op_mod (pv 0) (pe_fold (.int 1000000000000000000000000000000) (@pe_op _ _ _ _ _ _ _ _ op_pow pe_int pe_int) (by walk_at "cf"))) (pa_cons (pv 1) pa_nil))))) pss_nil)
   (@pss_cons _ _ _ _ _ (@ps_if _ _ _ _ _ _ _ _ (@pt_cmpR _ _ _ _ _ _ _ _ op_eqI (pv 2) pe_int (nomark _)) (@pss_one _ _ _ (@ps_ret _ _ _ _ (pe_tup (pa_cons (@pe_op _ _ _ _ _ _ _ _ op_mod (@pe_op _ _ _ _ _ _ _ _ op_fdivB (pv 0) pe_int) (pe_fold (.int 1000000000000) (@pe_op _ _ _ _ _ _ _ _ op_pow pe_int pe_int) (by walk_at "cf"))) (pa_cons (@pe_op _ _ _ _ _ _ _ _ op_add pe_int (@pe_op _ _ _ _ _ _ _ _ op_mod (@pe_op _ _ _ _ _ _ _ _ op_fdivB (@pe_op _ _ _ _ _ _ _ _ op_fdivB (pv 0) pe_int) (pe_fold (.int 1000000000000) (@pe_op _ _ _ _ _ _ _ _ op_pow pe_int pe_int) (by walk_at "cf"))) (pe_fold (.int 1000000) (@pe_op _ _ _ _ _ _ _ _ op_pow pe_int pe_int) (by walk_at "cf")))) pa_nil))))) pss_nil)
   (@pss_one _ _ _ (@ps_ret _ _ _ _ (pe_tup (pa_cons (@pe_op _ _ _ _ _ _ _ _ op_mod (@pe_op _ _ _ _ _ _ _ _ op_fdivB (pv 0) pe_int) (pe_fold (.int 1000000000000) (@pe_op _ _ _ _ _ _ _ _ op_pow pe_int pe_int) (by walk_at "cf"))) (pa_cons (@pe_op _ _ _ _ _ _ _ _ op_add pe_int (pe_call (ok_j0 T) (hr.mono (by decide)) rfl T.m_j0 T.F_j0.kp T.b_j0 .nil (pass_d fun _ _ _ z=>z) (pa_cons (pv 0) (pa_cons pe_int (pa_cons pe_int pa_nil))))) pa_nil))))))))),?_⟩
 walk_at "kx"
 walk_at "rd"
 rename_i v v0 v1
 refine ite3 (fun _=>?_) (fun _=>?_)
 ·walk_at "rd"
  rename_i t t0 t1 p hp
  exact q t b p t0 (by omega) b0 b1 hp
 ·walk_at "rd"
  refine ite3 (fun _=>?_) (fun _=>?_)
  ·walk_at "rd"
   rename_i p hp
   exact q _ b p (by omega) (by omega) b0 b1 hp
  ·walk_at "rd"
   refine ite3 (fun _=>?_) (fun _=>?_)
   ·walk_at "rd"
    rename_i p hp
    exact q _ _ p (by omega) (by omega) (by omega) (by omega) hp
   ·walk_at "rd"
    rename_i t t0 t1 p hp
    exact q _ _ p (by omega) (by omega) (by omega) (by omega) hp
theorem ok_qW (T:Tx K mg) : FnOk P w K mg base (CXd P w) 2 T.f_qW T.d_qW ["_law_mine", "_law_places_here", "_law_top", "_law_low", "_law_bottom_here"] (sp_total33 K):=by
 have sc:=sc_qW
 refine T.F_qW.okd sc (fun vs H Q E h=>?_) (fun cdv A outer s H vs Q E hr h=>?_)
 ·obtain ⟨v,a,t,ps,s,top,low,b,rfl,tv,ha,tl,tb,hps,zt,zl,zb,q⟩:=h
  rfl
 obtain ⟨v,a,t,ps,s,top,low,b,rfl,tv,ha,tl,tb,hps,zt,zl,zb,q⟩:=h
 have hu:=hr.units0
 have hu2:=hr.units
 have hu1:=Nat.lt_of_le_of_lt (Nat.add_le_add_left (show 1≤64 by decide) _) hu2
 refine ⟨_,(@pss_cons _ _ _ _ _ (@ps_mid _ _ _ (@ps_set _ _ 5 _ _ _ _ sc.nd rfl (by walk_at "o1") (pe_callB (call_sum rfl) rfl T.z_sum bt_sum (pa_cons (pe_lc (ts:=["_law_place"]) (js:=[0]) (LcOk.of rfl) rfl (pi_list (pv 1)) (fun _ _ _ _=>(pg_name (i:=0) (nodup_of rfl) rfl (Or.inl rfl))) (fun _ _ _ _=>pf_nil) (fun _ _ _ _=>(@pe_ix _ _ _ _ _ _ _ ix_tup (pe_call (ok_j5 T) (hr.mono (by decide)) rfl T.m_j5 T.F_j5.kp T.b_j5 .nil passNd (pa_cons (pv 1) (pa_cons (pv 0) pa_nil))) pe_int (fun _ _=>rfl)))) pa_nil)) (by rfl) (by walk_at "o2")))
   (@pss_one _ _ _ (@ps_ret _ _ _ _ (@pe_op _ _ _ _ _ _ _ _ op_add (@pe_op _ _ _ _ _ _ _ _ op_mulB (pv 5) (pv 3)) (@pe_op _ _ _ _ _ _ _ _ op_mulB (@pe_op _ _ _ _ _ _ _ _ op_mulB (pv 2) (pe_callB call_len_seq rfl T.z_len bt_len (pa_cons (pv 1) pa_nil))) (pv 4)))))),?_⟩
 walk_at "kx"
 obtain ⟨gs,pi⟩:=hps.pi
 have ln:=pi.len.1
 have kn:=pi.kn
 have sh:=pi.short.1
 have e00:("" : Str).length=0:=by decide +kernel
 have dl:=t.dp_lt
 have es:=hps.sum (W:=wA t) wA_at
 have hlp:(ps.map V.str).length=ps.length:=List.length_map _
 have sb:=sumB (W:=wA t) (l:=ps) fun x hx=>wA_B tb (kn x hx)
 rw [← es] at sb
 refine ⟨fun σ' H1=>Iv (Same H H1∧σ' = [some v,some (.ref a),some (.int top),some (.int low),some (.int b),some (.int s)]),?_,?_⟩
 ·refine mid_abs fun _ _ _ => ?_
  walk_at "rd"
  refine lc_list (K:=K) (a:=a) (xs:=ps.map V.str) (fun i ys H'=>Iv (H'=H∧ys=((ps.take i).map (wA t)).map V.int)) ⟨⟨rfl,rfl⟩⟩ (fun i ys H' hi z=>⟨SqL.of (by rw [z.o.1]; exact ha),?_⟩) ?_ ?_
  ·rw [z.o.2,List.length_map,List.length_map,List.length_take]
   exact small1000 (by omega)
  ·rintro i x ys H' hi ⟨⟨rfl,rfl⟩⟩
   have il:=(List.getElem?_eq_some_iff.mp hi).1
   rw [List.getElem?_map] at hi
   obtain ⟨x,hx,rfl⟩:=Option.map_eq_some_iff.mp hi
   have xm:=List.mem_of_getElem? hx
   have xk:=kn x xm
   rw [plt_plc,List.map_map] at xk
   obtain ⟨⟨x',u⟩,he,ex⟩:=List.mem_map.mp xk
   obtain rfl:x'=x:=ex
   have go:=plt_go0 he
   have wv:wA t x'=u.wt:=wA_at _ he
   have xl:=sh x' xm
   rw [e00] at xl
   walk_at "rd"
   refine ⟨at1,?_⟩
   walk_at "rd"
   refine ⟨⟨rfl,?_⟩⟩
   rw [List.take_add_one,hx,List.map_append,List.map_append,← wv]
   rfl
  ·rintro ys H' ⟨⟨rfl,rfl⟩⟩ z hz
   rw [hlp,List.take_length]
   walk_at "rd"
   exact ⟨⟨same_new hz _,by rw [es]; rfl⟩⟩
 rintro σ' H1 ⟨⟨S1,rfl⟩⟩
 have ha1:=S1 _ _ ha
 have zs:Bz 128 s:=Bz.w (by omega) (by omega)
 have zn:Bz 109 (((ps.map V.str).length:Nat) : Int):=bz109 (by omega) (by omega)
 have m1:=zs.mulOk zl
 have m2:=zt.mulOk zn
 have m3:=(zt.mul zn).mulOk zb
 walk_at "rd"
 show Q (.int (s * low + top * (((ps.map V.str).length:Nat) : Int) * b)) H1
 rw [hlp]
 exact q _ S1
theorem ok_qH (T:Tx K mg) : FnOk P w K mg base (CXd P w) 1 T.f_qH T.d_qH ["_law_one", "_law_two"] sp_lies29:=by
 have sc:=sc_qH
 refine T.F_qH.okd sc (fun vs H Q E h=>?_) (fun cdv A outer s H vs Q E hr h=>?_)
 ·obtain ⟨a,b,ps,qs,rfl,ha,hb,la,lb,sa,sb,q⟩:=h
  rfl
 obtain ⟨a,b,ps,qs,rfl,ha,hb,la,lb,sa,sb,q⟩:=h
 have hu:=hr.units0
 have hu2:=hr.units
 have hu1:=Nat.lt_of_le_of_lt (Nat.add_le_add_left (show 1≤64 by decide) _) hu2
 refine ⟨_,(@pss_cons _ _ _ _ _ (ps_for powd rfl (pi_list (pv 1)) (pg_name (i:=2) sc.nd rfl (by walk_at "o1"))
   (@pss_one _ _ _ (@ps_if _ _ _ _ _ _ _ _ (pt_not (pt_val (pe_callB (call_any rfl) rfl T.z_any bt_any (pa_cons (pe_lc (ts:=["_law_top"]) (js:=[2]) (LcOk.of rfl) rfl (pi_list (pv 0)) (fun _ _ _ _=>(pg_name (i:=0) (nodup_of rfl) rfl (Or.inl rfl))) (fun _ _ _ _=>pf_nil) (fun _ _ _ _=>(pe_cmpR op_eqS (pe_slice sl_str (pv 1) po_none (po_some (pe_callB call_len_str rfl T.z_len bt_len (pa_cons (pv 0) pa_nil)))) (pv 0) (nomark _)))) pa_nil)))) (@pss_one _ _ _ (@ps_ret _ _ _ _ pe_bl)) pss_nil)))
   (@pss_one _ _ _ (@ps_ret _ _ _ _ pe_bl))),?_⟩
 walk_at "kx"
 have ea:(ps.map V.str).length=ps.length:=List.length_map _
 have eb:(qs.map V.str).length=qs.length:=List.length_map _
 walk_at "rd"
 refine for_list (K:=K) (a:=b) (xs:=qs.map V.str) (fun i σ H'=>Iv (∃ o2:Option V,σ = [some (.ref a),some (.ref b),o2]∧Same H H'∧∀ x∈qs.take i,∃ o∈ps,cds o <+: cds x)) ⟨⟨_,rfl,Same.refl _,fun x hx=>by cases hx⟩⟩ (fun i σ H' _ y=>by obtain ⟨⟨_,_,s,_⟩⟩:=y; exact SqL.of (s _ _ hb)) ?_ ?_
 ·rintro i x σ H' hi ⟨⟨o2,rfl,S,al⟩⟩
  rw [List.getElem?_map] at hi
  obtain ⟨pw,hpw,rfl⟩:=Option.map_eq_some_iff.mp hi
  have ha':=S _ _ ha
  have lw:=sb pw (List.mem_of_getElem? hpw)
  have il:=(List.getElem?_eq_some_iff.mp hpw).1
  walk_at "rd"
  refine lc_list (K:=K) (a:=a) (xs:=ps.map V.str) (fun j ys H2=>Iv (H2=H'∧ys=((ps.take j).map fun o=>decide (cds o <+: cds pw)).map V.bl)) ⟨⟨rfl,rfl⟩⟩ (fun j ys H2 hj z=>⟨by rw [z.o.1]; exact SqL.of ha',by rw [z.o.2,List.length_map,List.length_map,List.length_take]; exact small1000 (by omega)⟩) ?_ ?_
  ·rintro j y ys H2 hj ⟨⟨rfl,rfl⟩⟩
   rw [List.getElem?_map] at hj
   obtain ⟨o,ho,rfl⟩:=Option.map_eq_some_iff.mp hj
   have jl:=(List.getElem?_eq_some_iff.mp ho).1
   have jl2:j + 1≤(ps.map V.str).length:=by omega
   have lo:=sa o (List.mem_of_getElem? ho)
   have lz:o.length≤sizeLine:=szB (by omega)
   have ed:decide (Txt.slice pw none (some (o.length:Int))=o)=decide (cds o <+: cds pw):=decide_eq_decide.mpr ((cut_pre pw o).trans (starts_iff pw o))
   walk_at "rd"
   refine ⟨⟨rfl,?_⟩⟩
   rw [List.take_add_one,ho,List.map_append,List.map_append]
   show _ ++ [V.bl (decide (Txt.slice pw none (some (o.length:Int))=o))] = _
   rw [ed]
   rfl
  ·rintro ys H2 ⟨⟨rfl,rfl⟩⟩ p hp
   rw [ea,List.take_length]
   walk_at "rd"
   refine iteBn (fun e=>?_) (fun e=>?_)
   ·walk_at "rd"
    refine q false _ ⟨fun z=>(by cases z),fun z=>?_⟩ (S.new hp _)
    obtain ⟨o,ho,pr⟩:=z pw (List.mem_of_getElem? hpw)
    rw [List.any_eq_false] at e
    exact absurd (decide_eq_true pr) (e _ (List.mem_map.mpr ⟨o,ho,rfl⟩))
   ·walk_at "rd"
    refine ⟨⟨_,rfl,S.new hp _,fun x hx=>?_⟩⟩
    rw [List.take_add_one,hpw] at hx
    rcases List.mem_append.mp hx with hx | hx
    ·exact al x hx
    ·rw [List.any_eq_true] at e
     obtain ⟨k,hk,ek⟩:=e
     obtain ⟨o,ho,rfl⟩:=List.mem_map.mp hk
     have hx:x∈[pw]:=hx
     rw [List.mem_singleton.mp hx]
     exact ⟨o,ho,of_decide_eq_true ek⟩
 ·rintro σ H' ⟨⟨o2,rfl,S,al⟩⟩
  rw [eb,List.take_length] at al
  walk_at "rd"
  exact q true _ ⟨fun _=>al,fun _=>rfl⟩ S
theorem ok_q7 (T:Tx K mg) : FnOk P w K mg base (CXd P w) 1 T.f_q7 T.d_q7 ["_law_places_here", "_law_known"] (sp_isp28 K):=by
 have sc:=sc_q7
 refine T.F_q7.okd sc (fun vs H Q E h=>?_) (fun cdv A outer s H vs Q E hr h=>?_)
 ·obtain ⟨a,b,t,ps,gs,xs,us,rfl,ha,hb,tx,pm,lt,pi,q⟩:=h
  rfl
 obtain ⟨a,b,t,ps,gs,xs,us,rfl,ha,hb,tx,pm,lt,pi,q⟩:=h
 have hu:=hr.units0
 have hu2:=hr.units
 have hu1:=Nat.lt_of_le_of_lt (Nat.add_le_add_left (show 1≤64 by decide) _) hu2
 refine ⟨_,(@pss_cons _ _ _ _ _ (@ps_mid _ _ _ (@ps_if _ _ _ _ _ _ _ _ (PW.pt (pw_or (pt_not (pt_val (pe_callB call_isi rfl T.z_isinstance bt_isinstance (pa_cons (pv 0) (pa_cons (pe_bltn (v:=.ty "list") rfl T.z_list bt_list rfl) pa_nil))))) (pw_or1 (pt_not (pt_val (pe_callB (call_all rfl) rfl T.z_all bt_all (pa_cons (pe_lc (ts:=["_law_place"]) (js:=[]) (LcOk.of rfl) rfl (pi_list (pv 0)) (fun _ _ _ _=>(pg_name (i:=0) (nodup_of rfl) rfl (Or.inl rfl))) (fun _ _ _ _=>pf_nil) (fun _ _ _ _=>(pe_callB call_isi rfl T.z_isinstance bt_isinstance (pa_cons (pv 0) (pa_cons (pe_bltn (v:=.ty "str") rfl T.z_str bt_str rfl) pa_nil))))) pa_nil))))))) (@pss_one _ _ _ (@ps_ret _ _ _ _ pe_bl)) pss_nil))
   (@pss_cons _ _ _ _ _ (@ps_mid _ _ _ (@ps_if _ _ _ _ _ _ _ _ (@pt_cmpR _ _ _ _ _ _ _ _ (op_neD hu2) (pe_callB (call_sortedSS rfl) rfl T.z_sorted bt_sorted (pa_cons (pe_callTy (call_setS rfl) rfl T.z_set bt_set (pa_cons (pv 0) pa_nil)) pa_nil)) (pv 0) (nomark _)) (@pss_one _ _ _ (@ps_ret _ _ _ _ pe_bl)) pss_nil))
   (@pss_cons _ _ _ _ _ (@ps_mid _ _ _ (ps_for powd rfl (pi_list (pv 0)) (pg_name (i:=2) sc.nd rfl (by walk_at "o1"))
   (@pss_one _ _ _ (@ps_if _ _ _ _ _ _ _ _ (@pt_cmpR _ _ _ _ _ _ _ _ op_notIn_seq (pv 2) (pe_lc (ts:=["_law_one", "_law_word"]) (js:=[]) (LcOk.of rfl) rfl (pi_list (pv 1)) (fun _ _ _ _=>(pg_tup rfl (pgs_cons (pg_name (i:=0) (nodup_of rfl) rfl (Or.inl rfl)) (pgs_cons (pg_name (i:=1) (nodup_of rfl) rfl (Or.inl rfl)) pgs_nil)))) (fun _ _ _ _=>pf_nil) (fun _ _ _ _=>(pv 0))) (by with_unfolding_all rfl)) (@pss_one _ _ _ (@ps_ret _ _ _ _ pe_bl)) pss_nil))))
   (@pss_cons _ _ _ _ _ (ps_for powd rfl (pi_list (pv 1)) (pg_tup rfl (pgs_cons (pg_name (i:=3) sc.nd rfl (by walk_at "o1")) (pgs_cons (pg_name (i:=4) sc.nd rfl (by walk_at "o1")) pgs_nil)))
   (@pss_cons _ _ _ _ _ (by first | exact ps_setLC (i:=5) sc.nd rfl (by walk_at "o1") (ts:=["_law_place"]) (js:=[3]) (LcOk.of rfl) rfl (pi_list (pv 0)) (fun _ _ _ _=>(pg_name (i:=0) (nodup_of rfl) rfl (Or.inl rfl))) (fun _ _ _ _=>(pf_one (@pt_cmpR _ _ _ _ _ _ _ _ op_eqS (pe_slice sl_str (pv 1) po_none (po_some (pe_callB call_len_str rfl T.z_len bt_len (pa_cons (pv 0) pa_nil)))) (pv 0) (nomark _)))) (fun _ _ _ _=>(pv 0)) | exact ps_set (i:=5) sc.nd rfl (by walk_at "o1") (pe_lc (ts:=["_law_place"]) (js:=[3]) (LcOk.of rfl) rfl (pi_list (pv 0)) (fun _ _ _ _=>(pg_name (i:=0) (nodup_of rfl) rfl (Or.inl rfl))) (fun _ _ _ _=>(pf_one (@pt_cmpR _ _ _ _ _ _ _ _ op_eqS (pe_slice sl_str (pv 1) po_none (po_some (pe_callB call_len_str rfl T.z_len bt_len (pa_cons (pv 0) pa_nil)))) (pv 0) (nomark _)))) (fun _ _ _ _=>(pv 0))))
   (@pss_one _ _ _ (@ps_if _ _ _ _ _ _ _ _ (PW.pt (pw_and (@pt_cmpR _ _ _ _ _ _ _ _ op_eqS (pv 4) pe_str (nomark _)) (pw_and1 (@pt_cmpR _ _ _ _ _ _ _ _ op_neI (pe_callB call_len_seq rfl T.z_len bt_len (pa_cons (pv 5) pa_nil)) pe_int (nomark _))))) (@pss_one _ _ _ (@ps_ret _ _ _ _ pe_bl)) pss_nil))))
   (@pss_one _ _ _ (@ps_ret _ _ _ _ pe_bl)))))),?_⟩
 walk_at "kx"
 have hl1:(ps.map V.str).length=ps.length:=List.length_map _
 have ip:=pi.isP
 have ln:=pi.len.1
 have pl64:ps.length < 64:=by omega
 have asc:=(pi.asc (fun c hc=>by cases hc)).1
 have sh:=pi.short.1
 have e00:("" : Str).length=0:=by decide +kernel
 have dl:=t.dp_lt
 have xl:xs.length=us.length:=by rw [tx.length,List.length_map]
 have ul:us.length≤130:=by have:=plc_len t ""; have:=pm.length_eq; omega
 refine ⟨fun σ' H1=>Iv (Same H H1∧σ' = [some (.ref a),some (.ref b),none,none,none,none]),?_,?_⟩
 ·refine mid_abs fun _ _ _ => ?_
  walk_at "rd"
  refine lc_list (K:=K) (a:=a) (xs:=ps.map V.str) (fun j ys H'=>Iv (H'=H∧ys=(List.replicate j true).map V.bl)) ⟨⟨rfl,rfl⟩⟩ (fun j ys H' hj z=>⟨SqL.of (by rw [z.o.1]; exact ha),?_⟩) ?_ ?_
  ·rw [z.o.2,List.length_map,List.length_replicate]
   exact small1000 (by omega)
  ·rintro j v ys H' hj ⟨⟨rfl,rfl⟩⟩
   rw [List.getElem?_map] at hj
   obtain ⟨o,ho,rfl⟩:=Option.map_eq_some_iff.mp hj
   have jl:=(List.getElem?_eq_some_iff.mp ho).1
   walk_at "rd"
   refine ⟨⟨rfl,?_⟩⟩
   rw [List.replicate_succ',List.map_append]
   rfl
  rintro ys H' ⟨⟨rfl,rfl⟩⟩ p hp
  have ea:(List.replicate (ps.map V.str).length true).all id=true:=by rw [List.all_replicate]; simp
  walk_at "rd"
  rw [ea]
  walk_at "rd"
  exact ⟨⟨same_new hp _,rfl⟩⟩
 rintro σ' H1 ⟨⟨S1,rfl⟩⟩
 have ha1:=S1 _ _ ha
 refine ⟨fun σ' H2=>Iv (Same H1 H2∧σ' = [some (.ref a),some (.ref b),none,none,none,none]),?_,?_⟩
 ·refine mid_abs fun _ _ _ => ?_
  have dl2:(ddS ps).length < 64:=Nat.lt_of_le_of_lt (ddS_len ps) pl64
  walk_at "rd"
  rename_i z1 hz1 z2 ws hz2 pw sw
  have c:ps=ws:=(sset_iff pw sw).mpr ip.up
  subst c
  refine ned (d:=.list (ps.map PyData.str)) (dvS upd_same) (dvS (kp (kp ha1 hz1) hz2)) ((shS (n:=62) asc).mono (by decide)) ?_
  walk_at "rd"
  exact ⟨⟨(same_new hz1 _).new hz2 _,rfl⟩⟩
 rintro σ' H2 ⟨⟨S2,rfl⟩⟩
 have S12:=S1.trans S2
 refine ⟨fun σ' H3=>Iv (∃ o2,Same H H3∧σ' = [some (.ref a),some (.ref b),o2,none,none,none]),?_,?_⟩
 ·refine mid_abs fun _ _ _ => ?_
  walk_at "rd"
  refine for_list (K:=K) (a:=a) (xs:=ps.map V.str) (fun i σ' H'=>Iv (∃ o2,Same H H'∧σ' = [some (.ref a),some (.ref b),o2,none,none,none])) ⟨⟨_,S12,rfl⟩⟩ (fun i σ' H' _ y=>by obtain ⟨⟨_,s,_⟩⟩:=y; exact SqL.of (s _ _ ha)) ?_ ?_
  ·rintro i x σ' H3 hx ⟨⟨o2,S3,rfl⟩⟩
   rw [List.getElem?_map] at hx
   obtain ⟨x,hx2,rfl⟩:=Option.map_eq_some_iff.mp hx
   have xm:=List.mem_of_getElem? hx2
   have hb3:=S3 _ _ hb
   have tx3:=tx.mono S3.t
   walk_at "rd"
   refine lc_list (K:=K) (a:=b) (xs:=xs) (fun j ys H'=>Iv (H'=H3∧ys=((us.take j).map (·.1)).map V.str)) ⟨⟨rfl,rfl⟩⟩ (fun j ys H' hj z=>⟨SqL.of (by rw [z.o.1]; exact hb3),?_⟩) ?_ ?_
   ·rw [z.o.2,List.length_map,List.length_map,List.length_take]
    exact small1000 (by omega)
   ·rintro j v ys H' hj ⟨⟨rfl,rfl⟩⟩
    obtain ⟨u,hu0,tu⟩:=tx3.get hj
    rw [List.getElem?_map] at hu0
    obtain ⟨u,hu1,rfl⟩:=Option.map_eq_some_iff.mp hu0
    obtain ⟨u1,u2⟩:=u
    obtain ⟨pp,v1,v2,rfl,hpp,t1,t2⟩:=TV.pair tu
    obtain rfl:=t1.strs
    obtain rfl:=t2.strs
    have hpp:H' pp=some (.tup [.str u1,.str u2]):=hpp
    have jl:=(List.getElem?_eq_some_iff.mp hj).1
    walk_at "rd"
    refine ⟨⟨rfl,?_⟩⟩
    rw [List.take_add_one,hu1,List.map_append,List.map_append]
    rfl
   rintro ys H' ⟨⟨rfl,rfl⟩⟩ p hp
   have hp1:=upd_same (H:=H') (a:=p) (o:=.lst ((us.map (·.1)).map V.str))
   have fl:=flat_str (us.map (·.1))
   have iv:=inV_str (x:=x) (ws:=us.map (·.1))
   rw [xl,List.take_length]
   have me:x∈us.map (·.1):=(pm.map (·.1)).mem_iff.mpr (ip.kn x xm)
   walk_at "rd"
   rw [iv]
   refine ite3n (fun c=>absurd me c) (fun c=>?_)
   walk_at "rd"
   exact ⟨⟨_,S3.new hp _,rfl⟩⟩
  ·rintro σ' H3 ⟨⟨o2,S3,rfl⟩⟩
   exact ⟨⟨_,S3,rfl⟩⟩
 rintro σ' H3 ⟨⟨o2,S3,rfl⟩⟩
 walk_at "rd"
 refine for_list (K:=K) (a:=b) (xs:=xs) (fun i σ' H'=>Iv (∃ o2 o3 o4 o5,Same H H'∧σ' = [some (.ref a),some (.ref b),o2,o3,o4,o5])) ⟨⟨_,_,_,_,S3,rfl⟩⟩ (fun i σ' H' _ y=>by obtain ⟨⟨_,_,_,_,s,_⟩⟩:=y; exact SqL.of (s _ _ hb)) ?_ ?_
 ·rintro i v σ' H4 hi ⟨⟨o2,o3,o4,o5,S4,rfl⟩⟩
  obtain ⟨u,hu0,tu⟩:=tx.get hi
  rw [List.getElem?_map] at hu0
  obtain ⟨u,hu1,rfl⟩:=Option.map_eq_some_iff.mp hu0
  have um:=pm.mem_iff.mp (List.mem_of_getElem? hu1)
  obtain ⟨u1,u2⟩:=u
  obtain ⟨pp,v1,v2,rfl,hpp,t1,t2⟩:=TV.pair tu
  obtain rfl:=t1.strs
  obtain rfl:=t2.strs
  have hpp1:H4 pp=some (.tup [.str u1,.str u2]):=S4 _ _ hpp
  have ha4:=S4 _ _ ha
  have u1l:u1.length≤100:=plc_short61 lt um
  have u1z:u1.length≤sizeLine:=szB (by omega)
  clear tu hu0
  walk_at "rd"
  refine lc_list (K:=K) (a:=a) (xs:=ps.map V.str) (fun j ys H3=>Iv (H3=H4∧ys=(bgs u1 (ps.take j)).map V.str)) ⟨⟨rfl,rfl⟩⟩ (fun j ys H3 hj z=>⟨SqL.of (by rw [z.o.1]; exact ha4),?_⟩) ?_ ?_
  ·rw [z.o.2,List.length_map]
   refine small1000 (Nat.le_trans (List.length_filter_le _ _) ?_)
   rw [List.length_take]
   omega
  ·rintro j v ys H3 hj ⟨⟨rfl,rfl⟩⟩
   rw [List.getElem?_map] at hj
   obtain ⟨o,ho,rfl⟩:=Option.map_eq_some_iff.mp hj
   have ol:=sh o (List.mem_of_getElem? ho)
   rw [e00] at ol
   have oz:o.length≤sizeLine:=szB (by omega)
   have jl:=(List.getElem?_eq_some_iff.mp ho).1
   have ft:=filter_take (p:=fun o=>Txt.startswith u1 o) ho
   have cp:=cut_pre u1 o
   walk_at "rd"
   refine ite3 (fun c=>?_) (fun c=>?_)
   ·walk_at "rd"
    refine ⟨⟨rfl,?_⟩⟩
    unfold bgs
    rw [ft,if_pos (cp.mp c),List.map_append]
    rfl
   ·walk_at "rd"
    refine ⟨⟨rfl,?_⟩⟩
    unfold bgs
    rw [ft,if_neg fun z=>c (cp.mpr z),List.append_nil]
  rintro ys H3 ⟨⟨rfl,rfl⟩⟩ p hp
  rw [hl1,List.take_length]
  have S5:=S4.new hp (.lst ((bgs u1 ps).map V.str))
  have hl4:((bgs u1 ps).map V.str).length=(bgs u1 ps).length:=List.length_map _
  walk_at "rd"
  refine ite3 (fun c=>?_) (fun c=>?_)
  ·have z2:=ip.one u1 (List.mem_map.mpr ⟨(u1,u2),List.mem_filter.mpr ⟨um,decide_eq_true c⟩,rfl⟩)
   walk_at "rd"
   exact ⟨⟨_,_,_,_,S5,rfl⟩⟩
  ·walk_at "rd"
   exact ⟨⟨_,_,_,_,S5,rfl⟩⟩
 ·rintro σ' H4 ⟨⟨o2,o3,o4,o5,S4,rfl⟩⟩
  walk_at "rd"
  exact q _ S4
theorem ok_qA (T:Tx K mg) : FnOk P w K mg base (CXd P w) 2 T.f_qA T.d_qA ["_law_steps", "_law_known"] (sp_aresteps K):=by
 have sc:=sc_qA
 refine T.F_qA.okd sc (fun vs H Q E h=>?_) (fun cdv A outer s H vs Q E hr h=>?_)
 ·obtain ⟨a,b,t,xs,xk,sts,us,ps0,stl,rfl,ha,qv,es,sl,hb,tx,pm,lt,pis,rzs,q⟩:=h
  rfl
 obtain ⟨a,b,t,xs,xk,sts,us,ps0,stl,rfl,ha,qv,es,sl,hb,tx,pm,lt,pis,rzs,q⟩:=h
 have hu:=hr.units0
 have hu2:=hr.units
 have hu1:=Nat.lt_of_le_of_lt (Nat.add_le_add_left (show 1≤64 by decide) _) hu2
 refine ⟨_,(@pss_cons _ _ _ _ _ (@ps_mid _ _ _ (@ps_if _ _ _ _ _ _ _ _ (PW.pt (pw_or (pt_not (pt_val (pe_callB call_isi rfl T.z_isinstance bt_isinstance (pa_cons (pv 0) (pa_cons (pe_bltn (v:=.ty "list") rfl T.z_list bt_list rfl) pa_nil))))) (pw_or1 (@pt_cmpR _ _ _ _ _ _ _ _ op_eqI (pe_callB call_len_seq rfl T.z_len bt_len (pa_cons (pv 0) pa_nil)) pe_int (nomark _))))) (@pss_one _ _ _ (@ps_ret _ _ _ _ pe_bl)) pss_nil))
   (@pss_cons _ _ _ _ _ (@ps_mid _ _ _ (ps_for powd rfl (pi_list (pv 0)) (pg_name (i:=2) sc.nd rfl (by walk_at "o1"))
   (@pss_cons _ _ _ _ _ (@ps_mid _ _ _ (@ps_if _ _ _ _ _ _ _ _ (PW.pt (pw_or (pt_not (pt_val (pe_callB call_isi rfl T.z_isinstance bt_isinstance (pa_cons (pv 2) (pa_cons (pe_bltn (v:=.ty "tuple") rfl T.z_tuple bt_tuple rfl) pa_nil))))) (pw_or (@pt_cmpR _ _ _ _ _ _ _ _ op_neI (pe_callB call_len_seq rfl T.z_len bt_len (pa_cons (pv 2) pa_nil)) pe_int (nomark _)) (pw_or (pt_not (pt_val (pe_callB call_isi rfl T.z_isinstance bt_isinstance (pa_cons (@pe_ix _ _ _ _ _ _ _ ix_tup (pv 2) pe_int (fun _ _=>rfl)) (pa_cons (pe_bltn (v:=.ty "tuple") rfl T.z_tuple bt_tuple rfl) pa_nil))))) (pw_or1 (@pt_cmpR _ _ _ _ _ _ _ _ op_neI (pe_callB call_len_seq rfl T.z_len bt_len (pa_cons (@pe_ix _ _ _ _ _ _ _ ix_tup (pv 2) pe_int (fun _ _=>rfl)) pa_nil)) pe_int (nomark _))))))) (@pss_one _ _ _ (@ps_ret _ _ _ _ pe_bl)) pss_nil))
   (@pss_cons _ _ _ _ _ (@ps_mid _ _ _ (ps_for powd rfl (pi_tup (@pe_ix _ _ _ _ _ _ _ ix_tup (pv 2) pe_int (fun _ _=>rfl))) (pg_name (i:=3) sc.nd rfl (by walk_at "o1"))
   (@pss_one _ _ _ (@ps_if _ _ _ _ _ _ _ _ (PW.pt (pw_or (pt_not (pt_val (pe_callB call_isi rfl T.z_isinstance bt_isinstance (pa_cons (pv 3) (pa_cons (pe_bltn (v:=.ty "int") rfl T.z_int bt_int rfl) pa_nil))))) (pw_or1 (pt_val (pe_callB call_isi rfl T.z_isinstance bt_isinstance (pa_cons (pv 3) (pa_cons (pe_bltn (v:=.ty "bool") rfl T.z_bool bt_bool rfl) pa_nil))))))) (@pss_one _ _ _ (@ps_ret _ _ _ _ pe_bl)) pss_nil))))
   (@pss_one _ _ _ (@ps_if _ _ _ _ _ _ _ _ (PW.pt (pw_or (@pt_cmpR _ _ _ _ _ _ _ _ op_lt (@pe_ix _ _ _ _ _ _ _ ix_tup (@pe_ix _ _ _ _ _ _ _ ix_tup (pv 2) pe_int (fun _ _=>rfl)) pe_int (fun _ _=>rfl)) pe_int (nomark _)) (pw_or (@pt_cmpR _ _ _ _ _ _ _ _ (op_neD hu2) (@pe_ix _ _ _ _ _ _ _ ix_tup (pv 2) pe_int (fun _ _=>rfl)) (pe_call (ok_qK T) (hr.mono (by decide)) rfl T.m_qK T.F_qK.kp T.b_qK .nil (pass_d fun _ _ _ z=>z) (pa_cons (@pe_ix _ _ _ _ _ _ _ ix_tup (@pe_ix _ _ _ _ _ _ _ ix_tup (pv 2) pe_int (fun _ _=>rfl)) pe_int (fun _ _=>rfl)) (pa_cons (@pe_ix _ _ _ _ _ _ _ ix_tup (@pe_ix _ _ _ _ _ _ _ ix_tup (pv 2) pe_int (fun _ _=>rfl)) pe_int (fun _ _=>rfl)) pa_nil))) (nomark _)) (pw_or1 (pt_not (pt_val (pe_call (ok_q7 T) (hr.mono (by decide)) rfl T.m_q7 T.F_q7.kp T.b_q7 .nil (pass_d fun _ _ _ z=>z) (pa_cons (@pe_ix _ _ _ _ _ _ _ ix_tup (pv 2) pe_int (fun _ _=>rfl)) (pa_cons (pv 1) pa_nil))))))))) (@pss_one _ _ _ (@ps_ret _ _ _ _ pe_bl)) pss_nil))))))
   (@pss_one _ _ _ (@ps_ret _ _ _ _ (pe_cmpR (op_eqT hu) (@pe_ix _ _ _ _ _ _ _ ix_tup (@pe_ix _ _ _ _ _ _ _ ix_list (pv 0) pe_int (fun _ _=>rfl)) pe_int (fun _ _=>rfl)) (pe_tup (pa_cons pe_int (pa_cons pe_int pa_nil))) (nomark _)))))),?_⟩
 walk_at "kx"
 have xl:=qv.len
 have x0:0 < xs.length:=by rw [xl,es,List.length_cons]; omega
 refine ⟨fun σ' H1=>Iv (H1=H∧σ' = [some (.ref a),some (.ref b),none,none]),?_,?_⟩
 ·refine mid_abs fun _ _ _ => ?_
  walk_at "rd"
  exact ⟨⟨rfl,rfl⟩⟩
 rintro σ' H1 ⟨⟨rfl,rfl⟩⟩
 refine ⟨fun σ' H2=>Iv (∃ (o2 o3:Option V),Same H1 H2∧σ' = [some (.ref a),some (.ref b),o2,o3]),?_,?_⟩
 ·refine mid_abs fun _ _ _ => ?_
  walk_at "rd"
  refine for_list (K:=K) (a:=a) (xs:=xs) (fun i σ' H'=>Iv (∃ (o2 o3:Option V),Same H1 H'∧σ' = [some (.ref a),some (.ref b),o2,o3])) ⟨⟨_,_,Same.refl _,rfl⟩⟩ (fun i σ' H' _ y=>by obtain ⟨⟨_,_,s,_⟩⟩:=y; exact SqL.of (s _ _ ha)) ?_ ?_
  ·rintro i x σ' H2 hx ⟨⟨o2,o3,S2,rfl⟩⟩
   obtain ⟨p,r,l,q0,ps,rfl,hp,hr,hl,hs⟩:=(qv.same S2).at hx
   have sm:=List.mem_of_getElem? hs
   obtain ⟨gs,pi⟩:=pis _ sm
   have pi:PI t "" ps gs:=pi
   have rq:=rzs _ sm
   have hr':H2 r=some (.tup [.int q0.num,.int (q0.den:Int)]):=hr
   have hb2:=S2 _ _ hb
   have tx2:=tx.mono S2.t
   walk_at "rd"
   refine ⟨fun σ' H3=>Iv (H3=H2∧σ' = [some (.ref a),some (.ref b),some (.ref p),o3]),?_,?_⟩
   ·refine mid_abs fun _ _ _ => ?_
    walk_at "rd"
    exact ⟨⟨rfl,rfl⟩⟩
   rintro σ' H3 ⟨⟨rfl,rfl⟩⟩
   have d1:¬ (q0.den:Int) < 1:=by have:=q0.den_pos; omega
   have d0:0 < (q0.den:Int):=by have:=q0.den_pos; omega
   have zd:Bz 8000 (q0.den:Int):=rq.zd.mono (by decide)
   refine ⟨fun σ' H4=>Iv (∃ (o3:Option V),H4=H3∧σ' = [some (.ref a),some (.ref b),some (.ref p),o3]),?_,?_⟩
   ·refine mid_abs fun _ _ _ => ?_
    walk_at "rd"
    refine for_tup (K:=K) (a:=r) (xs:=[.int q0.num,.int (q0.den:Int)]) (fun i σ' H'=>Iv (∃ (o3:Option V),H'=H3∧σ' = [some (.ref a),some (.ref b),some (.ref p),o3])) ⟨⟨_,rfl,rfl⟩⟩ (fun i σ' H' _ y=>by obtain ⟨⟨_,e,_⟩⟩:=y; rw [e]; exact SqT.of hr') ?_ ?_
    ·rintro i x σ' H' hx ⟨⟨o3,rfl,rfl⟩⟩
     obtain ⟨n,rfl⟩ : ∃ n:Int,x = .int n:=by
      rcases List.mem_cons.mp (List.mem_of_getElem? hx) with h | h
      ·exact ⟨_,h⟩
      ·exact ⟨_,List.mem_singleton.mp h⟩
     walk_at "rd"
     exact ⟨⟨_,rfl,rfl⟩⟩
    ·rintro σ' H' ⟨⟨o3,rfl,rfl⟩⟩
     exact ⟨⟨_,rfl,rfl⟩⟩
   rintro σ' H4 ⟨⟨o3,rfl,rfl⟩⟩
   walk_at "rd"
   rename_i rp hrp
   rw [low_self]
   have S5:=same_new hrp (H:=H4) (rt q0)
   have hrp5:=upd_same (H:=H4) (a:=rp) (o:=rt q0)
   generalize upd H4 rp (rt q0)=H5 at S5 hrp5 ⊢
   have hr5:=S5 _ _ hr
   have hp5:=S5 _ _ hp
   have hl5:=S5 _ _ hl
   have hb5:=S5 _ _ hb2
   have tx5:=tx2.mono S5.t
   refine ned (d:=rtD q0) (dvR hr5) (dvR hrp5) ((shpRt 0 q0).mono (by decide)) ?_
   walk_at "rd"
   rename_i H6 S6
   exact ⟨⟨_,_,(S2.trans S5).trans S6,rfl⟩⟩
  ·rintro σ' H2 ⟨⟨o2,o3,S2,rfl⟩⟩
   exact ⟨⟨_,_,S2,rfl⟩⟩
 rintro σ' H2 ⟨⟨o2,o3,S2,rfl⟩⟩
 obtain ⟨p,r,l,q0,ps,ep,hp,hr,hl,hs⟩:=(qv.same S2).at (i:=0) (x:=xs.getD 0 .non) (by rw [List.getD_eq_getElem?_getD,List.getElem?_eq_getElem x0]; rfl)
 have at0:atI xs 0=some (.ref p):=atI_nat (j:=0) (by rw [← ep,List.getD_eq_getElem?_getD,List.getElem?_eq_getElem x0]; rfl)
 have q00:q0=0:=by
  rw [es] at hs
  have hs:some (0,ps0)=some (q0,ps):=hs
  cases hs
  rfl
 subst q00
 have ha2:=S2 _ _ ha
 have hr':H2 r=some (.tup [.int 0,.int 1]):=hr
 walk_at "rd"
 rename_i rp hrp
 rw [eqLV2]
 exact q _ (S2.new hrp _)
theorem ok_qX (T:Tx K mg) : FnOk P w K mg base (CXd P w) 3 T.f_qX T.d_qX ["_law_steps", "_law_head", "_law_bottom_here", "_law_small"] (sp_asked35 K):=by
 have sc:=sc_qX
 refine T.F_qX.okd sc (fun vs H Q E h=>?_) (fun cdv A outer s H vs Q E hr h=>?_)
 ·obtain ⟨a,xs,sts,hd,B,sm,rfl,ha,qv,sl,b1,b2,s1,s2,fin,pos,q⟩:=h
  rfl
 obtain ⟨a,xs,sts,hd,B,sm,rfl,ha,qv,sl,b1,b2,s1,s2,fin,pos,q⟩:=h
 have hu:=hr.units0
 have hu2:=hr.units
 have hu1:=Nat.lt_of_le_of_lt (Nat.add_le_add_left (show 1≤64 by decide) _) hu2
 refine ⟨_,(@pss_cons _ _ _ _ _ (@ps_mid _ _ _ (@ps_set _ _ 4 _ _ _ _ sc.nd rfl (by walk_at "o1") (@pe_lst _ _ _ _ pa_nil) (by rfl) (by walk_at "o2")))
   (@pss_cons _ _ _ _ _ (@ps_mid _ _ _ (ps_for powd rfl (pi_range1 rfl T.z_range (pa_cons pe_int pa_nil)) (pg_name (i:=5) sc.nd rfl (by walk_at "o1"))
   (@pss_one _ _ _ (ps_for powd rfl (pi_range1 rfl T.z_range (pa_cons pe_int pa_nil)) (pg_name (i:=6) sc.nd rfl (by walk_at "o1"))
   (@pss_one _ _ _ (ps_expr (pe_bm PySem.F.plainAttrs_list PySem.F.slot_list_append PySem.F.type_list_append mt_append (pv 4) (pa_cons (pe_call (ok_qV T) (hr.mono (by decide)) rfl T.m_qV T.F_qV.kp T.b_qV .nil (pass_d fun _ _ _ z=>z) (pa_cons (@pe_op _ _ _ _ _ _ _ _ op_add (pv 1) (@pe_op _ _ _ _ _ _ _ _ op_mulB pe_int (pv 5))) (pa_cons (pv 2) pa_nil))) pa_nil))))))))
   (@pss_cons _ _ _ _ _ (@ps_mid _ _ _ (ps_for powd rfl (pi_enum rfl T.z_enumerate (pa_cons (pv 0) pa_nil)) (pg_tup rfl (pgs_cons (pg_name (i:=5) sc.nd rfl (by walk_at "o1")) (pgs_cons (pg_name (i:=7) sc.nd rfl (by walk_at "o1")) pgs_nil)))
   (@pss_cons _ _ _ _ _ (ps_asg (@pe_ix _ _ _ _ _ _ _ ix_tup (pv 7) pe_int (fun _ _=>rfl)) (pg_tup rfl (pgs_cons (pg_name (i:=8) sc.nd rfl (by walk_at "o1")) (pgs_cons (pg_name (i:=9) sc.nd rfl (by walk_at "o1")) pgs_nil))))
   (@pss_cons _ _ _ _ _ (@ps_mid _ _ _ (ps_expr (pe_bm PySem.F.plainAttrs_list PySem.F.slot_list_append PySem.F.type_list_append mt_append (pv 4) (pa_cons (pe_tup (pa_cons (pv 8) (pa_cons (pv 9) pa_nil))) pa_nil))))
   (@pss_one _ _ _ (@ps_mid _ _ _ (@ps_if _ _ _ _ _ _ _ _ (@pt_cmpR _ _ _ _ _ _ _ _ op_gt (pv 5) pe_int (nomark _)) (@pss_one _ _ _ (ps_expr (pe_bm PySem.F.plainAttrs_list PySem.F.slot_list_append PySem.F.type_list_append mt_append (pv 4) (pa_cons (pe_tup (pa_cons (@pe_op _ _ _ _ _ _ _ _ op_sub (@pe_op _ _ _ _ _ _ _ _ op_mulB (pv 8) (pv 3)) pe_int) (pa_cons (@pe_op _ _ _ _ _ _ _ _ op_mulB (pv 9) (pv 3)) pa_nil))) pa_nil)))) pss_nil)))))))
   (@pss_one _ _ _ (@ps_ret _ _ _ _ (pv 4)))))),?_⟩
 walk_at "kx"
 have xl:=qv.len
 have zsm:Bz 128 sm:=Bz.w (by omega) (by omega)
 refine ⟨fun σ' H1=>Iv (∃ za,H za=none∧H1=upd H za (.lst [])∧σ' = [some (.ref a),some (.int hd),some (.int B),some (.int sm),some (.ref za),none,none,none,none,none]),?_,?_⟩
 ·refine mid_abs fun _ _ _ => ?_
  walk_at "rd"
  rename_i za fza
  exact ⟨⟨za,fza,rfl,rfl⟩⟩
 rintro σ' H1 ⟨⟨za,fza,rfl,rfl⟩⟩
 refine ⟨fun σ' H1=>Iv (∃ (xa:List V) (tl:List (Int × Int)) (o5 o6:Option V),Same H H1∧H1 za=some (.lst xa)∧TVs K H1 xa (tl.map tlD)∧(∀ x∈tl,TlOk x)∧tl.length≤8∧σ' = [some (.ref a),some (.int hd),some (.int B),some (.int sm),some (.ref za),o5,o6,none,none,none]),?_,?_⟩
 ·refine mid_abs fun _ _ _ => ?_
  walk_at "rd"
  refine for_range (n:=(2:Int).toNat) (fun i σ' H'=>Iv (∃ (xa:List V) (tl:List (Int × Int)) (o5 o6:Option V),Same H H'∧H' za=some (.lst xa)∧TVs K H' xa (tl.map tlD)∧(∀ x∈tl,TlOk x)∧tl.length≤4 * i∧σ' = [some (.ref a),some (.int hd),some (.int B),some (.int sm),some (.ref za),o5,o6,none,none,none])) ⟨⟨[],[],_,_,same_new fza _,upd_same,.nil,fun x hx=>(by cases hx),Nat.zero_le _,rfl⟩⟩ ?_ ?_
  ·rintro i σ' H1 hi ⟨⟨xa,tl,o5,o6,S1,hza,ta,ok,l4,rfl⟩⟩
   have hi2:i < 2:=hi
   walk_at "rd"
   refine for_range (n:=(4:Int).toNat) (fun j σ' H'=>Iv (∃ (xa:List V) (tl:List (Int × Int)) (o6:Option V),Same H H'∧H' za=some (.lst xa)∧TVs K H' xa (tl.map tlD)∧(∀ x∈tl,TlOk x)∧tl.length≤4 * i + j∧σ' = [some (.ref a),some (.int hd),some (.int B),some (.int sm),some (.ref za),some (.int (0 + (i:Int))),o6,none,none,none])) ⟨⟨xa,tl,_,S1,hza,ta,ok,l4,rfl⟩⟩ ?_ ?_
   ·rintro j σ' H2 hj ⟨⟨xa,tl,o6,S2,hza2,ta2,ok2,l2,rfl⟩⟩
    have hj4:j < 4:=hj
    have xal:xa.length=tl.length:=by rw [ta2.length,List.length_map]
    have z1:xa.length < sizeLine:=small1000 (by omega)
    walk_at "rd"
    rename_i t1 m1 p1 g1 g2 g3 g4 f1
    obtain ⟨k1,k2⟩:=ask_new (t:=t1) (l:=m1) S2 fza hza2 ta2 f1
    exact ⟨⟨_,tl ++ [(t1,m1)],_,k1,upd_same,k2,snoc_all ok2 ⟨g1,by show 0 < m1; omega,(Bz.w (by show _ < t1; omega) (by show t1 < _; omega) : Bz 128 t1).mono (by decide),(Bz.w (by show _ < m1; omega) (by show m1 < _; omega) : Bz 128 m1).mono (by decide)⟩,by rw [List.length_append,List.length_singleton]; omega,rfl⟩⟩
   ·rintro σ' H2 ⟨⟨xa,tl,o6,S2,hza2,ta2,ok2,l2,rfl⟩⟩
    exact ⟨⟨xa,tl,_,_,S2,hza2,ta2,ok2,by have l2:tl.length≤4 * i + 4:=l2; omega,rfl⟩⟩
  ·rintro σ' H1 ⟨⟨xa,tl,o5,o6,S1,hza,ta,ok,l4,rfl⟩⟩
   exact ⟨⟨xa,tl,_,_,S1,hza,ta,ok,l4,rfl⟩⟩
 rintro σ' H1 ⟨⟨xa,tl,o5,o6,S1,hza,ta,ok,l4,rfl⟩⟩
 refine ⟨fun σ' H2=>Iv (∃ (xa:List V) (tl:List (Int × Int)) (o5 o6 o7 o8 o9:Option V),Same H H2∧H2 za=some (.lst xa)∧TVs K H2 xa (tl.map tlD)∧(∀ x∈tl,TlOk x)∧tl.length≤8 + 2 * xs.length∧σ' = [some (.ref a),some (.int hd),some (.int B),some (.int sm),some (.ref za),o5,o6,o7,o8,o9]),?_,?_⟩
 ·refine mid_abs fun _ _ _ => ?_
  have ha1:=S1 _ _ ha
  walk_at "rd"
  refine for_enum (K:=K) (a:=a) (xs:=xs) (fun i σ' H'=>Iv (∃ (xa:List V) (tl:List (Int × Int)) (o5 o6 o7 o8 o9:Option V),Same H H'∧H' za=some (.lst xa)∧TVs K H' xa (tl.map tlD)∧(∀ x∈tl,TlOk x)∧tl.length≤8 + 2 * i∧σ' = [some (.ref a),some (.int hd),some (.int B),some (.int sm),some (.ref za),o5,o6,o7,o8,o9])) ⟨⟨xa,tl,_,_,_,_,_,S1,hza,ta,ok,l4,rfl⟩⟩ (fun i σ' H' _ y=>by obtain ⟨⟨_,_,_,_,_,_,_,s,_⟩⟩:=y; exact SqL.of (s _ _ ha)) ?_ ?_
  ·clear hza ta ok l4 S1 ha1 xa tl o5 o6
   rintro i x σ' H2 tT hx ⟨⟨xa,tl,o5,o6,o7,o8,o9,S2,hza2,ta2,ok3,l3,rfl⟩⟩ hT
   have S3:=S2.new hT (.tup [.int (i:Int),x])
   have hza3:=kp hza2 hT (u:=.tup [.int (i:Int),x])
   have ta3:=ta2.mono (same_new hT (H:=H2) (.tup [.int (i:Int),x])).t
   have hT3:=upd_same (H:=H2) (a:=tT) (o:=.tup [.int (i:Int),x])
   generalize upd H2 tT (.tup [.int (i:Int),x])=H3 at S3 hza3 ta3 hT3 ⊢
   clear S2 hza2 ta2 hT
   have il:=(List.getElem?_eq_some_iff.mp hx).1
   obtain ⟨p1,r1,l1,q1,ps1,rfl,hp1,hr1,hl1,hs1⟩:=(qv.same S3).at hx
   obtain ⟨rq,q0⟩:=fin _ (List.mem_of_getElem? hs1)
   have q0:0≤q1.num:=q0
   have hr1':H3 r1=some (.tup [.int q1.num,.int (q1.den:Int)]):=hr1
   have zn:Bz 128 q1.num:=rq.zn
   have zd:Bz 128 (q1.den:Int):=rq.zd
   have d0:0 < (q1.den:Int):=by have:=q1.den_pos; omega
   have m1:=zn.mulOk zsm
   have m2:=zd.mulOk zsm
   have xal:xa.length=tl.length:=by rw [ta3.length,List.length_map]
   have z1:xa.length < sizeLine:=small1000 (by omega)
   have dp0:0 < (q1.den:Int) * sm:=Int.mul_pos d0 (by omega)
   walk_at "rd"
   refine ⟨fun σ' H4=>Iv (∃ (xa:List V) (tl:List (Int × Int)),Same H H4∧H4 za=some (.lst xa)∧TVs K H4 xa (tl.map tlD)∧(∀ x∈tl,TlOk x)∧tl.length≤8 + 2 * i + 1∧σ' = [some (.ref a),some (.int hd),some (.int B),some (.int sm),some (.ref za),some (.int (i:Int)),o6,some (.ref p1),some (.int q1.num),some (.int (q1.den:Int))]),?_,?_⟩
   ·refine mid_abs fun _ _ _ => ?_
    walk_at "rd"
    rename_i p hp
    obtain ⟨k1,k2⟩:=ask_new (t:=q1.num) (l:=(q1.den:Int)) S3 fza hza3 ta3 hp
    exact ⟨⟨_,tl ++ [(q1.num,(q1.den:Int))],k1,upd_same,k2,snoc_all ok3 ⟨q0,d0,zn.mono (by decide),zd.mono (by decide)⟩,by rw [List.length_append,List.length_singleton]; omega,rfl⟩⟩
   clear hza3 ta3 ok3 l3 xal z1 hp1 hr1 hl1 hr1' S3
   rintro σ' H4 ⟨⟨xa,tl,S4,hza4,ta4,ok4,l4,rfl⟩⟩
   have xal:xa.length=tl.length:=by rw [ta4.length,List.length_map]
   have z1:xa.length < sizeLine:=small1000 (by omega)
   refine ⟨fun σ' H5=>Iv (∃ (xa:List V) (tl:List (Int × Int)),Same H H5∧H5 za=some (.lst xa)∧TVs K H5 xa (tl.map tlD)∧(∀ x∈tl,TlOk x)∧tl.length≤8 + 2 * (i + 1)∧σ' = [some (.ref a),some (.int hd),some (.int B),some (.int sm),some (.ref za),some (.int (i:Int)),o6,some (.ref p1),some (.int q1.num),some (.int (q1.den:Int))]),?_,?_⟩
   ·refine mid_abs fun _ _ _ => ?_
    walk_at "rd"
    refine ite3 (fun c=>?_) (fun c=>?_)
    ·walk_at "rd"
     rename_i p hp
     have np:0 < q1.num:=by
      cases i with
      | zero=>exact absurd c (by decide)
      | succ i=>exact pos i _ hs1
     have:0 < q1.num * sm:=Int.mul_pos np (by omega)
     obtain ⟨k1,k2⟩:=ask_new (t:=q1.num * sm - 1) (l:=(q1.den:Int) * sm) S4 fza hza4 ta4 hp
     exact ⟨⟨_,tl ++ [(q1.num * sm - 1,(q1.den:Int) * sm)],k1,upd_same,k2,snoc_all ok4 ⟨by show 0≤q1.num * sm - 1; omega,dp0,((zn.mul zsm).sub' (n:=1) (by show (1:Int).natAbs < 2 ^ 1; decide)).mono (by decide),(zd.mul zsm).mono (by decide)⟩,by rw [List.length_append,List.length_singleton]; omega,rfl⟩⟩
    ·walk_at "rd"
     exact ⟨⟨xa,tl,S4,hza4,ta4,ok4,by omega,rfl⟩⟩
   rintro σ' H5 ⟨⟨xa,tl,S5,hza5,ta5,ok5,l5,rfl⟩⟩
   exact ⟨⟨xa,tl,_,_,_,_,_,S5,hza5,ta5,ok5,l5,rfl⟩⟩
  ·rintro σ' H3 ⟨⟨xa,tl,o5,o6,o7,o8,o9,S3,hza3,ta3,ok3,l3,rfl⟩⟩
   exact ⟨⟨xa,tl,_,_,_,_,_,S3,hza3,ta3,ok3,l3,rfl⟩⟩
 clear hza ta ok l4 S1 xa tl o5 o6
 rintro σ' H2 ⟨⟨xa,tl,o5,o6,o7,o8,o9,S2,hza2,ta2,ok2,l2,rfl⟩⟩
 walk_at "rd"
 exact q _ _ xa tl S2 fza hza2 ta2 ok2 (by omega)
theorem ok_law (T:Tx K mg) : FnOk P w K mg base (CXd P w) 25 T.f_law T.d_law ["_law_script"] (sp_law K):=by
 have sc:=sc_law
 refine T.F_law.okd sc (fun vs H Q E h=>?_) (fun cdv A outer s H vs Q E hr h=>?_)
 ·obtain ⟨a,ns,rfl,hS,hl,q⟩:=h
  rfl
 obtain ⟨a,ns,rfl,hS,hl,q⟩:=h
 have hu:=hr.units0
 have hu2:=hr.units
 have hu1:=Nat.lt_of_le_of_lt (Nat.add_le_add_left (show 1≤64 by decide) _) hu2
 refine ⟨_,(@pss_cons _ _ _ _ _ (@ps_set _ _ 1 _ _ _ _ sc.nd rfl (by walk_at "o1") (pe_call (ok_qZ T) (hr.mono (by decide)) rfl T.m_qZ T.F_qZ.kp T.b_qZ .nil (pass_d fun _ _ _ z=>z) (pa_cons (pv 0) (pa_cons pe_int pa_nil))) (by rfl) (by walk_at "o2"))
   (@pss_cons _ _ _ _ _ (@ps_mid _ _ _ (@ps_set _ _ 2 _ _ _ _ sc.nd rfl (by walk_at "o1") (pe_call (ok_j1 T) (hr.mono (by decide)) rfl T.m_j1 T.F_j1.kp T.b_j1 .nil (pass_d fun _ _ _ z=>z) (pa_cons (@pe_op _ _ _ _ _ _ _ _ op_cat (@pe_lst _ _ _ _ (pa_cons (pe_call (ok_qZ T) (hr.mono (by decide)) rfl T.m_qZ T.F_qZ.kp T.b_qZ .nil (pass_d fun _ _ _ z=>z) (pa_cons (pv 0) (pa_cons pe_int pa_nil))) pa_nil)) (pe_slice sl_list (pv 0) (po_some pe_int) (po_some pe_int))) (pa_cons (pe_call (ok_j0 T) (hr.mono (by decide)) rfl T.m_j0 T.F_j0.kp T.b_j0 .nil (pass_d fun _ _ _ z=>z) (pa_cons (pv 1) (pa_cons pe_int (pa_cons pe_int pa_nil)))) pa_nil))) (by rfl) (by walk_at "o2")))
   (@pss_cons _ _ _ _ _ (@ps_mid _ _ _ (@ps_if _ _ _ _ _ _ _ _ (@pt_cmpR _ _ _ _ _ _ _ _ op_ge (pe_call (ok_qZ T) (hr.mono (by decide)) rfl T.m_qZ T.F_qZ.kp T.b_qZ .nil (pass_d fun _ _ _ z=>z) (pa_cons (pv 0) (pa_cons pe_int pa_nil))) (pe_fold (.int 1000000000000000000) (@pe_op _ _ _ _ _ _ _ _ op_pow pe_int pe_int) (by walk_at "cf")) (nomark _)) (@pss_one _ _ _ (@ps_set _ _ 2 _ _ _ _ sc.nd rfl (by walk_at "o1") (pe_call (ok_j2 T) (hr.mono (by decide)) rfl T.m_j2 T.F_j2.kp T.b_j2 .nil (pass_d fun _ _ _ z=>z) (pa_cons (pe_call (ok_qZ T) (hr.mono (by decide)) rfl T.m_qZ T.F_qZ.kp T.b_qZ .nil (pass_d fun _ _ _ z=>z) (pa_cons (pv 0) (pa_cons pe_int pa_nil))) pa_nil)) (by rfl) (by walk_at "o2"))) pss_nil))
   (@pss_cons _ _ _ _ _ (@ps_mid _ _ _ (@ps_if _ _ _ _ _ _ _ _ (@pt_cmpR _ _ _ _ _ _ _ _ op_eqI (pe_call (ok_j0 T) (hr.mono (by decide)) rfl T.m_j0 T.F_j0.kp T.b_j0 .nil (pass_d fun _ _ _ z=>z) (pa_cons (pv 1) (pa_cons pe_int (pa_cons pe_int pa_nil)))) pe_int (nomark _)) (@pss_one _ _ _ (@ps_set _ _ 2 _ _ _ _ sc.nd rfl (by walk_at "o1") (@pe_ix _ _ _ _ _ _ _ ix_tup (pe_call (ok_qU T) (hr.mono (by decide)) rfl T.m_qU T.F_qU.kp T.b_qU .nil (pass_d fun _ _ _ z=>z) (pa_cons (pe_call (ok_qZ T) (hr.mono (by decide)) rfl T.m_qZ T.F_qZ.kp T.b_qZ .nil (pass_d fun _ _ _ z=>z) (pa_cons (pv 0) (pa_cons pe_int pa_nil))) (pa_cons (@pe_op _ _ _ _ _ _ _ _ op_add pe_int (pe_call (ok_j0 T) (hr.mono (by decide)) rfl T.m_j0 T.F_j0.kp T.b_j0 .nil (pass_d fun _ _ _ z=>z) (pa_cons (pv 1) (pa_cons pe_int (pa_cons pe_int pa_nil))))) (pa_cons pe_int pa_nil)))) pe_int (fun _ _=>rfl)) (by rfl) (by walk_at "o2"))) pss_nil))
   (@pss_cons _ _ _ _ _ (@ps_mid _ _ _ (@ps_set _ _ 3 _ _ _ _ sc.nd rfl (by walk_at "o1") (pe_call (ok_qN T) (hr.mono (by decide)) rfl T.m_qN T.F_qN.kp T.b_qN .nil (pass_d fun _ _ _ z=>z) (pa_cons (pe_call (ok_qZ T) (hr.mono (by decide)) rfl T.m_qZ T.F_qZ.kp T.b_qZ .nil (pass_d fun _ _ _ z=>z) (pa_cons (pv 0) (pa_cons pe_int pa_nil))) pa_nil)) (by rfl) (by walk_at "o2")))
   (@pss_cons _ _ _ _ _ (@ps_mid _ _ _ (@ps_set _ _ 4 _ _ _ _ sc.nd rfl (by walk_at "o1") (pe_call (ok_jA T) (hr.mono (by decide)) rfl T.m_jA T.F_jA.kp T.b_jA .nil (pass_d fun _ _ _ z=>z) (pa_cons (pe_call (ok_qM T) (hr.mono (by decide)) rfl T.m_qM T.F_qM.kp T.b_qM .nil (pass_d fun _ _ _ z=>z) (pa_cons (pv 2) (pa_cons (pv 3) pa_nil))) pa_nil)) (by rfl) (by walk_at "o2")))
   (@pss_cons _ _ _ _ _ (@ps_mid _ _ _ (@ps_if _ _ _ _ _ _ _ _ (pt_not (pt_val (pe_call (ok_qA T) (hr.mono (by decide)) rfl T.m_qA T.F_qA.kp T.b_qA .nil (pass_d fun _ _ _ z=>z) (pa_cons (pv 4) (pa_cons (pe_call (ok_qP T) (hr.mono (by decide)) rfl T.m_qP T.F_qP.kp T.b_qP .nil (pass_d fun _ _ _ z=>z) (pa_cons (pv 2) pa_nil)) pa_nil))))) (@pss_one _ _ _ (@ps_ret _ _ _ _ pe_bl)) pss_nil))
   (@pss_cons _ _ _ _ _ (@ps_mid _ _ _ (@ps_set _ _ 5 _ _ _ _ sc.nd rfl (by walk_at "o1") (pe_call (ok_j3 T) (hr.mono (by decide)) rfl T.m_j3 T.F_j3.kp T.b_j3 .nil (pass_d fun _ _ _ z=>z) (pa_cons (pe_call (ok_qZ T) (hr.mono (by decide)) rfl T.m_qZ T.F_qZ.kp T.b_qZ .nil (pass_d fun _ _ _ z=>z) (pa_cons (pv 0) (pa_cons pe_int pa_nil))) pa_nil)) (by rfl) (by walk_at "o2")))
   (@pss_cons _ _ _ _ _ (@ps_mid _ _ _ (@ps_set _ _ 6 _ _ _ _ sc.nd rfl (by walk_at "o1") (@pe_op _ _ _ _ _ _ _ _ op_add pe_int (@pe_op _ _ _ _ _ _ _ _ op_mod (pe_call (ok_qZ T) (hr.mono (by decide)) rfl T.m_qZ T.F_qZ.kp T.b_qZ .nil (pass_d fun _ _ _ z=>z) (pa_cons (pv 0) (pa_cons pe_int pa_nil))) (pe_fold (.int 1000000000000000000000000000000) (@pe_op _ _ _ _ _ _ _ _ op_pow pe_int pe_int) (by walk_at "cf")))) (by rfl) (by walk_at "o2")))
   (@pss_cons _ _ _ _ _ (@ps_mid _ _ _ (ps_for powd rfl (pi_list (pe_call (ok_qX T) (hr.mono (by decide)) rfl T.m_qX T.F_qX.kp T.b_qX .nil (pass_d fun _ _ _ z=>z) (pa_cons (pv 4) (pa_cons (pv 1) (pa_cons (pv 3) (pa_cons (pv 6) pa_nil)))))) (pg_tup rfl (pgs_cons (pg_name (i:=7) sc.nd rfl (by walk_at "o1")) (pgs_cons (pg_name (i:=8) sc.nd rfl (by walk_at "o1")) pgs_nil)))
   (@pss_cons _ _ _ _ _ (@ps_mid _ _ _ (@ps_if _ _ _ _ _ _ _ _ (@pt_cmpR _ _ _ _ _ _ _ _ op_lt (pv 7) pe_int (nomark _)) (@pss_one _ _ _ (@ps_ret _ _ _ _ pe_bl)) pss_nil))
   (@pss_cons _ _ _ _ _ (@ps_mid _ _ _ (@ps_set _ _ 9 _ _ _ _ sc.nd rfl (by walk_at "o1") (pe_call (ok_qR T) (hr.mono (by decide)) rfl T.m_qR T.F_qR.kp T.b_qR .nil (pass_d fun _ _ _ z=>z) (pa_cons (pv 4) (pa_cons (pe_call (ok_qK T) (hr.mono (by decide)) rfl T.m_qK T.F_qK.kp T.b_qK .nil (pass_d fun _ _ _ z=>z) (pa_cons (pv 7) (pa_cons (pv 8) pa_nil))) pa_nil))) (by rfl) (by walk_at "o2")))
   (@pss_cons _ _ _ _ _ (@ps_mid _ _ _ (@ps_set _ _ 10 _ _ _ _ sc.nd rfl (by walk_at "o1") (pe_call (ok_qW T) (hr.mono (by decide)) rfl T.m_qW T.F_qW.kp T.b_qW .nil (pass_d fun _ _ _ z=>z) (pa_cons (pv 2) (pa_cons (pv 9) (pa_cons (pv 7) (pa_cons (pv 8) (pa_cons (pv 3) pa_nil)))))) (by rfl) (by walk_at "o2")))
   (@pss_cons _ _ _ _ _ (@ps_mid _ _ _ (@ps_set _ _ 11 _ _ _ _ sc.nd rfl (by walk_at "o1") (pe_call (ok_qO T) (hr.mono (by decide)) rfl T.m_qO T.F_qO.kp T.b_qO .nil (pass_d fun _ _ _ z=>z) (pa_cons (pv 2) (pa_cons pe_str (pa_cons (pv 5) pa_nil) se_c))) (by rfl) (by walk_at "o2")))
   (@pss_cons _ _ _ _ _ (@ps_mid _ _ _ (@ps_set _ _ 12 _ _ _ _ sc.nd rfl (by walk_at "o1") (pe_call (ok_qW T) (hr.mono (by decide)) rfl T.m_qW T.F_qW.kp T.b_qW .nil (pass_d fun _ _ _ z=>z) (pa_cons (pv 2) (pa_cons (pv 11) (pa_cons (pv 7) (pa_cons (pv 8) (pa_cons (pv 3) pa_nil)))))) (by rfl) (by walk_at "o2")))
   (@pss_one _ _ _ (@ps_mid _ _ _ (@ps_if _ _ _ _ _ _ _ _ (PW.pt (pw_or (@pt_cmpR _ _ _ _ _ _ _ _ op_gt (pv 10) (pv 12) (nomark _)) (pw_or1 (PW.pt (pw_and (@pt_cmpR _ _ _ _ _ _ _ _ op_eqI (pv 10) (pv 12) (nomark _)) (pw_and1 (pt_not (pt_val (pe_call (ok_qH T) (hr.mono (by decide)) rfl T.m_qH T.F_qH.kp T.b_qH .nil (pass_d fun _ _ _ z=>z) (pa_cons (pv 9) (pa_cons (pv 11) pa_nil))))))))))) (@pss_one _ _ _ (@ps_ret _ _ _ _ pe_bl)) pss_nil))))))))))
   (@pss_cons _ _ _ _ _ (@ps_mid _ _ _ (ps_for powd rfl (pi_range2 rfl T.z_range (pa_cons pe_int (pa_cons (pe_callB call_len_seq rfl T.z_len bt_len (pa_cons (pv 4) pa_nil)) pa_nil))) (pg_name (i:=13) sc.nd rfl (by walk_at "o1"))
   (@pss_one _ _ _ (@ps_if _ _ _ _ _ _ _ _ (@pt_cmpR _ _ _ _ _ _ _ _ (op_eqD hu2) (@pe_ix _ _ _ _ _ _ _ ix_tup (@pe_ix _ _ _ _ _ _ _ ix_list (pv 4) (pv 13) (fun _ _=>rfl)) pe_int (fun _ _=>rfl)) (@pe_ix _ _ _ _ _ _ _ ix_tup (@pe_ix _ _ _ _ _ _ _ ix_list (pv 4) (@pe_op _ _ _ _ _ _ _ _ op_sub (pv 13) pe_int) (fun _ _=>rfl)) pe_int (fun _ _=>rfl)) (nomark _)) (@pss_one _ _ _ (@ps_ret _ _ _ _ pe_bl)) pss_nil))))
   (@pss_one _ _ _ (@ps_ret _ _ _ _ pe_bl))))))))))))),?_⟩
 walk_at "kx"
 have hl2:(ns.map V.int).length=ns.length:=List.length_map _
 have H35:=True.intro
 walk_at "rd"
 refine ⟨fun σ' H1=>Iv (∃ (hd:Int) (v:V) (t:Tr),Same H H1∧TV K H1 v (trD t)∧t.lv≤61∧t.dp≤20∧t.B∧σ' = [some (.ref a),some (.int hd),some v,none,none,none,none,none,none,none,none,none,none,none]),?_,?_⟩
 ·refine mid_abs fun _ _ _=>?_
  walk_at "rd"
  rename_i r1 hr1
  have hS1:=hS.new (u:=.lst [.int (ns.getD (Int.toNat 2) 0)]) hr1
  obtain ⟨ms,ec,lm⟩:=cut_some ns 3 23
  have ec:cutV (ns.map V.int) (some 3) (some 23)=ms.map V.int:=ec
  refine ⟨hS1.sq,fun r3 hr3=>?_⟩
  rw [ec]
  have l1:([V.int (ns.getD (Int.toNat 2) 0)].length + (ms.map V.int).length)≤1000:=by rw [List.length_map,List.length_singleton]; omega
  walk_at "rd"
  rename_i r4 hr4 x x0 x1
  refine ⟨(upd_same:_=some (.lst ((ns.getD (Int.toNat 2) 0 :: ms).map V.int))),by rw [List.length_cons]; omega,by rw [List.length_cons]; omega,fun H2 v t S2 tv lt tb=>?_⟩
  exact ⟨⟨_,v,t,(((same_new hr1 _).new hr3 _).new hr4 _).trans S2,tv,by omega,by have:=t.dp_lt; omega,tb,rfl⟩⟩
 rintro σ' H1 ⟨⟨hd,v,t,S1,tv,lt,dt,tb,rfl⟩⟩
 have hS1:=hS.sm S1
 clear hS S1
 refine ⟨fun σ' H2=>Iv (∃ (v:V) (t:Tr),Same H1 H2∧TV K H2 v (trD t)∧t.lv≤61∧t.dp≤20∧t.B∧σ' = [some (.ref a),some (.int hd),some v,none,none,none,none,none,none,none,none,none,none,none]),?_,?_⟩
 ·refine mid_abs fun _ _ _=>?_
  walk_at "rd"
  refine ite3 (fun c=>?_) (fun c=>?_)
  ·have c0:0≤ns.getD (Int.toNat 2) 0:=by omega
   walk_at "rd"
   rename_i H2 v2 t2 S2 tv2 lt2 tb2
   exact ⟨⟨v2,t2,S2,tv2,by omega,by have:=t2.dp_lt; omega,tb2,rfl⟩⟩
  ·walk_at "rd"
   exact ⟨⟨v,t,Same.refl _,tv,lt,dt,tb,rfl⟩⟩
 clear tv lt dt tb
 rintro σ' H2 ⟨⟨v,t,S2,tv,lt,dt,tb,rfl⟩⟩
 have hS2:=hS1.sm S2
 clear hS1 S2
 refine ⟨fun σ' H2'=>Iv (∃ (v:V) (t:Tr),Same H2 H2'∧TV K H2' v (trD t)∧t.lv≤61∧t.dp≤20∧t.B∧σ' = [some (.ref a),some (.int hd),some v,none,none,none,none,none,none,none,none,none,none,none]),?_,?_⟩
 ·refine mid_abs fun _ _ _=>?_
  walk_at "rd"
  refine ite3 (fun c=>?_) (fun c=>?_)
  ·walk_at "rd"
   rename_i _ _ _ x x0 x1 H3 ad v2 t2 s2 S2 had tv2 l2 b2 d2 dp2
   exact ⟨⟨v2,t2,S2,tv2,by omega,by omega,b2,rfl⟩⟩
  ·walk_at "rd"
   exact ⟨⟨v,t,Same.refl _,tv,lt,dt,tb,rfl⟩⟩
 clear tv lt dt tb
 rintro σ' H3 ⟨⟨v,t,S3,tv,lt,dt,tb,rfl⟩⟩
 have hS3:=hS2.sm S3
 clear hS2 S3
 have d40:t.dp≤40:=by omega
 have ltd:t.lv≤61∧t.dp≤20:=⟨lt,dt⟩
 have lt50:Iv (t.lv≤61):=⟨lt⟩
 refine ⟨fun σ' H4=>Iv (∃ B:Int,H4=H3∧1≤B∧B≤1000000000000000000000000000000∧σ' = [some (.ref a),some (.int hd),some v,some (.int B),none,none,none,none,none,none,none,none,none,none]),?_,?_⟩
 ·refine mid_abs fun _ _ _=>?_
  walk_at "rd"
  rename_i B b1 b2
  exact ⟨⟨B,rfl,b1,b2,rfl⟩⟩
 rintro σ' H4 ⟨⟨B,rfl,b1,b2,rfl⟩⟩
 have b0:0 < B:=by omega
 have bz1:Bz 128 B:=Bz.w (by omega) (by omega)
 have bz:Bz 8000 B:=bz1.mono (by decide)
 refine ⟨fun σ' H5=>Iv (∃ (z:Addr) (xs:List V) (sts:List (Rat × List Str)) (pa pb:Int),Same H4 H5∧H5 z=some (.lst xs)∧QVs H5 xs sts∧Pth t B sts pa pb []∧sts.length≤61∧σ' = [some (.ref a),some (.int hd),some v,some (.int B),some (.ref z),none,none,none,none,none,none,none,none,none]),?_,?_⟩
 ·refine mid_abs fun _ _ _=>?_
  walk_at "rd"
  rename_i H5 v2 S5 tv2 H6 z xs sts pa pb S6 fz hz qv pth sl
  exact ⟨⟨z,xs,sts,pa,pb,S5.trans S6,hz,qv,pth,sl,rfl⟩⟩
 rintro σ' H5 ⟨⟨z,xs,sts,pa,pb,S5,hz5,qv5,pth,sl,rfl⟩⟩
 obtain ⟨⟨ps0,stl,es0⟩,al⟩:=pth.all b0
 have fin:∀ x∈sts,Rz 128 x.1∧0≤x.1.num:=fun x hx=>by
  obtain ⟨_,n,d,u,e,n0,d1,d2,nb⟩:=al x hx
  have nb:=nb lt tb
  have h1:d * B≤61 * 1000000000000000000000000000000:=Int.mul_le_mul (by omega) b2 (by omega) (by decide)
  have h2:0 < d * B:=Int.mul_pos (by omega) b0
  rw [e]
  exact ⟨rzd (by omega) (Bz.w (by omega) (by omega)) (Bz.w (by omega) (by omega)),low_0 h2 n0⟩
 have pos:=pth.pos b0 fun x hx=>(fin x hx).2
 have pis:∀ x∈sts,∃ gs,PI t "" x.2 gs:=fun x hx=>(al x hx).1
 have plen:∀ x∈sts,x.2.length≤64:=fun x hx=>by
  obtain ⟨gs,pi⟩:=pis x hx
  have:=pi.len.1
  omega
 have rz3:∀ x∈sts,Rz 300 x.1:=fun x hx=>(fin x hx).1.mono (by decide)
 have rz8:∀ x∈sts,Rz 8000 x.1:=fun x hx=>(fin x hx).1.mono (by decide)
 have xl:=qv5.len
 have sl64:sts.length≤64:=by omega
 replace tv:=tv.mono S5.t
 have hS5:=hS3.sm S5
 clear S5 hS3 al
 refine ⟨fun σ' H6=>Iv (Same H5 H6∧σ' = [some (.ref a),some (.int hd),some v,some (.int B),some (.ref z),none,none,none,none,none,none,none,none,none]),?_,?_⟩
 ·refine mid_abs fun _ _ _=>?_
  walk_at "rd"
  rename_i H6 kn xk us S6 fk hk tx pm
  refine ⟨qv5.same S6,es0,sl64,hk,tx,pm,lt,pis,rz3,fun H7 S7=>?_⟩
  walk_at "rd"
  exact ⟨⟨S6.trans S7,rfl⟩⟩
 rintro σ' H6 ⟨⟨S6,rfl⟩⟩
 have hz6:=S6 _ _ hz5
 have qv6:=qv5.same S6
 replace tv:=tv.mono S6.t
 have hS6:=hS5.sm S6
 clear hz5 qv5 hS5 S6
 refine ⟨fun σ' H7=>Iv (∃ b c0 c1,Same H6 H7∧H6 b=none∧H7 b=some (.lst [.int c0,.int c1])∧Bg c1∧σ' = [some (.ref a),some (.int hd),some v,some (.int B),some (.ref z),some (.ref b),none,none,none,none,none,none,none,none]),?_,?_⟩
 ·refine mid_abs fun _ _ _=>?_
  walk_at "rd"
  rename_i b c0 c1 hb bg
  exact ⟨⟨b,c0,c1,same_new hb _,hb,upd_same,bg,rfl⟩⟩
 rintro σ' H7 ⟨⟨b,c0,c1,S7,fb,hb7,bg7,rfl⟩⟩
 have nzb:z ≠ b:=ne_of_none hz6 fb
 have hz7:=S7 _ _ hz6
 have qv7:=qv6.same S7
 replace tv:=tv.mono S7.t
 have hS7:=hS6.sm S7
 clear hz6 qv6 hS6 S7 fb
 refine ⟨fun σ' H8=>Iv (∃ sm:Int,H8=H7∧1≤sm∧sm≤1000000000000000000000000000000∧σ' = [some (.ref a),some (.int hd),some v,some (.int B),some (.ref z),some (.ref b),some (.int sm),none,none,none,none,none,none,none]),?_,?_⟩
 ·refine mid_abs fun _ _ _=>?_
  walk_at "rd"
  exact ⟨⟨_,rfl,by omega,by omega,rfl⟩⟩
 rintro σ' H8 ⟨⟨sm,rfl,sm1,sm2,rfl⟩⟩
 clear hS7
 refine ⟨fun σ' H'=>Iv (∃ (c0 c1:Int) (o7 o8 o9 o10 o11 o12:Option V),SameB b H8 H'∧H' b=some (.lst [.int c0,.int c1])∧Bg c1∧σ' = [some (.ref a),some (.int hd),some v,some (.int B),some (.ref z),some (.ref b),some (.int sm),o7,o8,o9,o10,o11,o12,none]),?_,?_⟩
 ·refine mid_abs fun _ _ _=>?_
  walk_at "rd"
  rename_i H9 za xa tl S9 fza hza ta ok tl9
  have nzab:za ≠ b:=fun e=>by rw [e,hb7] at fza; cases fza
  have xal:xa.length=tl.length:=by rw [ta.length,List.length_map]
  have hb9:=S9 _ _ hb7
  refine for_list (K:=K) (a:=za) (xs:=xa) (fun i σ' H'=>Iv (∃ (c0 c1:Int) (o7 o8 o9 o10 o11 o12:Option V),SameB b H9 H'∧H' b=some (.lst [.int c0,.int c1])∧Bg c1∧σ' = [some (.ref a),some (.int hd),some v,some (.int B),some (.ref z),some (.ref b),some (.int sm),o7,o8,o9,o10,o11,o12,none])) ⟨⟨c0,c1,_,_,_,_,_,_,fun _ _ _ e=>e,hb9,bg7,rfl⟩⟩ (fun i σ' H' _ y=>by obtain ⟨⟨_,_,_,_,_,_,_,_,s,_⟩⟩:=y; exact SqL.of (s _ _ nzab hza)) ?_ ?_
  ·rintro i x σ' H10 hx ⟨⟨d0,d1,o7,o8,o9,o10,o11,o12,S10,hb10,bg10,rfl⟩⟩
   have T10:=S10.t hb9
   obtain ⟨u,hu0,tu⟩:=(ta.mono T10).get hx
   rw [List.getElem?_map] at hu0
   obtain ⟨u,hu1,rfl⟩:=Option.map_eq_some_iff.mp hu0
   obtain ⟨pp,rfl,hpp⟩:=TV.tl tu
   have oku:=ok u (List.mem_of_getElem? hu1)
   obtain ⟨tp,lw⟩:=u
   obtain ⟨k1,k2,k3,k4⟩:=oku
   have k1:0≤tp:=k1
   have k2:0 < lw:=k2
   have k3:Bz 260 tp:=k3
   have k4:Bz 260 lw:=k4
   have k48:Bz 8000 lw:=k4.mono (by decide)
   have hpp:H10 pp=some (.tup [.int tp,.int lw]):=hpp
   have tv10:=(tv.mono S9.t).mono T10
   have hz10:=S10 _ _ nzb (S9 _ _ hz7)
   have qv10:=(qv7.same S9).sb S10 hb9
   clear T10 tu hx hu0 hu1
   walk_at "rd"
   refine ⟨fun σ' H11=>Iv (H11=H10∧σ' = [some (.ref a),some (.int hd),some v,some (.int B),some (.ref z),some (.ref b),some (.int sm),some (.int tp),some (.int lw),o9,o10,o11,o12,none]),?_,?_⟩
   ·refine mid_abs fun _ _ _=>?_
    walk_at "rd"
    exact ⟨⟨rfl,rfl⟩⟩
   rintro σ' H11 ⟨⟨rfl,rfl⟩⟩
   have r0:=low_0 (t:=tp) k2 k1
   have rr8:Rz 8000 (Rat.divInt tp lw):=rzd (by omega) (k3.mono (by decide)) k48
   have nx0:nab (Rat.divInt tp lw) (0,ps0)=true:=by
    rw [nab_is k2]
    refine decide_eq_true ?_
    show (0:Int) * lw≤tp * (1:Int)
    omega
   have ex0:∃ (i:Nat) (x:Rat × List Str),sts[i]? = some x∧nab (Rat.divInt tp lw) x=true:=⟨0,(0,ps0),by rw [es0]; rfl,nx0⟩
   refine ⟨fun σ' H12=>Iv (∃ (fo:Addr) (q0:Rat) (fs:List Str),Same H11 H12∧H12 fo=some (.lst (fs.map V.str))∧(sts.filter (nab (Rat.divInt tp lw))).getLast? = some (q0,fs)∧σ' = [some (.ref a),some (.int hd),some v,some (.int B),some (.ref z),some (.ref b),some (.int sm),some (.int tp),some (.int lw),some (.ref fo),o10,o11,o12,none]),?_,?_⟩
   ·refine mid_abs fun _ _ _=>?_
    walk_at "rd"
    rename_i rp hrp
    have Sr:=same_new hrp (H:=H11) (rt (Rat.divInt tp lw))
    have qvr:=qv10.same Sr
    have hrr:upd H11 rp (rt (Rat.divInt tp lw)) rp=some (rt (Rat.divInt tp lw)):=upd_same
    refine ⟨qvr,sl64,hrr,rr8,rz8,.inr ⟨r0,ex0,plen,fun H12 p q0 ps S12 fp la hp=>?_⟩⟩
    exact ⟨⟨p,q0,ps,Sr.trans S12,hp,la,rfl⟩⟩
   rintro σ' H12 ⟨⟨fo,q0,fs,S12,hfo,la,rfl⟩⟩
   obtain ⟨s0,pf0,lea⟩:=pth.price b0 k2 la
   have hb12:=S12 _ _ hb10
   have tv12:=tv10.mono S12.t
   have SB12:SameB b H9 H12:=fun _ _ n e=>S12 _ _ (S10 _ _ n e)
   clear hb10 tv10 S12 S10 hz10 qv10 r0 rr8 nx0 ex0 la q0 hpp
   obtain ⟨f0,fs',ef⟩:=pf0.pos
   have hf':H12 fo=some (.lst (V.str f0 :: fs'.map V.str)):=by rw [hfo,ef]; rfl
   have nfb:fo ≠ b:=lst_ne hf' hb12 (by intro z; cases z)
   obtain ⟨gs,pi⟩:=pf0.pi
   have flen:=pi.len.1
   have e00:("" : Str).length=0:=by decide +kernel
   have fsh:∀ w∈fs,w.length≤100:=fun w hw=>by have:=pi.short.1 w hw; omega
   have f64:fs.length≤64:=by omega
   clear hf' ef pi
   refine ⟨fun σ' H13=>Iv (Same H12 H13∧σ' = [some (.ref a),some (.int hd),some v,some (.int B),some (.ref z),some (.ref b),some (.int sm),some (.int tp),some (.int lw),some (.ref fo),some (.int (s0 * lw + tp * ((fs.length:Nat) : Int) * B)),o11,o12,none]),?_,?_⟩
   ·refine mid_abs fun _ _ _=>?_
    walk_at "rd"
    rename_i H13 S13
    exact ⟨⟨S13,rfl⟩⟩
   rintro σ' H13 ⟨⟨S13,rfl⟩⟩
   have hb13:=S13 _ _ hb12
   have tv13:=tv12.mono S13.t
   have hf13:=S13 _ _ hfo
   have SB13:SameB b H9 H13:=fun _ _ n e=>S13 _ _ (SB12 _ _ n e)
   clear hb12 tv12 hfo S13 SB12
   have q00:("" : Str).length + 20≤100:=by decide +kernel
   refine ⟨fun σ' H14=>Iv (∃ p d0 d1 qs gs,SameB b H13 H14∧H14 b=some (.lst [.int d0,.int d1])∧Bg d1∧H14 p=some (.lst (qs.map V.str))∧PI t "" qs gs∧σ' = [some (.ref a),some (.int hd),some v,some (.int B),some (.ref z),some (.ref b),some (.int sm),some (.int tp),some (.int lw),some (.ref fo),some (.int (s0 * lw + tp * ((fs.length:Nat) : Int) * B)),some (.ref p),o12,none]),?_,?_⟩
   ·refine mid_abs fun _ _ _=>?_
    clear k1 k2 k3 k4 k48 bz bz1 b0 b1 b2 pos fin pis plen rz3 rz8 pth sl64 sl sm1 sm2 ta ok tl9 hza hz7 qv7 fza S9 lt50 pf0 hb9 hb7 bg7 nzb nzab xal xl lea hf13 SB13 fsh f64 nfb
    walk_at "rd"
    rename_i H14 p d0 d1 qs gs S14 hb14 bg14 f14 hp14 pi14
    exact ⟨⟨p,d0,d1,qs,gs,S14,hb14,bg14,hp14,pi14,rfl⟩⟩
   rintro σ' H14 ⟨⟨p,d0,d1,qs,gs2,S14,hb14,bg14,hp14,pi2,rfl⟩⟩
   obtain ⟨s,ps2⟩:=pi2.ps
   have tv14:=tv13.mono (S14.t hb13)
   have hf14:=S14 _ _ nfb hf13
   have le:=lea qs s ps2
   have qlen:=pi2.len.1
   have q64:qs.length≤64:=by omega
   have qsh:∀ w∈qs,w.length≤100:=fun w hw=>by have:=pi2.short.1 w hw; omega
   have SB14:SameB b H9 H14:=fun _ _ n e=>S14 _ _ n (SB13 _ _ n e)
   clear lea hb13 tv13 hf13 S14 SB13
   refine ⟨fun σ' H15=>Iv (Same H14 H15∧σ' = [some (.ref a),some (.int hd),some v,some (.int B),some (.ref z),some (.ref b),some (.int sm),some (.int tp),some (.int lw),some (.ref fo),some (.int (s0 * lw + tp * ((fs.length:Nat) : Int) * B)),some (.ref p),some (.int (s * lw + tp * ((qs.length:Nat) : Int) * B)),none]),?_,?_⟩
   ·refine mid_abs fun _ _ _=>?_
    walk_at "rd"
    rename_i H15 S15
    exact ⟨⟨S15,rfl⟩⟩
   rintro σ' H15 ⟨⟨S15,rfl⟩⟩
   have hp15:=S15 _ _ hp14
   have hf15:=S15 _ _ hf14
   have hb15:=S15 _ _ hb14
   have SB15:SameB b H9 H15:=fun _ _ n e=>S15 _ _ (SB14 _ _ n e)
   clear hp14 hf14 hb14 SB14 S15
   refine ⟨fun σ' H16=>Iv (Same H15 H16∧σ' = [some (.ref a),some (.int hd),some v,some (.int B),some (.ref z),some (.ref b),some (.int sm),some (.int tp),some (.int lw),some (.ref fo),some (.int (s0 * lw + tp * ((fs.length:Nat) : Int) * B)),some (.ref p),some (.int (s * lw + tp * ((qs.length:Nat) : Int) * B)),none]),?_,?_⟩
   ·refine mid_abs fun _ _ _=>?_
    clear k1 k2 k3 k4 k48 bz bz1 b0 b1 b2 pos fin pis plen rz3 rz8 pth sl64 sl sm1 sm2 ta ok tl9 hza hz7 qv7 fza S9 lt50 pf0 hb9 hb7 bg7 nzb nzab xal xl tv14 ltd d40 lt dt tb tv SB15 hb15 nfb bg14 bg10 pi2 ps2 qlen flen q00 e00
    walk_at "rd"
    refine ite3 (fun c=>?_) (fun c=>?_)
    ·walk_at "rd"
     rename_i k2 H16 ki S16
     obtain rfl:k2=true:=ki.mpr (le.2 c)
     walk_at "rd"
     exact ⟨⟨S16,rfl⟩⟩
    ·walk_at "rd"
     exact ⟨⟨Same.refl _,rfl⟩⟩
   rintro σ' H16 ⟨⟨S16,rfl⟩⟩
   exact ⟨⟨_,_,_,_,_,_,_,_,fun _ _ n e=>S16 _ _ (SB15 _ _ n e),S16 _ _ hb15,bg14,rfl⟩⟩
  ·rintro σ' H10 ⟨⟨d0,d1,o7,o8,o9,o10,o11,o12,S10,hb10,bg10,rfl⟩⟩
   exact ⟨⟨d0,d1,_,_,_,_,_,_,fun _ _ n e=>S10 _ _ n (S9 _ _ e),hb10,bg10,rfl⟩⟩
 rintro σ' H9 ⟨⟨d0,d1,o7,o8,o9,o10,o11,o12,S9,hb9,bg9,rfl⟩⟩
 have hz9:=S9 _ _ nzb hz7
 have qv9:=qv7.sb S9 hb7
 clear hz7 qv7 hb7 bg7 tv b1 b2 b0 bz bz1 sm1 sm2 ltd d40
 refine ⟨fun σ' H10=>Iv (∃ o13:Option V,H10=H9∧σ' = [some (.ref a),some (.int hd),some v,some (.int B),some (.ref z),some (.ref b),some (.int sm),o7,o8,o9,o10,o11,o12,o13]),?_,?_⟩
 ·refine mid_abs fun _ _ _=>?_
  walk_at "rd"
  refine for_range (lo:=1) (n:=(((xs.length:Nat) : Int) - 1).toNat) (fun i σ' H'=>Iv (∃ o13:Option V,H'=H9∧σ' = [some (.ref a),some (.int hd),some v,some (.int B),some (.ref z),some (.ref b),some (.int sm),o7,o8,o9,o10,o11,o12,o13])) ⟨⟨_,rfl,rfl⟩⟩ ?_ ?_
  ·rintro i σ' H10 hi ⟨⟨o13,rfl,rfl⟩⟩
   have hvx:xs[i]? = some (xs.getD i .non):=by rw [List.getD_eq_getElem?_getD,List.getElem?_eq_getElem (by omega)]; rfl
   have hvy:xs[i + 1]? = some (xs.getD (i + 1) .non):=by rw [List.getD_eq_getElem?_getD,List.getElem?_eq_getElem (by omega)]; rfl
   obtain ⟨px,rx,lx,qx,psx,ex,hpx,hrx,hlx,hsx⟩:=qv9.at hvx
   obtain ⟨py,ry,ly,qy,psy,ey,hpy,hry,hly,hsy⟩:=qv9.at hvy
   rw [ex] at hvx
   rw [ey] at hvy
   have ay:atI xs (1 + (i:Int))=some (.ref py):=by rw [show (1 + (i:Int))=((i + 1:Nat) : Int) by omega]; exact atI_nat hvy
   have ax:atI xs (1 + (i:Int) - 1)=some (.ref px):=by rw [show (1 + (i:Int) - 1)=((i:Nat) : Int) by omega]; exact atI_nat hvx
   generalize (1 + (i:Int))=kk at ay ax ⊢
   have nb:=pth.nbr hsx hsy
   obtain ⟨a',b',n',d',s,m,s',m',us,us',_,_,_,_,_,lk1,lk2,_,ml,_⟩:=nb.ex
   have l1:=lk1.one.2.1
   have l2:=lk2.one.2.1
   have l1:m=(psx.length:Int):=l1
   have l2:m'=(psy.length:Int):=l2
   have ne:psy ≠ psx:=fun e=>by rw [e] at l2; omega
   have ascx:∀ y∈psx,Asc y:=(lk1.pi.asc (fun c hc=>by cases hc)).1
   have ascy:∀ y∈psy,Asc y:=(lk2.pi.asc (fun c hc=>by cases hc)).1
   walk_at "rd"
   refine ⟨.list (psy.map PyData.str),.list (psx.map PyData.str),dvS hly,dvS hlx,((shS (n:=62) ascy).mono (by decide)).shaped,((shS (n:=62) ascx).mono (by decide)).shaped,?_⟩
   rw [strs_eqv,decide_eq_false ne]
   walk_at "rd"
   exact ⟨⟨_,rfl,rfl⟩⟩
  ·rintro σ' H10 ⟨⟨o13,rfl,rfl⟩⟩
   exact ⟨⟨_,rfl,rfl⟩⟩
 rintro σ' H10 ⟨⟨o13,rfl,rfl⟩⟩
 walk_at "rd"
 exact q _
end
theorem ln1 {us : List Value} (h : us.length = 1) : ∃ v0, us = [v0] := by
 match us, h with
 | [v0], _ => exact ⟨v0, rfl⟩
theorem ln2 {us : List Value} (h : us.length = 2) : ∃ v0 v1, us = [v0, v1] := by
 match us, h with
 | [v0, v1], _ => exact ⟨v0, v1, rfl⟩
theorem ln3 {us : List Value} (h : us.length = 3) : ∃ v0 v1 v2, us = [v0, v1, v2] := by
 match us, h with
 | [v0, v1, v2], _ => exact ⟨v0, v1, v2, rfl⟩
theorem ln4 {us : List Value} (h : us.length = 4) : ∃ v0 v1 v2 v3, us = [v0, v1, v2, v3] := by
 match us, h with
 | [v0, v1, v2, v3], _ => exact ⟨v0, v1, v2, v3, rfl⟩
theorem ln5 {us : List Value} (h : us.length = 5) : ∃ v0 v1 v2 v3 v4, us = [v0, v1, v2, v3, v4] := by
 match us, h with
 | [v0, v1, v2, v3, v4], _ => exact ⟨v0, v1, v2, v3, v4, rfl⟩
theorem fin {K:PySem.W.Frag}{h:Heap}{mg:Str→Option Value}{fa f0 f1 f2 f3 f4 f5 f6 f7 f8 f9 f10 f11 f12 f13 f14 f15 f16 f17 f18 f19 f20 f21 f22 f23 f24 f25 f26 f27 f28 f29 f30 f31 f32 f33 f34 f35 f36 f37 f38 f39 f40 f41 f42 f43 f44 f45 f46 f47 f48 c_PruneError c_NoPrice:Addr}(X:K.In h) (G:h.Ns mainGlobals mg) (hfa:mg "law" = some (.ref fa))
  {od0 an0 od1 an1 od2 an2 od3 an3 od4 an4 od5 an5 od6 an6 od7 an7 od8 an8 od9 an9 od10 an10 od11 an11 od12 an12 od13 an13 od14 an14 od15 an15 od16 an16 od17 an17 od18 an18 od19 an19 od20 an20 od21 an21 od22 an22 od23 an23 od24 an24 od25 an25 od26 an26 od27 an27 od28 an28 od29 an29 od30 an30 od31 an31 od32 an32 od33 an33 od34 an34 od35 an35 od36 an36 od37 an37 od38 an38 od39 an39 od40 an40 od41 an41 od42 an42 od43 an43 od44 an44 od45 an45 od46 an46 od47 an47 od48 an48:Option Addr}{sl0 sl1 sl2 sl3 sl4 sl5 sl6 sl7 sl8 sl9 sl10 sl11 sl12 sl13 sl14 sl15 sl16 sl17 sl18 sl19 sl20 sl21 sl22 sl23 sl24 sl25 sl26 sl27 sl28 sl29 sl30 sl31 sl32 sl33 sl34 sl35 sl36 sl37 sl38 sl39 sl40 sl41 sl42 sl43 sl44 sl45 sl46 sl47 sl48:Array (Option Value)}{oc0 kV0 dc0 pm0 cd0 ct0 oc1 kV1 dc1 pm1 cd1 ct1 oc2 kV2 dc2 pm2 cd2 ct2 oc3 kV3 dc3 pm3 cd3 ct3 oc4 kV4 dc4 pm4 cd4 ct4 oc5 kV5 dc5 pm5 cd5 ct5 oc6 kV6 dc6 pm6 cd6 ct6 oc7 kV7 dc7 pm7 cd7 ct7 oc8 kV8 dc8 pm8 cd8 ct8 oc9 kV9 dc9 pm9 cd9 ct9 oc10 kV10 dc10 pm10 cd10 ct10 oc11 kV11 dc11 pm11 cd11 ct11 oc12 kV12 dc12 pm12 cd12 ct12 oc13 kV13 dc13 pm13 cd13 ct13 oc14 kV14 dc14 pm14 cd14 ct14 oc15 kV15 dc15 pm15 cd15 ct15 oc16 kV16 dc16 pm16 cd16 ct16 oc17 kV17 dc17 pm17 cd17 ct17 oc18 kV18 dc18 pm18 cd18 ct18 oc19 kV19 dc19 pm19 cd19 ct19 oc20 kV20 dc20 pm20 cd20 ct20 oc21 kV21 dc21 pm21 cd21 ct21 oc22 kV22 dc22 pm22 cd22 ct22 oc23 kV23 dc23 pm23 cd23 ct23 oc24 kV24 dc24 pm24 cd24 ct24 oc25 kV25 dc25 pm25 cd25 ct25 oc26 kV26 dc26 pm26 cd26 ct26 oc27 kV27 dc27 pm27 cd27 ct27 oc28 kV28 dc28 pm28 cd28 ct28 oc29 kV29 dc29 pm29 cd29 ct29 oc30 kV30 dc30 pm30 cd30 ct30 oc31 kV31 dc31 pm31 cd31 ct31 oc32 kV32 dc32 pm32 cd32 ct32 oc33 kV33 dc33 pm33 cd33 ct33 oc34 kV34 dc34 pm34 cd34 ct34 oc35 kV35 dc35 pm35 cd35 ct35 oc36 kV36 dc36 pm36 cd36 ct36 oc37 kV37 dc37 pm37 cd37 ct37 oc38 kV38 dc38 pm38 cd38 ct38 oc39 kV39 dc39 pm39 cd39 ct39 oc40 kV40 dc40 pm40 cd40 ct40 oc41 kV41 dc41 pm41 cd41 ct41 oc42 kV42 dc42 pm42 cd42 ct42 oc43 kV43 dc43 pm43 cd43 ct43 oc44 kV44 dc44 pm44 cd44 ct44 oc45 kV45 dc45 pm45 cd45 ct45 oc46 kV46 dc46 pm46 cd46 ct46 oc47 kV47 dc47 pm47 cd47 ct47 oc48 kV48 dc48 pm48 cd48 ct48:Value}
  (a_PruneError:PySem.W.nsIn K mainGlobals "PruneError" = some (some (.ref c_PruneError)))
  (sg_PruneError:PySem.W.specialIn K (.ref c_PruneError) "__getattribute__" = some (some (.builtin "type.__getattribute__")))
  (rd_PruneError:PySem.W.readsIn K c_PruneError (.type "type")=true)
  (fc_PruneError:PySem.W.findCls K (.ref c_PruneError) (.type "type") "__init__" = some (.val (.builtin "ValueError.__init__")))
  (a_NoPrice:PySem.W.nsIn K mainGlobals "NoPrice" = some (some (.ref c_NoPrice)))
  (a0:PySem.W.findIn K (.ref c_NoPrice) "__init__" = some (some (.ref f0)))
  (i0:PySem.W.isFn K (.ref f0)=true)
  (xd_NoPrice:excD K c_NoPrice=true)
  (kc_NoPrice:PySem.W.keepIn K (.ref c_NoPrice)=true)
  (sa_NoPrice:PySem.W.findIn K (.ref c_NoPrice) "__setattr__" = some (some (.builtin "object.__setattr__")))
  (hdi_NoPrice:PySem.W.hasDictIn K c_NoPrice=true)
  (ga_NoPrice:PySem.W.findIn K (.ref c_NoPrice) "__getattribute__" = some (some (.builtin "BaseException.__getattribute__")))
  (gt_NoPrice:PySem.W.findIn K (.ref c_NoPrice) "__getattr__" = some none)
  (cl_NoPrice:PySem.W.findIn K (.ref c_NoPrice) "__class__" = some (some (.builtin "object.__class__")))
  (mb_NoPrice:PySem.W.mroIn K c_NoPrice (.type "BaseException")=some true)
  (mo_NoPrice:PySem.W.mroIn K c_NoPrice (.type "object")=some true)
  (l0:K.lookup f0=some ⟨oc0,od0,.func (PySem.W.fnOf "__init__" "NoPrice.__init__" (defArgs s_q1) (defBody s_q1) (defScope s_q1) .none kV0 dc0 pm0 an0 cd0 ct0),sl0⟩)
  (k_c0:PySem.W.codeIn K cd0 "NoPrice.__init__" = true)
  (k_k0:PySem.W.keepIn K (.ref f0)=true)
  (a1:PySem.W.nsIn K mainGlobals "greatest_divisor" = some (some (.ref f1)))
  (l1:K.lookup f1=some ⟨oc1,od1,.func (PySem.W.fnOf "greatest_divisor" "greatest_divisor" (defArgs s_q2) (defBody s_q2) (defScope s_q2) .none kV1 dc1 pm1 an1 cd1 ct1),sl1⟩)
  (k_c1:PySem.W.codeIn K cd1 "greatest_divisor" = true)
  (k_k1:PySem.W.keepIn K (.ref f1)=true)
  (a2:PySem.W.nsIn K mainGlobals "plus" = some (some (.ref f2)))
  (l2:K.lookup f2=some ⟨oc2,od2,.func (PySem.W.fnOf "plus" "plus" (defArgs s_j9) (defBody s_j9) (defScope s_j9) .none kV2 dc2 pm2 an2 cd2 ct2),sl2⟩)
  (k_c2:PySem.W.codeIn K cd2 "plus" = true)
  (k_k2:PySem.W.keepIn K (.ref f2)=true)
  (a3:PySem.W.nsIn K mainGlobals "minus" = some (some (.ref f3)))
  (l3:K.lookup f3=some ⟨oc3,od3,.func (PySem.W.fnOf "minus" "minus" (defArgs s_j6) (defBody s_j6) (defScope s_j6) .none kV3 dc3 pm3 an3 cd3 ct3),sl3⟩)
  (k_c3:PySem.W.codeIn K cd3 "minus" = true)
  (k_k3:PySem.W.keepIn K (.ref f3)=true)
  (a4:PySem.W.nsIn K mainGlobals "under" = some (some (.ref f4)))
  (l4:K.lookup f4=some ⟨oc4,od4,.func (PySem.W.fnOf "under" "under" (defArgs s_j7) (defBody s_j7) (defScope s_j7) .none kV4 dc4 pm4 an4 cd4 ct4),sl4⟩)
  (k_c4:PySem.W.codeIn K cd4 "under" = true)
  (k_k4:PySem.W.keepIn K (.ref f4)=true)
  (a5:PySem.W.nsIn K mainGlobals "trees_by_place" = some (some (.ref f5)))
  (l5:K.lookup f5=some ⟨oc5,od5,.func (PySem.W.fnOf "trees_by_place" "trees_by_place" (defArgs s_q4) (defBody s_q4) (defScope s_q4) .none kV5 dc5 pm5 an5 cd5 ct5),sl5⟩)
  (k_c5:PySem.W.codeIn K cd5 "trees_by_place" = true)
  (k_k5:PySem.W.keepIn K (.ref f5)=true)
  (a6:PySem.W.nsIn K mainGlobals "places_of" = some (some (.ref f6)))
  (l6:K.lookup f6=some ⟨oc6,od6,.func (PySem.W.fnOf "places_of" "places_of" (defArgs s_qQ) (defBody s_qQ) (defScope s_qQ) .none kV6 dc6 pm6 an6 cd6 ct6),sl6⟩)
  (k_c6:PySem.W.codeIn K cd6 "places_of" = true)
  (k_k6:PySem.W.keepIn K (.ref f6)=true)
  (a7:PySem.W.nsIn K mainGlobals "forks" = some (some (.ref f7)))
  (l7:K.lookup f7=some ⟨oc7,od7,.func (PySem.W.fnOf "forks" "forks" (defArgs s_j8) (defBody s_j8) (defScope s_j8) .none kV7 dc7 pm7 an7 cd7 ct7),sl7⟩)
  (k_c7:PySem.W.codeIn K cd7 "forks" = true)
  (k_k7:PySem.W.keepIn K (.ref f7)=true)
  (a8:PySem.W.nsIn K mainGlobals "common_bottom" = some (some (.ref f8)))
  (l8:K.lookup f8=some ⟨oc8,od8,.func (PySem.W.fnOf "common_bottom" "common_bottom" (defArgs s_q8) (defBody s_q8) (defScope s_q8) .none kV8 dc8 pm8 an8 cd8 ct8),sl8⟩)
  (k_c8:PySem.W.codeIn K cd8 "common_bottom" = true)
  (k_k8:PySem.W.keepIn K (.ref f8)=true)
  (a9:PySem.W.nsIn K mainGlobals "lifted" = some (some (.ref f9)))
  (l9:K.lookup f9=some ⟨oc9,od9,.func (PySem.W.fnOf "lifted" "lifted" (defArgs s_j4) (defBody s_j4) (defScope s_j4) .none kV9 dc9 pm9 an9 cd9 ct9),sl9⟩)
  (k_c9:PySem.W.codeIn K cd9 "lifted" = true)
  (k_k9:PySem.W.keepIn K (.ref f9)=true)
  (a10:PySem.W.nsIn K mainGlobals "in_whole_costs" = some (some (.ref f10)))
  (l10:K.lookup f10=some ⟨oc10,od10,.func (PySem.W.fnOf "in_whole_costs" "in_whole_costs" (defArgs s_q5) (defBody s_q5) (defScope s_q5) .none kV10 dc10 pm10 an10 cd10 ct10),sl10⟩)
  (k_c10:PySem.W.codeIn K cd10 "in_whole_costs" = true)
  (k_k10:PySem.W.keepIn K (.ref f10)=true)
  (a11:PySem.W.nsIn K mainGlobals "beginnings" = some (some (.ref f11)))
  (l11:K.lookup f11=some ⟨oc11,od11,.func (PySem.W.fnOf "beginnings" "beginnings" (defArgs s_qI) (defBody s_qI) (defScope s_qI) .none kV11 dc11 pm11 an11 cd11 ct11),sl11⟩)
  (k_c11:PySem.W.codeIn K cd11 "beginnings" = true)
  (k_k11:PySem.W.keepIn K (.ref f11)=true)
  (a12:PySem.W.nsIn K mainGlobals "check_price" = some (some (.ref f12)))
  (l12:K.lookup f12=some ⟨oc12,od12,.func (PySem.W.fnOf "check_price" "check_price" (defArgs s_qE) (defBody s_qE) (defScope s_qE) .none kV12 dc12 pm12 an12 cd12 ct12),sl12⟩)
  (k_c12:PySem.W.codeIn K cd12 "check_price" = true)
  (k_k12:PySem.W.keepIn K (.ref f12)=true)
  (a13:PySem.W.nsIn K mainGlobals "unreduced_sum" = some (some (.ref f13)))
  (l13:K.lookup f13=some ⟨oc13,od13,.func (PySem.W.fnOf "unreduced_sum" "unreduced_sum" (defArgs s_q9) (defBody s_q9) (defScope s_q9) .none kV13 dc13 pm13 an13 cd13 ct13),sl13⟩)
  (k_c13:PySem.W.codeIn K cd13 "unreduced_sum" = true)
  (k_k13:PySem.W.keepIn K (.ref f13)=true)
  (a14:PySem.W.nsIn K mainGlobals "cheapest_with_cost" = some (some (.ref f14)))
  (l14:K.lookup f14=some ⟨oc14,od14,.func (PySem.W.fnOf "cheapest_with_cost" "cheapest_with_cost" (defArgs s_q0) (defBody s_q0) (defScope s_q0) .none kV14 dc14 pm14 an14 cd14 ct14),sl14⟩)
  (k_c14:PySem.W.codeIn K cd14 "cheapest_with_cost" = true)
  (k_k14:PySem.W.keepIn K (.ref f14)=true)
  (a15:PySem.W.nsIn K mainGlobals "cheapest" = some (some (.ref f15)))
  (l15:K.lookup f15=some ⟨oc15,od15,.func (PySem.W.fnOf "cheapest" "cheapest" (defArgs s_qY) (defBody s_qY) (defScope s_qY) .none kV15 dc15 pm15 an15 cd15 ct15),sl15⟩)
  (k_c15:PySem.W.codeIn K cd15 "cheapest" = true)
  (k_k15:PySem.W.keepIn K (.ref f15)=true)
  (a16:PySem.W.nsIn K mainGlobals "forks_inside" = some (some (.ref f16)))
  (l16:K.lookup f16=some ⟨oc16,od16,.func (PySem.W.fnOf "forks_inside" "forks_inside" (defArgs s_qB) (defBody s_qB) (defScope s_qB) .none kV16 dc16 pm16 an16 cd16 ct16),sl16⟩)
  (k_c16:PySem.W.codeIn K cd16 "forks_inside" = true)
  (k_k16:PySem.W.keepIn K (.ref f16)=true)
  (a17:PySem.W.nsIn K mainGlobals "shared_out" = some (some (.ref f17)))
  (l17:K.lookup f17=some ⟨oc17,od17,.func (PySem.W.fnOf "shared_out" "shared_out" (defArgs s_qJ) (defBody s_qJ) (defScope s_qJ) .none kV17 dc17 pm17 an17 cd17 ct17),sl17⟩)
  (k_c17:PySem.W.codeIn K cd17 "shared_out" = true)
  (k_k17:PySem.W.keepIn K (.ref f17)=true)
  (a18:PySem.W.nsIn K mainGlobals "link_inside" = some (some (.ref f18)))
  (l18:K.lookup f18=some ⟨oc18,od18,.func (PySem.W.fnOf "link_inside" "link_inside" (defArgs s_qF) (defBody s_qF) (defScope s_qF) .none kV18 dc18 pm18 an18 cd18 ct18),sl18⟩)
  (k_c18:PySem.W.codeIn K cd18 "link_inside" = true)
  (k_k18:PySem.W.keepIn K (.ref f18)=true)
  (a19:PySem.W.nsIn K mainGlobals "cut" = some (some (.ref f19)))
  (l19:K.lookup f19=some ⟨oc19,od19,.func (PySem.W.fnOf "cut" "cut" (defArgs s_jB) (defBody s_jB) (defScope s_jB) .none kV19 dc19 pm19 an19 cd19 ct19),sl19⟩)
  (k_c19:PySem.W.codeIn K cd19 "cut" = true)
  (k_k19:PySem.W.keepIn K (.ref f19)=true)
  (a20:PySem.W.nsIn K mainGlobals "sums_and_leaves" = some (some (.ref f20)))
  (l20:K.lookup f20=some ⟨oc20,od20,.func (PySem.W.fnOf "sums_and_leaves" "sums_and_leaves" (defArgs s_q3) (defBody s_q3) (defScope s_q3) .none kV20 dc20 pm20 an20 cd20 ct20),sl20⟩)
  (k_c20:PySem.W.codeIn K cd20 "sums_and_leaves" = true)
  (k_k20:PySem.W.keepIn K (.ref f20)=true)
  (a21:PySem.W.nsIn K mainGlobals "whole_links" = some (some (.ref f21)))
  (l21:K.lookup f21=some ⟨oc21,od21,.func (PySem.W.fnOf "whole_links" "whole_links" (defArgs s_qG) (defBody s_qG) (defScope s_qG) .none kV21 dc21 pm21 an21 cd21 ct21),sl21⟩)
  (k_c21:PySem.W.codeIn K cd21 "whole_links" = true)
  (k_k21:PySem.W.keepIn K (.ref f21)=true)
  (a22:PySem.W.nsIn K mainGlobals "least_linked" = some (some (.ref f22)))
  (l22:K.lookup f22=some ⟨oc22,od22,.func (PySem.W.fnOf "least_linked" "least_linked" (defArgs s_qC) (defBody s_qC) (defScope s_qC) .none kV22 dc22 pm22 an22 cd22 ct22),sl22⟩)
  (k_c22:PySem.W.codeIn K cd22 "least_linked" = true)
  (k_k22:PySem.W.keepIn K (.ref f22)=true)
  (a23:PySem.W.nsIn K mainGlobals "path" = some (some (.ref f23)))
  (l23:K.lookup f23=some ⟨oc23,od23,.func (PySem.W.fnOf "path" "path" (defArgs s_jA) (defBody s_jA) (defScope s_jA) .none kV23 dc23 pm23 an23 cd23 ct23),sl23⟩)
  (k_c23:PySem.W.codeIn K cd23 "path" = true)
  (k_k23:PySem.W.keepIn K (.ref f23)=true)
  (a24:PySem.W.nsIn K mainGlobals "last_not_above" = some (some (.ref f24)))
  (l24:K.lookup f24=some ⟨oc24,od24,.func (PySem.W.fnOf "last_not_above" "last_not_above" (defArgs s_q6) (defBody s_q6) (defScope s_q6) .none kV24 dc24 pm24 an24 cd24 ct24),sl24⟩)
  (k_c24:PySem.W.codeIn K cd24 "last_not_above" = true)
  (k_k24:PySem.W.keepIn K (.ref f24)=true)
  (a25:PySem.W.nsIn K mainGlobals "for_price" = some (some (.ref f25)))
  (l25:K.lookup f25=some ⟨oc25,od25,.func (PySem.W.fnOf "for_price" "for_price" (defArgs s_qR) (defBody s_qR) (defScope s_qR) .none kV25 dc25 pm25 an25 cd25 ct25),sl25⟩)
  (k_c25:PySem.W.codeIn K cd25 "for_price" = true)
  (k_k25:PySem.W.keepIn K (.ref f25)=true)
  (a26:PySem.W.nsIn K mainGlobals "_law_cell" = some (some (.ref f26)))
  (l26:K.lookup f26=some ⟨oc26,od26,.func (PySem.W.fnOf "_law_cell" "_law_cell" (defArgs s_qZ) (defBody s_qZ) (defScope s_qZ) .none kV26 dc26 pm26 an26 cd26 ct26),sl26⟩)
  (k_c26:PySem.W.codeIn K cd26 "_law_cell" = true)
  (k_k26:PySem.W.keepIn K (.ref f26)=true)
  (a27:PySem.W.nsIn K mainGlobals "_law_pick" = some (some (.ref f27)))
  (l27:K.lookup f27=some ⟨oc27,od27,.func (PySem.W.fnOf "_law_pick" "_law_pick" (defArgs s_j0) (defBody s_j0) (defScope s_j0) .none kV27 dc27 pm27 an27 cd27 ct27),sl27⟩)
  (k_c27:PySem.W.codeIn K cd27 "_law_pick" = true)
  (k_k27:PySem.W.keepIn K (.ref f27)=true)
  (a28:PySem.W.nsIn K mainGlobals "_law_lowest" = some (some (.ref f28)))
  (l28:K.lookup f28=some ⟨oc28,od28,.func (PySem.W.fnOf "_law_lowest" "_law_lowest" (defArgs s_qK) (defBody s_qK) (defScope s_qK) .none kV28 dc28 pm28 an28 cd28 ct28),sl28⟩)
  (k_c28:PySem.W.codeIn K cd28 "_law_lowest" = true)
  (k_k28:PySem.W.keepIn K (.ref f28)=true)
  (a29:PySem.W.nsIn K mainGlobals "_law_worth" = some (some (.ref f29)))
  (l29:K.lookup f29=some ⟨oc29,od29,.func (PySem.W.fnOf "_law_worth" "_law_worth" (defArgs s_qS) (defBody s_qS) (defScope s_qS) .none kV29 dc29 pm29 an29 cd29 ct29),sl29⟩)
  (k_c29:PySem.W.codeIn K cd29 "_law_worth" = true)
  (k_k29:PySem.W.keepIn K (.ref f29)=true)
  (a30:PySem.W.nsIn K mainGlobals "_law_joined" = some (some (.ref f30)))
  (l30:K.lookup f30=some ⟨oc30,od30,.func (PySem.W.fnOf "_law_joined" "_law_joined" (defArgs s_qL) (defBody s_qL) (defScope s_qL) .none kV30 dc30 pm30 an30 cd30 ct30),sl30⟩)
  (k_c30:PySem.W.codeIn K cd30 "_law_joined" = true)
  (k_k30:PySem.W.keepIn K (.ref f30)=true)
  (a31:PySem.W.nsIn K mainGlobals "_law_tree" = some (some (.ref f31)))
  (l31:K.lookup f31=some ⟨oc31,od31,.func (PySem.W.fnOf "_law_tree" "_law_tree" (defArgs s_j1) (defBody s_j1) (defScope s_j1) .none kV31 dc31 pm31 an31 cd31 ct31),sl31⟩)
  (k_c31:PySem.W.codeIn K cd31 "_law_tree" = true)
  (k_k31:PySem.W.keepIn K (.ref f31)=true)
  (a32:PySem.W.nsIn K mainGlobals "_law_digit" = some (some (.ref f32)))
  (l32:K.lookup f32=some ⟨oc32,od32,.func (PySem.W.fnOf "_law_digit" "_law_digit" (defArgs s_qT) (defBody s_qT) (defScope s_qT) .none kV32 dc32 pm32 an32 cd32 ct32),sl32⟩)
  (k_c32:PySem.W.codeIn K cd32 "_law_digit" = true)
  (k_k32:PySem.W.keepIn K (.ref f32)=true)
  (a33:PySem.W.nsIn K mainGlobals "_law_dug_from" = some (some (.ref f33)))
  (l33:K.lookup f33=some ⟨oc33,od33,.func (PySem.W.fnOf "_law_dug_from" "_law_dug_from" (defArgs s_qD) (defBody s_qD) (defScope s_qD) .none kV33 dc33 pm33 an33 cd33 ct33),sl33⟩)
  (k_c33:PySem.W.codeIn K cd33 "_law_dug_from" = true)
  (k_k33:PySem.W.keepIn K (.ref f33)=true)
  (a34:PySem.W.nsIn K mainGlobals "_law_dug" = some (some (.ref f34)))
  (l34:K.lookup f34=some ⟨oc34,od34,.func (PySem.W.fnOf "_law_dug" "_law_dug" (defArgs s_j2) (defBody s_j2) (defScope s_j2) .none kV34 dc34 pm34 an34 cd34 ct34),sl34⟩)
  (k_c34:PySem.W.codeIn K cd34 "_law_dug" = true)
  (k_k34:PySem.W.keepIn K (.ref f34)=true)
  (a35:PySem.W.nsIn K mainGlobals "_law_level" = some (some (.ref f35)))
  (l35:K.lookup f35=some ⟨oc35,od35,.func (PySem.W.fnOf "_law_level" "_law_level" (defArgs s_qU) (defBody s_qU) (defScope s_qU) .none kV35 dc35 pm35 an35 cd35 ct35),sl35⟩)
  (k_c35:PySem.W.codeIn K cd35 "_law_level" = true)
  (k_k35:PySem.W.keepIn K (.ref f35)=true)
  (a36:PySem.W.nsIn K mainGlobals "_law_handed" = some (some (.ref f36)))
  (l36:K.lookup f36=some ⟨oc36,od36,.func (PySem.W.fnOf "_law_handed" "_law_handed" (defArgs s_qM) (defBody s_qM) (defScope s_qM) .none kV36 dc36 pm36 an36 cd36 ct36),sl36⟩)
  (k_c36:PySem.W.codeIn K cd36 "_law_handed" = true)
  (k_k36:PySem.W.keepIn K (.ref f36)=true)
  (a37:PySem.W.nsIn K mainGlobals "_law_bottom" = some (some (.ref f37)))
  (l37:K.lookup f37=some ⟨oc37,od37,.func (PySem.W.fnOf "_law_bottom" "_law_bottom" (defArgs s_qN) (defBody s_qN) (defScope s_qN) .none kV37 dc37 pm37 an37 cd37 ct37),sl37⟩)
  (k_c37:PySem.W.codeIn K cd37 "_law_bottom" = true)
  (k_k37:PySem.W.keepIn K (.ref f37)=true)
  (a38:PySem.W.nsIn K mainGlobals "_law_at" = some (some (.ref f38)))
  (l38:K.lookup f38=some ⟨oc38,od38,.func (PySem.W.fnOf "_law_at" "_law_at" (defArgs s_j5) (defBody s_j5) (defScope s_j5) .none kV38 dc38 pm38 an38 cd38 ct38),sl38⟩)
  (k_c38:PySem.W.codeIn K cd38 "_law_at" = true)
  (k_k38:PySem.W.keepIn K (.ref f38)=true)
  (a39:PySem.W.nsIn K mainGlobals "_law_bag" = some (some (.ref f39)))
  (l39:K.lookup f39=some ⟨oc39,od39,.func (PySem.W.fnOf "_law_bag" "_law_bag" (defArgs s_j3) (defBody s_j3) (defScope s_j3) .none kV39 dc39 pm39 an39 cd39 ct39),sl39⟩)
  (k_c39:PySem.W.codeIn K cd39 "_law_bag" = true)
  (k_k39:PySem.W.keepIn K (.ref f39)=true)
  (a40:PySem.W.nsIn K mainGlobals "_law_pruned" = some (some (.ref f40)))
  (l40:K.lookup f40=some ⟨oc40,od40,.func (PySem.W.fnOf "_law_pruned" "_law_pruned" (defArgs s_qO) (defBody s_qO) (defScope s_qO) .none kV40 dc40 pm40 an40 cd40 ct40),sl40⟩)
  (k_c40:PySem.W.codeIn K cd40 "_law_pruned" = true)
  (k_k40:PySem.W.keepIn K (.ref f40)=true)
  (a41:PySem.W.nsIn K mainGlobals "_law_places" = some (some (.ref f41)))
  (l41:K.lookup f41=some ⟨oc41,od41,.func (PySem.W.fnOf "_law_places" "_law_places" (defArgs s_qP) (defBody s_qP) (defScope s_qP) .none kV41 dc41 pm41 an41 cd41 ct41),sl41⟩)
  (k_c41:PySem.W.codeIn K cd41 "_law_places" = true)
  (k_k41:PySem.W.keepIn K (.ref f41)=true)
  (a42:PySem.W.nsIn K mainGlobals "_law_price" = some (some (.ref f42)))
  (l42:K.lookup f42=some ⟨oc42,od42,.func (PySem.W.fnOf "_law_price" "_law_price" (defArgs s_qV) (defBody s_qV) (defScope s_qV) .none kV42 dc42 pm42 an42 cd42 ct42),sl42⟩)
  (k_c42:PySem.W.codeIn K cd42 "_law_price" = true)
  (k_k42:PySem.W.keepIn K (.ref f42)=true)
  (a43:PySem.W.nsIn K mainGlobals "_law_total" = some (some (.ref f43)))
  (l43:K.lookup f43=some ⟨oc43,od43,.func (PySem.W.fnOf "_law_total" "_law_total" (defArgs s_qW) (defBody s_qW) (defScope s_qW) .none kV43 dc43 pm43 an43 cd43 ct43),sl43⟩)
  (k_c43:PySem.W.codeIn K cd43 "_law_total" = true)
  (k_k43:PySem.W.keepIn K (.ref f43)=true)
  (a44:PySem.W.nsIn K mainGlobals "_law_lies_in" = some (some (.ref f44)))
  (l44:K.lookup f44=some ⟨oc44,od44,.func (PySem.W.fnOf "_law_lies_in" "_law_lies_in" (defArgs s_qH) (defBody s_qH) (defScope s_qH) .none kV44 dc44 pm44 an44 cd44 ct44),sl44⟩)
  (k_c44:PySem.W.codeIn K cd44 "_law_lies_in" = true)
  (k_k44:PySem.W.keepIn K (.ref f44)=true)
  (a45:PySem.W.nsIn K mainGlobals "_law_is_pruning" = some (some (.ref f45)))
  (l45:K.lookup f45=some ⟨oc45,od45,.func (PySem.W.fnOf "_law_is_pruning" "_law_is_pruning" (defArgs s_q7) (defBody s_q7) (defScope s_q7) .none kV45 dc45 pm45 an45 cd45 ct45),sl45⟩)
  (k_c45:PySem.W.codeIn K cd45 "_law_is_pruning" = true)
  (k_k45:PySem.W.keepIn K (.ref f45)=true)
  (a46:PySem.W.nsIn K mainGlobals "_law_are_steps" = some (some (.ref f46)))
  (l46:K.lookup f46=some ⟨oc46,od46,.func (PySem.W.fnOf "_law_are_steps" "_law_are_steps" (defArgs s_qA) (defBody s_qA) (defScope s_qA) .none kV46 dc46 pm46 an46 cd46 ct46),sl46⟩)
  (k_c46:PySem.W.codeIn K cd46 "_law_are_steps" = true)
  (k_k46:PySem.W.keepIn K (.ref f46)=true)
  (a47:PySem.W.nsIn K mainGlobals "_law_asked" = some (some (.ref f47)))
  (l47:K.lookup f47=some ⟨oc47,od47,.func (PySem.W.fnOf "_law_asked" "_law_asked" (defArgs s_qX) (defBody s_qX) (defScope s_qX) .none kV47 dc47 pm47 an47 cd47 ct47),sl47⟩)
  (k_c47:PySem.W.codeIn K cd47 "_law_asked" = true)
  (k_k47:PySem.W.keepIn K (.ref f47)=true)
  (a48:PySem.W.nsIn K mainGlobals "law" = some (some (.ref f48)))
  (l48:K.lookup f48=some ⟨oc48,od48,.func (PySem.W.fnOf "law" "law" (defArgs s_law) (defBody s_law) (defScope s_law) .none kV48 dc48 pm48 an48 cd48 ct48),sl48⟩)
  (k_c48:PySem.W.codeIn K cd48 "law" = true)
  (k_k48:PySem.W.keepIn K (.ref f48)=true)
  (z_abs:PySem.W.nsIn K mainGlobals "abs" = some none)
  (z_all:PySem.W.nsIn K mainGlobals "all" = some none)
  (z_any:PySem.W.nsIn K mainGlobals "any" = some none)
  (z_bool:PySem.W.nsIn K mainGlobals "bool" = some none)
  (z_enumerate:PySem.W.nsIn K mainGlobals "enumerate" = some none)
  (z_int:PySem.W.nsIn K mainGlobals "int" = some none)
  (z_isinstance:PySem.W.nsIn K mainGlobals "isinstance" = some none)
  (z_len:PySem.W.nsIn K mainGlobals "len" = some none)
  (z_list:PySem.W.nsIn K mainGlobals "list" = some none)
  (z_range:PySem.W.nsIn K mainGlobals "range" = some none)
  (z_reversed:PySem.W.nsIn K mainGlobals "reversed" = some none)
  (z_set:PySem.W.nsIn K mainGlobals "set" = some none)
  (z_sorted:PySem.W.nsIn K mainGlobals "sorted" = some none)
  (z_str:PySem.W.nsIn K mainGlobals "str" = some none)
  (z_sum:PySem.W.nsIn K mainGlobals "sum" = some none)
  (z_tuple:PySem.W.nsIn K mainGlobals "tuple" = some none)
  (hnPp:PySem.W.findIn K (.ref c_NoPrice) "price" = some none)
  : ∃ T:Tx K mg,T.f_law=fa∧∀ (s:Shared) (u:Value),BindsTo s T.d_law ⟨[u],[]⟩ [("_law_script", u)]:=by
 have e:=hfa.symm.trans (PySem.W.mg_of X G a48)
 cases e
 have F0:=fun_mk (st:=s_q1) l0 k_c0 k_k0
 have b0:=F0.binds (ps:=["self", "price"]) fun _ _ _ _ _ _ us hl=>by obtain ⟨v0,v1,rfl⟩:=ln2 hl;rfl
 have F1:=fun_mk (st:=s_q2) l1 k_c1 k_k1
 have b1:=F1.binds (ps:=["one", "other"]) fun _ _ _ _ _ _ us hl=>by obtain ⟨v0,v1,rfl⟩:=ln2 hl;rfl
 have F2:=fun_mk (st:=s_j9) l2 k_c2 k_k2
 have b2:=F2.binds (ps:=["one", "other"]) fun _ _ _ _ _ _ us hl=>by obtain ⟨v0,v1,rfl⟩:=ln2 hl;rfl
 have F3:=fun_mk (st:=s_j6) l3 k_c3 k_k3
 have b3:=F3.binds (ps:=["one", "other"]) fun _ _ _ _ _ _ us hl=>by obtain ⟨v0,v1,rfl⟩:=ln2 hl;rfl
 have F4:=fun_mk (st:=s_j7) l4 k_c4 k_k4
 have b4:=F4.binds (ps:=["one", "other"]) fun _ _ _ _ _ _ us hl=>by obtain ⟨v0,v1,rfl⟩:=ln2 hl;rfl
 have F5:=fun_mk (st:=s_q4) l5 k_c5 k_k5
 have b5:=F5.binds (ps:=["tree"]) fun _ _ _ _ _ _ us hl=>by obtain ⟨v0,rfl⟩:=ln1 hl;rfl
 have F6:=fun_mk (st:=s_qQ) l6 k_c6 k_k6
 have b6:=F6.binds (ps:=["tree", "sort"]) fun _ _ _ _ _ _ us hl=>by obtain ⟨v0,v1,rfl⟩:=ln2 hl;rfl
 have F7:=fun_mk (st:=s_j8) l7 k_c7 k_k7
 have b7:=F7.binds (ps:=["tree"]) fun _ _ _ _ _ _ us hl=>by obtain ⟨v0,rfl⟩:=ln1 hl;rfl
 have F8:=fun_mk (st:=s_q8) l8 k_c8 k_k8
 have b8:=F8.binds (ps:=["tree"]) fun _ _ _ _ _ _ us hl=>by obtain ⟨v0,rfl⟩:=ln1 hl;rfl
 have F9:=fun_mk (st:=s_j4) l9 k_c9 k_k9
 have b9:=F9.binds (ps:=["tree", "bottom"]) fun _ _ _ _ _ _ us hl=>by obtain ⟨v0,v1,rfl⟩:=ln2 hl;rfl
 have F10:=fun_mk (st:=s_q5) l10 k_c10 k_k10
 have b10:=F10.binds (ps:=["tree"]) fun _ _ _ _ _ _ us hl=>by obtain ⟨v0,rfl⟩:=ln1 hl;rfl
 have F11:=fun_mk (st:=s_qI) l11 k_c11 k_k11
 have b11:=F11.binds (ps:=["place", "places"]) fun _ _ _ _ _ _ us hl=>by obtain ⟨v0,v1,rfl⟩:=ln2 hl;rfl
 have F12:=fun_mk (st:=s_qE) l12 k_c12 k_k12
 have b12:=F12.binds (ps:=["price"]) fun _ _ _ _ _ _ us hl=>by obtain ⟨v0,rfl⟩:=ln1 hl;rfl
 have F13:=fun_mk (st:=s_q9) l13 k_c13 k_k13
 have b13:=F13.binds (ps:=["one", "other"]) fun _ _ _ _ _ _ us hl=>by obtain ⟨v0,v1,rfl⟩:=ln2 hl;rfl
 have F14:=fun_mk (st:=s_q0) l14 k_c14 k_k14
 have b14:=F14.binds (ps:=["tree", "price"]) fun _ _ _ _ _ _ us hl=>by obtain ⟨v0,v1,rfl⟩:=ln2 hl;rfl
 have F15:=fun_mk (st:=s_qY) l15 k_c15 k_k15
 have b15:=F15.binds (ps:=["tree", "price"]) fun _ _ _ _ _ _ us hl=>by obtain ⟨v0,v1,rfl⟩:=ln2 hl;rfl
 have F16:=fun_mk (st:=s_qB) l16 k_c16 k_k16
 have b16:=F16.binds (ps:=["tree", "places"]) fun _ _ _ _ _ _ us hl=>by obtain ⟨v0,v1,rfl⟩:=ln2 hl;rfl
 have F17:=fun_mk (st:=s_qJ) l17 k_c17 k_k17
 have b17:=F17.binds (ps:=["one", "many"]) fun _ _ _ _ _ _ us hl=>by obtain ⟨v0,v1,rfl⟩:=ln2 hl;rfl
 have F18:=fun_mk (st:=s_qF) l18 k_c18 k_k18
 have b18:=F18.binds (ps:=["tree", "places", "fork"]) fun _ _ _ _ _ _ us hl=>by obtain ⟨v0,v1,v2,rfl⟩:=ln3 hl;rfl
 have F19:=fun_mk (st:=s_jB) l19 k_c19 k_k19
 have b19:=F19.binds (ps:=["places", "places_of_forks"]) fun _ _ _ _ _ _ us hl=>by obtain ⟨v0,v1,rfl⟩:=ln2 hl;rfl
 have F20:=fun_mk (st:=s_q3) l20 k_c20 k_k20
 have b20:=F20.binds (ps:=["whole", "places"]) fun _ _ _ _ _ _ us hl=>by obtain ⟨v0,v1,rfl⟩:=ln2 hl;rfl
 have F21:=fun_mk (st:=s_qG) l21 k_c21 k_k21
 have b21:=F21.binds (ps:=["whole", "places"]) fun _ _ _ _ _ _ us hl=>by obtain ⟨v0,v1,rfl⟩:=ln2 hl;rfl
 have F22:=fun_mk (st:=s_qC) l22 k_c22 k_k22
 have b22:=F22.binds (ps:=["whole", "places"]) fun _ _ _ _ _ _ us hl=>by obtain ⟨v0,v1,rfl⟩:=ln2 hl;rfl
 have F23:=fun_mk (st:=s_jA) l23 k_c23 k_k23
 have b23:=F23.binds (ps:=["tree"]) fun _ _ _ _ _ _ us hl=>by obtain ⟨v0,rfl⟩:=ln1 hl;rfl
 have F24:=fun_mk (st:=s_q6) l24 k_c24 k_k24
 have b24:=F24.binds (ps:=["steps", "price"]) fun _ _ _ _ _ _ us hl=>by obtain ⟨v0,v1,rfl⟩:=ln2 hl;rfl
 have F25:=fun_mk (st:=s_qR) l25 k_c25 k_k25
 have b25:=F25.binds (ps:=["steps", "price"]) fun _ _ _ _ _ _ us hl=>by obtain ⟨v0,v1,rfl⟩:=ln2 hl;rfl
 have F26:=fun_mk (st:=s_qZ) l26 k_c26 k_k26
 have b26:=F26.binds (ps:=["_law_script", "_law_k"]) fun _ _ _ _ _ _ us hl=>by obtain ⟨v0,v1,rfl⟩:=ln2 hl;rfl
 have F27:=fun_mk (st:=s_j0) l27 k_c27 k_k27
 have b27:=F27.binds (ps:=["_law_cell_here", "_law_turn", "_law_many"]) fun _ _ _ _ _ _ us hl=>by obtain ⟨v0,v1,v2,rfl⟩:=ln3 hl;rfl
 have F28:=fun_mk (st:=s_qK) l28 k_c28 k_k28
 have b28:=F28.binds (ps:=["_law_top", "_law_bottom_here"]) fun _ _ _ _ _ _ us hl=>by obtain ⟨v0,v1,rfl⟩:=ln2 hl;rfl
 have F29:=fun_mk (st:=s_qS) l29 k_c29 k_k29
 have b29:=F29.binds (ps:=["_law_cell_here", "_law_way"]) fun _ _ _ _ _ _ us hl=>by obtain ⟨v0,v1,rfl⟩:=ln2 hl;rfl
 have F30:=fun_mk (st:=s_qL) l30 k_c30 k_k30
 have b30:=F30.binds (ps:=["_law_cell_here", "_law_one", "_law_two", "_law_way"]) fun _ _ _ _ _ _ us hl=>by obtain ⟨v0,v1,v2,v3,rfl⟩:=ln4 hl;rfl
 have F31:=fun_mk (st:=s_j1) l31 k_c31 k_k31
 have b31:=F31.binds (ps:=["_law_cells", "_law_way"]) fun _ _ _ _ _ _ us hl=>by obtain ⟨v0,v1,rfl⟩:=ln2 hl;rfl
 have F32:=fun_mk (st:=s_qT) l32 k_c32 k_k32
 have b32:=F32.binds (ps:=["_law_bag_here", "_law_many"]) fun _ _ _ _ _ _ us hl=>by obtain ⟨v0,v1,rfl⟩:=ln2 hl;rfl
 have F33:=fun_mk (st:=s_qD) l33 k_c33 k_k33
 have b33:=F33.binds (ps:=["_law_bag_here", "_law_span"]) fun _ _ _ _ _ _ us hl=>by obtain ⟨v0,v1,rfl⟩:=ln2 hl;rfl
 have F34:=fun_mk (st:=s_j2) l34 k_c34 k_k34
 have b34:=F34.binds (ps:=["_law_cell_here"]) fun _ _ _ _ _ _ us hl=>by obtain ⟨v0,rfl⟩:=ln1 hl;rfl
 have F35:=fun_mk (st:=s_qU) l35 k_c35 k_k35
 have b35:=F35.binds (ps:=["_law_cell_here", "_law_many", "_law_turn"]) fun _ _ _ _ _ _ us hl=>by obtain ⟨v0,v1,v2,rfl⟩:=ln3 hl;rfl
 have F36:=fun_mk (st:=s_qM) l36 k_c36 k_k36
 have b36:=F36.binds (ps:=["_law_tree_here", "_law_bottom_here"]) fun _ _ _ _ _ _ us hl=>by obtain ⟨v0,v1,rfl⟩:=ln2 hl;rfl
 have F37:=fun_mk (st:=s_qN) l37 k_c37 k_k37
 have b37:=F37.binds (ps:=["_law_cell_here"]) fun _ _ _ _ _ _ us hl=>by obtain ⟨v0,rfl⟩:=ln1 hl;rfl
 have F38:=fun_mk (st:=s_j5) l38 k_c38 k_k38
 have b38:=F38.binds (ps:=["_law_tree_here", "_law_place"]) fun _ _ _ _ _ _ us hl=>by obtain ⟨v0,v1,rfl⟩:=ln2 hl;rfl
 have F39:=fun_mk (st:=s_j3) l39 k_c39 k_k39
 have b39:=F39.binds (ps:=["_law_cell_here"]) fun _ _ _ _ _ _ us hl=>by obtain ⟨v0,rfl⟩:=ln1 hl;rfl
 have F40:=fun_mk (st:=s_qO) l40 k_c40 k_k40
 have b40:=F40.binds (ps:=["_law_tree_here", "_law_place", "_law_bag_here"]) fun _ _ _ _ _ _ us hl=>by obtain ⟨v0,v1,v2,rfl⟩:=ln3 hl;rfl
 have F41:=fun_mk (st:=s_qP) l41 k_c41 k_k41
 have b41:=F41.binds (ps:=["_law_tree_here"]) fun _ _ _ _ _ _ us hl=>by obtain ⟨v0,rfl⟩:=ln1 hl;rfl
 have F42:=fun_mk (st:=s_qV) l42 k_c42 k_k42
 have b42:=F42.binds (ps:=["_law_cell_here", "_law_bottom_here"]) fun _ _ _ _ _ _ us hl=>by obtain ⟨v0,v1,rfl⟩:=ln2 hl;rfl
 have F43:=fun_mk (st:=s_qW) l43 k_c43 k_k43
 have b43:=F43.binds (ps:=["_law_mine", "_law_places_here", "_law_top", "_law_low", "_law_bottom_here"]) fun _ _ _ _ _ _ us hl=>by obtain ⟨v0,v1,v2,v3,v4,rfl⟩:=ln5 hl;rfl
 have F44:=fun_mk (st:=s_qH) l44 k_c44 k_k44
 have b44:=F44.binds (ps:=["_law_one", "_law_two"]) fun _ _ _ _ _ _ us hl=>by obtain ⟨v0,v1,rfl⟩:=ln2 hl;rfl
 have F45:=fun_mk (st:=s_q7) l45 k_c45 k_k45
 have b45:=F45.binds (ps:=["_law_places_here", "_law_known"]) fun _ _ _ _ _ _ us hl=>by obtain ⟨v0,v1,rfl⟩:=ln2 hl;rfl
 have F46:=fun_mk (st:=s_qA) l46 k_c46 k_k46
 have b46:=F46.binds (ps:=["_law_steps", "_law_known"]) fun _ _ _ _ _ _ us hl=>by obtain ⟨v0,v1,rfl⟩:=ln2 hl;rfl
 have F47:=fun_mk (st:=s_qX) l47 k_c47 k_k47
 have b47:=F47.binds (ps:=["_law_steps", "_law_head", "_law_bottom_here", "_law_small"]) fun _ _ _ _ _ _ us hl=>by obtain ⟨v0,v1,v2,v3,rfl⟩:=ln4 hl;rfl
 have F48:=fun_mk (st:=s_law) l48 k_c48 k_k48
 have b48:=F48.binds (ps:=["_law_script"]) fun _ _ _ _ _ _ us hl=>by obtain ⟨v0,rfl⟩:=ln1 hl;rfl
 exact ⟨⟨c_PruneError,PySem.W.mg_of X G a_PruneError,⟨sg_PruneError,rd_PruneError,fc_PruneError⟩,c_NoPrice,PySem.W.mg_of X G a_NoPrice,_,_,F0,b0,⟨PySem.W.mg_of X G a_NoPrice,xd_NoPrice,a0,i0,kc_NoPrice,sa_NoPrice,hdi_NoPrice,⟨ga_NoPrice,gt_NoPrice,cl_NoPrice,mb_NoPrice,mo_NoPrice⟩⟩,_,_,F1,b1,PySem.W.mg_of X G a1,_,_,F2,b2,PySem.W.mg_of X G a2,_,_,F3,b3,PySem.W.mg_of X G a3,_,_,F4,b4,PySem.W.mg_of X G a4,_,_,F5,b5,PySem.W.mg_of X G a5,_,_,F6,b6,PySem.W.mg_of X G a6,_,_,F7,b7,PySem.W.mg_of X G a7,_,_,F8,b8,PySem.W.mg_of X G a8,_,_,F9,b9,PySem.W.mg_of X G a9,_,_,F10,b10,PySem.W.mg_of X G a10,_,_,F11,b11,PySem.W.mg_of X G a11,_,_,F12,b12,PySem.W.mg_of X G a12,_,_,F13,b13,PySem.W.mg_of X G a13,_,_,F14,b14,PySem.W.mg_of X G a14,_,_,F15,b15,PySem.W.mg_of X G a15,_,_,F16,b16,PySem.W.mg_of X G a16,_,_,F17,b17,PySem.W.mg_of X G a17,_,_,F18,b18,PySem.W.mg_of X G a18,_,_,F19,b19,PySem.W.mg_of X G a19,_,_,F20,b20,PySem.W.mg_of X G a20,_,_,F21,b21,PySem.W.mg_of X G a21,_,_,F22,b22,PySem.W.mg_of X G a22,_,_,F23,b23,PySem.W.mg_of X G a23,_,_,F24,b24,PySem.W.mg_of X G a24,_,_,F25,b25,PySem.W.mg_of X G a25,_,_,F26,b26,PySem.W.mg_of X G a26,_,_,F27,b27,PySem.W.mg_of X G a27,_,_,F28,b28,PySem.W.mg_of X G a28,_,_,F29,b29,PySem.W.mg_of X G a29,_,_,F30,b30,PySem.W.mg_of X G a30,_,_,F31,b31,PySem.W.mg_of X G a31,_,_,F32,b32,PySem.W.mg_of X G a32,_,_,F33,b33,PySem.W.mg_of X G a33,_,_,F34,b34,PySem.W.mg_of X G a34,_,_,F35,b35,PySem.W.mg_of X G a35,_,_,F36,b36,PySem.W.mg_of X G a36,_,_,F37,b37,PySem.W.mg_of X G a37,_,_,F38,b38,PySem.W.mg_of X G a38,_,_,F39,b39,PySem.W.mg_of X G a39,_,_,F40,b40,PySem.W.mg_of X G a40,_,_,F41,b41,PySem.W.mg_of X G a41,_,_,F42,b42,PySem.W.mg_of X G a42,_,_,F43,b43,PySem.W.mg_of X G a43,_,_,F44,b44,PySem.W.mg_of X G a44,_,_,F45,b45,PySem.W.mg_of X G a45,_,_,F46,b46,PySem.W.mg_of X G a46,_,_,F47,b47,PySem.W.mg_of X G a47,_,_,F48,b48,PySem.W.mg_of X G a48,PySem.W.mg_none_of X G z_abs,PySem.W.mg_none_of X G z_all,PySem.W.mg_none_of X G z_any,PySem.W.mg_none_of X G z_bool,PySem.W.mg_none_of X G z_enumerate,PySem.W.mg_none_of X G z_int,PySem.W.mg_none_of X G z_isinstance,PySem.W.mg_none_of X G z_len,PySem.W.mg_none_of X G z_list,PySem.W.mg_none_of X G z_range,PySem.W.mg_none_of X G z_reversed,PySem.W.mg_none_of X G z_set,PySem.W.mg_none_of X G z_sorted,PySem.W.mg_none_of X G z_str,PySem.W.mg_none_of X G z_sum,PySem.W.mg_none_of X G z_tuple,hnPp⟩,rfl,fun s u=>.of_eq rfl⟩
end Lw
abbrev PySem.W.Fast.tw10942413494491571904:PySem.Program:=PySem.Challenge.pw_prunepath_k35_whole_path_against_any
theorem PySem.W.Fast.te10942413494491571904:PySem.Challenge.pw_prunepath_k35_whole_path_against_any=PySem.W.Fast.tw10942413494491571904:=rfl
namespace Cz
open PySem PySem.W PyProof.Rows
def goT (ok:Thread→Bool)(st:SharedT→Thread→Option (SharedT × Thread)) : Nat→SharedT→Thread→Option SharedT
 | 0,_,_=>none
 | n + 1,s,t=>match through t with
  | true=>some s
  | false=>match ok t with
   | false=>none
   | true=>match st s t with
    | some (s',t')=>goT ok st n s' t'
    | none=>none
theorem goT_of {tb:String→Option Builtin}{p:Program}{w:World}{n₀:Nat}{ann:Option Value} : ∀ {n:Nat}{s s₁:SharedT}{t:Thread},goT (stepOk n₀ ann) (stepT (denote tb) p w) n s t=some s₁→topRun tb p w n₀ ann n s.abs t=some s₁.abs
 | 0,_,_,_,h=>by cases h
 | n + 1,s,s₁,t,h=>by
  unfold goT at h
  unfold topRun
  cases h1:through t with
  | true =>
   rw [h1] at h
   obtain rfl:=Option.some.inj h
   rfl
  | false =>
   rw [h1] at h
   cases h2:stepOk n₀ ann t with
   | false=>rw [h2] at h; cases h
   | true =>
    rw [h2] at h
    cases h3:stepT (denote tb) p w s t with
    | none=>rw [h3] at h; cases h
    | some z =>
     obtain ⟨s',t'⟩:=z
     rw [h3] at h
     simp only [stepT_spec h3]
     exact goT_of h
noncomputable def bt0 (P:Params) : BT:=(((((((((((BT.nil.ins 0 (boot_o_0 P)).ins 1 (boot_o_1 P)).ins 2 (boot_o_2 P)).ins 3 (boot_o_3 P)).ins 4 (boot_o_4 P)).ins 5 (boot_o_5 P)).ins 6 (boot_o_6 P)).ins 7 (boot_o_7 P)).ins 8 (boot_o_8 P)).ins 9 (boot_o_9 P)).ins 10 (boot_o_10 P))
theorem bt0_abs (P:Params) : absHeap (bt0 P) 11 (boot_heap P).life=boot_heap P:=rfl
noncomputable def sT (w:World) (os:OsState) : SharedT:=⟨bt0 w.params,11,(boot_heap w.params).life,Array.mk [],boot_drawn,boot_toks,os⟩
noncomputable def sA (w:World) (os:OsState) : Shared:=⟨boot_heap w.params,Array.mk [],boot_drawn,boot_toks,os⟩
theorem sT_abs (w:World)(os:OsState) : (sT w os).abs=sA w os:=by
 unfold sT SharedT.abs sA
 dsimp only
 rw [bt0_abs]
theorem left_tree {p q:Program}{loose:List Str}{Xt:Shared→Bool} {α:Type}{Yf:Shared→α}{Ya:World→α}{N:Nat}{g0:Bool}
  (o:∀ w:World,(fencedOpening treeTable p w N).map (fun s=>(s.heap,s.gens,s.drawn,s.toks))=some (boot_heap w.params,Array.mk [],boot_drawn,boot_toks))
  (h:∀ w:World,(fun os:OsState=>(goT (stepOk 11 ((boot_heap w.params).nsMap mainGlobals "__annotations__")) (stepT (denote treeTable) p w) N (sT w os) (topStub p)).map fun s=>(staticsOk (importedModules p.main.body) (boot_heap w.params) s.abs.heap && namesBound p s.abs.heap && gensDone s.abs && laidKept (boot_heap w.params) s.abs.heap,openSeen q loose (importedModules p.main.body) Xt g0 s.abs))=fun _=>some (true,openGood q loose))
  (h':∀ w:World,(fun os:OsState=>(goT (stepOk 11 ((boot_heap w.params).nsMap mainGlobals "__annotations__")) (stepT (denote treeTable) p w) N (sT w os) (topStub p)).map fun s=>Yf s.abs)=fun _=>some (Ya w)) :
  LeftO p q loose Xt Yf Ya N g0:=fun w=>by
 obtain ⟨⟨h1,gs,d,k,os⟩,e,e'⟩:=Option.map_eq_some_iff.mp (o w)
 obtain ⟨rfl,rfl,rfl,rfl⟩ : h1=boot_heap w.params∧gs=Array.mk []∧d=boot_drawn∧k=boot_toks:=by simpa using e'
 unfold openEnds
 rw [e]
 obtain ⟨s₁,e1,e2⟩:=Option.map_eq_some_iff.mp (congrFun (h w) os)
 injection e2 with e2 e3
 have e4:=congrFun (h' w) os
 rw [e1] at e4
 have e4:Yf s₁.abs=Ya w:=Option.some.inj e4
 have e5:=goT_of e1
 rw [sT_abs] at e5
 have ez:topFrom treeTable p w N (sA w os)=some s₁.abs:=by
  unfold topFrom
  have c:((sA w os).heap.isNs mainGlobals && (sA w os).gens.size == 0)=true:=by kernel_rfl
  rw [c]
  show (topRun treeTable p w 11 ((boot_heap w.params).nsMap mainGlobals "__annotations__") N (sA w os) (topStub p)).bind _=_
  rw [e5]
  show (match staticsOk (importedModules p.main.body) (boot_heap w.params) s₁.abs.heap && namesBound p s₁.abs.heap && gensDone s₁.abs && laidKept (boot_heap w.params) s₁.abs.heap with
   | true=>some s₁.abs
   | false=>none)=some s₁.abs
  rw [e2]
 show (topFrom treeTable p w N (sA w os)).map _=_
 rw [ez]
 show some (openSeen q loose (importedModules p.main.body) Xt g0 s₁.abs,Yf s₁.abs)=some (openGood q loose,Ya w)
 rw [e3,e4]
def keep:List Nat:=[1,2,4,5,6,7,9,10,11,12,13,14,16,17,18,19,20,22,23,24,25,27,28,29,30,31,32,34,35,36,37,38,39,40,41,42,43,44,45,46,47,48,49,50,51,52,53,54,55,56]
def q:Program:=PySem.W.view PySem.Challenge.pw_prunepath_k35_whole_path_against_any keep
def loose:List Str:=[]
set_option maxRecDepth 100000 in
set_option maxHeartbeats 0 in
theorem run1:∀ w:World,(fun os:OsState=>(goT (stepOk 11 ((boot_heap w.params).nsMap mainGlobals "__annotations__")) (stepT (denote treeTable) PySem.Challenge.pw_prunepath_k35_whole_path_against_any w) 4068 (sT w os) (topStub PySem.Challenge.pw_prunepath_k35_whole_path_against_any)).map fun s=>(staticsOk (importedModules PySem.Challenge.pw_prunepath_k35_whole_path_against_any.main.body) (boot_heap w.params) s.abs.heap && namesBound PySem.Challenge.pw_prunepath_k35_whole_path_against_any s.abs.heap && gensDone s.abs && laidKept (boot_heap w.params) s.abs.heap,openSeen q loose (importedModules PySem.Challenge.pw_prunepath_k35_whole_path_against_any.main.body) (fun s=>xlAt q [] s && recOk (RowW.records (OpenRow.toRowW (OpenLaw.row PySem.Challenge.rw_prunepath_k35_whole_path_against_any))) s) true s.abs))=fun _=>some (true,openGood q loose):=by
 rw [PySem.W.Fast.te6613529449190102663,PySem.W.Fast.te10156331382660048174,PySem.W.Fast.te11892475500146522536,PySem.W.Fast.te14364793385576792824,PySem.W.Fast.te4187177175401517315,PySem.W.Fast.te5923862056798008813]
 (intro w; kernel_rfl)
end Cz
open PySem PySem.W PyProof.Rows
local macro_rules | `(tactic| o_head $H) => `(tactic| (refine holds_open (q := Cz.q) (loose := Cz.loose) (Xt := fun s => xlAt Cz.q [] s && recOk (RowW.records (OpenRow.toRowW (OpenLaw.row PySem.Challenge.rw_prunepath_k35_whole_path_against_any))) s) (XP := XL Cz.q []) (Yf := Hook.obs $H) (Ya := Hook.val $H) (YP := Hook.says $H) (N := 4068) ?hl (Hook.of $H) (Hook.keeps $H) (fun s e => xl_of s (Bool.and_eq_true_iff.mp e).1) XL.keeps (by rfl) (by rfl) (by rfl) (fun s e => recFacts_of (Bool.and_eq_true_iff.mp e).2) (by rfl) (by first | assumption | decide +kernel) (by decide +kernel) ⟨rfl, rfl, rfl, rfl, rfl, by decide +kernel⟩ ?hw ?hc; (case hl => (refine Cz.left_tree (boot_open (by kernel_rfl) (by decide) fun s => by kernel_rfl) Cz.run1 ?_; rw [PySem.W.Fast.te6613529449190102663, PySem.W.Fast.te10156331382660048174, PySem.W.Fast.te11892475500146522536, PySem.W.Fast.te14364793385576792824]; (intro w; kernel_rfl))); (case hw => w_witness2)))
set_option maxRecDepth 100000 in
set_option maxHeartbeats 0 in
theorem PySem.Challenge.cw_prunepath_k35_whole_path_against_any_holds : PySem.Challenge.rw_prunepath_k35_whole_path_against_any.Holds := by
  w_on; o_law; k_head
  k_fill
  refine L2.walk_ofD (l := PySem.Challenge.rw_prunepath_k35_whole_path_against_any) (n := 63) (k := 25) (x := "_law_script") (sp := Lw.sp_law) rfl (by decide) rfl ⟨rfl, by decide, by decide, rfl⟩ (fun w h Y => PySem.W.kIn_of Y) ?F ?S
  case F =>
    intro w mg fa h KX G hmg
    have T : ∃ T : Lw.Tx (L2.KOf KX) mg, T.f_law = fa ∧ ∀ (s : Shared) (u : Value), BindsTo s T.d_law ⟨[u], []⟩ [("_law_script", u)] := by
      dsimp only [L2.KOf]
      refine' Lw.fin KX G hmg ?ga_PruneError ?gsg_PruneError ?grd_PruneError ?gfc_PruneError ?ga_NoPrice ?ga0 ?gi0 ?gxd_NoPrice ?gkc_NoPrice ?gsa_NoPrice ?ghdi_NoPrice ?gga_NoPrice ?ggt_NoPrice ?gcl_NoPrice ?gmb_NoPrice ?gmo_NoPrice ?gl0 ?gk_c0 ?gk_k0 ?ga1 ?gl1 ?gk_c1 ?gk_k1 ?ga2 ?gl2 ?gk_c2 ?gk_k2 ?ga3 ?gl3 ?gk_c3 ?gk_k3 ?ga4 ?gl4 ?gk_c4 ?gk_k4 ?ga5 ?gl5 ?gk_c5 ?gk_k5 ?ga6 ?gl6 ?gk_c6 ?gk_k6 ?ga7 ?gl7 ?gk_c7 ?gk_k7 ?ga8 ?gl8 ?gk_c8 ?gk_k8 ?ga9 ?gl9 ?gk_c9 ?gk_k9 ?ga10 ?gl10 ?gk_c10 ?gk_k10 ?ga11 ?gl11 ?gk_c11 ?gk_k11 ?ga12 ?gl12 ?gk_c12 ?gk_k12 ?ga13 ?gl13 ?gk_c13 ?gk_k13 ?ga14 ?gl14 ?gk_c14 ?gk_k14 ?ga15 ?gl15 ?gk_c15 ?gk_k15 ?ga16 ?gl16 ?gk_c16 ?gk_k16 ?ga17 ?gl17 ?gk_c17 ?gk_k17 ?ga18 ?gl18 ?gk_c18 ?gk_k18 ?ga19 ?gl19 ?gk_c19 ?gk_k19 ?ga20 ?gl20 ?gk_c20 ?gk_k20 ?ga21 ?gl21 ?gk_c21 ?gk_k21 ?ga22 ?gl22 ?gk_c22 ?gk_k22 ?ga23 ?gl23 ?gk_c23 ?gk_k23 ?ga24 ?gl24 ?gk_c24 ?gk_k24 ?ga25 ?gl25 ?gk_c25 ?gk_k25 ?ga26 ?gl26 ?gk_c26 ?gk_k26 ?ga27 ?gl27 ?gk_c27 ?gk_k27 ?ga28 ?gl28 ?gk_c28 ?gk_k28 ?ga29 ?gl29 ?gk_c29 ?gk_k29 ?ga30 ?gl30 ?gk_c30 ?gk_k30 ?ga31 ?gl31 ?gk_c31 ?gk_k31 ?ga32 ?gl32 ?gk_c32 ?gk_k32 ?ga33 ?gl33 ?gk_c33 ?gk_k33 ?ga34 ?gl34 ?gk_c34 ?gk_k34 ?ga35 ?gl35 ?gk_c35 ?gk_k35 ?ga36 ?gl36 ?gk_c36 ?gk_k36 ?ga37 ?gl37 ?gk_c37 ?gk_k37 ?ga38 ?gl38 ?gk_c38 ?gk_k38 ?ga39 ?gl39 ?gk_c39 ?gk_k39 ?ga40 ?gl40 ?gk_c40 ?gk_k40 ?ga41 ?gl41 ?gk_c41 ?gk_k41 ?ga42 ?gl42 ?gk_c42 ?gk_k42 ?ga43 ?gl43 ?gk_c43 ?gk_k43 ?ga44 ?gl44 ?gk_c44 ?gk_k44 ?ga45 ?gl45 ?gk_c45 ?gk_k45 ?ga46 ?gl46 ?gk_c46 ?gk_k46 ?ga47 ?gl47 ?gk_c47 ?gk_k47 ?ga48 ?gl48 ?gk_c48 ?gk_k48 ?gz_abs ?gz_all ?gz_any ?gz_bool ?gz_enumerate ?gz_int ?gz_isinstance ?gz_len ?gz_list ?gz_range ?gz_reversed ?gz_set ?gz_sorted ?gz_str ?gz_sum ?gz_tuple ?ghnPp
      (case ga_PruneError | gsg_PruneError | grd_PruneError | gfc_PruneError | ga_NoPrice | ga0 | gi0 => first | k_is | k_exc | kit_is | kts_exm)
      (case gxd_NoPrice => kernel_rfl)
      (case gkc_NoPrice | gsa_NoPrice | ghdi_NoPrice | gga_NoPrice | ggt_NoPrice | gcl_NoPrice | gmb_NoPrice | gmo_NoPrice | gl0 | gk_c0 | gk_k0 | ga1 | gl1 | gk_c1 | gk_k1 | ga2 | gl2 | gk_c2 | gk_k2 | ga3 | gl3 | gk_c3 | gk_k3 | ga4 | gl4 | gk_c4 | gk_k4 | ga5 | gl5 | gk_c5 | gk_k5 | ga6 | gl6 | gk_c6 | gk_k6 | ga7 | gl7 | gk_c7 | gk_k7 | ga8 | gl8 | gk_c8 | gk_k8 | ga9 | gl9 | gk_c9 | gk_k9 | ga10 | gl10 | gk_c10 | gk_k10 | ga11 | gl11 | gk_c11 | gk_k11 | ga12 | gl12 | gk_c12 | gk_k12 | ga13 | gl13 | gk_c13 | gk_k13 | ga14 | gl14 | gk_c14 | gk_k14 | ga15 | gl15 | gk_c15 | gk_k15 | ga16 | gl16 | gk_c16 | gk_k16 | ga17 | gl17 | gk_c17 | gk_k17 | ga18 | gl18 | gk_c18 | gk_k18 | ga19 | gl19 | gk_c19 | gk_k19 | ga20 | gl20 | gk_c20 | gk_k20 | ga21 | gl21 | gk_c21 | gk_k21 | ga22 | gl22 | gk_c22 | gk_k22 | ga23 | gl23 | gk_c23 | gk_k23 | ga24 | gl24 | gk_c24 | gk_k24 | ga25 | gl25 | gk_c25 | gk_k25 | ga26 | gl26 | gk_c26 | gk_k26 | ga27 | gl27 | gk_c27 | gk_k27 | ga28 | gl28 | gk_c28 | gk_k28 | ga29 | gl29 | gk_c29 | gk_k29 | ga30 | gl30 | gk_c30 | gk_k30 | ga31 | gl31 | gk_c31 | gk_k31 | ga32 | gl32 | gk_c32 | gk_k32 | ga33 | gl33 | gk_c33 | gk_k33 | ga34 | gl34 | gk_c34 | gk_k34 | ga35 | gl35 | gk_c35 | gk_k35 | ga36 | gl36 | gk_c36 | gk_k36 | ga37 | gl37 | gk_c37 | gk_k37 | ga38 | gl38 | gk_c38 | gk_k38 | ga39 | gl39 | gk_c39 | gk_k39 | ga40 | gl40 | gk_c40 | gk_k40 | ga41 | gl41 | gk_c41 | gk_k41 | ga42 | gl42 | gk_c42 | gk_k42 | ga43 | gl43 | gk_c43 | gk_k43 | ga44 | gl44 | gk_c44 | gk_k44 | ga45 | gl45 | gk_c45 | gk_k45 | ga46 | gl46 | gk_c46 | gk_k46 | ga47 | gl47 | gk_c47 | gk_k47 | ga48 | gl48 | gk_c48 | gk_k48 | gz_abs | gz_all | gz_any | gz_bool | gz_enumerate | gz_int | gz_isinstance | gz_len | gz_list | gz_range | gz_reversed | gz_set | gz_sorted | gz_str | gz_sum | gz_tuple | ghnPp => first | k_is | k_exc | kit_is | kts_exm)
    obtain ⟨T, rfl, hb⟩ := T
    exact ⟨T.d_law, hb, fun base kb nb => Lw.ok_law T⟩
  case S => exact fun K H a ns hl hO hS => ⟨a, ns, rfl, L2.SqF.of_only hO hS, hl, fun _ => rfl⟩
