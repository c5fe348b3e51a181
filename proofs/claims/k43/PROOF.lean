import PyProof.Rows.All
import Wide.All
import OpenK.AllK
import Wide.FinOn
import Lean
import PyProof.EqAt
import PyProof.EqKinds
import PyProof.TupleCall
import KE.KRevSl
import KE.KDictSum
import KE.BitLaws
import KE.KIntText
import KE.IntTextLaws
import KE.KSortTup
import PyProof.DictItems
import PyProof.DictItemsLoops
import PyProof.DictWalks
import PySem.Challenge.RW_prunepath_k43_trials
set_option Elab.async false
set_option linter.all false
set_option maxRecDepth 100000
namespace Cz
open PySem PySem.W PyProof.Rows
def goT (ok:Thread→Bool)(st:SharedT→Thread→Option (SharedT × Thread)) : Nat→SharedT→Thread→Option SharedT
 | 0,_,_=>none
 | n + 1,s,t=>match through t with
  | true=>some s
  | false=>match ok t with
   | false=>none
   | true=>match st s t with
    | some (s',t')=>goT ok st n s' t'
    | none=>none
theorem goT_of {tb:String→Option Builtin}{p:Program}{w:World}{n₀:Nat}{ann:Option Value} : ∀ {n:Nat}{s s₁:SharedT}{t:Thread},goT (stepOk n₀ ann) (stepT (denote tb) p w) n s t=some s₁→topRun tb p w n₀ ann n s.abs t=some s₁.abs
 | 0,_,_,_,h=>by cases h
 | n + 1,s,s₁,t,h=>by
  unfold goT at h
  unfold topRun
  cases h1:through t with
  | true =>
   rw [h1] at h
   obtain rfl:=Option.some.inj h
   rfl
  | false =>
   rw [h1] at h
   cases h2:stepOk n₀ ann t with
   | false=>rw [h2] at h; cases h
   | true =>
    rw [h2] at h
    cases h3:stepT (denote tb) p w s t with
    | none=>rw [h3] at h; cases h
    | some z =>
     obtain ⟨s',t'⟩:=z
     rw [h3] at h
     simp only [stepT_spec h3]
     exact goT_of h
noncomputable def bt0 (P:Params) : BT:=(((((((((((BT.nil.ins 0 (boot_o_0 P)).ins 1 (boot_o_1 P)).ins 2 (boot_o_2 P)).ins 3 (boot_o_3 P)).ins 4 (boot_o_4 P)).ins 5 (boot_o_5 P)).ins 6 (boot_o_6 P)).ins 7 (boot_o_7 P)).ins 8 (boot_o_8 P)).ins 9 (boot_o_9 P)).ins 10 (boot_o_10 P))
theorem bt0_abs (P:Params) : absHeap (bt0 P) 11 (boot_heap P).life=boot_heap P:=rfl
noncomputable def sT (w:World) (os:OsState) : SharedT:=⟨bt0 w.params,11,(boot_heap w.params).life,Array.mk [],boot_drawn,boot_toks,os⟩
noncomputable def sA (w:World) (os:OsState) : Shared:=⟨boot_heap w.params,Array.mk [],boot_drawn,boot_toks,os⟩
theorem sT_abs (w:World)(os:OsState) : (sT w os).abs=sA w os:=by
 unfold sT SharedT.abs sA
 dsimp only
 rw [bt0_abs]
theorem left_tree {p q:Program}{loose:List Str}{Xt:Shared→Bool} {α:Type}{Yf:Shared→α}{Ya:World→α}{N:Nat}{g0:Bool}
  (o:∀ w:World,(fencedOpening treeTable p w N).map (fun s=>(s.heap,s.gens,s.drawn,s.toks))=some (boot_heap w.params,Array.mk [],boot_drawn,boot_toks))
  (h:∀ w:World,(fun os:OsState=>(goT (stepOk 11 ((boot_heap w.params).nsMap mainGlobals "__annotations__")) (stepT (denote treeTable) p w) N (sT w os) (topStub p)).map fun s=>(staticsOk (importedModules p.main.body) (boot_heap w.params) s.abs.heap && namesBound p s.abs.heap && gensDone s.abs && laidKept (boot_heap w.params) s.abs.heap,openSeen q loose (importedModules p.main.body) Xt g0 s.abs))=fun _=>some (true,openGood q loose))
  (h':∀ w:World,(fun os:OsState=>(goT (stepOk 11 ((boot_heap w.params).nsMap mainGlobals "__annotations__")) (stepT (denote treeTable) p w) N (sT w os) (topStub p)).map fun s=>Yf s.abs)=fun _=>some (Ya w)) :
  LeftO p q loose Xt Yf Ya N g0:=fun w=>by
 obtain ⟨⟨h1,gs,d,k,os⟩,e,e'⟩:=Option.map_eq_some_iff.mp (o w)
 obtain ⟨rfl,rfl,rfl,rfl⟩ : h1=boot_heap w.params∧gs=Array.mk []∧d=boot_drawn∧k=boot_toks:=by simpa using e'
 unfold openEnds
 rw [e]
 obtain ⟨s₁,e1,e2⟩:=Option.map_eq_some_iff.mp (congrFun (h w) os)
 injection e2 with e2 e3
 have e4:=congrFun (h' w) os
 rw [e1] at e4
 have e4:Yf s₁.abs=Ya w:=Option.some.inj e4
 have e5:=goT_of e1
 rw [sT_abs] at e5
 have ez:topFrom treeTable p w N (sA w os)=some s₁.abs:=by
  unfold topFrom
  have c:((sA w os).heap.isNs mainGlobals && (sA w os).gens.size == 0)=true:=by kernel_rfl
  rw [c]
  show (topRun treeTable p w 11 ((boot_heap w.params).nsMap mainGlobals "__annotations__") N (sA w os) (topStub p)).bind _=_
  rw [e5]
  show (match staticsOk (importedModules p.main.body) (boot_heap w.params) s₁.abs.heap && namesBound p s₁.abs.heap && gensDone s₁.abs && laidKept (boot_heap w.params) s₁.abs.heap with
   | true=>some s₁.abs
   | false=>none)=some s₁.abs
  rw [e2]
 show (topFrom treeTable p w N (sA w os)).map _=_
 rw [ez]
 show some (openSeen q loose (importedModules p.main.body) Xt g0 s₁.abs,Yf s₁.abs)=some (openGood q loose,Ya w)
 rw [e3,e4]
def keep:List Nat:=[1,2,3,4,5,7,9,10,11,12,13,15,16,17,18,19,20,21,23,25,26,27,29,30,31,32,33,34,35,37,38,39,40,41,43,44,45,46,48,49,50,51,53,54,55,57,58,59,60,61,62,63,64,65,66,67,68,69,70]
def q:Program:=PySem.W.view PySem.Challenge.pw_prunepath_k43_trials keep
def loose:List Str:=[]
set_option maxRecDepth 100000 in
set_option maxHeartbeats 0 in
theorem run1:∀ w:World,(fun os:OsState=>(goT (stepOk 11 ((boot_heap w.params).nsMap mainGlobals "__annotations__")) (stepT (denote treeTable) PySem.Challenge.pw_prunepath_k43_trials w) 7670 (sT w os) (topStub PySem.Challenge.pw_prunepath_k43_trials)).map fun s=>(staticsOk (importedModules PySem.Challenge.pw_prunepath_k43_trials.main.body) (boot_heap w.params) s.abs.heap && namesBound PySem.Challenge.pw_prunepath_k43_trials s.abs.heap && gensDone s.abs && laidKept (boot_heap w.params) s.abs.heap,openSeen q loose (importedModules PySem.Challenge.pw_prunepath_k43_trials.main.body) (fun s=>xlAt q [] s && recOk (RowW.records (OpenRow.toRowW (OpenLaw.row PySem.Challenge.rw_prunepath_k43_trials))) s) true s.abs))=fun _=>some (true,openGood q loose):=by
 rw [PySem.W.Fast.te6613529449190102663,PySem.W.Fast.te10156331382660048174,PySem.W.Fast.te11892475500146522536,PySem.W.Fast.te14364793385576792824,PySem.W.Fast.te4187177175401517315,PySem.W.Fast.te5923862056798008813]
 (intro w; kernel_rfl)
end Cz
namespace L2
open PySem PySem.Spec PyProof.Rows
abbrev Key:=Sum Int Str
def keyIs:Key→Value→Bool
 | .inl k,v=>Value.isInt k v
 | .inr x,v=>Value.isStrOf x v
def keyH (w:World) : Key→Int
 | .inl k=>hashInt k
 | .inr x=>hashStr w x
theorem keyIs_shape:∀ {k:Key}{v:Value},keyIs k v=true→(∃ i t,k=Sum.inl i∧v=Value.int i t)∨(∃ x t,k=Sum.inr x∧v=Value.str x t)
 | .inl i,v,h=>by
  obtain ⟨t,e⟩:=Value.isInt_shape (k:=i) (v:=v) h
  exact .inl ⟨i,t,rfl,e⟩
 | .inr x,v,h=>by
  obtain ⟨t,e⟩:=Value.isStrOf_shape (x:=x) (v:=v) h
  exact .inr ⟨x,t,rfl,e⟩
theorem keyIs_int (i:Int)(t:Tok) : keyIs (.inl i) (.int i t)=true:=by simp [keyIs,Value.isInt]
theorem keyIs_str (x:Str)(t:Tok) : keyIs (.inr x) (.str x t)=true:=by simp [keyIs,Value.isStrOf]
theorem key_ll (a b:Int) : decide ((Sum.inl a:Key)=Sum.inl b)=(a == b):=by
 by_cases e:a=b
 ·subst e; simp
 ·have h:¬ (Sum.inl a:Key)=Sum.inl b:=fun q=>e (Sum.inl.inj q)
  rw [decide_eq_false h]
  exact (beq_eq_false_iff_ne.mpr e).symm
theorem key_rr (a b:Str) : decide ((Sum.inr a:Key)=Sum.inr b)=decide (a=b):=by
 by_cases e:a=b
 ·subst e; simp
 ·have h:¬ (Sum.inr a:Key)=Sum.inr b:=fun q=>e (Sum.inr.inj q)
  rw [decide_eq_false h,decide_eq_false e]
theorem key_lr (a:Int)(b:Str) : decide ((Sum.inl a:Key)=Sum.inr b)=false:=decide_eq_false (fun q=>nomatch q)
theorem key_rl (a:Str)(b:Int) : decide ((Sum.inr a:Key)=Sum.inl b)=false:=decide_eq_false (fun q=>nomatch q)
def mixKind (prog:Program)(w:World) : PySem.KeyKind prog w Key where
 is:=keyIs
 hash:=keyH w
 inj:=fun v a b ha hb=>by
  rcases keyIs_shape ha with ⟨i,t,rfl,rfl⟩ | ⟨x,t,rfl,rfl⟩
  ·rcases keyIs_shape hb with ⟨j,u,rfl,e⟩ | ⟨y,u,rfl,e⟩
   ·injection e with e1 _; rw [e1]
   ·exact nomatch e
  ·rcases keyIs_shape hb with ⟨j,u,rfl,e⟩ | ⟨y,u,rfl,e⟩
   ·exact nomatch e
   ·injection e with e1 _; rw [e1]
 byValue:=fun k v h=>by
  rcases keyIs_shape h with ⟨i,t,rfl,rfl⟩ | ⟨x,t,rfl,rfl⟩ <;> rfl
 pyHash:=fun hv h=>by
  rcases keyIs_shape hv with ⟨i,t,rfl,rfl⟩ | ⟨x,t,rfl,rfl⟩
  ·exact wpAny_pyHash_int h
  ·exact wpAny_pyHash_str h
 eqBool:=fun hu hv h=>by
  rcases keyIs_shape hu with ⟨i,t,rfl,rfl⟩ | ⟨x,t,rfl,rfl⟩
  ·rcases keyIs_shape hv with ⟨j,u,rfl,rfl⟩ | ⟨y,u,rfl,rfl⟩
   ·rw [key_ll] at h; exact wpAny_eqBool_int h
   ·rw [key_lr] at h; exact SeqAt.EqAt.int_str i t y u _ _ _ _ h
  ·rcases keyIs_shape hv with ⟨j,u,rfl,rfl⟩ | ⟨y,u,rfl,rfl⟩
   ·rw [key_rl] at h; exact SeqAt.EqAt.str_int x t j u _ _ _ _ h
   ·rw [key_rr] at h; exact wpAny_eqBool_str h
 «strs» := fun k x t v h=>by
  rcases keyIs_shape h with ⟨i,u,rfl,e⟩ | ⟨y,u,rfl,e⟩
  ·exact nomatch e
  ·injection e with e1 _
   subst e1
   cases v <;> rfl
theorem mixKind_int (prog:Program)(w:World)(i:Int)(t:Tok) : (mixKind prog w).is (.inl i) (.int i t)=true:=keyIs_int i t
theorem mixKind_str (prog:Program)(w:World)(x:Str)(t:Tok) : (mixKind prog w).is (.inr x) (.str x t)=true:=keyIs_str x t
end L2
namespace L2
open PySem PySem.Spec PyProof.Rows
inductive V where
 | non | bl (b:Bool) | int (i:Int) | str (x:Str) | byt (b:Array UInt8) | flt (b:UInt64) | ref (a:Addr) | ty (n:String)
 deriving DecidableEq
def RelV:V→Value→Prop
 | .non,u=>u=Value.none
 | .bl b,u=>u=Value.bool b
 | .int i,u=>∃ t,u=Value.int i t
 | .str x,u=>∃ t,u=Value.str x t
 | .byt b,u=>∃ t,u=Value.bytes b t
 | .flt b,u=>∃ t,u=Value.float b t
 | .ref a,u=>u=Value.ref a
 | .ty n,u=>u=Value.type n
abbrev Vals:List V→List Value→Prop:=Paired RelV
theorem Vals.length {xs:List V}{us:List Value}(r:Vals xs us) : xs.length=us.length:=Paired.length r
theorem Vals.get:∀ {xs:List V}{us:List Value}{i:Nat}{x:V},Vals xs us→xs[i]? = some x→∃ u,us[i]? = some u∧RelV x u
 | _,_,_,_,.nil,e=>by simp at e
 | _,_,0,_,.cons r _,e=>by simp at e; subst e; exact ⟨_,rfl,r⟩
 | _,_,i + 1,x,.cons _ t,e=>by
  obtain ⟨u,h1,h2⟩:=Vals.get (i:=i) (x:=x) t (by simpa using e)
  exact ⟨u,by simpa using h1,h2⟩
theorem Vals.append:∀ {xs ys:List V}{us ws:List Value},Vals xs us→Vals ys ws→Vals (xs ++ ys) (us ++ ws)
 | _,_,_,_,.nil,s=>s
 | _,_,_,_,.cons r t,s=>.cons r (Vals.append t s)
theorem Vals.take:∀ {xs:List V}{us:List Value}(n:Nat),Vals xs us→Vals (xs.take n) (us.take n)
 | _,_,0,_=>.nil
 | _,_,_ + 1,.nil=>.nil
 | _,_,n + 1,.cons r t=>.cons r (Vals.take n t)
theorem Vals.drop:∀ {xs:List V}{us:List Value}(n:Nat),Vals xs us→Vals (xs.drop n) (us.drop n)
 | _,_,0,r=>r
 | _,_,_ + 1,.nil=>.nil
 | _,_,n + 1,.cons _ t=>Vals.drop n t
def RelO:Option V→Option Value→Prop
 | some v,some u=>RelV v u
 | none,none=>True
 | _,_=>False
def KV {κ:Type} : List (κ × V)→List (κ × Value)→Prop:=Paired fun (p:κ × V) (q:κ × Value)=>p.1=q.1∧RelV p.2 q.2
def kV:Key→V
 | .inl i=>.int i
 | .inr x=>.str x
inductive HO where
 | lst (xs:List V)
 | tup (xs:List V)
 | dK (kvs:List (Key × V)) | dT (kvs:List (List Key × V))
 | set (S:Int→Bool) (n:Nat)
 | ins (C dx:Addr) (fs:List (Str × V))
 | own (x:Addr)
 | xd (fs:List (Str × V))
 | met (f x:Addr)
 | rng (lo hi:Int)
 | frz (o:Obj) (u:HO)
 | tbl (ps:Array Value)
 | ext (φ:Heap→Prop)
abbrev Hp:=Addr→Option HO
def upd (H:Hp)(a:Addr)(o:HO) : Hp:=fun b=>if b=a then some o else H b
theorem upd_same {H:Hp}{a:Addr}{o:HO} : upd H a o a=some o:=by unfold upd; rw [if_pos rfl]
theorem upd_ne {H:Hp}{a b:Addr}{o:HO}(h:b ≠ a) : upd H a o b=H b:=by unfold upd; rw [if_neg h]
theorem ne_of {H:Hp}{a b:Addr}{o u:HO}(h:H a=some o)(h':H b=some u)(d:o ≠ u) : a ≠ b:=by
 intro e; subst e; rw [h] at h'; exact d (Option.some.inj h')
theorem ne_of_none {H:Hp}{a b:Addr}{o:HO}(h:H a=some o)(h':H b=none) : a ≠ b:=by
 intro e; subst e; rw [h] at h'; cases h'
section
variable (P:Program) (w:World)
def ObjOk (H:Hp)(h:Heap)(a:Addr) : HO→Prop
 | .lst xs=>xs.length≤sizeLine∧∃ (its:List Value) (n:Nat),Vals xs its∧h.get? a=some { cls:=.type "list", data:=.seq its.toArray n }
 | .tup xs=>xs.length≤sizeLine∧∃ its:List Value,Vals xs its∧IsTup h a its.toArray
 | .dK kvs=>kvs.length≤sizeLine∧(a == sysModules)=false∧∃ vs,KV kvs vs∧h.DictOf (mixKind P w) a vs
 | .dT kvs=>kvs.length≤sizeLine∧(a == sysModules)=false∧∃ xs:List (List Key × Addr × Value),
   Paired (fun (p:List Key × V) (q:List Key × Addr × Value)=>p.1=q.1∧H q.2.1=some (.tup (p.1.map kV))∧RelV p.2 q.2.2) kvs xs ∧
   ∃ o es ep,h.get? a=some o∧o.ExactDict∧o.data = .dict es ep∧es.toList=xs.map (entryOfKey (tupleKind (mixKind P w)))∧(xs.map (·.1)).Nodup
 | .set S n=>h.SetOf (intKind P w) a S n
 | .ins C dx fs=>H dx=some (.own a)∧fs.length≤1000∧dx ≠ a∧h.get? a=some (PySem.W.instObj C dx) ∧
   ∃ mA,h.Ns1 dx mA∧(∀ f,RelO (fs.lookup f) (mA f))∧PySem.Within mA (fs.map (·.1))
 | .own _=>∃ o,h.get? a=some o
 | .xd fs=>∃ mA,h.Ns1 a mA∧∀ f,RelO (fs.lookup f) (mA f)
 | .rng lo hi=>∃ t u v,h.get? a=some { cls:=.type "range", data:=.fields #[.int lo t,.int hi u,.int 1 v] }
 | .frz o u=>h.get? a=some o∧ObjOk H h a u
 | .tbl ps=>h.get? a=some { cls:=.none,data:=.fields ps }
 | .met f x=>h.get? a=some (PySem.W.methodObj (.ref f) (.ref x))
 | .ext φ=>φ h∧(∃ o,h.get? a=some o)∧∀ h1 h2:Heap,φ h1→(∀ o,h1.get? a=some o→h2.get? a=some o)→φ h2
def HOk (H:Hp)(h:Heap) : Prop:=∀ a o,H a=some o→ObjOk P w H h a o
end
section
variable {P:Program}{w:World}{H H':Hp}{h h':Heap}{a:Addr}{o:HO}
theorem ObjOk.lt (x:ObjOk P w H h a o) : a < h.objs.size:=by
 cases o with
 | lst xs=>obtain ⟨_,_,_,_,e⟩:=x; exact Heap.lt_size e
 | tup xs=>obtain ⟨_,_,_,p⟩:=x; exact p.lt
 | dK kvs=>obtain ⟨_,_,_,_,o,_,_,e,_⟩:=x; exact Heap.lt_size e
 | dT kvs=>obtain ⟨_,_,_,_,o,_,_,e,_⟩:=x; exact Heap.lt_size e
 | set S n=>obtain ⟨o,_,_,_,e,_⟩:=x; exact Heap.lt_size e
 | ins C dx fs=>obtain ⟨_,_,_,e,_⟩:=x; exact Heap.lt_size e
 | own y=>obtain ⟨_,e⟩:=x; exact Heap.lt_size e
 | xd fs=>obtain ⟨_,⟨_,_,_,e,_⟩,_⟩:=x; exact Heap.lt_size e
 | rng lo hi=>obtain ⟨_,_,_,e⟩:=x; exact Heap.lt_size e
 | frz ob u=>obtain ⟨e,_⟩:=x; exact Heap.lt_size e
 | tbl ps=>exact Heap.lt_size (show h.get? a=some _ from x)
 | met f y=>exact Heap.lt_size (show h.get? a=some _ from x)
 | ext φ=>obtain ⟨_,⟨_,e⟩,_⟩:=x; exact Heap.lt_size e
theorem Paired.mapP {α β:Type}{F G:α→β→Prop} : ∀ {l₁:List α}{l₂:List β},Paired F l₁ l₂→(∀ a b,F a b→G a b)→Paired G l₁ l₂
 | _,_,.nil,_=>.nil
 | _,_,.cons r t,f=>.cons (f _ _ r) (Paired.mapP t f)
theorem ObjOk.stay (x:ObjOk P w H h a o) (k:∀ b u,(b=a∨H b=some (.own a))→h.get? b=some u→h'.get? b=some u)
  (ho:∀ b,H b=some (.own a)→H' b=some (.own a)) (ht:∀ b xs,H b=some (.tup xs)→H' b=some (.tup xs)) : ObjOk P w H' h' a o:=by
 induction o with
 | lst xs=>obtain ⟨z,its,n,r,e⟩:=x; exact ⟨z,its,n,r,k _ _ (.inl rfl) e⟩
 | tup xs=>obtain ⟨z,its,r,ob,e,c⟩:=x; exact ⟨z,its,r,ob,k _ _ (.inl rfl) e,c⟩
 | dK kvs=>obtain ⟨z,y,vs,r,ob,es,ep,e,c⟩:=x; exact ⟨z,y,vs,r,ob,es,ep,k _ _ (.inl rfl) e,c⟩
 | dT kvs =>
  obtain ⟨z,y,xs,r,ob,es,ep,e,c⟩:=x
  exact ⟨z,y,xs,Paired.mapP r fun p q z=>⟨z.1,ht _ _ z.2.1,z.2.2⟩,ob,es,ep,k _ _ (.inl rfl) e,c⟩
 | set S n=>obtain ⟨ob,es,ep,t,e,c⟩:=x; exact ⟨ob,es,ep,t,k _ _ (.inl rfl) e,c⟩
 | ins C dx fs =>
  obtain ⟨d,z,ne,e,mA,⟨od,es,ep,e2,c⟩,r⟩:=x
  exact ⟨ho _ d,z,ne,k _ _ (.inl rfl) e,mA,⟨od,es,ep,k _ _ (.inr d) e2,c⟩,r⟩
 | own y=>obtain ⟨ob,e⟩:=x; exact ⟨ob,k _ _ (.inl rfl) e⟩
 | xd fs=>obtain ⟨mA,⟨od,es,ep,e,c⟩,r⟩:=x; exact ⟨mA,⟨od,es,ep,k _ _ (.inl rfl) e,c⟩,r⟩
 | rng lo hi=>obtain ⟨t,u,v,e⟩:=x; exact ⟨t,u,v,k _ _ (.inl rfl) e⟩
 | frz ob u ih=>obtain ⟨e,q⟩:=x; exact ⟨k _ _ (.inl rfl) e,ih q⟩
 | tbl ps =>
  have e:h.get? a=some { cls:=.none,data:=.fields ps }:=x
  show h'.get? a=some { cls:=.none,data:=.fields ps }
  exact k a _ (.inl rfl) e
 | met f y =>
  have e:h.get? a=some (PySem.W.methodObj (.ref f) (.ref y)):=x
  show h'.get? a=some (PySem.W.methodObj (.ref f) (.ref y))
  exact k a _ (.inl rfl) e
 | ext φ=>obtain ⟨p,⟨o,e⟩,st⟩:=x; exact ⟨st _ _ p fun o q=>k _ _ (.inl rfl) q,⟨o,k _ _ (.inl rfl) e⟩,st⟩
theorem HOk.lt (x:HOk P w H h)(e:H a=some o) : a < h.objs.size:=(x a o e).lt
theorem HOk.fresh (x:HOk P w H h)(e:h.objs.size≤a) : H a=none:=by
 cases q:H a with
 | none=>rfl
 | some u=>exact absurd (Nat.lt_of_lt_of_le (x.lt q) e) (Nat.lt_irrefl _)
theorem HOk.kept (x:HOk P w H h)(k:∀ b u,h.get? b=some u→h'.get? b=some u) : HOk P w H h':=fun a o e =>
 (x a o e).stay (fun b u _ q=>k b u q) (fun _ q=>q) fun _ _ q=>q
theorem HOk.laid (x:HOk P w H h)(k:∀ b u,h.get? b=some u→h'.get? b=some u)(hp:h.objs.size≤a)(new:ObjOk P w (upd H a o) h' a o) : HOk P w (upd H a o) h':=fun b u e=>by
 have hn:=x.fresh hp
 by_cases hb:b=a
 ·subst hb; rw [upd_same] at e; cases e; exact new
 ·rw [upd_ne hb] at e
  exact (x b u e).stay (fun c v _ q=>k c v q) (fun c q=>by rw [upd_ne (ne_of_none q hn)]; exact q) fun c xs q=>by rw [upd_ne (ne_of_none q hn)]; exact q
end
def Rd (H:Hp)(a:Addr)(u:HO) : Prop:=H a=some u∨∃ o,H a=some (.frz o u)
theorem Rd.ok {P:Program}{w:World}{H:Hp}{h:Heap}{a:Addr}{u:HO}(r:Rd H a u)(x:HOk P w H h) : ObjOk P w H h a u:=by
 rcases r with r | ⟨o,r⟩
 ·exact x a u r
 ·obtain ⟨_,q⟩:=x a _ r
  exact q
def Mut:Option HO→Prop
 | some (.lst _)=>True
 | some (.dK _)=>True
 | some (.dT _)=>True
 | some (.set _ _)=>True
 | some (.ins _ _ _)=>True
 | some (.ext _)=>True
 | _=>False
section
variable {P:Program}{w:World}{H:Hp}{h h':Heap}{x e:Addr}{o':HO}
theorem HOk.write (ok:HOk P w H h) (mu:Mut (H x)) (he:e=x∨H e=some (.own x)) (k:∀ b u,b ≠ e→h.get? b=some u→h'.get? b=some u) (heo:∃ u,h'.get? e=some u)
  (new:ObjOk P w (upd H x o') h' x o') : HOk P w (upd H x o') h':=fun b u q=>by
 have nown:∀ c y,H c=some (.own y)→c ≠ x:=fun c y r z=>by subst z; rw [r] at mu; exact mu
 have ntup:∀ c xs,H c=some (.tup xs)→c ≠ x:=fun c xs r z=>by subst z; rw [r] at mu; exact mu
 by_cases hb:b=x
 ·subst hb; rw [upd_same] at q; cases q; exact new
 ·rw [upd_ne hb] at q
  by_cases hbe:b=e
  ·have q':H b=some (.own x):=by
    rcases he with z | z
    ·exact absurd (hbe.trans z) hb
    ·rw [hbe]; exact z
   rw [q] at q'; cases q'
   obtain ⟨v,hv⟩:=heo
   exact ⟨v,by rw [hbe]; exact hv⟩
  ·refine (ok b u q).stay (fun c v hc r=>k c v ?_ r) (fun c r=>by rw [upd_ne (nown c b r)]; exact r) fun c xs r=>by rw [upd_ne (ntup c xs r)]; exact r
   rcases hc with rfl | hc
   ·exact hbe
   ·rintro rfl
    rcases he with z | z
    ·exact nown c b hc z
    ·rw [hc] at z; cases z; exact hb rfl
end
structure Un (fs ex:List Addr) (H H':Hp) (h h':Heap) : Prop where
 keep:∀ b o,h.get? b=some o→H b=none→b ∉ fs→b ∉ ex→h'.get? b=some o
 slot:∀ b o,h.get? b=some o→H b=none→b∈fs→b ∉ ex→∃ sl,h'.get? b=some { o with slots:=sl }
 free:∀ b o,h.get? b=some o→H b=none→b ∉ ex→H' b=none
 there:∀ b o,h.get? b=some o→b ∉ ex→∃ o',h'.get? b=some o'
 tups:∀ b xs,H b=some (.tup xs)→H' b=some (.tup xs)
 frzs:∀ b o u,H b=some (.frz o u)→H' b=some (.frz o u)
 tbls:∀ b ps,H b=some (.tbl ps)→∃ more,H' b=some (.tbl (ps ++ more))
section
variable {fs fs' ex ex':List Addr}{H H1 H2:Hp}{h h1 h2 h':Heap}{a x e:Addr}{o:HO}
theorem Un.any (u:Un fs ex H H1 h h1){b:Addr}{ob:Obj}(q:h.get? b=some ob)(n:H b=none)(hx:b ∉ ex) : ∃ sl,h1.get? b=some { ob with slots:=sl }:=by
 by_cases hb:b∈fs
 ·exact u.slot b ob q n hb hx
 ·exact ⟨ob.slots,u.keep b ob q n hb hx⟩
theorem Un.kept (k:∀ b u,h.get? b=some u→h'.get? b=some u) : Un fs ex H H h h' :=
 ⟨fun b ob q _ _ _=>k b ob q,fun b ob q _ _ _=>⟨ob.slots,k b ob q⟩,fun _ _ _ n _=>n,fun b ob q _=>⟨ob,k b ob q⟩,fun _ _ q=>q,fun _ _ _ q=>q,fun _ ps q=>⟨#[],by rw [q]; simp⟩⟩
theorem Un.refl:Un fs ex H H h h:=Un.kept fun _ _ q=>q
theorem Un.laid (k:∀ b u,h.get? b=some u→h'.get? b=some u)(hp:h.objs.size≤a)(hn:H a=none) : Un fs ex H (upd H a o) h h' where
 keep:=fun b u q _ _ _=>k b u q
 slot:=fun b u q _ _ _=>⟨u.slots,k b u q⟩
 free:=fun b u q n _=>by rw [upd_ne (Nat.ne_of_lt (Nat.lt_of_lt_of_le (Heap.lt_size q) hp))]; exact n
 there:=fun b u q _=>⟨u,k b u q⟩
 tups:=fun b xs q=>by rw [upd_ne (ne_of_none q hn)]; exact q
 frzs:=fun b u xs q=>by rw [upd_ne (ne_of_none q hn)]; exact q
 tbls:=fun b ps q=>⟨#[],by rw [upd_ne (ne_of_none q hn),q]; simp⟩
theorem Un.write (mu:Mut (H x))(he:e=x∨H e=some (.own x))(k:∀ b u,b ≠ e→h.get? b=some u→h'.get? b=some u)(heo:∃ u,h'.get? e=some u) : Un fs ex H (upd H x o) h h':=by
 have hx:∀ b,H b=none→b ≠ x:=fun b n z=>by subst z; rw [n] at mu; exact mu
 have hb:∀ b,H b=none→b ≠ e:=fun b n z=>by
  subst z
  rcases he with r | r
  ·exact hx b n r
  ·rw [n] at r; cases r
 have hm:∀ b u,H b=some u→¬ Mut (some u)→b ≠ x:=fun b u q nm z=>by subst z; rw [q] at mu; exact nm mu
 refine ⟨fun b u q n _ _=>k b u (hb b n) q,fun b u q n _ _=>⟨u.slots,k b u (hb b n) q⟩,fun b u q n _=>by rw [upd_ne (hx b n)]; exact n,fun b u q _=>?_,
  fun b xs q=>by rw [upd_ne (hm b _ q fun z=>z)]; exact q,fun b u xs q=>by rw [upd_ne (hm b _ q fun z=>z)]; exact q,fun b ps q=>⟨#[],by rw [upd_ne (hm b _ q fun z=>z),q]; simp⟩⟩
 by_cases hbe:b=e
 ·subst hbe; exact heo
 ·exact ⟨u,k b u hbe q⟩
end
def trk (h:Heap)(H:Hp) : List Addr:=(List.range h.objs.size).filter fun a=>(H a).isSome
def hidT (h:Heap)(H:Hp) : Heap:=PySem.W.hideAll h (trk h H)
theorem hidT_size (h:Heap)(H:Hp) : (hidT h H).objs.size=h.objs.size:=PySem.W.hideAll_size _ _
theorem hidT_get {h:Heap}{H:Hp}{b:Addr}{o:Obj}(e:h.get? b=some o)(n:H b=none) : (hidT h H).get? b=some o :=
 PySem.W.hideAll_get _ e fun hm=>by
  have q:(H b).isSome=true:=(List.mem_filter.mp hm).2
  rw [n] at q; simp at q
theorem of_hidT {h:Heap}{H:Hp}{b:Addr}{o:Obj}(e:(hidT h H).get? b=some o) : h.get? b=some o∧H b=none:=by
 have e':h.get? b=some o:=PySem.W.of_hideAll (trk h H) e
 refine ⟨e',?_⟩
 cases q:H b with
 | none=>rfl
 | some x =>
  have hm:b∈trk h H:=List.mem_filter.mpr ⟨List.mem_range.mpr (Heap.lt_size e'),by simp [q]⟩
  have z:(hidT h H).get? b=none:=PySem.W.hideAll_none (trk h H) hm
  rw [z] at e; cases e
def allNews (g h:Heap)(L:Addr) : List (Addr × Obj):=(List.range h.objs.size).filterMap fun a=>if a=L∨(g.get? a).isSome=true then none else (h.get? a).map fun o=>(a,o)
def rest (g h:Heap)(L d:Addr) : List (Addr × Obj):=(allNews g h L).filter fun p=>decide (p.1 ≠ d)
end L2
namespace L2
open PySem PySem.Spec PyProof.Rows
structure Mod (K:PySem.W.Frag) (mg:Str→Option Value) (base:Heap) : Prop where
 kin:K.In base
 glob:base.Ns mainGlobals mg
 blt:∃ mb,base.Ns builtinsNs mb∧∀ x:Str,x ≠ "__name__" → mb x=bootBuiltins x
 nolimit:base.NoLimit
structure Cx where
 prog:Program
 w:World
 K:PySem.W.Frag
 mg:Str→Option Value
 base:Heap
 A:Around
 N:List Str
 s₀:Shared
 H₀:Hp
 env:Env
 outer:List Env
 stack:List Env
 ex:List Addr
 fn:Str→Bool
 calm:Bool
 pn:List (Addr × Obj)
 xe:Value→Shared→Prop
def frs (l:List Env) : List Addr:=l.filterMap (·.frame)
abbrev Cx.fs (X:Cx) : List Addr:=frs X.outer
def Vis (sc:Scope)(x:Str) : Prop:=sc.names.lookup x=some .local∨sc.names.lookup x=some .cell∨sc.names.lookup x=some .free
def Loc (sc:Scope)(x:Str) : Prop:=sc.names.lookup x=some .local∨sc.names.lookup x=some .cell
def Look (env:Env)(h:Heap)(m:Str→Option Value)(x:Str)(u:Value) : Prop :=
 (env.kindOf x=some .local∧m x=some u)∨((env.kindOf x=some .cell∨env.kindOf x=some .free)∧∃ c,env.cells.lookup x=some c∧h.IsCell c (some u))
structure Cx.Ok (X:Cx) : Prop where
 mod:Mod X.K X.mg X.base
 kind:X.env.scope.kind = .function
 glob:X.env.globals=mainGlobals
 blt:X.env.builtins=builtinsNs
 above:X.s₀.heap.objs.size≤X.env.locals
 inj:∀ x y c,X.env.cells.lookup x=some c→X.env.cells.lookup y=some c→x=y
 has:∀ x,(X.env.kindOf x=some .cell∨X.env.kindOf x=some .free)→∃ c,X.env.cells.lookup x=some c
 cab:∀ x c,X.fn x=true→X.env.cells.lookup x=some c→X.s₀.heap.objs.size≤c
 hd:X.calm=true→X.A.handled=none
 frames:X.A.frames=some X.stack
 stk:X.stack=X.outer∨(X.stack=X.env :: X.outer∧X.env.frame=some X.env.locals)
 exf:∀ b∈X.ex,b ≠ X.env.locals∧∀ x c,X.env.cells.lookup x=some c→c ≠ b
 bs:∀ b o,X.base.get? b=some o→X.s₀.heap.get? b=some o∧X.H₀ b=none
 bsz:X.base.objs.size≤X.s₀.heap.objs.size
 noex:∀ b o,X.base.get? b=some o→b ∉ X.ex
 exfs:∀ b∈X.ex,b ∉ X.fs
 funs:X.s₀.heap.FunFrames X.base X.outer
 frf:∀ b∈X.fs,X.H₀ b=none
structure Inv (X:Cx) (pins:List (Addr × Obj)) (σ:List (Option V)) (H:Hp) (s:Shared) : Prop where
 ok:X.Ok
 os:s.os=X.s₀.os
 bare:AllBare s.gens
 base:Un X.fs X.ex X.H₀ H X.s₀.heap s.heap
 loc:∃ m,s.heap.Ns X.env.locals m∧∀ (i:Nat) (x:Str) (v:V),X.N[i]? = some x→σ[i]? = some (some v)→Vis X.env.scope x→∃ u,RelV v u∧Look X.env s.heap m x u
 cell:∀ x c,X.env.cells.lookup x=some c→∃ v,s.heap.IsCell c v
 free:H X.env.locals=none
 freeC:∀ x c,X.env.cells.lookup x=some c→H c=none
 pin:∀ p∈X.pn ++ pins,s.heap.get? p.1=some p.2∧H p.1=none∧p.1 ≠ X.env.locals∧p.1 ∉ X.fs∧∀ v,p.2.data ≠ .cell v
 hok:HOk X.prog X.w H s.heap
 len:σ.length=X.N.length
section
variable {X:Cx}{pins:List (Addr × Obj)}{σ:List (Option V)}{H H':Hp}{s:Shared}{h':Heap}
theorem Cx.Ok.nofr (ok:X.Ok){b:Addr}{o:Obj}(e:X.base.get? b=some o) : b ∉ X.fs:=fun hb=>by
 have:=(ok.funs.mem hb).1
 rw [e] at this; cases this
theorem Inv.bs (I:Inv X pins σ H s) : ∀ b o,X.base.get? b=some o→s.heap.get? b=some o∧H b=none:=fun b o e =>
 ⟨I.base.keep b o (I.ok.bs b o e).1 (I.ok.bs b o e).2 (I.ok.nofr e) (I.ok.noex b o e),I.base.free b o (I.ok.bs b o e).1 (I.ok.bs b o e).2 (I.ok.noex b o e)⟩
theorem Inv.bk (I:Inv X pins σ H s) : ∀ b o,X.base.get? b=some o→s.heap.get? b=some o:=fun b o e=>(I.bs b o e).1
theorem Inv.mod (I:Inv X pins σ H s) : Mod X.K X.mg X.base:=I.ok.mod
theorem Inv.kIn (I:Inv X pins σ H s) : X.K.In s.heap:=I.ok.mod.kin.keeps I.bk
theorem Inv.lt (I:Inv X pins σ H s) : X.env.locals < s.heap.objs.size:=let ⟨_,hn,_⟩:=I.loc; hn.lt
theorem Inv.sz (I:Inv X pins σ H s) : X.s₀.heap.objs.size≤s.heap.objs.size:=Nat.le_trans I.ok.above (Nat.le_of_lt I.lt)
theorem Inv.nofs (I:Inv X pins σ H s){a:Addr}(h:s.heap.objs.size≤a) : a ∉ X.fs:=fun hb=>by
 obtain ⟨_,o,ho,_⟩:=I.ok.funs.mem hb
 exact absurd (Nat.lt_of_lt_of_le (Heap.lt_size ho) (Nat.le_trans I.sz h)) (Nat.lt_irrefl _)
theorem Inv.cne (I:Inv X pins σ H s) : ∀ x c,X.env.cells.lookup x=some c→c ≠ X.env.locals:=fun x c e z=>by
 obtain ⟨v,o,ho,hd⟩:=I.cell x c e
 obtain ⟨m,⟨o',es,ep,ho',hd',_⟩,_⟩:=I.loc
 rw [z,ho'] at ho; cases ho; rw [hd'] at hd; cases hd
theorem Inv.funs (I:Inv X pins σ H s) : s.heap.FunFrames X.base X.outer:=by
 have all:∀ (l:List Env),(∀ b∈frs l,b∈X.fs)→X.s₀.heap.FunFrames X.base l→s.heap.FunFrames X.base l:=by
  intro l
  induction l with
  | nil=>intro _ _; trivial
  | cons env r ih =>
   intro hs hl
   obtain ⟨hk,⟨L,o,hf,hn,ho,hd⟩,hr⟩:=hl
   have hL:L∈X.fs:=hs L (by unfold frs; rw [List.filterMap_cons,hf]; exact List.mem_cons_self)
   obtain ⟨sl,e⟩:=I.base.slot L o ho (I.ok.frf L hL) hL fun z=>I.ok.exfs L z hL
   exact ⟨hk,⟨L,_,hf,hn,e,hd⟩,ih (fun b hb=>hs b (by unfold frs; rw [List.filterMap_cons,hf]; exact List.mem_cons_of_mem _ hb)) hr⟩
 exact all X.outer (fun _ hb=>hb) I.ok.funs
theorem Inv.stack (I:Inv X pins σ H s) : s.heap.FunFrames X.base X.stack:=by
 rcases I.ok.stk with e | ⟨e,hf⟩
 ·rw [e]; exact I.funs
 ·rw [e]
  obtain ⟨m,hn,_⟩:=I.loc
  refine .cons (by rw [I.ok.kind]; decide) hf hn ?_ I.funs
  exact Heap.get?_none_of_le (Nat.le_trans I.ok.bsz I.ok.above)
theorem Inv.stkSub (I:Inv X pins σ H s) : ∀ b∈frs X.stack,b∈X.env.locals :: X.fs:=fun b hb=>by
 rcases I.ok.stk with e | ⟨e,hf⟩
 ·rw [e] at hb; exact List.mem_cons_of_mem _ hb
 ·rw [e] at hb
  unfold frs at hb
  rw [List.filterMap_cons,hf] at hb
  exact hb
theorem Inv.stkFree (I:Inv X pins σ H s) : ∀ b∈frs X.stack,H b=none:=fun b hb=>by
 rcases List.mem_cons.mp (I.stkSub b hb) with e | hb
 ·rw [e]; exact I.free
 ·obtain ⟨_,o,ho,_⟩:=I.ok.funs.mem hb
  exact I.base.free b o ho (I.ok.frf b hb) fun z=>I.ok.exfs b z hb
theorem Inv.step {g':Array GenState}{t':Nat}{d':Drawn}{ch:List Addr}(I:Inv X pins σ H s)
  (hch:∀ b∈ch,(b∈X.ex∨X.s₀.heap.objs.size≤b)∧b ≠ X.env.locals∧(∀ x c,X.env.cells.lookup x=some c→c ≠ b)∧∀ p∈X.pn ++ pins,p.1 ≠ b)
  (keep:∀ b o,b ≠ X.env.locals→b ∉ X.fs→b ∉ ch→s.heap.get? b=some o→H b=none→h'.get? b=some o)
  (slot:∀ b o,b ≠ X.env.locals→b∈X.fs→b ∉ ch→s.heap.get? b=some o→H b=none→∃ sl,h'.get? b=some { o with slots:=sl }) (free:∀ b o,b ∉ ch→s.heap.get? b=some o→H b=none→H' b=none)
  (there:∀ b o,b ∉ ch→s.heap.get? b=some o→∃ o',h'.get? b=some o')
  (tups:∀ b xs,H b=some (.tup xs)→H' b=some (.tup xs)) (frzs:∀ b o u,H b=some (.frz o u)→H' b=some (.frz o u)) (tbls:∀ b ps,H b=some (.tbl ps)→∃ more,H' b=some (.tbl (ps ++ more)))
  (ns:∀ m,s.heap.Ns X.env.locals m→h'.Ns X.env.locals m) (hok:HOk X.prog X.w H' h') (hg:AllBare g') :
  Inv X pins σ H' { s with heap:=h',gens:=g',drawn:=d',toks:=t' }:=by
 have neL:∀ b o,X.s₀.heap.get? b=some o→b ≠ X.env.locals:=fun b o e=>Nat.ne_of_lt (Nat.lt_of_lt_of_le (Heap.lt_size e) I.ok.above)
 have neC:∀ b o,X.s₀.heap.get? b=some o→b ∉ X.ex→b ∉ ch:=fun b o e hx hb=>by
  rcases (hch b hb).1 with z | z
  ·exact hx z
  ·exact absurd (Nat.lt_of_lt_of_le (Heap.lt_size e) z) (Nat.lt_irrefl _)
 have cellK:∀ x c,X.env.cells.lookup x=some c→∀ v,s.heap.IsCell c v→h'.IsCell c v:=fun x c e v ⟨o,ho,hd⟩=>by
  have nch:c ∉ ch:=fun z=>(hch c z).2.2.1 x c e rfl
  by_cases hc:c∈X.fs
  ·obtain ⟨sl,q⟩:=slot c o (I.cne x c e) hc nch ho (I.freeC x c e)
   exact ⟨_,q,hd⟩
  ·exact ⟨o,keep c o (I.cne x c e) hc nch ho (I.freeC x c e),hd⟩
 refine ⟨I.ok,I.os,hg,⟨fun b o e n hb hx=>?_,fun b o e n hb hx=>?_,fun b o e n hx=>?_,fun b o e hx=>?_,fun b xs e=>tups b xs (I.base.tups b xs e),fun b o xs e=>frzs b o xs (I.base.frzs b o xs e),fun b ps e=>?_⟩,?_,fun x c e=>?_,?_,fun x c e=>?_,fun p hp=>?_,hok,I.len⟩
 ·exact keep b o (neL b o e) hb (neC b o e hx) (I.base.keep b o e n hb hx) (I.base.free b o e n hx)
 ·obtain ⟨sl,e1⟩:=I.base.slot b o e n hb hx
  obtain ⟨sl',e2⟩:=slot b _ (neL b o e) hb (neC b o e hx) e1 (I.base.free b o e n hx)
  exact ⟨sl',e2⟩
 ·obtain ⟨o',e1⟩:=I.base.there b o e hx
  exact free b o' (neC b o e hx) e1 (I.base.free b o e n hx)
 ·obtain ⟨o',e1⟩:=I.base.there b o e hx
  exact there b o' (neC b o e hx) e1
 ·obtain ⟨m1,e1⟩:=I.base.tbls b ps e
  obtain ⟨m2,e2⟩:=tbls b _ e1
  exact ⟨m1 ++ m2,by rw [e2,Array.append_assoc]⟩
 ·obtain ⟨m,hn,hl⟩:=I.loc
  refine ⟨m,ns m hn,fun i x v e1 e2 e3=>?_⟩
  obtain ⟨u,r,l⟩:=hl i x v e1 e2 e3
  refine ⟨u,r,?_⟩
  rcases l with l | ⟨k,c,e,z⟩
  ·exact .inl l
  ·exact .inr ⟨k,c,e,cellK x c e _ z⟩
 ·obtain ⟨v,z⟩:=I.cell x c e
  exact ⟨v,cellK x c e v z⟩
 ·obtain ⟨m,⟨o,_,_,ho,_⟩,_⟩:=I.loc
  exact free _ o (fun z=>(hch _ z).2.1 rfl) ho I.free
 ·obtain ⟨v,o,ho,hd⟩:=I.cell x c e
  exact free c o (fun z=>(hch c z).2.2.1 x c e rfl) ho (I.freeC x c e)
 ·obtain ⟨e,n,ne,nf,d⟩:=I.pin p hp
  have nch:p.1 ∉ ch:=fun z=>(hch p.1 z).2.2.2 p hp rfl
  exact ⟨keep p.1 p.2 ne nf nch e n,free p.1 p.2 nch e n,ne,nf,d⟩
theorem Inv.un {t':Nat}(I:Inv X pins σ H s)(u:Un X.fs [] H H' s.heap h')(hok:HOk X.prog X.w H' h') : Inv X pins σ H' { s with heap:=h',toks:=t' }:=by
 obtain ⟨m,⟨o,es,ep,ho,r⟩,_⟩:=id I.loc
 obtain ⟨sl,hL⟩:=u.any ho I.free (by simp)
 exact I.step (g':=s.gens) (d':=s.drawn) (ch:=[]) (fun _ z=>nomatch z) (fun b o _ hb _ e n=>u.keep b o e n hb (by simp)) (fun b o _ hb _ e n=>u.slot b o e n hb (by simp)) (fun b o _ e n=>u.free b o e n (by simp)) (fun b o _ e=>u.there b o e (by simp)) u.tups u.frzs u.tbls (fun m' hm=>by
  obtain ⟨o',es',ep',ho',r'⟩:=hm
  rw [ho] at ho'; cases ho'
  exact ⟨_,es',ep',hL,r'⟩) hok I.bare
theorem Inv.call {g':Array GenState}{t':Nat}{d':Drawn}{ch:List Addr}(I:Inv X pins σ H s) (u:Un (frs X.stack) ch H H' s.heap h') (hok:HOk X.prog X.w H' h') (hg:AllBare g')
  (hch:∀ b∈ch,(b∈X.ex∨X.s₀.heap.objs.size≤b)∧b ≠ X.env.locals∧(∀ x c,X.env.cells.lookup x=some c→c ≠ b)∧∀ p∈X.pn ++ pins,p.1 ≠ b) :
  Inv X pins σ H' { s with heap:=h',gens:=g',drawn:=d',toks:=t' }:=by
 obtain ⟨m,⟨o,es,ep,ho,r⟩,_⟩:=id I.loc
 obtain ⟨sl,hL⟩:=u.any ho I.free fun z=>(hch _ z).2.1 rfl
 exact I.step (ch:=ch) hch (fun b o hL hb hc e n=>u.keep b o e n (fun z=>(List.mem_cons.mp (I.stkSub b z)).elim hL hb) hc) (fun b o _ _ hc e n=>u.any e n hc) (fun b o hc e n=>u.free b o e n hc) (fun b o hc e=>u.there b o e hc) u.tups u.frzs u.tbls (fun m' hm=>by
  obtain ⟨o',es',ep',ho',r'⟩:=hm
  rw [ho] at ho'; cases ho'
  exact ⟨_,es',ep',hL,r'⟩) hok hg
theorem Inv.turned {t':Nat}{it:Addr}(I:Inv X pins σ H s) (k:∀ b o,b ≠ it→s.heap.get? b=some o→h'.get? b=some o) (hn:H it=none) (hL:it ≠ X.env.locals)
  (h1:it∈X.ex∨X.s₀.heap.objs.size≤it) (h2:∀ x c,X.env.cells.lookup x=some c→c ≠ it) (h3:∀ p∈X.pn ++ pins,p.1 ≠ it) : Inv X pins σ H { s with heap:=h',toks:=t' }:=by
 have nit:∀ b u,H b=some u→b ≠ it:=fun b u e z=>by rw [z,hn] at e; cases e
 refine I.step (g':=s.gens) (d':=s.drawn) (ch:=[it]) (fun b hb=>?_) (fun b o _ _ hc e _=>k b o (fun z=>hc (by simp [z])) e) (fun b o _ _ hc e _=>⟨o.slots,k b o (fun z=>hc (by simp [z])) e⟩) (fun _ _ _ _ n=>n)
  (fun b o hc e=>⟨o,k b o (fun z=>hc (by simp [z])) e⟩) (fun _ _ e=>e) (fun _ _ _ e=>e) (fun b ps e=>⟨#[],by rw [e]; simp⟩) (fun m hm=>?_) (fun b u e=>?_) I.bare
 ·have e:b=it:=by simpa using hb
  subst e
  exact ⟨h1,hL,h2,h3⟩
 ·obtain ⟨o,es,ep,ho,r⟩:=hm
  exact ⟨o,es,ep,k _ o (Ne.symm hL) ho,r⟩
 ·refine (I.hok b u e).stay (fun c v hc q=>k c v ?_ q) (fun _ q=>q) fun _ _ q=>q
  rcases hc with z | z
  ·rw [z]; exact nit b u e
  ·exact nit c _ z
theorem Inv.tok (I:Inv X pins σ H s)(t:Nat) : Inv X pins σ H { s with toks:=t }:=I.un (h':=s.heap) (t':=t) Un.refl I.hok
theorem Inv.kept {t':Nat}(I:Inv X pins σ H s)(k:∀ b u,s.heap.get? b=some u→h'.get? b=some u) : Inv X pins σ H { s with heap:=h',toks:=t' }:=I.un (Un.kept k) (I.hok.kept k)
theorem Inv.laid {a:Addr}{o:HO}{t':Nat}(I:Inv X pins σ H s) (k:∀ b u,s.heap.get? b=some u→h'.get? b=some u) (hp:s.heap.objs.size≤a) (new:ObjOk X.prog X.w (upd H a o) h' a o) :
  Inv X pins σ (upd H a o) { s with heap:=h',toks:=t' }:=I.un (Un.laid k hp (I.hok.fresh hp)) (I.hok.laid k hp new)
theorem Inv.write {x e:Addr}{o:HO}{t':Nat}(I:Inv X pins σ H s) (mu:Mut (H x)) (he:e=x∨H e=some (.own x)) (k:∀ b u,b ≠ e→s.heap.get? b=some u→h'.get? b=some u) (heo:∃ u,h'.get? e=some u)
  (new:ObjOk X.prog X.w (upd H x o) h' x o) : Inv X pins σ (upd H x o) { s with heap:=h',toks:=t' }:=I.un (Un.write mu he k heo) (I.hok.write mu he k heo new)
theorem Inv.weak {σ':List (Option V)}(I:Inv X pins σ H s)(hl:σ'.length=σ.length)(w:∀ (i:Nat) v,σ'[i]? = some (some v)→σ[i]? = some (some v)) : Inv X pins σ' H s :=
 ⟨I.ok,I.os,I.bare,I.base,let ⟨m,hn,hl'⟩:=I.loc; ⟨m,hn,fun i x v e1 e2 e3=>hl' i x v e1 (w i v e2) e3⟩,I.cell,I.free,I.freeC,I.pin,I.hok,hl.trans I.len⟩
theorem Inv.pins_of {pins':List (Addr × Obj)}(I:Inv X pins σ H s)(h:∀ p∈pins',s.heap.get? p.1=some p.2∧H p.1=none∧p.1 ≠ X.env.locals∧p.1 ∉ X.fs∧∀ v,p.2.data ≠ .cell v) : Inv X pins' σ H s :=
 ⟨I.ok,I.os,I.bare,I.base,I.loc,I.cell,I.free,I.freeC,fun p hp=>(List.mem_append.mp hp).elim (fun z=>I.pin p (List.mem_append_left _ z)) (h p),I.hok,I.len⟩
theorem nodup_ix {N:List Str}(hN:N.Nodup){i j:Nat}{x:Str}(a:N[i]? = some x)(b:N[j]? = some x) : i=j:=by
 obtain ⟨h1,e1⟩:=List.getElem?_eq_some_iff.mp a
 obtain ⟨h2,e2⟩:=List.getElem?_eq_some_iff.mp b
 exact (List.getElem_inj hN).mp (e1.trans e2.symm)
theorem store_ok2 {M:Model}{A:Around}{E:Value→Shared→Prop}{i:Nat}{x:Str}{v:V}{u:Value}{Q:Unit→Shared→Prop}(I:Inv X pins σ H s) (hN:X.N.Nodup) (hi:X.N[i]? = some x) (hx:Loc X.env.scope x) (r:RelV v u)
  (h:∀ s',Inv X pins (σ.set i (some v)) H s'→(∃ a,Heap.SameBut a s.heap s'.heap∧(a=X.env.locals∨X.env.cells.lookup x=some a))→Q () s') (hf:X.fn x=true∨X.env.scope.names.lookup x=some .local:=by first | exact .inl rfl | exact .inr rfl | assumption) : wpAny M A (storeName X.env x u) Q E s:=by
 obtain ⟨m,hn,hl⟩:=id I.loc
 have hcls:(X.env.scope.kind == .class || (X.env.scope.kind == .module && X.env.locals != X.env.globals))=false:=by rw [I.ok.kind]; rfl
 have hiσ:i < σ.length:=by rw [I.len]; exact (List.getElem?_eq_some_iff.mp hi).1
 have cne:=I.cne
 have tracked:∀ {a:Addr}{h':Heap},(∃ o,s.heap.get? a=some o∧H a=none)→Heap.SameBut a s.heap h'→HOk X.prog X.w H h':=fun {a h'} ha hs b ob e=>by
  obtain ⟨_,_,hfree⟩:=ha
  refine (I.hok b ob e).stay (fun c w' hc q=>(hs.2 c ?_).trans q) (fun _ q=>q) fun _ _ q=>q
  rintro rfl
  rcases hc with rfl | hc
  ·rw [hfree] at e; cases e
  ·rw [hfree] at hc; cases hc
 rcases hx with hk | hk
 ·refine wpAny_storeName_local hk hn (fun h' hn' hs=>?_) hcls
  obtain ⟨oL,_,_,hoL,_⟩:=id hn
  refine h _ ⟨I.ok,I.os,I.bare,⟨fun b o e n hb hx=>?_,fun b o e n hb hx=>?_,I.base.free,fun b o e hx=>?_,I.base.tups,I.base.frzs,I.base.tbls⟩,⟨_,hn',fun j y v' e1 e2 e3=>?_⟩,fun y c e=>?_,I.free,I.freeC,fun p hp=>?_,tracked ⟨oL,hoL,I.free⟩ hs,by simpa using I.len⟩ ⟨_,hs,.inl rfl⟩
  ·exact (hs.2 b (Nat.ne_of_lt (Nat.lt_of_lt_of_le (Heap.lt_size e) I.ok.above))).trans (I.base.keep b o e n hb hx)
  ·obtain ⟨sl,e1⟩:=I.base.slot b o e n hb hx
   exact ⟨sl,(hs.2 b (Nat.ne_of_lt (Nat.lt_of_lt_of_le (Heap.lt_size e) I.ok.above))).trans e1⟩
  ·obtain ⟨o',e1⟩:=I.base.there b o e hx
   exact ⟨o',(hs.2 b (Nat.ne_of_lt (Nat.lt_of_lt_of_le (Heap.lt_size e) I.ok.above))).trans e1⟩
  ·by_cases hj:j=i
   ·subst hj
    rw [hi] at e1; cases e1
    rw [List.getElem?_set_self hiσ] at e2
    cases e2
    exact ⟨u,r,.inl ⟨hk,by simp⟩⟩
   ·rw [List.getElem?_set_ne (Ne.symm hj)] at e2
    obtain ⟨u',r',q⟩:=hl j y v' e1 e2 e3
    refine ⟨u',r',?_⟩
    rcases q with ⟨k,e⟩ | ⟨k,c,e,z⟩
    ·refine .inl ⟨k,?_⟩
     have:y ≠ x:=fun e=>hj (nodup_ix hN e1 (e ▸ hi))
     simp [this,e]
    ·exact .inr ⟨k,c,e,z.sameBut hs (cne y c e)⟩
  ·obtain ⟨w',z⟩:=I.cell y c e
   exact ⟨w',z.sameBut hs (cne y c e)⟩
  ·obtain ⟨e,n,ne,nf,d⟩:=I.pin p hp
   exact ⟨(hs.2 p.1 ne).trans e,n,ne,nf,d⟩
 ·have hfn:X.fn x=true:=by
   rcases hf with z | z
   ·exact z
   ·rw [z] at hk; cases hk
  obtain ⟨c,hc⟩:=I.ok.has x (.inl hk)
  obtain ⟨w',z⟩:=I.cell x c hc
  refine wpAny_storeName_cell I.ok.kind hk hc z (fun h' hc' hs=>?_)
  obtain ⟨oc,hoc,hocd⟩:=id z
  refine h { s with heap:=h' } ⟨I.ok,I.os,I.bare,⟨fun b o e n hb hx=>?_,fun b o e n hb hx=>?_,I.base.free,fun b o e hx=>?_,I.base.tups,I.base.frzs,I.base.tbls⟩,⟨m,hn.sameBut hs (Ne.symm (cne x c hc)),fun j y v' e1 e2 e3=>?_⟩,fun y c' e=>?_,I.free,I.freeC,fun p hp=>?_,tracked ⟨oc,hoc,I.freeC x c hc⟩ hs,by simpa using I.len⟩ ⟨c,hs,.inr hc⟩
  ·exact (hs.2 b (Nat.ne_of_lt (Nat.lt_of_lt_of_le (Heap.lt_size e) (I.ok.cab x c hfn hc)))).trans (I.base.keep b o e n hb hx)
  ·obtain ⟨sl,e1⟩:=I.base.slot b o e n hb hx
   exact ⟨sl,(hs.2 b (Nat.ne_of_lt (Nat.lt_of_lt_of_le (Heap.lt_size e) (I.ok.cab x c hfn hc)))).trans e1⟩
  ·obtain ⟨o',e1⟩:=I.base.there b o e hx
   exact ⟨o',(hs.2 b (Nat.ne_of_lt (Nat.lt_of_lt_of_le (Heap.lt_size e) (I.ok.cab x c hfn hc)))).trans e1⟩
  ·by_cases hj:j=i
   ·subst hj
    rw [hi] at e1; cases e1
    rw [List.getElem?_set_self hiσ] at e2
    cases e2
    exact ⟨u,r,.inr ⟨.inl hk,c,hc,hc'⟩⟩
   ·rw [List.getElem?_set_ne (Ne.symm hj)] at e2
    obtain ⟨u',r',q⟩:=hl j y v' e1 e2 e3
    refine ⟨u',r',?_⟩
    rcases q with q | ⟨k,c',e,z'⟩
    ·exact .inl q
    ·refine .inr ⟨k,c',e,z'.sameBut hs ?_⟩
     rintro rfl
     exact hj (nodup_ix hN e1 (I.ok.inj _ _ _ e hc ▸ hi))
  ·by_cases hcc:c'=c
   ·subst hcc; exact ⟨_,hc'⟩
   ·obtain ⟨w2,z2⟩:=I.cell y c' e
    exact ⟨w2,z2.sameBut hs hcc⟩
  ·obtain ⟨e,n,ne,nf,d⟩:=I.pin p hp
   refine ⟨(hs.2 p.1 ?_).trans e,n,ne,nf,d⟩
   intro q
   rw [q,hoc] at e
   have q':oc=p.2:=Option.some.inj e
   exact d w' (by rw [← q']; exact hocd)
theorem store_ok {M:Model}{A:Around}{E:Value→Shared→Prop}{i:Nat}{x:Str}{v:V}{u:Value}{Q:Unit→Shared→Prop}(I:Inv X pins σ H s) (hN:X.N.Nodup) (hi:X.N[i]? = some x) (hx:Loc X.env.scope x) (r:RelV v u)
  (h:∀ s',Inv X pins (σ.set i (some v)) H s'→Q () s') (hf:X.fn x=true∨X.env.scope.names.lookup x=some .local:=by first | exact .inl rfl | exact .inr rfl | assumption) : wpAny M A (storeName X.env x u) Q E s :=
 store_ok2 I hN hi hx r (fun s' I' _=>h s' I') hf
theorem Inv.call' {s':Shared}{ch:List Addr}(I:Inv X pins σ H s) (ho:s'.os=s.os) (u:Un (frs X.stack) ch H H' s.heap s'.heap) (hok:HOk X.prog X.w H' s'.heap) (hg:AllBare s'.gens)
  (hch:∀ b∈ch,(b∈X.ex∨X.s₀.heap.objs.size≤b)∧b ≠ X.env.locals∧(∀ x c,X.env.cells.lookup x=some c→c ≠ b)∧∀ p∈X.pn ++ pins,p.1 ≠ b) : Inv X pins σ H' s':=by
 obtain ⟨h',g',d',t',o'⟩:=s'
 have e:o'=s.os:=ho
 subst e
 exact I.call (g':=g') (t':=t') (d':=d') u hok hg hch
end
abbrev XK:=Value→Option Addr→Hp→Prop
abbrev St:=List (Option V)
abbrev VK:=V→Hp→Prop
abbrev TE:=St→Hp→VK→Prop
abbrev TT:=St→Hp→(Bool→Hp→Prop)→Prop
abbrev TA:=St→Hp→(List V→Hp→Prop)→Prop
structure Ends where
 nx:St→Hp→Prop
 rt:VK
 bk:St→Hp→Prop:=fun _ _=>False
 ct:St→Hp→Prop:=fun _ _=>False
abbrev TS:=Ends→St→Hp→Prop
def EP (X:Cx)(pins:List (Addr × Obj))(σ:St)(Q:VK)(u:Value)(s':Shared) : Prop:=∃ v H',Inv X pins σ H' s'∧RelV v u∧Q v H'
def TP (X:Cx)(pins:List (Addr × Obj))(σ:St)(Q:Bool→Hp→Prop)(b:Bool)(s':Shared) : Prop:=∃ H',Inv X pins σ H' s'∧Q b H'
def AP (X:Cx)(pins:List (Addr × Obj))(σ:St)(Q:List V→Hp→Prop)(us:List Value)(s':Shared) : Prop:=∃ vs H',Inv X pins σ H' s'∧Vals vs us∧Q vs H'
def SP (X:Cx)(pins:List (Addr × Obj))(D:Ends)(f:Flow)(s':Shared) : Prop :=
 match f with
 | .next=>∃ σ' H',Inv X pins σ' H' s'∧D.nx σ' H'
 | .brk=>∃ σ' H',Inv X pins σ' H' s'∧D.bk σ' H'
 | .cont=>∃ σ' H',Inv X pins σ' H' s'∧D.ct σ' H'
 | .ret u=>∃ v σ' H',Inv X pins σ' H' s'∧RelV v u∧D.rt v H'
def PE (X:Cx)(e:Expr)(t:TE) : Prop :=
 ∀ (pins:List (Addr × Obj)) (s:Shared) (σ:St) (H:Hp) (Q:VK),Inv X pins σ H s→t σ H Q→wpAny (model X.prog X.w) X.A (eval e X.env) (EP X pins σ Q) X.xe s
def PT (X:Cx)(e:Expr)(t:TT) : Prop :=
 ∀ (pins:List (Addr × Obj)) (s:Shared) (σ:St) (H:Hp) (Q:Bool→Hp→Prop),Inv X pins σ H s→t σ H Q→wpAny (model X.prog X.w) X.A (isTrue e X.env (eval e X.env)) (TP X pins σ Q) X.xe s
def PW (X:Cx)(e:Expr)(t:TT) : Prop :=
 ∀ (whole:Sem Value) (pins:List (Addr × Obj)) (s:Shared) (σ:St) (H:Hp) (Q:Bool→Hp→Prop),Inv X pins σ H s→t σ H Q→wpAny (model X.prog X.w) X.A (isTrue e X.env whole) (TP X pins σ Q) X.xe s
theorem PW.pt {X:Cx}{e:Expr}{t:TT}(h:PW X e t) : PT X e t:=h _
def PA (X:Cx)(es:List Expr)(t:TA) : Prop :=
 ∀ (pos:Pos) (pins:List (Addr × Obj)) (s:Shared) (σ:St) (H:Hp) (Q:List V→Hp→Prop),Inv X pins σ H s→t σ H Q→wpAny (model X.prog X.w) X.A (spliced (backTo pos (starEach es X.env))) (AP X pins σ Q) X.xe s
def PS (X:Cx)(st:Stmt)(t:TS) : Prop :=
 ∀ (pins:List (Addr × Obj)) (s:Shared) (σ:St) (H:Hp) (D:Ends),Inv X pins σ H s→t D σ H→wpAny (model X.prog X.w) X.A (exec st X.env) (SP X pins D) X.xe s
def PSs (X:Cx)(st:List Stmt)(t:TS) : Prop :=
 ∀ (pins:List (Addr × Obj)) (s:Shared) (σ:St) (H:Hp) (D:Ends),Inv X pins σ H s→t D σ H→wpAny (model X.prog X.w) X.A (execs st X.env) (SP X pins D) X.xe s
theorem thn {α:Type}{t:Sem α}{Q Q':α→Shared→Prop}{M:Model}{A:Around}{E:Value→Shared→Prop}{s:Shared}(h:wpAny M A t Q E s)(hQ:∀ a s,Q a s→Q' a s) : wpAny M A t Q' E s:=wpAny_mono h hQ fun _ _ x=>x
end L2
namespace L2
open PySem PySem.Spec PyProof.Rows
section
variable {X:Cx}
def tVar (i:Nat) : TE:=fun σ H Q=>∃ v,σ[i]? = some (some v)∧Q v H
def tC (v:V) : TE:=fun _ H Q=>Q v H
theorem pe_var {i:Nat}{x:Str}{pos:Pos}(hN:X.N[i]? = some x)(hv:Vis X.env.scope x)(hd:(x == ("__debug__" : Str))=false:=by decide)(hcd:(x == ("__classdict__" : Str))=false:=by decide) : PE X (.Name x pos) (tVar i):=by
 intro pins s σ H Q I h
 obtain ⟨v,e,h⟩:=h
 obtain ⟨m,hn,hl⟩:=I.loc
 obtain ⟨u,r,l⟩:=hl i x v hN e hv
 have fin:EP X pins σ Q u s:=⟨v,H,I,r,h⟩
 rcases l with ⟨hk,hm⟩ | ⟨hk,c,hc,hcell⟩
 ·exact wpAny_Name (wpAny_loadName_local I.ok.kind hk hn hm fin) hd
 ·rcases hk with hk | hk
  ·exact wpAny_Name (wpAny_loadName_cell I.ok.kind hk hc hcell fin) hd
  ·exact wpAny_Name (wpAny_loadName_free I.ok.kind hk hc hcell fin hcd) hd
theorem pe_int {i j pos} : PE X (.Constant (.int i) j pos) (tC (.int i)):=fun _ _ _ H _ I h=>wpAny_Constant_int ⟨.int i,H,I.tok _,⟨_,rfl⟩,h⟩
theorem pe_bl {b j pos} : PE X (.Constant (.bool b) j pos) (tC (.bl b)):=fun _ _ _ H _ I h=>Constant_bool ⟨.bl b,H,I,rfl,h⟩
theorem pe_non {j pos} : PE X (.Constant .none j pos) (tC .non):=fun _ _ _ H _ I h=>Constant_none ⟨.non,H,I,rfl,h⟩
theorem pe_str {x j pos} : PE X (.Constant (.str x) j pos) (tC (.str x)):=fun _ _ _ H _ I h=>Calls.Constant_str ⟨.str x,H,I.tok _,⟨_,rfl⟩,h⟩
def Gl (X:Cx)(x:Str) : Prop:=X.env.kindOf x=some .globalImplicit
theorem ld_glob {E:Value→Shared→Prop}{pins:List (Addr × Obj)}{s:Shared}{σ:St}{H:Hp}{x:Str}{u:Value}{pos:Pos}{Q:Value→Shared→Prop}(I:Inv X pins σ H s) (hg:Gl X x) (hm:X.mg x=some u) (h:Q u s)
  (hd:(x == ("__debug__" : Str))=false:=by decide) : wpAny (model X.prog X.w) X.A (eval (.Name x pos) X.env) Q E s :=
 Calls.Name_function_global I.ok.kind hg (Calls.loadGlobal_global (by rw [I.ok.glob]; exact I.mod.glob.keeps I.bk) hm h) hd
theorem ld_blt {E:Value→Shared→Prop}{pins:List (Addr × Obj)}{s:Shared}{σ:St}{H:Hp}{x:Str}{u:Value}{pos:Pos}{Q:Value→Shared→Prop}(I:Inv X pins σ H s) (hg:Gl X x) (hm:X.mg x=none) (hv:bootBuiltins x=some u) (h:Q u s)
  (hn:x ≠ "__name__" := by decide) (hd:(x == ("__debug__" : Str))=false:=by decide) : wpAny (model X.prog X.w) X.A (eval (.Name x pos) X.env) Q E s:=by
 obtain ⟨mb,h1,h2⟩:=I.mod.blt
 exact Calls.Name_function_global I.ok.kind hg (Calls.loadGlobal_builtin (by rw [I.ok.glob]; exact I.mod.glob.keeps I.bk) hm (by rw [I.ok.blt]; exact h1.keeps I.bk) ((h2 x hn).trans hv) h) hd
theorem pe_glob {x:Str}{v:V}{u:Value}{pos:Pos}(hg:Gl X x)(hm:X.mg x=some u)(r:RelV v u)(hd:(x == ("__debug__" : Str))=false:=by decide) : PE X (.Name x pos) (tC v) :=
 fun _ _ _ H _ I h=>ld_glob I hg hm ⟨v,H,I,r,h⟩ hd
theorem pe_bltn {x:Str}{v:V}{u:Value}{pos:Pos}(hg:Gl X x)(hm:X.mg x=none)(hv:bootBuiltins x=some u)(r:RelV v u)(hn:x ≠ "__name__" := by decide)(hd:(x == ("__debug__" : Str))=false:=by decide) : PE X (.Name x pos) (tC v) :=
 fun _ _ _ H _ I h=>ld_blt I hg hm hv ⟨v,H,I,r,h⟩ hn hd
variable {a b:Expr}{ta tb:TE}{pos:Pos}
def tB (t:TE) : TT:=fun σ H Q=>t σ H fun x H1=>∃ c,x = .bl c∧Q c H1
theorem pt_val {e:Expr}{t:TE}(h:PE X e t)(he:∀ whole,isTrue e X.env whole=(do let v ← whole; standAt e.pos; holding [v] (truthy v)):=by intro _; rfl) : PT X e (tB t):=by
 intro pins s σ H Q I hw
 refine isTrue_plain (thn (h pins s σ H _ I hw) fun v s1 ⟨x,H1,I1,r1,q1⟩=>?_) (he _)
 obtain ⟨d,rfl,q⟩:=q1
 cases r1
 exact wpAny_truthy_bool ⟨H1,I1,q⟩
variable {tA tB':TT}{rest:List Expr}
def tAnd (t u:TT) : TT:=fun σ H Q=>t σ H fun c H1=>if c=true then u σ H1 Q else Q false H1
def tOr (t u:TT) : TT:=fun σ H Q=>t σ H fun c H1=>if c=true then Q true H1 else u σ H1 Q
def tNot (t:TT) : TT:=fun σ H Q=>t σ H fun c H1=>Q (!c) H1
theorem pw_and1 (ha:PT X a tA) : PW X (.BoolOp .And [a] pos) tA:=by
 intro wh pins s σ H Q I h
 refine isTrue_and (thn (ha pins s σ H Q I h) fun c s1 e=>?_)
 cases c with
 | true=>exact isTrue_and_nil e
 | false=>exact e
theorem pw_or1 (ha:PT X a tA) : PW X (.BoolOp .Or [a] pos) tA:=by
 intro wh pins s σ H Q I h
 refine isTrue_or (thn (ha pins s σ H Q I h) fun c s1 e=>?_)
 cases c with
 | false=>exact isTrue_or_nil e
 | true=>exact e
theorem pw_and (ha:PT X a tA)(hb:PW X (.BoolOp .And (b :: rest) pos) tB') : PW X (.BoolOp .And (a :: b :: rest) pos) (tAnd tA tB'):=by
 intro wh pins s σ H Q I h
 refine isTrue_and (thn (ha pins s σ H _ I h) fun c s1 ⟨H1,I1,q1⟩=>?_)
 cases c with
 | true=>exact hb wh pins s1 σ H1 Q I1 q1
 | false=>exact ⟨H1,I1,q1⟩
theorem pw_or (ha:PT X a tA)(hb:PW X (.BoolOp .Or (b :: rest) pos) tB') : PW X (.BoolOp .Or (a :: b :: rest) pos) (tOr tA tB'):=by
 intro wh pins s σ H Q I h
 refine isTrue_or (thn (ha pins s σ H _ I h) fun c s1 ⟨H1,I1,q1⟩=>?_)
 cases c with
 | true=>exact ⟨H1,I1,q1⟩
 | false=>exact hb wh pins s1 σ H1 Q I1 q1
theorem pt_not (ha:PT X a tA) : PT X (.UnaryOp .Not a pos) (tNot tA):=by
 intro pins s σ H Q I h
 exact isTrue_not (ha pins s σ H (fun c H1=>Q (!c) H1) I h)
def tAndV (ta tb:TE) : TE:=fun σ H Q=>ta σ H fun x H1=>∃ c,x = .bl c∧if c=true then tb σ H1 Q else Q (.bl false) H1
def tNotV (ta:TE) : TE:=fun σ H Q=>ta σ H fun x H1=>∃ c,x = .bl c∧Q (.bl (!c)) H1
theorem pe_one {op}{t:TE}(h:PE X a t) : PE X (.BoolOp op [a] pos) t:=fun pins s σ H Q I hw=>BoolOp_one (h pins s σ H Q I hw)
theorem pe_and (ha:PE X a ta)(hb:PE X (.BoolOp .And (b :: rest) pos) tb) : PE X (.BoolOp .And (a :: b :: rest) pos) (tAndV ta tb):=by
 intro pins s σ H Q I h
 refine BoolOp_and (thn (ha pins s σ H _ I h) fun v s1 ⟨x,H1,I1,r1,q1⟩=>?_)
 obtain ⟨c,rfl,q1⟩:=q1
 cases r1
 refine wpAny_truthy_bool ?_
 cases c with
 | true=>exact hb pins s1 σ H1 Q I1 q1
 | false=>exact ⟨.bl false,H1,I1,rfl,q1⟩
theorem pe_not (ha:PE X a ta) : PE X (.UnaryOp .Not a pos) (tNotV ta):=by
 intro pins s σ H Q I h
 refine UnaryOp_ (thn (ha pins s σ H _ I h) fun v s1 ⟨x,H1,I1,r1,q1⟩=>?_)
 obtain ⟨c,rfl,q1⟩:=q1
 cases r1
 exact not_of (wpAny_truthy_bool ⟨.bl (!c),H1,I1,rfl,q1⟩)
end
end L2
namespace L2
open PySem PySem.Spec PyProof.Rows
def SqL (K:PySem.W.Frag)(H:Hp)(a:Addr)(xs:List V) : Prop :=
 Rd H a (.lst xs) ∨
  ∃ (o:Obj) (its:Array Value) (n:Nat),K.lookup a=some o∧o.cls = .type "list" ∧ o.dict=none∧o.data = .seq its n∧its.size≤sizeLine∧Vals xs its.toList
def SqT (K:PySem.W.Frag)(H:Hp)(a:Addr)(xs:List V) : Prop :=
 Rd H a (.tup xs) ∨
  ∃ (o:Obj) (its:Array Value) (n:Nat),K.lookup a=some o∧o.cls = .type "tuple" ∧ o.data = .seq its n∧its.size≤sizeLine∧Vals xs its.toList
def absV:Value→Option V
 | .none=>some .non
 | .bool b=>some (.bl b)
 | .int i _=>some (.int i)
 | .str x _=>some (.str x)
 | .bytes b _=>some (.byt b)
 | .float b _=>some (.flt b)
 | .ref a=>some (.ref a)
 | .type n=>some (.ty n)
 | _=>none
theorem RelV.abs {x:V}{u:Value}(r:RelV x u) : absV u=some x:=by
 cases x with
 | non=>cases r; rfl
 | bl _=>cases r; rfl
 | int _=>obtain ⟨t,rfl⟩:=r; rfl
 | str _=>obtain ⟨t,rfl⟩:=r; rfl
 | byt _=>obtain ⟨t,rfl⟩:=r; rfl
 | flt _=>obtain ⟨t,rfl⟩:=r; rfl
 | ref _=>cases r; rfl
 | ty _=>cases r; rfl
theorem RelV.inj {x y:V}{u:Value}(r:RelV x u)(q:RelV y u) : x=y:=Option.some.inj (r.abs.symm.trans q.abs)
theorem Vals.inj:∀ {xs ys:List V}{us:List Value},Vals xs us→Vals ys us→xs=ys
 | _,_,_,.nil,.nil=>rfl
 | _,_,_,.cons r t,.cons r' t'=>by rw [r.inj r',Vals.inj t t']
section
variable {X:Cx}{pins:List (Addr × Obj)}{σ:St}{H:Hp}{s:Shared}{a:Addr}{xs ys:List V}
theorem SqL.of {K:PySem.W.Frag}(h:H a=some (.lst xs)) : SqL K H a xs:=.inl (.inl h)
theorem SqT.of {K:PySem.W.Frag}(h:H a=some (.tup xs)) : SqT K H a xs:=.inl (.inl h)
theorem Inv.list (I:Inv X pins σ H s)(h:SqL X.K H a xs) : ∃ its:List Value,Vals xs its∧PlainL s.heap a its.toArray∧xs.length≤sizeLine:=by
 rcases h with h | ⟨o,its,n,hk,hc,hd,hs,hz,r⟩
 ·obtain ⟨z,its,n,r,e⟩:=h.ok I.hok
  exact ⟨its,r,⟨_,n,e,rfl,rfl,rfl⟩,z⟩
 ·refine ⟨its.toList,r,⟨o,n,I.kIn a o hk,hc,hd,by simpa using hs⟩,?_⟩
  have e:=r.length
  simp only [Array.length_toList] at e
  omega
theorem Inv.tuple (I:Inv X pins σ H s)(h:SqT X.K H a xs) : ∃ its:List Value,Vals xs its∧IsTup s.heap a its.toArray∧xs.length≤sizeLine:=by
 rcases h with h | ⟨o,its,n,hk,hc,hs,hz,r⟩
 ·obtain ⟨z,its,r,p⟩:=h.ok I.hok
  exact ⟨its,r,p,z⟩
 ·refine ⟨its.toList,r,⟨o,I.kIn a o hk,hc,n,by simpa using hs⟩,?_⟩
  have e:=r.length
  simp only [Array.length_toList] at e
  omega
theorem Inv.list_inj (I:Inv X pins σ H s)(h:SqL X.K H a xs)(h':SqL X.K H a ys) : xs=ys:=by
 obtain ⟨its,r,⟨o,n,e,_,_,d⟩,_⟩:=I.list h
 obtain ⟨its',r',⟨o',n',e',_,_,d'⟩,_⟩:=I.list h'
 rw [e] at e'; cases e'
 rw [d] at d'
 injection d' with d1 _
 have:its=its':=by simpa using congrArg Array.toList d1
 subst this
 exact r.inj r'
end
abbrev Cx.wish (X:Cx) (E:Value→Shared→Prop) : Cx:={ X with xe:=E }
abbrev Cx.nox (X:Cx) : Cx:=X.wish fun _ _=>False
theorem Cx.Ok.wish {X:Cx}(ok:X.Ok)(E:Value→Shared→Prop) : (X.wish E).Ok :=
 ⟨ok.mod,ok.kind,ok.glob,ok.blt,ok.above,ok.inj,ok.has,ok.cab,ok.hd,ok.frames,ok.stk,ok.exf,ok.bs,ok.bsz,ok.noex,ok.exfs,ok.funs,ok.frf⟩
theorem Cx.Ok.unwish {X:Cx}{E:Value→Shared→Prop}(ok:(X.wish E).Ok) : X.Ok :=
 ⟨ok.mod,ok.kind,ok.glob,ok.blt,ok.above,ok.inj,ok.has,ok.cab,ok.hd,ok.frames,ok.stk,ok.exf,ok.bs,ok.bsz,ok.noex,ok.exfs,ok.funs,ok.frf⟩
section
variable {X:Cx}{pins:List (Addr × Obj)}{σ:St}{H:Hp}{s:Shared}{E:Value→Shared→Prop}
theorem Inv.wish (I:Inv X pins σ H s)(E:Value→Shared→Prop) : Inv (X.wish E) pins σ H s:=⟨I.ok.wish E,I.os,I.bare,I.base,I.loc,I.cell,I.free,I.freeC,I.pin,I.hok,I.len⟩
theorem Inv.unwish (I:Inv (X.wish E) pins σ H s) : Inv X pins σ H s:=⟨I.ok.unwish,I.os,I.bare,I.base,I.loc,I.cell,I.free,I.freeC,I.pin,I.hok,I.len⟩
end
section
variable {X:Cx}{st:Stmt}{rest:List Stmt}{t u:TS}{e:Expr}{te:TE}{pos:Pos}
def tNext:TS:=fun D σ H=>D.nx σ H
def tSeq (t u:TS) : TS:=fun D σ H=>t { D with nx:=u D } σ H
theorem pss_nil:PSs X [] tNext:=fun _ _ σ H _ I h=>wpAny_execs_nil ⟨σ,H,I,h⟩
theorem pss_cons (h1:PS X st t)(h2:PSs X rest u) : PSs X (st :: rest) (tSeq t u):=by
 intro pins s σ H D I h
 refine wpAny_execs_cons (thn (h1 pins s σ H { D with nx:=u D } I h) fun f s1 q=>?_)
 cases f with
 | next =>
  obtain ⟨σ',H',I',q⟩:=q
  exact h2 pins s1 σ' H' D I' q
 | ret v=>exact q
 | brk=>exact q
 | cont=>exact q
theorem pss_one (h1:PS X st t) : PSs X [st] t:=by
 intro pins s σ H D I h
 refine wpAny_execs_cons (thn (h1 pins s σ H D I h) fun f s1 q=>?_)
 cases f with
 | next=>exact wpAny_execs_nil q
 | ret v=>exact q
 | brk=>exact q
 | cont=>exact q
theorem Inv.quiet {pins:List (Addr × Obj)}{σ:St}{H:Hp}{s:Shared}(I:Inv X pins σ H s) : interactive X.env=false:=by simp [interactive,I.ok.kind]
def tDrop (te:TE) : TS:=fun D σ H=>te σ H fun _ H1=>D.nx σ H1
theorem ps_expr (he:PE X e te)(hs:swapsWith e none pos.line X.env=pure false:=by rfl) : PS X (.Expr e pos) (tDrop te):=by
 intro pins s σ H D I h
 exact wpAny_Expr_any (thn (he pins s σ H _ I h) fun v s1 ⟨x,H1,I1,r1,q1⟩=>⟨σ,H1,I1,q1⟩) I.quiet hs
def tRet (te:TE) : TS:=fun D σ H=>te σ H D.rt
theorem ps_ret (he:PE X e te) : PS X (.Return (some e) pos) (tRet te):=by
 intro pins s σ H D I h
 exact wpAny_Return_some (thn (he pins s σ H _ I h) fun v s1 ⟨x,H1,I1,r1,q1⟩=>⟨x,σ,H1,I1,r1,q1⟩)
def tIfS (c:TT)(t u:TS) : TS:=fun D σ H=>c σ H fun b H1=>if b=true then t D σ H1 else u D σ H1
theorem ps_if {c:Expr}{a b:List Stmt}{tc:TT}(hc:PT X c tc)(ha:PSs X a t)(hb:PSs X b u) : PS X (.If c a b pos) (tIfS tc t u):=by
 intro pins s σ H D I h
 refine wpAny_If (thn (hc pins s σ H _ I h) fun d s1 ⟨H1,I1,q1⟩=>?_)
 cases d with
 | true=>exact ha pins s1 σ H1 D I1 q1
 | false=>exact hb pins s1 σ H1 D I1 q1
def tNever:TS:=fun _ _ _=>False
theorem ps_never:PS X st tNever:=fun _ _ _ _ _ _ h=>h.elim
end
abbrev TG:=V→St→Hp→(St→Hp→Prop)→Prop
abbrev TGs:=List V→St→Hp→(St→Hp→Prop)→Prop
def PG (X:Cx)(target:Expr)(t:TG) : Prop :=
 ∀ (pins:List (Addr × Obj)) (s:Shared) (σ:St) (H:Hp) (v:V) (u:Value) (Q:St→Hp→Prop),Inv X pins σ H s→RelV v u→t v σ H Q →
  wpAny (model X.prog X.w) X.A (assign target X.env u) (fun _ s'=>∃ σ' H',Inv X pins σ' H' s'∧Q σ' H') X.xe s
def PGs (X:Cx)(ts:List Expr)(t:TGs) : Prop :=
 ∀ (pins:List (Addr × Obj)) (s:Shared) (σ:St) (H:Hp) (vs:List V) (us:List Value) (Q:St→Hp→Prop),Inv X pins σ H s→Vals vs us→t vs σ H Q →
  wpAny (model X.prog X.w) X.A (assignInOrder ((assignEach ts X.env).map (·.2)) us) (fun _ s'=>∃ σ' H',Inv X pins σ' H' s'∧Q σ' H') X.xe s
abbrev TIp:=V→V→Hp→VK→Prop
def PIp (X:Cx)(op:Operator)(t:TIp) : Prop :=
 ∀ (pins:List (Addr × Obj)) (s:Shared) (σ:St) (H:Hp) (x y:V) (v u:Value) (Q:VK),Inv X pins σ H s→RelV x v→RelV y u→t x y H Q →
  wpAny (model X.prog X.w) X.A (inplaceOp op v u) (EP X pins σ Q) X.xe s
section
variable {X:Cx}{pos:Pos}
def gName (i:Nat) : TG:=fun v σ H Q=>Q (σ.set i (some v)) H
theorem pg_name {i:Nat}{x:Str}(hN:X.N.Nodup)(hi:X.N[i]? = some x)(hx:Loc X.env.scope x)(hf:X.fn x=true∨X.env.scope.names.lookup x=some .local:=by first | exact .inl rfl | exact .inr rfl | assumption) : PG X (.Name x pos) (gName i):=by
 intro pins s σ H v u Q I r h
 exact wpAny_assign_Name (store_ok I hN hi hx r (fun s' I'=>⟨_,H,I',h⟩) hf)
def gNil:TGs:=fun vs σ H Q=>vs = []∧Q σ H
def gCons (t:TG)(u:TGs) : TGs:=fun vs σ H Q=>∃ v r,vs=v :: r∧t v σ H fun σ' H'=>u r σ' H' Q
theorem pgs_nil:PGs X [] gNil:=by
 intro pins s σ H vs us Q I r h
 obtain ⟨e,h⟩:=h
 subst e
 cases r
 exact assignInOrder_nil ⟨σ,H,I,h⟩
theorem pgs_cons {e:Expr}{es:List Expr}{t:TG}{u:TGs}(h1:PG X e t) (h2:PGs X es u)
  (hs:(assignEach (e :: es) X.env).map (·.2)=assign e X.env :: (assignEach es X.env).map (·.2):=by rfl) : PGs X (e :: es) (gCons t u):=by
 intro pins s σ H vs us Q I r h
 obtain ⟨v,vr,e1,h⟩:=h
 subst e1
 cases r with
 | cons r rr =>
  rw [hs]
  refine assignInOrder_cons (thn (h1 pins s σ H _ _ _ I r h) fun _ s1 ⟨σ1,H1,I1,q1⟩=>?_)
  exact h2 pins s1 σ1 H1 _ _ Q I1 rr q1
def gTup (K:PySem.W.Frag)(n:Nat)(t:TGs) : TG:=fun v σ H Q=>∃ a xs,v = .ref a∧SqT K H a xs∧xs.length=n∧t xs σ H Q
theorem pg_tup {es:List Expr}{k:Nat}{t:TGs}{n:Nat}(hc:X.calm=true) (h:PGs X es t)
  (hn:(assignEach es X.env).length=n:=by rfl) (hst:(assignEach es X.env).findIdx? (·.1)=none:=by rfl) : PG X (.Tuple es k pos) (gTup X.K n t):=by
 intro pins s σ H v u Q I r hw
 obtain ⟨a,xs,e1,hq,hl,hw⟩:=hw
 subst e1
 cases r
 obtain ⟨its,rv,ht,hz⟩:=I.tuple hq
 refine assign_Tuple_tuple (I.ok.hd hc) ht (by simp [hn,← hl,rv.length]) hst fun h' hx=>?_
 have I1:Inv X pins σ H { s with heap:=h' }:=I.kept (t':=s.toks) fun b o e=>hx b o (Nat.ne_of_lt (Heap.lt_size e)) e
 exact h pins _ σ H xs _ Q I1 (by simpa using rv) hw
def tAsg (te:TE)(g:TG) : TS:=fun D σ H=>te σ H fun x H1=>g x σ H1 D.nx
theorem ps_set {i:Nat}{x:Str}{e:Expr}{te:TE}{pos':Pos}(hN:X.N.Nodup) (hi:X.N[i]? = some x) (hx:Loc X.env.scope x) (he:PE X e te) (hs:swapsWith e (some (.Name x pos')) pos.line X.env=pure false:=by rfl) (hf:X.fn x=true∨X.env.scope.names.lookup x=some .local:=by first | exact .inl rfl | exact .inr rfl | assumption) :
  PS X (.Assign [.Name x pos'] e pos) (tAsg te (gName i)):=by
 intro pins s σ H D I h
 refine wpAny_Assign_Name (thn (he pins s σ H _ I h) fun v s1 ⟨y,H1,I1,r1,q1⟩=>?_) hs
 exact store_ok I1 hN hi hx r1 (fun s2 I2=>⟨_,H1,I2,q1⟩) hf
def tAug (i:Nat)(te:TE)(ti:TIp) : TS:=fun D σ H=>∃ x,σ[i]? = some (some x)∧te σ H fun y H1=>ti x y H1 fun z H2=>D.nx (σ.set i (some z)) H2
theorem ps_aug {i:Nat}{x:Str}{e:Expr}{te:TE}{op:Operator}{ti:TIp}{pos':Pos}(hN:X.N.Nodup) (hi:X.N[i]? = some x) (hx:Loc X.env.scope x) (he:PE X e te) (ho:PIp X op ti) (hf:X.fn x=true∨X.env.scope.names.lookup x=some .local:=by first | exact .inl rfl | exact .inr rfl | assumption) :
  PS X (.AugAssign (.Name x pos') op e pos) (tAug i te ti):=by
 intro pins s σ H D I h
 obtain ⟨v,e1,h⟩:=h
 obtain ⟨m,hn,hl⟩:=I.loc
 have vis:Vis X.env.scope x:=by rcases hx with k | k; exact .inl k; exact .inr (.inl k)
 obtain ⟨u,r,l⟩:=hl i x v hi e1 vis
 refine wpAny_AugAssign_Name ?_
 have go:wpAny (model X.prog X.w) X.A (eval e X.env) (fun w s₂=>wpAny (model X.prog X.w) X.A (inplaceOp op u w) (fun r s₃=>wpAny (model X.prog X.w) X.A (storeName X.env x r) (fun _=>SP X pins D .next) X.xe s₃) X.xe s₂) X.xe s:=by
  refine thn (he pins s σ H _ I h) fun w s1 ⟨y,H1,I1,r1,q1⟩=>?_
  refine thn (ho pins s1 σ H1 v y u w _ I1 r r1 q1) fun z s2 ⟨zv,H2,I2,r2,q2⟩=>?_
  exact store_ok I2 hN hi hx r2 (fun s3 I3=>⟨_,H2,I3,q2⟩) hf
 rcases l with ⟨hk,hm⟩ | ⟨hk,c,hc,hcell⟩
 ·exact wpAny_loadName_local I.ok.kind hk hn hm go
 ·rcases hk with hk | hk
  ·exact wpAny_loadName_cell I.ok.kind hk hc hcell go
  ·rcases hx with k | k
   ·have:X.env.scope.names.lookup x=some .free:=hk
    rw [k] at this; cases this
   ·have:X.env.scope.names.lookup x=some .free:=hk
    rw [k] at this; cases this
end
section
variable {X:Cx}{pos:Pos}
def tWhile (c:TT)(tb:TS) : TS:=fun D σ H=>∃ W:Nat→St→Hp→Prop,(∃ m,W m σ H)∧∀ m σ H,W m σ H →
 c σ H fun b H1=>if b=true then ∃ N:St→Hp→Prop,(∀ σ' H',N σ' H'→∃ m',m' < m∧W m' σ' H')∧tb { D with nx:=N,ct:=N,bk:=D.nx } σ H1 else D.nx σ H1
theorem ps_while {c:Expr}{body:List Stmt}{tc:TT}{tb:TS}(hp:PassesOwn (model X.prog X.w) X.A X.env X.xe)(hc:PT X c tc)(hb:PSs X body tb) : PS X (.While c body [] pos) (tWhile tc tb):=by
 intro pins s σ H D I h
 obtain ⟨W,⟨m0,w0⟩,turn⟩:=h
 refine wpAny_While (codeAny_whileLoop (fun n s'=>∃ σ' H',Inv X pins σ' H' s'∧W n σ' H') ?_ m0 ⟨σ,H,I,w0⟩)
 rintro n s1 ⟨σ1,H1,I1,w1⟩
 refine wpAny_passesOwn hp (thn (hc pins s1 σ1 H1 _ I1 (turn n σ1 H1 w1)) fun b s2 ⟨H2,I2,q2⟩=>?_)
 cases b with
 | true =>
  obtain ⟨N,hN,q2⟩:=q2
  rw [if_pos rfl]
  refine wpAny_passesOwn hp (thn (hb pins s2 σ1 H2 _ I2 q2) fun f s3 q3=>?_)
  cases f with
  | next =>
   obtain ⟨σ3,H3,I3,n3⟩:=q3
   obtain ⟨m',hm,w3⟩:=hN σ3 H3 n3
   exact ⟨m',hm,σ3,H3,I3,w3⟩
  | cont =>
   obtain ⟨σ3,H3,I3,n3⟩:=q3
   obtain ⟨m',hm,w3⟩:=hN σ3 H3 n3
   exact ⟨m',hm,σ3,H3,I3,w3⟩
  | brk=>exact q3
  | ret v=>exact q3
 | false =>
  rw [if_neg Bool.false_ne_true]
  exact wpAny_execs_nil ⟨σ1,H2,I2,q2⟩
end
structure It where
 go:Nat→Hp→Prop
 yld:Nat→Hp→V→Hp→Prop
 stop:Nat→Hp→Prop
def FpOk (X:Cx)(pins:List (Addr × Obj))(H:Hp)(b:Addr) : Prop :=
 H b=none∧b ≠ X.env.locals∧b ∉ X.fs∧(b∈X.ex∨X.s₀.heap.objs.size≤b)∧(∀ x c,X.env.cells.lookup x=some c→c ≠ b)∧∀ p∈X.pn ++ pins,p.1 ≠ b
theorem Inv.fpOk {X:Cx}{pins:List (Addr × Obj)}{σ:St}{H H':Hp}{s:Shared}{b:Addr}(I:Inv X pins σ H s)(hb:s.heap.objs.size≤b)(hn:H' b=none) : FpOk X pins H' b:=by
 refine ⟨hn,Nat.ne_of_gt (Nat.lt_of_lt_of_le I.lt hb),I.nofs hb,.inr (Nat.le_trans I.sz hb),fun x c e z=>?_,fun p hp z=>?_⟩
 ·obtain ⟨v,q⟩:=I.cell x c e
  exact absurd (Nat.lt_of_lt_of_le q.lt (by rw [z]; exact hb)) (Nat.lt_irrefl _)
 ·exact absurd (Nat.lt_of_lt_of_le (Heap.lt_size (I.pin p hp).1) (by rw [z]; exact hb)) (Nat.lt_irrefl _)
structure Turn (P:Program) (w:World) (K:PySem.W.Frag) (tg:Expr) (J:It) (fp:List Addr) (it:Addr) (tn:Nat→Heap→Prop) : Prop where
 mem:it∈fp
 obj:∀ i h,tn i h→∀ b∈fp,∃ o,h.get? b=some o∧∀ v,o.data ≠ .cell v
 keep:∀ i h h',tn i h→(∀ b∈fp,∀ o,h.get? b=some o→h'.get? b=some o)→tn i h'
 item:∀ (X:Cx),X.prog=P→X.w=w→X.K=K→X.calm=true→∀ (i:Nat) (pins:List (Addr × Obj)) (s:Shared) (σ:St) (H:Hp) (E:Value→Shared→Prop),Inv X pins σ H s→(∀ b∈fp,FpOk X pins H b)→tn i s.heap→J.go i H →
  wpAny (model P w) X.A (pyNext (.ref it)) (fun r s1=>∃ u,r=some u ∧
   wpAny (model P w) X.A (letOwnedTupleGo tg (.ref it) u) (fun _ s2=>∃ x H',Inv X pins σ H' s2∧RelV x u∧J.yld i H x H'∧tn (i + 1) s2.heap∧∀ b∈fp,H' b=none) E s1) E s
 done:∀ (X:Cx),X.prog=P→X.w=w→X.K=K→X.calm=true→∀ (i:Nat) (pins:List (Addr × Obj)) (s:Shared) (σ:St) (H:Hp) (E:Value→Shared→Prop),Inv X pins σ H s→(∀ b∈fp,FpOk X pins H b)→tn i s.heap→J.stop i H →
  wpAny (model P w) X.A (pyNext (.ref it)) (fun r s1=>r=none∧Inv X pins σ H s1) E s
 self:∀ (A:Around) (i:Nat) (s:Shared) (Q:Value→Shared→Prop) (E:Value→Shared→Prop),tn i s.heap→Q (.ref it) s→wpAny (model P w) A (pyIter (.ref it)) Q E s
abbrev TI:=St→Hp→(It→Hp→Prop)→Prop
def PIE (X:Cx)(pins:List (Addr × Obj))(σ:St)(tg:Expr)(R:It→Hp→Prop)(itv:Value)(s2:Shared) : Prop :=
 ∃ (it:Addr) (fp:List Addr) (tn:Nat→Heap→Prop) (J:It) (H':Hp),itv = .ref it∧Inv X pins σ H' s2∧Turn X.prog X.w X.K tg J fp it tn∧tn 0 s2.heap∧(∀ b∈fp,FpOk X pins H' b)∧R J H'
def PI (X:Cx)(tg iter:Expr)(wi:TI) : Prop :=
 ∀ (pins:List (Addr × Obj)) (s:Shared) (σ:St) (H:Hp) (R:It→Hp→Prop),Inv X pins σ H s→wi σ H R →
  wpAny (model X.prog X.w) X.A (eval iter X.env) (fun v s1=>wpAny (model X.prog X.w) X.A (pyIter v) (PIE X pins σ tg R) X.xe s1) X.xe s
theorem go_of {M:Model}{A:Around}{E:Value→Shared→Prop}{s:Shared}{tg:Expr}{it:Addr}{u:Value}{o:Obj}{n:String}{vs:Array Value}{Q:Unit→Shared→Prop}(ho:s.heap.get? it=some o) (hc:o.cls = .type n) (hd:o.data = .fields vs)
    (hn : ["enumerate", "zip", "dict_itemiterator", "dict_reverseitemiterator", "odict_iterator", "itertools.zip_longest", "itertools.pairwise"].contains n=false) (hQ:Q () s) : wpAny M A (letOwnedTupleGo tg (.ref it) u) Q E s:=by
  unfold letOwnedTupleGo
  cases tg <;> first
    | exact wpAny_pure hQ
    | (cases u <;> first
        | exact wpAny_pure hQ
        | (refine wpAny_bind (wpAny_load ho ?_)
           rw [hc,hd]
           show wpAny M A (if (["enumerate", "zip", "dict_itemiterator", "dict_reverseitemiterator", "odict_iterator", "itertools.zip_longest", "itertools.pairwise"].contains n && vs[0]? == some (rawInt _))=true then _ else _) Q E s
           rw [if_neg (by intro h; rw [hn,Bool.false_and] at h; cases h)]
           exact wpAny_pure hQ))
def Itl (K:PySem.W.Frag)(a:Addr) : It :=
 ⟨fun i H=>∃ xs x,SqL K H a xs∧xs[i]? = some x,fun i H x H'=>H'=H∧∀ xs,SqL K H a xs→xs[i]? = some x,fun i H=>∃ xs,SqL K H a xs∧xs.length≤i⟩
def Itr (lo:Int)(n:Nat) : It:=⟨fun i _=>i < n,fun i H x H'=>H'=H∧x = .int (lo + i),fun i _=>n≤i⟩
theorem turn_list {P:Program}{w:World}{K:PySem.W.Frag}{tg:Expr}(a it:Addr) : Turn P w K tg (Itl K a) [it] it (fun i h=>h.IsListIter it a i) where
 mem:=by simp
 obj:=fun i h st b hb=>by
  have e:b=it:=by simpa using hb
  subst e
  obtain ⟨o,e,c,d⟩:=st
  exact ⟨o,e,fun v z=>by rw [d] at z; cases z⟩
 keep:=fun i h h' st k=>st.at fun o e=>k it (by simp) o e
 item:=by
  intro X hP hw hK hc i pins s σ H E I hf st hg
  subst hP hw hK
  obtain ⟨xs,x,hq,hx⟩:=hg
  obtain ⟨its,rv,p,hz⟩:=I.list hq
  obtain ⟨u,hu,ru⟩:=rv.get hx
  obtain ⟨f0,f1,f2,f3,f4,f5⟩:=hf it (by simp)
  refine wpAny_pyNext_list_item st p.isList (x:=u) (by simpa using hu) fun h' st' sb=>?_
  have I1:Inv X pins σ H { s with heap:=h' }:=I.turned (t':=s.toks) (fun b o hb e=>(sb.2 b hb).trans e) f0 f1 f3 f4 f5
  obtain ⟨o,e,c,d⟩:=id st'
  exact ⟨u,rfl,go_of (s:={ s with heap:=h' }) e c d (by decide) ⟨x,H,I1,ru,⟨rfl,fun ys hy=>by rw [I.list_inj hy hq]; exact hx⟩,st',fun b hb=>(hf b hb).1⟩⟩
 done:=by
  intro X hP hw hK hc i pins s σ H E I hf st hg
  subst hP hw hK
  obtain ⟨xs,hq,hx⟩:=hg
  obtain ⟨its,rv,p,hz⟩:=I.list hq
  obtain ⟨f0,f1,f2,f3,f4,f5⟩:=hf it (by simp)
  have hl:=rv.length
  exact wpAny_pyNext_list_end (I.ok.hd hc) st p.isList (by simp; omega) fun h' eb=>⟨rfl,I.turned (t':=s.toks) (fun b o hb e=>eb b o hb e) f0 f1 f3 f4 f5⟩
 self:=fun _ _ _ _ _ st h=>wpAny_pyIter_listiter st h
theorem turn_range {P:Program}{w:World}{K:PySem.W.Frag}{tg:Expr}(it:Addr)(lo:Int)(n:Nat) : Turn P w K tg (Itr lo n) [it] it (fun i h=>IsRangeIter h it (lo + (i:Nat) * 1) ((n:Int) - (i:Nat)) 1) where
 mem:=by simp
 obj:=fun i h st b hb=>by
  have e:b=it:=by simpa using hb
  subst e
  exact ⟨_,st,fun v z=>by
   have z':Data.fields _=Data.cell v:=z
   cases z'⟩
 keep:=fun i h h' st k=>k it (by simp) _ st
 item:=by
  intro X hP hw hK hc i pins s σ H E I hf st hg
  subst hP hw hK
  obtain ⟨f0,f1,f2,f3,f4,f5⟩:=hf it (by simp)
  have W:=Walks.range (prog:=X.prog) (w:=X.w) (I.ok.hd hc) it lo 1 n
  refine W.item i s _ _ hg st fun v h' tk hv st' kk=>?_
  obtain ⟨t,rfl⟩:=hv
  have I1:Inv X pins σ H { s with heap:=h',toks:=tk }:=I.turned (fun b o hb e=>kk b o (by simpa using hb) e) f0 f1 f3 f4 f5
  refine ⟨_,rfl,go_of (s:={ s with heap:=h',toks:=tk }) (n := "range_iterator") st' rfl rfl (by decide) ⟨.int (lo + i),H,I1,⟨t,?_⟩,⟨rfl,rfl⟩,st',fun b hb=>(hf b hb).1⟩⟩
  rw [Int.mul_one]
 done:=by
  intro X hP hw hK hc i pins s σ H E I hf st hg
  subst hP hw hK
  obtain ⟨f0,f1,f2,f3,f4,f5⟩:=hf it (by simp)
  exact wpAny_pyNext_range_end (I.ok.hd hc) st (by have:n≤i:=hg; omega) fun h' eb=>⟨rfl,I.turned (t':=s.toks) (fun b o hb e=>eb b o hb e) f0 f1 f3 f4 f5⟩
 self:=fun _ _ _ _ _ st h=>wpAny_pyIter_rangeiter st h
end L2
namespace L2
open PySem PySem.Spec PyProof.Rows
section
variable {X:Cx}{tg:Expr}
def iList (K:PySem.W.Frag)(tl:TE) : TI:=fun σ H R=>tl σ H fun x H1=>∃ a,x = .ref a∧(∃ xs,SqL K H1 a xs)∧R (Itl K a) H1
theorem pi_list {l:Expr}{tl:TE}(hl:PE X l tl) : PI X tg l (iList X.K tl):=by
 intro pins s σ H R I h
 refine thn (hl pins s σ H _ I h) fun v s1 ⟨x,H1,I1,r1,q1⟩=>?_
 obtain ⟨a,e,⟨xs,hq⟩,q⟩:=q1
 subst e
 cases r1
 obtain ⟨its,rv,p,hz⟩:=I1.list hq
 refine wpAny_pyIter_list p.isList ?_
 refine ⟨s1.heap.objs.size,[s1.heap.objs.size],_,_,H1,rfl,I1.kept (t':=s1.toks) fun b o e=>Heap.get?_push_of_some _ e,turn_list a _,⟨_,Heap.get?_push_size _ rfl,rfl,rfl⟩,fun b hb=>?_,q⟩
 have e:b=s1.heap.objs.size:=by simpa using hb
 subst e
 exact I1.fpOk (Nat.le_refl _) (I1.hok.fresh (Nat.le_refl _))
theorem range_it {pins:List (Addr × Obj)}{σ:St}{H:Hp}{s:Shared}{R:It→Hp→Prop}{E:Value→Shared→Prop}{lo hi:Int}{t u v:Tok}{tk:Nat}(I:Inv X pins σ H s) (h1 : -(2 ^ 62)≤lo) (h2:lo < 2 ^ 62) (h3 : -(2 ^ 62)≤hi) (h4:hi < 2 ^ 62)
  (q:R (Itr lo (hi - lo).toNat) H) : wpAny (model X.prog X.w) X.A (pyIter (.ref s.heap.objs.size)) (PIE X pins σ tg R) E { s with heap:=s.heap.push { cls:=.type "range", data:=.fields #[.int lo t,.int hi u,.int 1 v] },toks:=tk }:=by
 refine wpAny_pyIter_range (IsRange.new ..) (small_one h1 h2 h3 h4) ?_
 have I1:Inv X pins σ H { s with heap:=s.heap.push { cls:=.type "range", data:=.fields #[.int lo t,.int hi u,.int 1 v] },toks:=tk }:=I.kept fun b o e=>Heap.get?_push_of_some _ e
 refine ⟨(s.heap.push { cls:=.type "range", data:=.fields #[.int lo t,.int hi u,.int 1 v] }).objs.size,[(s.heap.push { cls:=.type "range", data:=.fields #[.int lo t,.int hi u,.int 1 v] }).objs.size],_,_,H,rfl,
  I1.kept (t':=tk) fun b o e=>Heap.get?_push_of_some _ e,turn_range _ lo (hi - lo).toNat,?_,fun b hb=>?_,q⟩
 ·have e1:lo + ((0:Nat) : Int) * 1=lo:=by simp
  have e2:(((hi - lo).toNat:Nat) : Int) - ((0:Nat) : Int)=Builtin.Range.rangeSize lo hi 1:=by rw [rangeSize_one]; split <;> omega
  show IsRangeIter _ _ (lo + ((0:Nat) : Int) * 1) ((((hi - lo).toNat:Nat) : Int) - ((0:Nat) : Int)) 1
  rw [e1,e2]
  exact Heap.get?_push_size _ rfl
 ·have e:b=(s.heap.push { cls:=.type "range", data:=.fields #[.int lo t,.int hi u,.int 1 v] }).objs.size:=by simpa using hb
  subst e
  exact I1.fpOk (Nat.le_refl _) (I1.hok.fresh (Nat.le_refl _))
def iRng1 (ta:TA) : TI:=fun σ H R=>ta σ H fun vs H1=>∃ j:Int,vs = [.int j] ∧ -(2 ^ 62)≤j∧j < 2 ^ 62∧R (Itr 0 j.toNat) H1
theorem pi_range1 {a:Expr}{ta:TA}{p pos:Pos}(hg:Gl X "range")(hm:X.mg "range" = none)(ha:PA X [a] ta)(hs:starEach [a] X.env = [(false,eval a X.env)]:=by rfl) : PI X tg (.Call (.Name "range" p) [a] [] pos) (iRng1 ta):=by
 intro pins s σ H R I h
 refine Call_ (ld_blt I hg hm boot_range (PyProof.Rows.callWith_type1 (thn (ha pos pins s σ H _ I h) fun us s1 ⟨vs,H1,I1,r1,q1⟩=>?_) hs rfl))
 obtain ⟨j,e,q1,q2,q⟩:=q1
 subst e
 cases r1 with
 | cons r rr =>
  cases rr
  obtain ⟨t,rfl⟩:=r
  exact call_range_1 (range_it I1 (by omega) (by omega) q1 q2 (by simpa using q))
def tFor (wi:TI)(g:TG)(tb:TS) : TS:=fun D σ H=>wi σ H fun J H1=>∃ W:Nat→Nat→St→Hp→Prop,(∃ m,W 0 m σ H1)∧∀ i m σ H,W i m σ H →
 (J.stop i H∧D.nx σ H)∨(J.go i H∧∃ N:St→Hp→Prop,(∀ σ' H',N σ' H'→∃ m',m' < m∧W (i + 1) m' σ' H')∧∀ x H',J.yld i H x H'→g x σ H' fun σ2 H2=>tb { D with nx:=N,ct:=N,bk:=D.nx } σ2 H2)
def pinsAt (fp:List Addr)(h:Heap) : List (Addr × Obj):=fp.filterMap fun b=>(h.get? b).map fun o=>(b,o)
theorem mem_pinsAt {fp:List Addr}{h:Heap}{b:Addr}{o:Obj}(hb:b∈fp)(e:h.get? b=some o) : (b,o)∈pinsAt fp h:=List.mem_filterMap.mpr ⟨b,hb,by rw [e]; rfl⟩
theorem of_pinsAt {fp:List Addr}{h:Heap}{p:Addr × Obj}(hp:p∈pinsAt fp h) : p.1∈fp∧h.get? p.1=some p.2:=by
 obtain ⟨b,hb,e⟩:=List.mem_filterMap.mp hp
 cases q:h.get? b with
 | none=>rw [q] at e; cases e
 | some o =>
  rw [q] at e
  have e':(b,o)=p:=Option.some.inj e
  subst e'
  exact ⟨hb,q⟩
theorem Inv.pinned {pins:List (Addr × Obj)}{σ:St}{H:Hp}{s:Shared}{fp:List Addr}(I:Inv X pins σ H s)(hf:∀ b∈fp,FpOk X pins H b)(ho:∀ b∈fp,∃ o,s.heap.get? b=some o∧∀ v,o.data ≠ .cell v) : Inv X (pins ++ pinsAt fp s.heap) σ H s :=
 I.pins_of fun p hp=>(List.mem_append.mp hp).elim (fun z=>I.pin p (List.mem_append_right _ z)) fun z=>by
  obtain ⟨hb,e⟩:=of_pinsAt z
  obtain ⟨f0,f1,f2,_⟩:=hf p.1 hb
  obtain ⟨o,e',d⟩:=ho p.1 hb
  rw [e] at e'; cases e'
  exact ⟨e,f0,f1,f2,d⟩
theorem Inv.unpinned {pins pl:List (Addr × Obj)}{σ:St}{H:Hp}{s:Shared}(I:Inv X (pins ++ pl) σ H s) : Inv X pins σ H s:=I.pins_of fun p hp=>I.pin p (List.mem_append_right _ (List.mem_append_left _ hp))
theorem ps_for {iter:Expr}{body:List Stmt}{wi:TI}{g:TG}{tb:TS}{pos:Pos}(hp:PassesOwn (model X.prog X.w) X.A X.env X.xe) (hc:X.calm=true) (hi:PI X tg iter wi) (hg:PG X tg g) (hb:PSs X body tb)
  (hs:∀ x,foldedSetIterable iter X.env x=pure x:=by intro _; rfl) : PS X (.For tg iter body [] pos) (tFor wi g tb):=by
 intro pins s σ H D I h
 refine wpAny_For (thn (hi pins s σ H _ I h) fun v s1 h1=>thn h1 fun itv s2 h2=>?_) hs
 obtain ⟨it,fp,tn,J,H2,e,I2,T,st2,f2,W,⟨m0,w0⟩,turn⟩:=h2
 subst e
 have stat:∀ {H':Hp},(∀ b∈fp,H' b=none)→∀ b∈fp,FpOk X pins H' b:=fun hn b hb=>⟨hn b hb,(f2 b hb).2⟩
 refine codeAny_forLoop_any (fun n s'=>∃ i σ' H',Inv X pins σ' H' s'∧tn i s'.heap∧(∀ b∈fp,H' b=none)∧W i n σ' H') ?_ m0 ⟨0,σ,H2,I2,st2,fun b hb=>(f2 b hb).1,w0⟩
 rintro n s3 ⟨i,σ3,H3,I3,st3,fr3,w3⟩
 rcases turn i n σ3 H3 w3 with ⟨stop,qn⟩ | ⟨go,N,hN,step⟩
 ·refine wpAny_passesOwn hp (thn (T.done X rfl rfl rfl hc i pins s3 σ3 H3 X.xe I3 (stat fr3) st3 stop) fun r s4 ⟨hr,I4⟩=>?_)
  subst hr
  exact wpAny_execs_nil ⟨σ3,H3,I4,qn⟩
 ·refine wpAny_passesOwn hp (thn (T.item X rfl rfl rfl hc i pins s3 σ3 H3 X.xe I3 (stat fr3) st3 go) fun r s4 ⟨u,hr,h4⟩=>?_)
  subst hr
  refine wpAny_passesOwn hp (thn h4 fun _ s5 ⟨x,H5,I5,r5,y5,st5,fr5⟩=>?_)
  have I5':=I5.pinned (stat fr5) (T.obj _ _ st5)
  refine wpAny_passesOwn hp (thn (hg _ s5 σ3 H5 x u _ I5' r5 (step x H5 y5)) fun _ s6 ⟨σ6,H6,I6,q6⟩=>?_)
  refine wpAny_passesOwn hp (thn (hb _ s6 σ6 H6 _ I6 q6) fun f s7 q7=>?_)
  have again:∀ {σ7:St}{H7:Hp},Inv X (pins ++ pinsAt fp s5.heap) σ7 H7 s7→N σ7 H7→∃ m,m < n∧∃ i σ' H',Inv X pins σ' H' s7∧tn i s7.heap∧(∀ b∈fp,H' b=none)∧W i m σ' H':=fun {σ7 H7} I7 n7=>by
   obtain ⟨m',hm,w7⟩:=hN σ7 H7 n7
   refine ⟨m',hm,i + 1,σ7,H7,I7.unpinned,T.keep _ _ _ st5 fun b hb o e=>(I7.pin (b,o) (List.mem_append_right _ (List.mem_append_right _ (mem_pinsAt hb e)))).1,fun b hb=>?_,w7⟩
   obtain ⟨o,e,d⟩:=T.obj _ _ st5 b hb
   exact (I7.pin (b,o) (List.mem_append_right _ (List.mem_append_right _ (mem_pinsAt hb e)))).2.1
  cases f with
  | next=>obtain ⟨σ7,H7,I7,n7⟩:=q7; exact again I7 n7
  | cont=>obtain ⟨σ7,H7,I7,n7⟩:=q7; exact again I7 n7
  | brk=>obtain ⟨σ7,H7,I7,q7⟩:=q7; exact ⟨σ7,H7,I7.unpinned,q7⟩
  | ret v=>obtain ⟨x7,σ7,H7,I7,r7,q7⟩:=q7; exact ⟨x7,σ7,H7,I7.unpinned,r7,q7⟩
end
theorem for_list {K:PySem.W.Frag}{a:Addr}{xs:List V}{g:TG}{tb:TS}{D:Ends}{σ:St}{H:Hp}(Pv:Nat→St→Hp→Prop) (h0:Pv 0 σ H) (hl:∀ i σ H,i≤xs.length→Pv i σ H→SqL K H a xs)
  (hs:∀ i x σ H,xs[i]? = some x→Pv i σ H→g x σ H fun σ2 H2=>tb { D with nx:=Pv (i + 1),ct:=Pv (i + 1),bk:=D.nx } σ2 H2) (hd:∀ σ H,Pv xs.length σ H→D.nx σ H) :
  ∃ W:Nat→Nat→St→Hp→Prop,(∃ m,W 0 m σ H)∧∀ i m σ H,W i m σ H →
   ((Itl K a).stop i H∧D.nx σ H)∨((Itl K a).go i H∧∃ N:St→Hp→Prop,(∀ σ' H',N σ' H'→∃ m',m' < m∧W (i + 1) m' σ' H')∧∀ x H',(Itl K a).yld i H x H'→g x σ H' fun σ2 H2=>tb { D with nx:=N,ct:=N,bk:=D.nx } σ2 H2):=by
 refine ⟨fun i m σ H=>m=xs.length - i∧i≤xs.length∧Pv i σ H,⟨xs.length,by simp,Nat.zero_le _,h0⟩,?_⟩
 rintro i m σ H ⟨rfl,hi,p⟩
 have q:=hl i σ H hi p
 by_cases hlt:i < xs.length
 ·refine .inr ⟨⟨xs,xs[i],q,by simp [hlt]⟩,Pv (i + 1),fun σ' H' p'=>⟨xs.length - (i + 1),by omega,rfl,hlt,p'⟩,fun x H' y=>?_⟩
  obtain ⟨e,y⟩:=y
  subst e
  exact hs i x σ _ (y xs q) p
 ·have e:i=xs.length:=by omega
  subst e
  exact .inl ⟨⟨xs,q,Nat.le_refl _⟩,hd σ H p⟩
theorem for_range {lo:Int}{n:Nat}{g:TG}{tb:TS}{D:Ends}{σ:St}{H:Hp}(Pv:Nat→St→Hp→Prop) (h0:Pv 0 σ H)
  (hs:∀ i σ H,i < n→Pv i σ H→g (.int (lo + i)) σ H fun σ2 H2=>tb { D with nx:=Pv (i + 1),ct:=Pv (i + 1),bk:=D.nx } σ2 H2) (hd:∀ σ H,Pv n σ H→D.nx σ H) :
  ∃ W:Nat→Nat→St→Hp→Prop,(∃ m,W 0 m σ H)∧∀ i m σ H,W i m σ H →
   ((Itr lo n).stop i H∧D.nx σ H)∨((Itr lo n).go i H∧∃ N:St→Hp→Prop,(∀ σ' H',N σ' H'→∃ m',m' < m∧W (i + 1) m' σ' H')∧∀ x H',(Itr lo n).yld i H x H'→g x σ H' fun σ2 H2=>tb { D with nx:=N,ct:=N,bk:=D.nx } σ2 H2):=by
 refine ⟨fun i m σ H=>m=n - i∧i≤n∧Pv i σ H,⟨n,by simp,Nat.zero_le _,h0⟩,?_⟩
 rintro i m σ H ⟨rfl,hi,p⟩
 by_cases hlt:i < n
 ·refine .inr ⟨hlt,Pv (i + 1),fun σ' H' p'=>⟨n - (i + 1),by omega,rfl,hlt,p'⟩,fun x H' y=>?_⟩
  obtain ⟨e,y⟩:=y
  subst e y
  exact hs i σ _ hlt p
 ·have e:i=n:=by omega
  subst e
  exact .inl ⟨Nat.le_refl _,hd σ H p⟩
theorem while_by {c:TT}{tb:TS}{D:Ends}{σ:St}{H:Hp}(Pv:St→Hp→Prop) (μ:St→Hp→Nat) (h0:Pv σ H)
  (hs:∀ σ H,Pv σ H→c σ H fun b H1=>if b=true then tb { D with nx:=fun σ' H'=>Pv σ' H'∧μ σ' H' < μ σ H,ct:=fun σ' H'=>Pv σ' H'∧μ σ' H' < μ σ H,bk:=D.nx } σ H1 else D.nx σ H1)
  (mono:∀ σ H Q Q',(∀ b H1,Q b H1→Q' b H1)→c σ H Q→c σ H Q') : tWhile c tb D σ H:=by
 refine ⟨fun m σ H=>m=μ σ H∧Pv σ H,⟨_,rfl,h0⟩,?_⟩
 rintro m σ H ⟨rfl,p⟩
 refine mono σ H _ _ (fun b H1 q=>?_) (hs σ H p)
 cases b with
 | true=>exact ⟨_,fun σ' H' ⟨p',l⟩=>⟨_,l,rfl,p'⟩,q⟩
 | false=>exact q
end L2
namespace L2
open PySem PySem.Spec PyProof.Rows
abbrev R2:=V→V→Hp→VK→Prop
def OpR (X:Cx)(f:Value→Value→Sem Value)(r:R2) : Prop :=
 ∀ (pins:List (Addr × Obj)) (s:Shared) (σ:St) (H:Hp) (x y:V) (v u:Value) (Q:VK),Inv X pins σ H s→RelV x v→RelV y u→r x y H Q →
  wpAny (model X.prog X.w) X.A (f v u) (EP X pins σ Q) X.xe s
def UnR (X:Cx)(f:Value→Sem Value)(r:V→Hp→VK→Prop) : Prop :=
 ∀ (pins:List (Addr × Obj)) (s:Shared) (σ:St) (H:Hp) (x:V) (v:Value) (Q:VK),Inv X pins σ H s→RelV x v→r x H Q →
  wpAny (model X.prog X.w) X.A (f v) (EP X pins σ Q) X.xe s
def CallR (X:Cx)(f:Value)(r:List V→Hp→VK→Prop) : Prop :=
 ∀ (pins:List (Addr × Obj)) (s:Shared) (σ:St) (H:Hp) (xs:List V) (us:List Value) (Q:VK),Inv X pins σ H s→Vals xs us→r xs H Q →
  wpAny (model X.prog X.w) X.A (call f us) (EP X pins σ Q) X.xe s
def tOp (r:R2)(ta tb:TE) : TE:=fun σ H Q=>ta σ H fun x H1=>tb σ H1 fun y H2=>r x y H2 Q
def tUn (r:V→Hp→VK→Prop)(ta:TE) : TE:=fun σ H Q=>ta σ H fun x H1=>r x H1 Q
def rI (C:Int→Int→Prop)(g:Int→Int→V) : R2:=fun x y H Q=>∃ i j,x = .int i∧y = .int j∧C i j∧Q (g i j) H
def rI0 (g:Int→Int→V) : R2:=fun x y H Q=>∃ i j,x = .int i∧y = .int j∧Q (g i j) H
def rU (g:Int→V) : V→Hp→VK→Prop:=fun x H Q=>∃ i,x = .int i∧Q (g i) H
section
variable {X:Cx}{a b c:Expr}{ta tb tc:TE}{pos:Pos}
theorem binT (ha:PE X a ta) (hb:PE X b tb) {pins:List (Addr × Obj)}{s:Shared}{σ:St}{H:Hp}{R:V→V→Hp→Prop}(I:Inv X pins σ H s)
  (h:ta σ H fun x H1=>tb σ H1 fun y H2=>R x y H2) {Q:Value→Shared→Prop}{f:Value→Value→Sem Value}
  (hf:∀ v u s2 x y H2,Inv X pins σ H2 s2→RelV x v→RelV y u→R x y H2→wpAny (model X.prog X.w) X.A (f v u) Q X.xe s2) :
  wpAny (model X.prog X.w) X.A (eval a X.env) (fun v s₁=>wpAny (model X.prog X.w) X.A (eval b X.env) (fun u s₂=>wpAny (model X.prog X.w) X.A (f v u) Q X.xe s₂) X.xe s₁) X.xe s:=by
 refine thn (ha pins s σ H _ I h) fun v s1 ⟨x,H1,I1,r1,q1⟩=>?_
 refine thn (hb pins s1 σ H1 _ I1 q1) fun u s2 ⟨y,H2,I2,r2,q2⟩=>?_
 exact hf v u s2 x y H2 I2 r1 r2 q2
theorem pe_op {op:Operator}{r:R2}(ho:OpR X (binaryOp op) r)(ha:PE X a ta)(hb:PE X b tb) : PE X (.BinOp a op b pos) (tOp r ta tb):=by
 intro pins s σ H Q I h
 exact wpAny_BinOp (binT ha hb I h fun v u s2 x y H2 I2 rx ry q=>ho pins s2 σ H2 x y v u Q I2 rx ry q)
theorem pe_un {op:UnaryOp}{r:V→Hp→VK→Prop}(ho:UnR X (unaryOp op) r)(ha:PE X a ta) : PE X (.UnaryOp op a pos) (tUn r ta):=by
 intro pins s σ H Q I h
 exact UnaryOp_ (thn (ha pins s σ H _ I h) fun v s1 ⟨x,H1,I1,r1,q1⟩=>ho pins s1 σ H1 x v Q I1 r1 q1)
theorem opI {f:Value→Value→Sem Value}{C:Int→Int→Prop}{g:Int→Int→Int}
  (rule:∀ (i j:Int) (t u:Tok) (s:Shared) (Q:Value→Shared→Prop) (E:Value→Shared→Prop),C i j→Q (.int (g i j) s.toks) { s with toks:=s.toks + 1 }→wpAny (model X.prog X.w) X.A (f (.int i t) (.int j u)) Q E s) :
  OpR X f (rI C fun i j=>.int (g i j)):=by
 intro pins s σ H x y v u Q I rx ry h
 obtain ⟨i,j,rfl,rfl,hc,q⟩:=h
 obtain ⟨t,rfl⟩:=rx
 obtain ⟨t',rfl⟩:=ry
 exact rule i j t t' s _ _ hc ⟨.int (g i j),H,I.tok _,⟨_,rfl⟩,q⟩
theorem opI0 {f:Value→Value→Sem Value}{g:Int→Int→Int}
  (rule:∀ (i j:Int) (t u:Tok) (s:Shared) (Q:Value→Shared→Prop) (E:Value→Shared→Prop),Q (.int (g i j) s.toks) { s with toks:=s.toks + 1 }→wpAny (model X.prog X.w) X.A (f (.int i t) (.int j u)) Q E s) :
  OpR X f (rI0 fun i j=>.int (g i j)):=by
 intro pins s σ H x y v u Q I rx ry h
 obtain ⟨i,j,rfl,rfl,q⟩:=h
 obtain ⟨t,rfl⟩:=rx
 obtain ⟨t',rfl⟩:=ry
 exact rule i j t t' s _ _ ⟨.int (g i j),H,I.tok _,⟨_,rfl⟩,q⟩
theorem opB0 {f:Value→Value→Sem Value}{g:Int→Int→Bool}
  (rule:∀ (i j:Int) (t u:Tok) (s:Shared) (Q:Value→Shared→Prop) (E:Value→Shared→Prop),Q (.bool (g i j)) s→wpAny (model X.prog X.w) X.A (f (.int i t) (.int j u)) Q E s) :
  OpR X f (rI0 fun i j=>.bl (g i j)):=by
 intro pins s σ H x y v u Q I rx ry h
 obtain ⟨i,j,rfl,rfl,q⟩:=h
 obtain ⟨t,rfl⟩:=rx
 obtain ⟨t',rfl⟩:=ry
 exact rule i j t t' s _ _ ⟨.bl (g i j),H,I,rfl,q⟩
def CPow (i j:Int) : Prop:=0≤j∧j≤1000000∧i.natAbs < 2 ^ 64
theorem op_add:OpR X (binaryOp .Add) (rI0 fun i j=>.int (i + j)):=opI0 fun _ _ _ _ _ _ _ q=>add_int q
theorem op_sub:OpR X (binaryOp .Sub) (rI0 fun i j=>.int (i - j)):=opI0 fun _ _ _ _ _ _ _ q=>sub_int q
theorem op_mod:OpR X (binaryOp .Mod) (rI (fun _ j=>0 < j) fun i j=>.int (i % j)):=opI fun i j _ _ _ _ _ hc q=>by
 have h1:(0:Int) < j:=hc
 exact mod_int' (by omega) (by rw [Int.fmod_eq_emod_of_nonneg i (by omega)]; exact q)
theorem op_pow:OpR X (binaryOp .Pow) (rI CPow fun i j=>.int (i ^ j.toNat)):=opI fun _ _ _ _ _ _ _ hc q=>pow_int_small hc.1 hc.2.1 hc.2.2 q
theorem iop_add:OpR X (inplaceOp .Add) (rI0 fun i j=>.int (i + j)):=opI0 fun _ _ _ _ _ _ _ q=>iadd_int q
theorem unI {f:Value→Sem Value}{g:Int→Int}
  (rule:∀ (i:Int) (t:Tok) (s:Shared) (Q:Value→Shared→Prop) (E:Value→Shared→Prop),Q (.int (g i) s.toks) { s with toks:=s.toks + 1 }→wpAny (model X.prog X.w) X.A (f (.int i t)) Q E s) :
  UnR X f (rU fun i=>.int (g i)):=by
 intro pins s σ H x v Q I rx h
 obtain ⟨i,rfl,q⟩:=h
 obtain ⟨t,rfl⟩:=rx
 exact rule i t s _ _ ⟨.int (g i),H,I.tok _,⟨_,rfl⟩,q⟩
theorem un_neg:UnR X (unaryOp .USub) (rU fun i=>.int (-i)):=unI fun _ _ _ _ _ q=>neg_int q
end
def scal:V→V→Bool
 | .non,.non=>true | .non,.int _=>true | .int _,.non=>true | .non,.bl _=>true | .bl _,.non=>true | .non,.str _=>true | .str _,.non=>true
 | .int _,.int _=>true | .bl _,.bl _=>true | .str _,.str _=>true | .byt _,.byt _=>true
 | .int _,.str _=>true | .str _,.int _=>true | .bl _,.str _=>true | .str _,.bl _=>true
 | _,_=>false
def rEq:R2:=fun x y H Q=>scal x y=true∧Q (.bl (decide (x=y))) H
def rNe:R2:=fun x y H Q=>scal x y=true∧Q (.bl (!decide (x=y))) H
theorem dec_int {i j:Int} : decide (V.int i=V.int j)=(i == j):=by
 rw [Bool.eq_iff_iff]
 simp
theorem dec_bl {i j:Bool} : decide (V.bl i=V.bl j)=(i == j):=by
 rw [Bool.eq_iff_iff]
 simp
theorem dec_str {i j:Str} : decide (V.str i=V.str j)=(i == j):=by
 rw [Bool.eq_iff_iff]
 simp
theorem dec_byt {i j:Array UInt8} : decide (V.byt i=V.byt j)=(i.toList == j.toList):=by
 rw [Bool.eq_iff_iff]
 cases i
 cases j
 simp
section
variable {X:Cx}{a b c:Expr}{ta tb tc:TE}{pos:Pos}
theorem fin_bl {pins:List (Addr × Obj)}{σ:St}{H:Hp}{s:Shared}{Q:VK}{k k':Bool}(I:Inv X pins σ H s)(q:Q (.bl k) H)(e:k=k') : EP X pins σ Q (.bool k') s:=by
 subst e
 exact ⟨.bl k,H,I,rfl,q⟩
theorem op_eq:OpR X (compareOp .Eq) rEq:=by
 intro pins s σ H x y v u Q I rx ry h
 obtain ⟨hs,q⟩:=h
 cases x with
 | non =>
  cases rx
  cases y with
  | non=>cases ry; exact PySem.EqNone.eq_none_none (fin_bl I q (by simp))
  | bl j=>cases ry; exact PySem.EqNone.eq_none_bool (fin_bl I q (by simp))
  | int j=>obtain ⟨t',rfl⟩:=ry; exact PySem.EqNone.eq_none_int (fin_bl I q (by simp))
  | str j=>obtain ⟨t',rfl⟩:=ry; exact PySem.EqNone.eq_none_str (fin_bl I q (by simp))
  | _=>exact absurd (show false=true from hs) Bool.false_ne_true
 | bl i =>
  cases rx
  cases y with
  | non=>cases ry; exact PySem.EqNone.eq_bool_none (fin_bl I q (by simp))
  | bl j=>cases ry; exact eq_bool (fin_bl I q dec_bl)
  | str j=>obtain ⟨t',rfl⟩:=ry; exact PySem.EqMixed.eq_bool_str (fin_bl I q (by simp))
  | _=>exact absurd (show false=true from hs) Bool.false_ne_true
 | int i =>
  obtain ⟨t,rfl⟩:=rx
  cases y with
  | non=>cases ry; exact PySem.EqNone.eq_int_none (fin_bl I q (by simp))
  | int j=>obtain ⟨t',rfl⟩:=ry; exact eq_int (fin_bl I q dec_int)
  | str j=>obtain ⟨t',rfl⟩:=ry; exact PySem.EqMixed.eq_int_str (fin_bl I q (by simp))
  | _=>exact absurd (show false=true from hs) Bool.false_ne_true
 | str i =>
  obtain ⟨t,rfl⟩:=rx
  cases y with
  | non=>cases ry; exact PySem.EqNone.eq_str_none (fin_bl I q (by simp))
  | bl j=>cases ry; exact PySem.EqMixed.eq_str_bool (fin_bl I q (by simp))
  | int j=>obtain ⟨t',rfl⟩:=ry; exact PySem.EqMixed.eq_str_int (fin_bl I q (by simp))
  | str j=>obtain ⟨t',rfl⟩:=ry; exact eq_str (fin_bl I q dec_str)
  | _=>exact absurd (show false=true from hs) Bool.false_ne_true
 | byt i =>
  obtain ⟨t,rfl⟩:=rx
  cases y with
  | byt j=>obtain ⟨t',rfl⟩:=ry; exact PySem.W.eq_bytes (fin_bl I q dec_byt)
  | _=>exact absurd (show false=true from hs) Bool.false_ne_true
 | _=>cases y <;> exact absurd (show false=true from hs) Bool.false_ne_true
theorem op_ne:OpR X (compareOp .NotEq) rNe:=by
 intro pins s σ H x y v u Q I rx ry h
 obtain ⟨hs,q⟩:=h
 cases x with
 | non =>
  cases rx
  cases y with
  | non=>cases ry; exact PySem.EqNone.ne_none_none (fin_bl I q (by simp))
  | bl j=>cases ry; exact PySem.EqNone.ne_none_bool (fin_bl I q (by simp))
  | int j=>obtain ⟨t',rfl⟩:=ry; exact PySem.EqNone.ne_none_int (fin_bl I q (by simp))
  | str j=>obtain ⟨t',rfl⟩:=ry; exact PySem.EqNone.ne_none_str (fin_bl I q (by simp))
  | _=>exact absurd (show false=true from hs) Bool.false_ne_true
 | bl i =>
  cases rx
  cases y with
  | non=>cases ry; exact PySem.EqNone.ne_bool_none (fin_bl I q (by simp))
  | bl j=>cases ry; exact ne_bool (fin_bl I q (congrArg not dec_bl))
  | str j=>obtain ⟨t',rfl⟩:=ry; exact PySem.EqMixed.ne_bool_str (fin_bl I q (by simp))
  | _=>exact absurd (show false=true from hs) Bool.false_ne_true
 | int i =>
  obtain ⟨t,rfl⟩:=rx
  cases y with
  | non=>cases ry; exact PySem.EqNone.ne_int_none (fin_bl I q (by simp))
  | int j=>obtain ⟨t',rfl⟩:=ry; exact ne_int (fin_bl I q (congrArg not dec_int))
  | str j=>obtain ⟨t',rfl⟩:=ry; exact PySem.EqMixed.ne_int_str (fin_bl I q (by simp))
  | _=>exact absurd (show false=true from hs) Bool.false_ne_true
 | str i =>
  obtain ⟨t,rfl⟩:=rx
  cases y with
  | non=>cases ry; exact PySem.EqNone.ne_str_none (fin_bl I q (by simp))
  | bl j=>cases ry; exact PySem.EqMixed.ne_str_bool (fin_bl I q (by simp))
  | int j=>obtain ⟨t',rfl⟩:=ry; exact PySem.EqMixed.ne_str_int (fin_bl I q (by simp))
  | str j=>obtain ⟨t',rfl⟩:=ry; exact ne_str (fin_bl I q (congrArg not dec_str))
  | _=>exact absurd (show false=true from hs) Bool.false_ne_true
 | byt i =>
  obtain ⟨t,rfl⟩:=rx
  cases y with
  | byt j=>obtain ⟨t',rfl⟩:=ry; exact PySem.W.ne_bytes (fin_bl I q (congrArg not dec_byt))
  | _=>exact absurd (show false=true from hs) Bool.false_ne_true
 | _=>cases y <;> exact absurd (show false=true from hs) Bool.false_ne_true
theorem op_lt:OpR X (compareOp .Lt) (rI0 fun i j=>.bl (decide (i < j))):=opB0 fun _ _ _ _ _ _ _ q=>lt_int q
theorem op_le:OpR X (compareOp .LtE) (rI0 fun i j=>.bl (decide (i≤j))):=opB0 fun _ _ _ _ _ _ _ q=>le_int q
theorem op_gt:OpR X (compareOp .Gt) (rI0 fun i j=>.bl (decide (j < i))):=opB0 fun _ _ _ _ _ _ _ q=>gt_int q
theorem op_isN:OpR X (compareOp .Is) (fun x y H Q=>y = .non∧Q (.bl (decide (x = .non))) H):=by
 intro pins s σ H x y v u Q I rx ry h
 obtain ⟨rfl,q⟩:=h
 cases ry
 refine is_none_gen (fin_bl I q ?_)
 cases x <;> first
  | (cases rx; rfl)
  | (obtain ⟨t,rfl⟩:=rx; rfl)
theorem nomark (b:Expr){op:CmpOp}(h:op ≠ .In:=by decide)(h2:op ≠ .NotIn:=by decide) : behindInMarks op b=false:=by
 have e1:(op == CmpOp.In)=false:=by cases op <;> first | rfl | exact absurd rfl h
 have e2:(op == CmpOp.NotIn)=false:=by cases op <;> first | rfl | exact absurd rfl h2
 cases b <;> simp [behindInMarks,e1,e2]
theorem pe_cmpR {op:CmpOp}{r:R2}(ho:OpR X (compareOp op) r)(ha:PE X a ta)(hb:PE X b tb)(hm:behindInMarks op b=false) : PE X (.Compare a [op] [b] pos) (tOp r ta tb):=by
 intro pins s σ H Q I h
 exact wpAny_Compare1 (binT ha hb I h fun v u s2 x y H2 I2 rx ry q=>ho pins s2 σ H2 x y v u Q I2 rx ry q) hm
def tTest (t:TE) : TT:=fun σ H Q=>t σ H fun x H'=>∃ k,x = .bl k∧Q k H'
theorem pt_cmpR {op:CmpOp}{r:R2}(ho:OpR X (compareOp op) r)(ha:PE X a ta)(hb:PE X b tb)(hm:behindInMarks op b=false) : PT X (.Compare a [op] [b] pos) (tTest (tOp r ta tb)):=by
 intro pins s σ H Q I h
 refine wpAny_isTrue_Compare1 (thn (ha pins s σ H _ I h) fun v s1 ⟨x,H1,I1,r1,q1⟩=>thn (hb pins s1 σ H1 _ I1 q1) fun u s2 ⟨y,H2,I2,r2,q2⟩ =>
  thn (ho pins s2 σ H2 x y v u _ I2 r1 r2 q2) fun c s3 ⟨z,H3,I3,r3,k,e,q3⟩=>?_) hm
 subst e
 cases r3
 exact wpAny_truthy_bool ⟨H3,I3,q3⟩
theorem line63:(sizeLine:Nat) < 2 ^ 63:=by rw [sizeLine_eq]; decide
theorem op_add_str:OpR X (binaryOp .Add) (fun x y H Q=>∃ i j,x = .str i∧y = .str j∧i.length + j.length≤sizeLine∧Q (.str (i ++ j)) H):=by
 intro pins s σ H x y v u Q I rx ry h
 obtain ⟨i,j,rfl,rfl,hz,q⟩:=h
 obtain ⟨t,rfl⟩:=rx
 obtain ⟨t',rfl⟩:=ry
 exact add_str (fun t' tk=>⟨.str (i ++ j),H,I.tok _,⟨_,rfl⟩,q⟩) hz
theorem vals1 {x:V}{us:List Value}(r:Vals [x] us) : ∃ u,us = [u]∧RelV x u:=by
 cases r with
 | cons r1 r2=>cases r2; exact ⟨_,rfl,r1⟩
theorem vals2 {x y:V}{us:List Value}(r:Vals [x,y] us) : ∃ u w',us = [u,w']∧RelV x u∧RelV y w':=by
 cases r with
 | cons r1 r2 =>
  cases r2 with
  | cons r3 r4=>cases r4; exact ⟨_,_,rfl,r1,r3⟩
theorem call_abs:CallR X (.builtin "abs") (fun xs H Q=>∃ i,xs = [.int i]∧Q (.int (if i < 0 then -i else i)) H):=by
 intro pins s σ H xs us Q I r h
 obtain ⟨i,rfl,q⟩:=h
 obtain ⟨u,rfl,t,rfl⟩:=vals1 r
 exact call_abs_int fun u tk=>⟨.int (if i < 0 then -i else i),H,I.tok _,⟨_,rfl⟩,q⟩
theorem call_max2 (hc:X.calm=true) : CallR X (.builtin "max") (fun xs H Q=>∃ i j,xs = [.int i,.int j]∧Q (.int (if j > i then j else i)) H):=by
 intro pins s σ H xs us Q I r h
 obtain ⟨i,j,rfl,q⟩:=h
 obtain ⟨u,w',rfl,⟨t,rfl⟩,⟨t',rfl⟩⟩:=vals2 r
 refine max_two_ints (I.ok.hd hc) fun h' tk k=>⟨_,H,I.kept k,?_,q⟩
 by_cases hj:j > i
 ·rw [if_pos hj,if_pos hj]; exact ⟨_,rfl⟩
 ·rw [if_neg hj,if_neg hj]; exact ⟨_,rfl⟩
theorem call_int1:CallR X (.type "int") (fun xs H Q=>(∃ i,xs = [.int i]∧Q (.int i) H)∨∃ k,xs = [.bl k]∧Q (.int (if k then 1 else 0)) H):=by
 intro pins s σ H xs us Q I r h
 rcases h with ⟨i,rfl,q⟩ | ⟨k,rfl,q⟩
 ·obtain ⟨u,rfl,t,rfl⟩:=vals1 r
  exact call_int_int ⟨.int i,H,I,⟨_,rfl⟩,q⟩
 ·obtain ⟨u,rfl,r1⟩:=vals1 r
  cases r1
  exact call_int_bool ⟨.int (if k then 1 else 0),H,I.tok _,⟨_,rfl⟩,q⟩
end
end L2
namespace L2
open PySem PySem.Spec PyProof.Rows
structure ObjM (h:Heap) (x dx C:Addr) (mA:Str→Option Value) : Prop where
 obj:h.get? x=some (PySem.W.instObj C dx)
 ns:h.Ns1 dx mA
 ne:dx ≠ x
theorem lookIn_ns {h:Heap}{dx:Addr}{mA:Str→Option Value}(n:h.Ns1 dx mA) : ∃ od,h.get? dx=some od∧∀ name,PySem.W.lookIn name od=some (mA name):=by
 obtain ⟨o,es,ep,ho,hd,hk,_,hm⟩:=n
 refine ⟨o,ho,fun name=>?_⟩
 have e:=hm name
 unfold nsFind findBy at e
 rw [← Array.find?_toList] at e
 unfold PySem.W.lookIn
 rw [hd]
 dsimp only
 split
 ·rename_i y q
  rw [q] at e
  exact congrArg some e
 ·rename_i q
  rw [q] at e
  have a:es.toList.any (·.refKey)=false:=by
   rw [List.any_eq_false]
   intro y hy
   obtain ⟨z,t,hkey⟩:=hk y (Array.mem_toList_iff.mp hy)
   simp [DictEntry.refKey,hkey]
  have a':¬ es.toList.any (·.refKey)=true:=by rw [a]; exact Bool.false_ne_true
  rw [if_neg a']
  exact congrArg some e
theorem ObjM.look {h:Heap}{x dx C:Addr}{mA:Str→Option Value}(I:ObjM h x dx C mA) : ∃ od,PySem.W.InstAt h x (PySem.W.instObj C dx) C (some od)∧∀ name,PySem.W.lookIn name od=some (mA name) :=
 let ⟨od,ho,hl⟩:=lookIn_ns I.ns
 ⟨od,⟨I.obj,rfl,rfl,ho⟩,hl⟩
section
variable {prog:Program}{w:World}{A:Around}{E:Value→Shared→Prop}{s:Shared}{K:PySem.W.Frag}{x dx C f:Addr}{mA:Str→Option Value}{name:Str}{v:Value}
theorem get_map {expr:Bool}{Q:Value→Shared→Prop}(X:K.In s.heap) (I:ObjM s.heap x dx C mA) (hg:PySem.W.plainGet K C name=true) (hh:PySem.W.hasDictIn K C=true)
  (ha:PySem.W.findIn K (.ref C) name=some none) (hv:mA name=some v) (hv':PySem.W.handedIn v=true) (h:Q v { s with toks:=s.toks + 1 }) :
  wpAny (model prog w) A (getAttr (.ref x) name expr) Q E s:=by
 obtain ⟨od,J,hl⟩:=I.look
 exact PySem.W.get_value X J (PySem.W.plainGet_of hg).1 (PySem.W.findObj_own hh ha rfl (by rw [hl,hv])) hv' h
theorem get_meth {pl:Sem Bool}{Q:Value × List Value→Shared→Prop}(X:K.In s.heap) (I:ObjM s.heap x dx C mA) (hg:PySem.W.plainGet K C name=true)
  (hf:PySem.W.findIn K (.ref C) name=some (some (.ref f))) (ht:PySem.W.isFn K (.ref f)=true) (hv:mA name=none) (h:Q (.ref f,[.ref x]) s) :
  wpAny (model prog w) A (getMethod (.ref x) name pl) Q E s:=by
 obtain ⟨od,J,hl⟩:=I.look
 exact PySem.W.method_fn X J (PySem.W.plainGet_of hg).1 (PySem.W.plainGet_of hg).2 hf (beq_iff_eq.mp ht) (by show (PySem.W.lookIn name od).map (·.isSome)=some false; rw [hl,hv]; rfl) h
theorem set_map {ns:List Str}{Q:Unit→Shared→Prop}(X:K.In s.heap) (I:ObjM s.heap x dx C mA)
  (hs:PySem.W.findIn K (.ref C) "__setattr__" = some (some (.builtin "object.__setattr__"))) (hp:PySem.W.plainOver K C=true) (ht:PySem.W.takerIn K C name=some none) (hh:PySem.W.hasDictIn K C=true)
  (hw:PySem.Within mA ns) (hsz:ns.length≤sizeLine)
  (h:∀ h',ObjM h' x dx C (fun y=>if y=name then some v else mA y)→Heap.SameBut dx s.heap h'→Q () { s with heap:=h',toks:=s.toks + 2 }) :
  wpAny (model prog w) A (setAttr (.ref x) name v) Q E s:=by
 obtain ⟨od,J,hl⟩:=I.look
 refine PySem.W.set_plain X J hs (PySem.W.osa_open (s:={ s with toks:=s.toks + 1 }) (r:=none) X J hp ht fun b=>?_)
 obtain ⟨cd,hc,hd'⟩:=PySem.W.any_some hh
 have hx:s.heap.get? x=some ⟨.ref C,some dx,.plain,#[]⟩:=I.obj
 refine wpAny_bind (wpAny_pure (wpAny_bind (wpAny_bind (wpAny_loadPart hx (wpAny_bind (PySem.W.Looks.here (s:={ s with toks:=s.toks + 1 }) (PySem.W.looks_clsIn X hc) ?_))))))
 rw [hd']
 refine wpAny_pure (a:=some dx) (wpAny_bind (wpAny_pure (wpAny_bind ?_)))
 refine wpAny_nsSet1 (s:={ s with toks:=s.toks + 1 }) I.ns fun h' hn2 hs2=>?_
 obtain ⟨oD,esD,epD,hoD,hdD,hcD⟩:=hn2.count (PySem.Within.cons name v hw)
 refine wpAny_bind (wpAny_lookBehind hoD (by rw [hdD]; exact pastItsLine_dict (Nat.le_trans hcD (by rw [List.length_cons]; omega))) ?_)
 exact wpAny_pure (h _ ⟨(hs2.2 _ (Ne.symm I.ne)).trans I.obj,hn2,I.ne⟩ hs2)
theorem make_map {R:Result→Shared→Prop}{vs:List Value}{kw:List (Str × Value)}(X:K.In s.heap) (hm:PySem.W.makesIn K C=true)
  (hi:PySem.W.findIn K (.ref C) "__init__" = some (some (.ref f))) (hf:PySem.W.typeIn K (.ref f)=some (.type "function"))
  (h:codeAny (model prog w) (A.under (.builtin "type.__call__" ⟨.ref C :: vs,kw⟩)) (.call (.ref f) ⟨.ref (s.heap.objs.size + 1) :: vs,kw⟩) (PySem.W.InitBack (s.heap.objs.size + 1) R)
   { s with heap:=(s.heap.push PySem.W.emptyDict).push (PySem.W.instObj C s.heap.objs.size) }) :
  codeAny (model prog w) A (.call (.ref C) ⟨vs,kw⟩) R s:=by
 obtain ⟨hh,g,d,t,os⟩:=s
 exact PySem.W.make_core (PySem.W.makes_of X hm) (PySem.W.looks_findIn X hi) (fun self=>PySem.W.bind_fn X self hf) (.inl rfl) h
end
def putF (f:Str)(v:V) : List (Str × V)→List (Str × V)
 | []=>[(f,v)]
 | (g,x) :: r=>if g=f then (g,v) :: r else (g,x) :: putF f v r
theorem lookup_putF (f g:Str)(v:V) : ∀ fs:List (Str × V),(putF f v fs).lookup g=if g=f then some v else fs.lookup g
 | []=>by
  show List.lookup g [(f,v)] = _
  by_cases h:g=f
  ·have hb:(g == f)=true:=beq_iff_eq.mpr h
   simp only [List.lookup,hb,if_pos h]
  ·have hb:(g == f)=false:=beq_eq_false_iff_ne.mpr h
   simp only [List.lookup,hb,if_neg h]
 | (k,x) :: r=>by
  have ih:=lookup_putF f g v r
  rw [show putF f v ((k,x) :: r)=(if k=f then (k,v) :: r else (k,x) :: putF f v r) from rfl]
  by_cases hk:k=f
  ·rw [if_pos hk]
   by_cases h:g=k
   ·have hb:(g == k)=true:=beq_iff_eq.mpr h
    simp only [List.lookup,hb,if_pos (h.trans hk)]
   ·have hb:(g == k)=false:=beq_eq_false_iff_ne.mpr h
    simp only [List.lookup,hb,if_neg (fun e:g=f=>h (e.trans hk.symm))]
  ·rw [if_neg hk]
   by_cases h:g=k
   ·have hb:(g == k)=true:=beq_iff_eq.mpr h
    simp only [List.lookup,hb,if_neg (fun e:g=f=>hk (h.symm.trans e))]
   ·have hb:(g == k)=false:=beq_eq_false_iff_ne.mpr h
    simp only [List.lookup,hb]
    exact ih
theorem keys_putF (f:Str)(v:V) : ∀ fs:List (Str × V),f∈(putF f v fs).map (·.1)∧∀ g,g∈fs.map (·.1)→g∈(putF f v fs).map (·.1)
 | []=>⟨by simp [putF],fun g h=>by simp at h⟩
 | (k,x) :: r=>by
  obtain ⟨i1,i2⟩:=keys_putF f v r
  rw [show putF f v ((k,x) :: r)=(if k=f then (k,v) :: r else (k,x) :: putF f v r) from rfl]
  by_cases hk:k=f
  ·rw [if_pos hk]
   subst hk
   exact ⟨by simp,fun g h=>by simpa using h⟩
  ·rw [if_neg hk]
   refine ⟨?_,fun g h=>?_⟩
   ·rw [List.map_cons]
    exact List.mem_cons_of_mem _ i1
   ·rw [List.map_cons] at h ⊢
    rcases List.mem_cons.mp h with e | e
    ·exact List.mem_cons.mpr (.inl e)
    ·exact List.mem_cons_of_mem _ (i2 g e)
theorem length_putF (f:Str)(v:V) : ∀ fs:List (Str × V),(putF f v fs).length≤fs.length + 1
 | []=>by simp [putF]
 | (k,x) :: r=>by
  have ih:=length_putF f v r
  rw [show putF f v ((k,x) :: r)=(if k=f then (k,v) :: r else (k,x) :: putF f v r) from rfl]
  by_cases hk:k=f
  ·rw [if_pos hk,List.length_cons,List.length_cons]; omega
  ·rw [if_neg hk,List.length_cons,List.length_cons]; omega
theorem RelO.some_of {v:V}{o:Option Value}(r:RelO (some v) o) : ∃ u,o=some u∧RelV v u:=by
 cases o with
 | none=>exact (show False from r).elim
 | some u=>exact ⟨u,rfl,r⟩
theorem RelO.none_of {o:Option Value}(r:RelO none o) : o=none:=by
 cases o with
 | none=>rfl
 | some u=>exact (show False from r).elim
theorem handed_of {v:V}{u:Value}(r:RelV v u) : PySem.W.handedIn u=true:=by
 cases v with
 | non=>cases (show u=Value.none from r); rfl
 | bl b=>cases (show u=Value.bool b from r); rfl
 | int i=>obtain ⟨t,e⟩:=(show ∃ t,u=Value.int i t from r); cases e; rfl
 | str x=>obtain ⟨t,e⟩:=(show ∃ t,u=Value.str x t from r); cases e; rfl
 | byt b=>obtain ⟨t,e⟩:=(show ∃ t,u=Value.bytes b t from r); cases e; rfl
 | flt b=>obtain ⟨t,e⟩:=(show ∃ t,u=Value.float b t from r); cases e; rfl
 | ref a=>cases (show u=Value.ref a from r); rfl
 | ty n=>cases (show u=Value.type n from r); rfl
section
variable {P:Program}{w:World}{H H':Hp}{h h':Heap}{a C dx:Addr}{fs fs':List (Str × V)}
theorem ins_get (hok:HOk P w H h)(e:H a=some (.ins C dx fs)) : ∃ mA,ObjM h a dx C mA∧(∀ f,RelO (fs.lookup f) (mA f))∧PySem.Within mA (fs.map (·.1))∧fs.length≤1000∧H dx=some (.own a):=by
 obtain ⟨d,z,ne,ob,mA,n,r,q⟩:=(show ObjOk P w H h a (.ins C dx fs) from hok a _ e)
 exact ⟨mA,⟨ob,n,ne⟩,r,q,z,d⟩
end
structure Cls (K:PySem.W.Frag) (C:Addr) : Prop where
 pg:PySem.W.plainGet K C Str.empty=true
 hd:PySem.W.hasDictIn K C=true
 po:PySem.W.plainOver K C=true
 sa:PySem.W.findIn K (.ref C) "__setattr__" = some (some (.builtin "object.__setattr__"))
theorem Cls.get {K:PySem.W.Frag}{C:Addr}(c:Cls K C)(f:Str) : PySem.W.plainGet K C f=true:=c.pg
def NoAttr (K:PySem.W.Frag)(C:Addr)(f:Str) : Prop:=PySem.W.findIn K (.ref C) f=some none
theorem NoAttr.taker {K:PySem.W.Frag}{C:Addr}{f:Str}(n:NoAttr K C f) : PySem.W.takerIn K C f=some none:=by
 unfold PySem.W.takerIn
 rw [show PySem.W.findIn K (.ref C) f=some none from n]
 rfl
structure Con (K:PySem.W.Frag) (C:Addr) (f:Str) (v:V) (u:Value) : Prop where
 at_:PySem.W.findIn K (.ref C) f=some (some u)
 rel:RelV v u
 get:PySem.W.specialIn K u "__get__" = some none
 cp:PySem.W.copiedNames.contains f=false
structure Meth (K:PySem.W.Frag) (C:Addr) (m:Str) (f:Addr) : Prop where
 at_:PySem.W.findIn K (.ref C) m=some (some (.ref f))
 fn:PySem.W.isFn K (.ref f)=true
 kp:PySem.W.keepIn K (.ref f)=true
section
variable {X:Cx}{pins:List (Addr × Obj)}{σ:St}{H:Hp}{s:Shared}{a C dx:Addr}{fs:List (Str × V)}{f:Str}{v:V}{A:Around}{E:Value→Shared→Prop}
theorem getattr_ok {b:Bool}{Q:Value→Shared→Prop}(I:Inv X pins σ H s) (e:H a=some (.ins C dx fs)) (c:Cls X.K C) (n:NoAttr X.K C f) (l:fs.lookup f=some v)
  (h:∀ u s',Inv X pins σ H s'→RelV v u→Q u s') : wpAny (model X.prog X.w) A (getAttr (.ref a) f b) Q E s:=by
 obtain ⟨mA,O,r,_,_,_⟩:=ins_get I.hok e
 obtain ⟨u,hu,ru⟩:=RelO.some_of (v:=v) (o:=mA f) (by rw [← l]; exact r f)
 exact get_map I.kIn O (c.get f) c.hd n hu (handed_of ru) (h u _ (I.tok _) ru)
theorem getmeth_ok {m:Str}{g:Addr}{pl:Sem Bool}{Q:Value × List Value→Shared→Prop}(I:Inv X pins σ H s) (e:H a=some (.ins C dx fs)) (c:Cls X.K C) (k:Meth X.K C m g) (l:fs.lookup m=none)
  (h:Q (.ref g,[.ref a]) s) : wpAny (model X.prog X.w) A (getMethod (.ref a) m pl) Q E s:=by
 obtain ⟨mA,O,r,_,_,_⟩:=ins_get I.hok e
 have hn:mA m=none:=RelO.none_of (by rw [← l]; exact r m)
 exact get_meth I.kIn O (c.get m) k.at_ k.fn hn h
theorem setattr_ok {y:V}{u:Value}{Q:Unit→Shared→Prop}(I:Inv X pins σ H s) (e:H a=some (.ins C dx fs)) (c:Cls X.K C) (n:NoAttr X.K C f) (hl:fs.length < 1000) (ry:RelV y u)
  (h:∀ s',Inv X pins σ (upd H a (.ins C dx (putF f y fs))) s'→Q () s') : wpAny (model X.prog X.w) A (setAttr (.ref a) f u) Q E s:=by
 obtain ⟨mA,O,r,wi,_,ho⟩:=ins_get I.hok e
 have hz:(fs.map (·.1)).length≤sizeLine:=by rw [List.length_map,sizeLine_eq]; omega
 refine set_map I.kIn O c.sa c.po n.taker c.hd wi hz fun h' O' sb=>h _ ?_
 have hd:∃ o,h'.get? dx=some o:=let ⟨o,_,_,e',_⟩:=O'.ns; ⟨o,e'⟩
 refine I.write (x:=a) (e:=dx) (by rw [e]; exact True.intro) (.inr ho) (fun b q hb z=>(sb.2 b hb).trans z) hd ?_
 refine ⟨by rw [upd_ne O.ne]; exact ho,?_,O.ne,O'.obj,_,O'.ns,fun g=>?_,fun g hg=>?_⟩
 ·have:=length_putF f y fs; omega
 ·show RelO ((putF f y fs).lookup g) (if g=f then some u else mA g)
  rw [lookup_putF]
  by_cases q:g=f
  ·rw [if_pos q,if_pos q]; exact ry
  ·rw [if_neg q,if_neg q]; exact r g
 ·by_cases q:g=f
  ·rw [q]; exact (keys_putF f y fs).1
  ·refine (keys_putF f y fs).2 g (wi g fun z=>hg ?_)
   show (if g=f then some u else mA g)=none
   rw [if_neg q]; exact z
theorem Inv.made (I:Inv X pins σ H s) : Inv X pins σ (upd (upd H s.heap.objs.size (.own (s.heap.objs.size + 1))) (s.heap.objs.size + 1) (.ins C s.heap.objs.size []))
  { s with heap:=(s.heap.push PySem.W.emptyDict).push (PySem.W.instObj C s.heap.objs.size) }:=by
 have e1:(s.heap.push PySem.W.emptyDict).get? s.heap.objs.size=some PySem.W.emptyDict:=Heap.get?_push_size s.heap rfl
 have e2:((s.heap.push PySem.W.emptyDict).push (PySem.W.instObj C s.heap.objs.size)).get? (s.heap.objs.size + 1)=some (PySem.W.instObj C s.heap.objs.size):=by
  have:=Heap.get?_push_size (s.heap.push PySem.W.emptyDict) (o:=PySem.W.instObj C s.heap.objs.size) rfl
  rwa [Heap.size_push] at this
 have e3:(s.heap.push PySem.W.emptyDict).Ns s.heap.objs.size (fun _=>none):=⟨PySem.W.emptyDict,#[],_,e1,rfl,(fun e he=>absurd he (by simp)),fun _=>rfl⟩
 have I1:=I.laid (a:=s.heap.objs.size) (o:=.own (s.heap.objs.size + 1)) (h':=s.heap.push PySem.W.emptyDict) (t':=s.toks) (fun b u q=>Heap.get?_push_of_some _ q) (Nat.le_refl _) ⟨_,e1⟩
 refine I1.laid (a:=s.heap.objs.size + 1) (o:=.ins C s.heap.objs.size []) (t':=s.toks) (fun b u q=>Heap.get?_push_of_some _ q) (Nat.le_of_eq (Heap.size_push _ _)) ?_
 have ne:s.heap.objs.size ≠ s.heap.objs.size + 1:=Nat.ne_of_lt (Nat.lt_succ_self _)
 refine ⟨by rw [upd_ne ne,upd_same],Nat.zero_le _,ne,e2,fun _=>none,(Heap.Ns1.of_empty e3).at fun o q=>Heap.get?_push_of_some _ q,fun _=>True.intro,fun y hy=>absurd rfl hy⟩
theorem attr_of {prog:Program}{w:World}{env:Env}{e:Expr}{f:Str}{pos:Pos}{s:Shared}{Q:Value→Shared→Prop}(hb:attributeBase e f env (eval e env)=eval e env)
  (h:wpAny (model prog w) A (eval e env) (fun o s₁=>wpAny (model prog w) A (getAttr o f true) Q E s₁) E s) : wpAny (model prog w) A (eval (.Attribute e f pos) env) Q E s :=
 Attribute_any_ h (by rw [arm_eval_Attribute,hb])
end
def tFld (K:PySem.W.Frag)(ta:TE)(f:Str) : TE:=fun σ H Q=>ta σ H fun x H1=>∃ a C dx fs v,x = .ref a∧H1 a=some (.ins C dx fs)∧Cls K C∧NoAttr K C f∧fs.lookup f=some v∧Q v H1
def sFld (K:PySem.W.Frag)(ta tv:TE)(f:Str) : TS:=fun D σ H=>tv σ H fun y H1=>ta σ H1 fun x H2=>∃ a C dx fs,x = .ref a∧H2 a=some (.ins C dx fs)∧Cls K C∧NoAttr K C f∧fs.length < 1000 ∧
 D.nx σ (upd H2 a (.ins C dx (putF f y fs)))
section
variable {X:Cx}{o e value:Expr}{f:Str}{pos pos' tpos:Pos}{ta tv:TE}
theorem pe_fld (he:PE X e ta)(hb:attributeBase e f X.env (eval e X.env)=eval e X.env) : PE X (.Attribute e f pos) (tFld X.K ta f):=by
 intro pins s σ H Q I h
 refine attr_of hb (thn (he pins s σ H _ I h) fun u s1 ⟨x,H1,I1,rx,a,C,dx,fs,v,ex,ea,c,n,l,q⟩=>?_)
 subst ex
 obtain rfl:u=Value.ref a:=rx
 exact getattr_ok I1 ea c n l fun u' s2 I2 ru=>⟨v,H1,I2,ru,q⟩
theorem ps_fld (ha:PE X o ta)(hv:PE X value tv)(hs:swapsWith value (some (.Attribute o f pos')) pos.line X.env=pure false) : PS X (.Assign [.Attribute o f pos'] value pos) (sFld X.K ta tv f):=by
 intro pins s σ H D I h
 refine plainObj_wpAny_Assign_Attribute (thn (hv pins s σ H _ I h) fun u s1 ⟨y,H1,I1,ry,q⟩=>thn (ha pins s1 σ H1 _ I1 q) fun ov s2 ⟨x,H2,I2,rx,a,C,dx,fs,ex,ea,c,n,l,q2⟩=>?_) hs
 subst ex
 obtain rfl:ov=Value.ref a:=rx
 exact setattr_ok I2 ea c n l ry fun s3 I3=>⟨σ,_,I3,q2⟩
end
section
variable {X:Cx}{pins:List (Addr × Obj)}{σ:St}{H:Hp}{s:Shared}{A:Around}{E:Value→Shared→Prop}{Q:Value→Shared→Prop}{c:Value}{b:Bool}
inductive TyOf (K:PySem.W.Frag) (H:Hp) : V→Value→Prop where
 | non:TyOf K H .non (.type "NoneType")
 | bl (x:Bool) : TyOf K H (.bl x) (.type "bool")
 | int (i:Int) : TyOf K H (.int i) (.type "int")
 | str (x:Str) : TyOf K H (.str x) (.type "str")
 | flt (x:UInt64) : TyOf K H (.flt x) (.type "float")
 | lst {a:Addr}{xs:List V}(e:H a=some (.lst xs)) : TyOf K H (.ref a) (.type "list")
 | frz {a:Addr}{o:Obj}{xs:List V}(e:H a=some (.frz o (.lst xs))) : TyOf K H (.ref a) (.type "list")
 | tup {a:Addr}{xs:List V}(e:H a=some (.tup xs)) : TyOf K H (.ref a) (.type "tuple")
 | dK {a:Addr}{kvs:List (Key × V)}(e:H a=some (.dK kvs)) : TyOf K H (.ref a) (.type "dict")
 | dT {a:Addr}{kvs:List (List Key × V)}(e:H a=some (.dT kvs)) : TyOf K H (.ref a) (.type "dict")
 | ins {a C dx:Addr}{fs:List (Str × V)}(e:H a=some (.ins C dx fs)) (cl:Cls K C) (ha:PySem.W.findIn K (.ref C) "__class__" = some (some (.builtin "object.__class__")))
   (hn:PySem.W.specialIn K (.builtin "object.__class__") "__get__" = some (some (.builtin "getset_descriptor.__get__"))) (htk:PySem.W.takesIn K (.builtin "object.__class__")=some true)
   (hm:PySem.W.mroIn K C (.type "object")=some true) : TyOf K H (.ref a) (.ref C)
theorem isinst_ok {x:V}{u t:Value}(I:Inv X pins σ H s) (rx:RelV x u) (ty:TyOf X.K H x t) (e:PySem.W.kitOne X.K t c=some b) (h:∀ tk,Q (.bool b) { s with toks:=tk }) :
  wpAny (model X.prog X.w) A (call (.builtin "isinstance") [u,c]) Q E s:=by
 cases ty with
 | non=>cases (show u=Value.none from rx); exact PySem.W.kia_one PySem.W.kitx_none I.kIn True.intro e (fun z=>nomatch z) h
 | bl y=>cases (show u=Value.bool y from rx); exact PySem.W.kia_one PySem.W.kitx_bool I.kIn True.intro e (fun z=>nomatch z) h
 | int i=>obtain ⟨t,q⟩:=(show ∃ t,u=Value.int i t from rx); cases q; exact PySem.W.kia_one PySem.W.kitx_int I.kIn True.intro e (fun z=>nomatch z) h
 | str y=>obtain ⟨t,q⟩:=(show ∃ t,u=Value.str y t from rx); cases q; exact PySem.W.kia_one PySem.W.kitx_str I.kIn True.intro e (fun z=>nomatch z) h
 | flt y=>obtain ⟨t,q⟩:=(show ∃ t,u=Value.float y t from rx); cases q; exact PySem.W.kia_one PySem.W.kitx_float I.kIn True.intro e (fun z=>nomatch z) h
 | @lst a xs ea =>
  cases (show u=Value.ref a from rx)
  obtain ⟨_,_,n,_,h1⟩:=(show ObjOk X.prog X.w H s.heap a (.lst xs) from I.hok a _ ea)
  exact PySem.W.kia_one PySem.W.kitx_list I.kIn ⟨_,h1,rfl⟩ e (fun z=>nomatch z) h
 | @frz a ob xs ea =>
  cases (show u=Value.ref a from rx)
  obtain ⟨_,_,_,n,_,h1⟩:=(show ObjOk X.prog X.w H s.heap a (.frz ob (.lst xs)) from I.hok a _ ea)
  exact PySem.W.kia_one PySem.W.kitx_list I.kIn ⟨_,h1,rfl⟩ e (fun z=>nomatch z) h
 | @tup a xs ea =>
  cases (show u=Value.ref a from rx)
  obtain ⟨_,_,_,p⟩:=(show ObjOk X.prog X.w H s.heap a (.tup xs) from I.hok a _ ea)
  obtain ⟨o,h1,h2,_⟩:=p
  exact PySem.W.kia_one PySem.W.kitx_tuple I.kIn ⟨o,h1,h2⟩ e (fun z=>nomatch z) h
 | @dK a kvs ea =>
  cases (show u=Value.ref a from rx)
  obtain ⟨_,_,vs,_,p⟩:=(show ObjOk X.prog X.w H s.heap a (.dK kvs) from I.hok a _ ea)
  obtain ⟨o,es,ep,h1,h2,_⟩:=p
  exact PySem.W.kia_one PySem.W.kitx_dict I.kIn ⟨o,h1,h2.1⟩ e (fun z=>nomatch z) h
 | @dT a kvs ea =>
  cases (show u=Value.ref a from rx)
  obtain ⟨_,_,xs,_,o,es,ep,h1,h2,_⟩:=(show ObjOk X.prog X.w H s.heap a (.dT kvs) from I.hok a _ ea)
  exact PySem.W.kia_one PySem.W.kitx_dict I.kIn ⟨o,h1,h2.1⟩ e (fun z=>nomatch z) h
 | @ins a C dx fs ea cl ha hn htk hm =>
  cases (show u=Value.ref a from rx)
  obtain ⟨mA,O,_⟩:=ins_get I.hok ea
  obtain ⟨od,J,_⟩:=O.look
  exact PySem.W.kia_one (PySem.W.kitx_own (cl.get _) cl.hd ha hn htk hm) I.kIn J e (fun z=>nomatch z) h
end
end L2
namespace L2
open PySem PySem.Spec PyProof.Rows
structure Room (k:Nat) (A:Around) : Prop where
 hd:A.handled=none
 dp:A.depth + 3 * k + 5 < recursionLimit
 un:A.units + 16 * k + 200 < cLine
 gd:A.guards=some []
theorem Room.mono {j k:Nat}{A:Around}(r:Room k A)(h:j≤k) : Room j A:=⟨r.hd,by have:=r.dp; omega,by have:=r.un; omega,r.gd⟩
theorem Room.deeper {k:Nat}{A:Around}(r:Room (k + 1) A)(env:Env) : Room k (A.deeper env) :=
 ⟨r.hd,by have:=r.dp; show A.depth + 1 + 3 * k + 5 < _; omega,by have:=r.un; show A.units + 3 + 16 * k + 200 < _; omega,r.gd⟩
theorem make_depth {A:Around}{C:Addr}{us:List Value}{kw:List (Str × Value)} : (A.under (.builtin "type.__call__" ⟨.ref C :: us,kw⟩)).depth=A.depth + 1:=by
 first | rfl | simp [Around.under,Code.weight,Code.isCreation,Code.isGuard,Code.isCaller,Code.frames,Code.isFrame,guardIds]
theorem make_units {A:Around}{C:Addr}{us:List Value}{kw:List (Str × Value)} : (A.under (.builtin "type.__call__" ⟨.ref C :: us,kw⟩)).units=A.units + 1:=by
 first | rfl | simp [Around.under,Code.cUnits,Code.frames,Code.isFrame]
theorem Room.make {k:Nat}{A:Around}(r:Room (k + 1) A)(C:Addr)(us:List Value)(kw:List (Str × Value)) : Room k (A.under (.builtin "type.__call__" ⟨.ref C :: us,kw⟩)) :=
 ⟨r.hd,by have:=r.dp; rw [make_depth]; omega,by have:=r.un; rw [make_units]; omega,by have:=r.gd; first | exact this | simpa [Around.under,Code.isGuard,guardIds] using this⟩
theorem Room.depth {k:Nat}{A:Around}(r:Room k A) : A.depth < recursionLimit:=by have:=r.dp; omega
theorem Room.units {k:Nat}{A:Around}(r:Room k A) : A.units + 64 < cLine:=by have:=r.un; omega
theorem Room.units0 {k:Nat}{A:Around}(r:Room k A) : A.units < cLine:=by have:=r.un; omega
def tNil:TA:=fun _ H Q=>Q [] H
def tCons (ta:TE)(tr:TA) : TA:=fun σ H Q=>ta σ H fun x H1=>tr σ H1 fun xs H2=>Q (x :: xs) H2
section
variable {X:Cx}{e:Expr}{es:List Expr}{te:TE}{t:TA}{pos:Pos}
theorem pa_nil:PA X [] tNil:=fun _ _ _ _ H Q I h=>Calls.spliced_nil ⟨[],H,I,.nil,h⟩
theorem pa_cons (ha:PE X e te)(hr:PA X es t)(hs:starEach (e :: es) X.env=(false,eval e X.env) :: starEach es X.env:=by rfl) : PA X (e :: es) (tCons te t):=by
 intro pos pins s σ H Q I h
 rw [hs]
 show wpAny _ _ (spliced ((false,eval e X.env) :: backTo pos (starEach es X.env))) _ _ s
 refine Calls.spliced_cons (thn (ha pins s σ H _ I h) fun u s1 ⟨x,H1,I1,r1,q1⟩=>?_)
 exact thn (hr pos pins s1 σ H1 _ I1 q1) fun us s2 ⟨xs,H2,I2,r2,q2⟩=>⟨x :: xs,H2,I2,.cons r1 r2,q2⟩
def tTup (t:TA) : TE:=fun σ H Q=>t σ H fun xs H1=>xs.length≤sizeLine∧∀ p,H1 p=none→Q (.ref p) (upd H1 p (.tup xs))
def tLst (t:TA) : TE:=fun σ H Q=>t σ H fun xs H1=>xs.length≤sizeLine∧∀ p,H1 p=none→Q (.ref p) (upd H1 p (.lst xs))
theorem pe_tup {x1}(h:PA X es t) : PE X (.Tuple es x1 pos) (tTup t):=by
 intro pins s σ H Q I hq
 refine wpAny_Tuple_spliced (thn (h pos pins s σ H _ I hq) fun us s1 ⟨xs,H1,I1,r,z,q⟩=>⟨by rw [← r.length]; exact z,?_⟩)
 have hf:H1 s1.heap.objs.size=none:=I1.hok.fresh (Nat.le_refl _)
 refine ⟨.ref s1.heap.objs.size,upd H1 s1.heap.objs.size (.tup xs),I1.laid (t':=s1.toks) (fun b u e=>Heap.get?_push_of_some _ e) (Nat.le_refl _) ?_,rfl,q _ hf⟩
 exact ⟨z,us,r,⟨_,Heap.get?_push_size _ rfl,rfl,_,rfl⟩⟩
theorem pe_lst (h:PA X es t) : PE X (.List es pos) (tLst t):=by
 intro pins s σ H Q I hq
 refine wpAny_List_spliced (thn (h pos pins s σ H _ I hq) fun us s1 ⟨xs,H1,I1,r,z,q⟩=>⟨by rw [← r.length]; exact z,?_⟩)
 have hf:H1 s1.heap.objs.size=none:=I1.hok.fresh (Nat.le_refl _)
 refine ⟨.ref s1.heap.objs.size,upd H1 s1.heap.objs.size (.lst xs),I1.laid (t':=s1.toks) (fun b u e=>Heap.get?_push_of_some _ e) (Nat.le_refl _) ?_,rfl,q _ hf⟩
 exact ⟨z,us,0,r,Heap.get?_push_size _ rfl⟩
end
abbrev Sp:=List V→Hp→VK→XK→Prop
abbrev CXT:=List Env→Hp→Shared→XK→Value→Shared→Prop
structure Env0 (P:Program) (w:World) (K:PySem.W.Frag) (mg:Str→Option Value) (base:Heap) (A:Around) (outer:List Env) (s:Shared) (H:Hp) : Prop where
 frames:A.frames=some outer
 mod:Mod K mg base
 bs:∀ b o,base.get? b=some o→s.heap.get? b=some o∧H b=none
 bsz:base.objs.size≤s.heap.objs.size
 funs:s.heap.FunFrames base outer
 frf:∀ b∈frs outer,H b=none
 hok:HOk P w H s.heap
 bare:AllBare s.gens
def CE (outer:List Env)(P:Program)(w:World)(H:Hp)(s:Shared)(Q:VK)(u:Value)(s':Shared) : Prop :=
 ∃ v H',s'.os=s.os∧AllBare s'.gens∧Un (frs outer) [] H H' s.heap s'.heap∧HOk P w H' s'.heap∧RelV v u∧Q v H'
def CR (CX:CXT)(outer:List Env)(P:Program)(w:World)(H:Hp)(s:Shared)(Q:VK)(E:XK)(r:Result)(s':Shared) : Prop :=
 match r with
 | .ok (.ret u)=>CE outer P w H s Q u s'
 | .ok _=>False
 | .error e=>CX outer H s E e s'
structure FnOk (P:Program) (w:World) (K:PySem.W.Frag) (mg:Str→Option Value) (base:Heap) (CX:CXT) (k:Nat) (f:Addr) (fd:FuncData) (ps:List Str) (sp:Sp) : Prop where
 len:∀ vs H Q E,sp vs H Q E→vs.length=ps.length
 run:∀ (A:Around) (outer:List Env) (s:Shared) (H:Hp) (args:Args) (us:List Value) (vs:List V) (Q:VK) (E:XK),Room k A→Env0 P w K mg base A outer s H→BindsTo s fd args (ps.zip us)→Vals vs us→sp vs H Q E →
  codeAny (model P w) A (.call (.ref f) args) (CR CX outer P w H s Q E) s
theorem Env0.make {P:Program}{w:World}{K:PySem.W.Frag}{mg:Str→Option Value}{base:Heap}{A:Around}{outer:List Env}{s:Shared}{H:Hp}(e:Env0 P w K mg base A outer s H) (C:Addr) (us:List Value) (kw:List (Str × Value)) :
  Env0 P w K mg base (A.under (.builtin "type.__call__" ⟨.ref C :: us,kw⟩)) outer s H:=⟨by first | exact e.frames | (simpa [Around.under,Code.envs,Code.isFrame,pushEnvs] using e.frames),e.mod,e.bs,e.bsz,e.funs,e.frf,e.hok,e.bare⟩
section
variable {X:Cx}{pins:List (Addr × Obj)}{σ:St}{H:Hp}{s s':Shared}
theorem Inv.env0 (I:Inv X pins σ H s) : Env0 X.prog X.w X.K X.mg X.base X.A X.stack s H :=
 ⟨I.ok.frames,I.ok.mod,I.bs,Nat.le_trans I.ok.bsz I.sz,I.stack,I.stkFree,I.hok,I.bare⟩
theorem Inv.after {Q:VK}{u:Value}(I:Inv X pins σ H s)(h:CE X.stack X.prog X.w H s Q u s') : EP X pins σ Q u s':=by
 obtain ⟨v,H',os,bare,un,hok,r,q⟩:=h
 obtain ⟨hh,g,d,t,os'⟩:=s'
 obtain rfl:os'=s.os:=os
 exact ⟨v,H',I.call (h':=hh) (g':=g) (d':=d) (t':=t) (ch:=[]) un hok bare (fun b z=>absurd z (by simp)),r,q⟩
end
def tCall (sp:Sp)(dvs:List V)(E:XK)(t:TA) : TE:=fun σ H Q=>t σ H fun vs H1=>sp (vs ++ dvs) H1 Q E
def tMake (C:Addr)(sp:Sp)(dvs:List V)(E:XK)(t:TA) : TE:=fun σ H Q=>t σ H fun vs H1=>∀ x dx,H1 x=none→H1 dx=none→dx ≠ x →
 sp (.ref x :: (vs ++ dvs)) (upd (upd H1 dx (.own x)) x (.ins C dx [])) (fun v H2=>v = .non∧Q (.ref x) H2) E
def Binds (K:PySem.W.Frag)(fd:FuncData)(ps:List Str)(ds:List Value) : Prop :=
 ∀ (s:Shared) (us:List Value),K.In s.heap→(us ++ ds).length=ps.length→BindsTo s fd ⟨us,[]⟩ (ps.zip (us ++ ds))
theorem Binds.all {K:PySem.W.Frag}{fd:FuncData}{ps:List Str}(h:∀ us:List Value,us.length=ps.length→bindArgs fd ⟨us,[]⟩=pure (ps.zip us)) : Binds K fd ps []:=fun s us _ hl=>by
 rw [List.append_nil] at hl ⊢
 exact .of_eq (h us hl)
def Passes (CX:CXT)(X:Cx)(E:XK) : Prop:=∀ (pins:List (Addr × Obj)) (σ:St) (H:Hp) (s:Shared) (e:Value) (s':Shared),Inv X pins σ H s→CX X.stack H s E e s'→X.xe e s'
section
variable {X:Cx}{CX:CXT}{k:Nat}{f C:Addr}{fd:FuncData}{ps:List Str}{sp:Sp}{dvs:List V}{ds:List Value}{E:XK}{x m:Str}{p pos apos:Pos}{e o:Expr}{es:List Expr}{ta:TE}{t:TA}
theorem run_fn {pins:List (Addr × Obj)}{σ:St}{H:Hp}{s:Shared}{Q:VK}{us:List Value}{vs:List V}(F:FnOk X.prog X.w X.K X.mg X.base CX k f fd ps sp) (hr:Room k X.A) (hb:Binds X.K fd ps ds) (hd:Vals dvs ds) (hx:Passes CX X E)
  (I:Inv X pins σ H s) (r:Vals vs us) (h:sp (vs ++ dvs) H Q E) : wpAny (model X.prog X.w) X.A (call (.ref f) us) (EP X pins σ Q) X.xe s:=by
 have r2:Vals (vs ++ dvs) (us ++ ds):=r.append hd
 have hl:(us ++ ds).length=ps.length:=by rw [← r2.length]; exact F.len _ _ _ _ h
 refine wpAny_call (codeAny_mono (F.run X.A X.stack s H ⟨us,[]⟩ (us ++ ds) (vs ++ dvs) Q E hr I.env0 (hb s us I.kIn hl) r2 h) fun r s' hq=>?_)
 cases r with
 | error e=>exact hx pins σ H s e s' I hq
 | ok fl =>
  cases fl with
  | ret u=>exact I.after hq
  | next=>exact False.elim hq
  | brk=>exact False.elim hq
  | cont=>exact False.elim hq
theorem pe_call (F:FnOk X.prog X.w X.K X.mg X.base CX k f fd ps sp) (hr:Room k X.A) (hg:Gl X x) (hm:X.mg x=some (.ref f)) (hk:PySem.W.keepIn X.K (.ref f)=true) (hb:Binds X.K fd ps ds) (hd:Vals dvs ds) (hx:Passes CX X E)
  (ha:PA X (e :: es) t) (hdb:(x == ("__debug__" : Str))=false:=by decide) (he:starEach (e :: es) X.env=(false,eval e X.env) :: starEach es X.env:=by rfl) (hpl:(backTo pos (starEach es X.env)).any (·.1)=false:=by rfl) :
  PE X (.Call (.Name x p) (e :: es) [] pos) (tCall sp dvs E t):=by
 intro pins s σ H Q I h
 refine wpAny_Call_Name_kw (ld_glob I hg hm ?_ hdb)
 refine PySem.W.callWith_K (h₀:=X.base) I.ok.mod.kin hk (thn (ha pos pins s σ H _ I h) fun us s1 ⟨vs,H1,I1,r,q⟩=>⟨I1.kIn,?_⟩) he hpl
 exact run_fn F hr hb hd hx I1 r q
structure Mk (K:PySem.W.Frag) (C f:Addr) : Prop where
 makes:PySem.W.makesIn K C=true
 init:PySem.W.findIn K (.ref C) "__init__" = some (some (.ref f))
 fn:PySem.W.isFn K (.ref f)=true
 kp:PySem.W.keepIn K (.ref C)=true
theorem run_make {pins:List (Addr × Obj)}{σ:St}{H:Hp}{s:Shared}{Q:VK}{us:List Value}{vs:List V}(M:Mk X.K C f) (F:FnOk X.prog X.w X.K X.mg X.base CX k f fd ps sp) (hr:Room (k + 1) X.A) (hb:Binds X.K fd ps ds) (hd:Vals dvs ds)
  (hx:Passes CX X E) (I:Inv X pins σ H s) (r:Vals vs us)
  (h:∀ x dx,H x=none→H dx=none→dx ≠ x→sp (.ref x :: (vs ++ dvs)) (upd (upd H dx (.own x)) x (.ins C dx [])) (fun v H2=>v = .non∧Q (.ref x) H2) E) :
  wpAny (model X.prog X.w) X.A (call (.ref C) us) (EP X pins σ Q) X.xe s:=by
 have hq:=h (s.heap.objs.size + 1) s.heap.objs.size (I.hok.fresh (Nat.le_succ _)) (I.hok.fresh (Nat.le_refl _)) (Nat.ne_of_lt (Nat.lt_succ_self _))
 have I2:=Inv.made (C:=C) I
 have r2:Vals (V.ref (s.heap.objs.size + 1) :: (vs ++ dvs)) (Value.ref (s.heap.objs.size + 1) :: (us ++ ds)):=.cons rfl (r.append hd)
 have hl:(Value.ref (s.heap.objs.size + 1) :: us ++ ds).length=ps.length:=by
  have e:=r2.length
  rw [F.len _ _ _ _ hq] at e
  exact e.symm
 refine wpAny_call (make_map (f:=f) I.kIn M.makes M.init (beq_iff_eq.mp M.fn) (codeAny_mono (F.run _ X.stack _ _ ⟨Value.ref (s.heap.objs.size + 1) :: us,[]⟩ (Value.ref (s.heap.objs.size + 1) :: (us ++ ds)) _ _ E (hr.make C us [])
  (I2.env0.make C us []) (hb _ (Value.ref (s.heap.objs.size + 1) :: us) I2.kIn hl) r2 hq) fun r s' hq'=>?_))
 cases r with
 | error e=>exact hx pins σ _ _ e s' I2 hq'
 | ok fl =>
  cases fl with
  | ret u =>
   obtain ⟨v,H',I3,rv,ev,q3⟩:=I2.after hq'
   subst ev
   exact ⟨rv,⟨V.ref (s.heap.objs.size + 1),H',I3,rfl,q3⟩⟩
  | next=>exact False.elim hq'
  | brk=>exact False.elim hq'
  | cont=>exact False.elim hq'
theorem pe_make (M:Mk X.K C f) (F:FnOk X.prog X.w X.K X.mg X.base CX k f fd ps sp) (hr:Room (k + 1) X.A) (hg:Gl X x) (hm:X.mg x=some (.ref C)) (hb:Binds X.K fd ps ds) (hd:Vals dvs ds) (hx:Passes CX X E)
  (ha:PA X (e :: es) t) (hdb:(x == ("__debug__" : Str))=false:=by decide) (he:starEach (e :: es) X.env=(false,eval e X.env) :: starEach es X.env:=by rfl) (hpl:(backTo pos (starEach es X.env)).any (·.1)=false:=by rfl) :
  PE X (.Call (.Name x p) (e :: es) [] pos) (tMake C sp dvs E t):=by
 intro pins s σ H Q I h
 refine wpAny_Call_Name_kw (ld_glob I hg hm ?_ hdb)
 refine PySem.W.callWith_K (h₀:=X.base) I.ok.mod.kin M.kp (thn (ha pos pins s σ H _ I h) fun us s1 ⟨vs,H1,I1,r,q⟩=>⟨I1.kIn,?_⟩) he hpl
 exact run_make M F hr hb hd hx I1 r q
end
section
variable {X:Cx}{CX:CXT}{k:Nat}{f C:Addr}{fd:FuncData}{ps ks:List Str}{sp:Sp}{E:XK}{x m:Str}{p pos apos kpos:Pos}{e o:Expr}{es:List Expr}{kws:List Keyword}{te ta:TE}{t tk:TA}{nm:Option Str}
structure KBinds (K:PySem.W.Frag) (fd:FuncData) (ps ks:List Str) (g:List Value→List Value→List Value) (gV:List V→List V→List V) : Prop where
 to:∀ (s:Shared) (us ws:List Value),K.In s.heap→(g us ws).length=ps.length→BindsTo s fd ⟨us,ks.zip ws⟩ (ps.zip (g us ws))
 rel:∀ {vs:List V}{us:List Value}{zs:List V}{ws:List Value},Vals vs us→Vals zs ws→Vals (gV vs zs) (g us ws)
variable {g:List Value→List Value→List Value}{gV:List V→List V→List V}
end
structure FnScope (N P:List Str) (sc:Scope) : Prop where
 kind:sc.kind = .function
 co:sc.isCoroutine=false
 gen:sc.isGenerator=false
 nd:N.Nodup
 pre:N.take P.length=P
 par:∀ x∈P,sc.names.lookup x=some .local∨sc.names.lookup x=some .cell
 nofree:∀ y∈sc.names,y.2 ≠ .free
theorem bindL_out {kindOf:Str→Option NameKind}{x:Str} : ∀ {binds:List (Str × Value)}{m:Str→Option Value},(∀ v,(x,v) ∉ binds)→bindL kindOf binds m x=m x
 | [],_,_=>rfl
 | (n,v) :: r,m,h=>by
  unfold bindL
  rw [bindL_out fun w hw=>h w (List.mem_cons_of_mem _ hw)]
  split
  ·have:x ≠ n:=by rintro rfl; exact h v List.mem_cons_self
   simp [this]
  ·rfl
theorem bindC_out {kindOf:Str→Option NameKind}{x:Str} : ∀ {binds:List (Str × Value)}{m:Str→Option Value},(∀ v,(x,v) ∉ binds)→bindC kindOf binds m x=m x
 | [],_,_=>rfl
 | (n,v) :: r,m,h=>by
  unfold bindC
  rw [bindC_out fun w hw=>h w (List.mem_cons_of_mem _ hw)]
  split
  ·rfl
  ·have:x ≠ n:=by rintro rfl; exact h v List.mem_cons_self
   simp [this]
theorem bindL_get {kindOf:Str→Option NameKind}{x:Str}{v:Value} : ∀ {P:List Str}{vs:List Value}{i:Nat}{m:Str→Option Value},P.Nodup→P[i]? = some x→vs[i]? = some v→kindOf x=some .local →
  bindL kindOf (P.zip vs) m x=some v
 | [],_,_,_,_,h,_,_=>by simp at h
 | _ :: _,[],_,_,_,_,h,_=>by simp at h
 | p :: P,w :: vs,0,m,nd,h1,h2,hk=>by
  simp at h1 h2; subst h1; subst h2
  show bindL kindOf ((p,w) :: P.zip vs) m p=_
  unfold bindL
  rw [bindL_out fun v hv=>(List.nodup_cons.mp nd).1 (List.of_mem_zip hv).1,if_pos hk]
  simp
 | p :: P,w :: vs,i + 1,m,nd,h1,h2,hk=>by
  show bindL kindOf ((p,w) :: P.zip vs) m x=_
  unfold bindL
  exact bindL_get (i:=i) (List.nodup_cons.mp nd).2 (by simpa using h1) (by simpa using h2) hk
theorem bindC_get {kindOf:Str→Option NameKind}{x:Str}{v:Value} : ∀ {P:List Str}{vs:List Value}{i:Nat}{m:Str→Option Value},P.Nodup→P[i]? = some x→vs[i]? = some v→kindOf x ≠ some .local →
  bindC kindOf (P.zip vs) m x=some v
 | [],_,_,_,_,h,_,_=>by simp at h
 | _ :: _,[],_,_,_,_,h,_=>by simp at h
 | p :: P,w :: vs,0,m,nd,h1,h2,hk=>by
  simp at h1 h2; subst h1; subst h2
  show bindC kindOf ((p,w) :: P.zip vs) m p=_
  unfold bindC
  rw [bindC_out fun v hv=>(List.nodup_cons.mp nd).1 (List.of_mem_zip hv).1,if_neg hk]
  simp
 | p :: P,w :: vs,i + 1,m,nd,h1,h2,hk=>by
  show bindC kindOf ((p,w) :: P.zip vs) m x=_
  unfold bindC
  exact bindC_get (i:=i) (List.nodup_cons.mp nd).2 (by simpa using h1) (by simpa using h2) hk
def start (N:List Str)(vs:List V) : St:=vs.map some ++ List.replicate (N.length - vs.length) none
def cxOf (CX:CXT)(P:Program)(w:World)(K:PySem.W.Frag)(mg:Str→Option Value)(base:Heap)(N:List Str)(qual:Str)(scope:Scope)(f:Addr)(cd:Value)(A:Around)(outer:List Env)(s:Shared)(H:Hp)(E:XK) : Cx where
 prog:=P
 w:=w
 K:=K
 mg:=mg
 base:=base
 A:=A.deeper (envOfC qual scope s.heap.objs.size f cd)
 N:=N
 s₀:=s
 H₀:=H
 env:=envOfC qual scope s.heap.objs.size f cd
 outer:=outer
 stack:=envOfC qual scope s.heap.objs.size f cd :: outer
 ex:=[]
 calm:=true
 fn:=fun _=>true
 pn:=[]
 xe:=fun e s'=>wpAny (model P w) (A.deeper (envOfC qual scope s.heap.objs.size f cd)) (leaving (envOfC qual scope s.heap.objs.size f cd) e) (fun _ s''=>CX outer H s E e s'') (fun e' s''=>CX outer H s E e' s'') s'
theorem cell_has {sc:Scope}{n:Nat}{x:Str}(h:sc.names.lookup x=some .cell) : ∃ c,(cellsFrom n sc.names []).lookup x=some c:=by
 have q:=PySem.W.cellsFrom_some sc.names n [] (.inl h)
 exact Option.isSome_iff_exists.mp q
theorem inv_start {CX:CXT}{P:Program}{w:World}{K:PySem.W.Frag}{mg:Str→Option Value}{base:Heap}{N ps:List Str}{qual:Str}{scope:Scope}{f:Addr}{cd:Value}{A:Around}{outer:List Env}{s s1:Shared}{H:Hp}{E:XK}{us:List Value}{vs:List V}
  (S:FnScope N ps scope) (hd:A.handled=none) (e0:Env0 P w K mg base A outer s H) (hl:vs.length=ps.length) (r:Vals vs us)
  (x:InCallC s s.heap.objs.size (bindL (envOfC qual scope s.heap.objs.size f cd).kindOf (ps.zip us) fun _=>none) (cellsFrom (s.heap.objs.size + 1) scope.names []) (bindC (envOfC qual scope s.heap.objs.size f cd).kindOf (ps.zip us) fun _=>none) s1) :
  Inv (cxOf CX P w K mg base N qual scope f cd A outer s H E) [] (start N vs) H s1:=by
 have hpl:ps.length≤N.length:=by have:=congrArg List.length S.pre; rw [List.length_take] at this; omega
 obtain ⟨h1,tk,rfl,hk⟩:=x.done
 have noA:∀ b:Addr,b ∉ (cxOf CX P w K mg base N qual scope f cd A outer s H E).ex:=fun b z=>absurd (show b∈([] : List Addr) from z) (by simp)
 refine ⟨⟨e0.mod,S.kind,rfl,rfl,Nat.le_refl _,fun y z c h1 h2=>?_,fun y hy=>?_,fun y c _ h=>?_,fun _=>hd,Around.frames_deeper e0.frames,.inr ⟨rfl,rfl⟩,fun b z=>absurd z (noA b),e0.bs,e0.bsz,fun b _ _=>noA b,fun b z=>absurd z (noA b),e0.funs,e0.frf⟩,
  rfl,e0.bare,Un.kept hk,⟨_,x.toInCall.ns,fun i y v h1 h2 h3=>?_⟩,fun y c h=>⟨_,x.cell y c h⟩,e0.hok.fresh (Nat.le_refl _),fun y c h=>?_,fun p hp=>absurd (show p∈([] : List (Addr × Obj)) from hp) (by simp),e0.hok.kept hk,?_⟩
 ·exact name_of_addr x.apart (PySem.mem_of_lookup h1) (PySem.mem_of_lookup h2)
 ·have hy:scope.names.lookup y=some .cell∨scope.names.lookup y=some .free:=hy
  rcases hy with hy | hy
  ·exact cell_has hy
  ·exact absurd rfl (S.nofree _ (PySem.mem_of_lookup hy))
 ·exact Nat.le_of_lt (x.above y c (PySem.mem_of_lookup h))
 ·have hi:i < vs.length:=by
   unfold start at h2
   by_cases hi:i < vs.length
   ·exact hi
   ·rw [List.getElem?_append_right (by simpa using hi)] at h2
    rw [List.getElem?_replicate] at h2
    split at h2 <;> cases h2
  have ha:vs[i]? = some v:=by
   unfold start at h2
   rw [List.getElem?_append_left (by simpa using hi),List.getElem?_map] at h2
   cases e:vs[i]? with
   | none=>rw [e] at h2; cases h2
   | some a=>rw [e] at h2; cases h2; rfl
  obtain ⟨u,hu,rv⟩:=r.get ha
  have hp:ps[i]? = some y:=by
   rw [← S.pre,List.getElem?_take_of_lt (by omega)]; exact h1
  have ndP:ps.Nodup:=by rw [← S.pre]; exact S.nd.sublist (List.take_sublist _ _)
  refine ⟨u,rv,?_⟩
  rcases S.par y (List.mem_of_getElem? hp) with k | k
  ·exact .inl ⟨k,bindL_get ndP hp hu k⟩
  ·obtain ⟨c,e⟩:=cell_has (n:=s.heap.objs.size + 1) k
   refine .inr ⟨.inl k,c,e,?_⟩
   have q:=x.cell y c e
   rw [bindC_get ndP hp hu (by show scope.names.lookup y ≠ _; rw [k]; decide)] at q
   exact q
 ·exact e0.hok.fresh (Nat.le_of_lt (x.above y c (PySem.mem_of_lookup h)))
 ·unfold start
  show _=N.length
  rw [List.length_append,List.length_map,List.length_replicate]
  omega
theorem fn_of {CX:CXT}{P:Program}{w:World}{K:PySem.W.Frag}{mg:Str→Option Value}{base:Heap}{k:Nat}{f:Addr}{name qual:Str}{params:Arguments}{body:List Stmt}{scope:Scope}{dV kV doc pm cdv ct oc:Value}{an od:Option Addr}
  {osl:Array (Option Value)}{N ps:List Str}{sp:Sp}(lk:K.lookup f=some ⟨oc,od,.func (PySem.W.fnOf name qual params body scope dV kV doc pm an cdv ct),osl⟩) (hcd:PySem.W.codeIn K cdv qual=true) (S:FnScope N ps scope)
  (len:∀ vs H Q E,sp vs H Q E→vs.length=ps.length)
  (hbody:∀ (A:Around) (outer:List Env) (s:Shared) (H:Hp) (vs:List V) (Q:VK) (E:XK),Room k (A.deeper (envOfC qual scope s.heap.objs.size f cdv))→sp vs H Q E →
   ∃ t,PSs (cxOf CX P w K mg base N qual scope f cdv A outer s H E) body t∧t { nx:=fun _ H'=>Q .non H',rt:=Q } (start N vs) H) :
  FnOk P w K mg base CX (k + 1) f (PySem.W.fnOf name qual params body scope dV kV doc pm an cdv ct) ps sp:=by
 refine ⟨len,fun A outer s H args us vs Q E hr e0 hb r hsp=>?_⟩
 have hl:=len _ _ _ _ hsp
 have KX:K.In s.heap:=e0.mod.kin.keeps fun b o e=>(e0.bs b o e).1
 have lim:s.heap.NoLimit:=e0.mod.nolimit.keeps fun b o e=>(e0.bs b o e).1
 have hkind:∀ y∈ps.zip us,scope.names.lookup y.1=some .local∨(scope.names.lookup y.1=some .cell∧((cellsFrom (s.heap.objs.size + 1) scope.names []).lookup y.1).isSome=true):=fun ⟨n,v⟩ hy=>by
  rcases S.par n (List.of_mem_zip hy).1 with q | q
  ·exact .inl q
  ·exact .inr ⟨q,PySem.W.cellsFrom_some _ _ _ (.inl q)⟩
 refine codeAny_call_function hr.depth (KX _ _ lk) rfl S.co S.gen rfl (PySem.W.codeRec_of KX hcd) (hb _ _ _ _ ?_)
 refine wpAny_newFunctionEnv_cells S.kind hkind fun env he s1 x=>?_
 subst he
 refine ⟨lim.keeps x.toInCall.keep,codeAny_func ?_⟩
 obtain ⟨t,ht,hq⟩:=hbody A outer s H vs Q E (hr.deeper _) hsp
 have I:Inv (cxOf CX P w K mg base N qual scope f cdv A outer s H E) [] (start N vs) H s1:=inv_start S hr.hd e0 hl r x
 refine wpAny_mono (ht [] s1 (start N vs) H _ I hq) (fun fl s' hs=>?_) fun e s' hs=>hs
 have fin:∀ {σ':St}{H':Hp}{v:V}{u:Value},Inv (cxOf CX P w K mg base N qual scope f cdv A outer s H E) [] σ' H' s'→RelV v u→Q v H'→CE outer P w H s Q u s' :=
  fun {σ' H' v u} J rv q=>⟨v,H',J.os,J.bare,J.base,J.hok,rv,q⟩
 cases fl with
 | ret u =>
  obtain ⟨v,σ',H',J,rv,q⟩:=hs
  exact fin J rv q
 | next =>
  obtain ⟨σ',H',J,q⟩:=hs
  exact fin (v:=V.non) (u:=Value.none) J rfl q
 | brk =>
  obtain ⟨_,_,_,q⟩:=hs
  exact False.elim q
 | cont =>
  obtain ⟨_,_,_,q⟩:=hs
  exact False.elim q
end L2
namespace L2
open PySem PySem.Spec PyProof.Rows
section
variable {X:Cx}{x:Str}{p pos:Pos}{e:Expr}{es:List Expr}{t:TA}{id T:String}{r:List V→Hp→VK→Prop}
def tCB (r:List V→Hp→VK→Prop)(t:TA) : TE:=fun σ H Q=>t σ H fun vs H1=>r vs H1 Q
theorem pe_callB (hc:CallR X (.builtin id) r) (hg:Gl X x) (hm:X.mg x=none) (hv:bootBuiltins x=some (.builtin id)) (ha:PA X (e :: es) t) (hn:x ≠ "__name__" := by decide) (hdb:(x == ("__debug__" : Str))=false:=by decide)
  (he:starEach (e :: es) X.env=(false,eval e X.env) :: starEach es X.env:=by rfl) (hpl:(backTo pos (starEach es X.env)).any (·.1)=false:=by rfl) : PE X (.Call (.Name x p) (e :: es) [] pos) (tCB r t):=by
 intro pins s σ H Q I h
 refine wpAny_Call_Name_kw (ld_blt I hg hm hv ?_ hn hdb)
 exact PyProof.Rows.callWith_builtin1 (thn (ha pos pins s σ H _ I h) fun us s1 ⟨vs,H1,I1,r1,q1⟩=>hc pins s1 σ H1 vs us Q I1 r1 q1) he hpl
theorem pe_callTy (hc:CallR X (.type T) r) (hg:Gl X x) (hm:X.mg x=none) (hv:bootBuiltins x=some (.type T)) (ha:PA X (e :: es) t) (hn:x ≠ "__name__" := by decide) (hdb:(x == ("__debug__" : Str))=false:=by decide)
  (he:starEach (e :: es) X.env=(false,eval e X.env) :: starEach es X.env:=by rfl) (hpl:(backTo pos (starEach es X.env)).any (·.1)=false:=by rfl) : PE X (.Call (.Name x p) (e :: es) [] pos) (tCB r t):=by
 intro pins s σ H Q I h
 refine wpAny_Call_Name_kw (ld_blt I hg hm hv ?_ hn hdb)
 exact PyProof.Rows.callWith_type1 (thn (ha pos pins s σ H _ I h) fun us s1 ⟨vs,H1,I1,r1,q1⟩=>hc pins s1 σ H1 vs us Q I1 r1 q1) he hpl
end
end L2
namespace HT
open PySem PyProof.Rows
section
open PySem.SeqAt
open PySem.AutoSeq1 (wpAny_loadPart')
open PySem.MeetsSeq PySem.MeetsSeq2 PySem.MeetsSeq3
end
section
variable {prog:Program}{w:World}{A:Around}{E:Value→Shared→Prop}{s:Shared}
def sIx (n d:Nat) : Option Int→Nat
 | none=>d
 | some v=>if v < 0 then (v + (n:Int)).toNat else min v.toNat n
theorem sIx_none (n d:Nat) : sIx n d none=d:=rfl
theorem sIx_nat (n d k:Nat) : sIx n d (some (k:Int))=min k n:=by
 show (if (k:Int) < 0 then ((k:Int) + (n:Int)).toNat else min (k:Int).toNat n)=min k n
 rw [if_neg (by omega),Int.toNat_natCast]
end
end HT
namespace L2
open PySem PySem.Spec PyProof.Rows
abbrev TO:=St→Hp→(Option Int→Hp→Prop)→Prop
def PO (X:Cx)(e:Option Expr)(t:TO) : Prop :=
 ∀ (pins:List (Addr × Obj)) (s:Shared) (σ:St) (H:Hp) (Q:Option Int→Hp→Prop),Inv X pins σ H s→t σ H Q →
  wpAny (model X.prog X.w) X.A (evalPart e X.env) (fun u s'=>∃ o H',Inv X pins σ H' s'∧IsPart u o∧Q o H') X.xe s
def tNoPart:TO:=fun _ H Q=>Q none H
def tPart (t:TE) : TO:=fun σ H Q=>t σ H fun x H1=>∃ i,x = .int i∧Q (some i) H1
section
variable {X:Cx}{e:Expr}{te:TE}{lo hi:Option Expr}{tl th:TO}{pos p2:Pos}
theorem po_none:PO X none tNoPart:=by
 intro pins s σ H Q I h
 rw [evalPart_none]
 exact wpAny_pure ⟨none,H,I,.none,h⟩
theorem po_some (h:PE X e te) : PO X (some e) (tPart te):=by
 intro pins s σ H Q I hw
 rw [evalPart_some]
 refine thn (h pins s σ H _ I hw) fun u s1 ⟨x,H1,I1,r1,q1⟩=>?_
 obtain ⟨i,rfl,q⟩:=q1
 obtain ⟨t,rfl⟩:=r1
 exact ⟨some i,H1,I1,.int i t,q⟩
def SlR (X:Cx)(r:V→Option Int→Option Int→Hp→VK→Prop) : Prop :=
 ∀ (pins:List (Addr × Obj)) (s:Shared) (σ:St) (H:Hp) (x:V) (v vl vu:Value) (lo hi:Option Int) (sl:Addr) (Q:VK),Inv X pins σ H s→RelV x v→s.heap.IsSliceOf sl vl vu .none→IsPart vl lo→IsPart vu hi→r x lo hi H Q →
  ∃ T id,typeLookup (.type T) "__getitem__" = pure (some (.builtin id))∧s.TypeIs v T∧wpAny (model X.prog X.w) X.A (getItem v (.ref sl)) (EP X pins σ Q) X.xe s
def tSl (r:V→Option Int→Option Int→Hp→VK→Prop)(te:TE)(tl th:TO) : TE:=fun σ H Q=>te σ H fun x H1=>tl σ H1 fun l H2=>th σ H2 fun u H3=>r x l u H3 Q
theorem pe_slice {r:V→Option Int→Option Int→Hp→VK→Prop}(hr:SlR X r)(he:PE X e te)(hl:PO X lo tl)(hu:PO X hi th) : PE X (.Subscript e (.Slice lo hi none p2) pos) (tSl r te tl th):=by
 intro pins s σ H Q I h
 refine Subscript_ (thn (he pins s σ H _ I h) fun v s1 ⟨x,H1,I1,r1,q1⟩=>?_)
 refine wpAny_Slice (thn (hl pins s1 σ H1 _ I1 q1) fun vl s2 ⟨l,H2,I2,pl,q2⟩=>thn (hu pins s2 σ H2 _ I2 q2) fun vu s3 ⟨u,H3,I3,pu,q3⟩=>?_)
 rw [evalPart_none]
 refine wpAny_pure ?_
 have I4:Inv X pins σ H3 { s3 with heap:=s3.heap.push { cls:=.type "slice", data:=.fields #[vl,vu,.none] } }:=I3.kept (t':=s3.toks) fun b ob q=>Heap.get?_push_of_some _ q
 obtain ⟨T,id,hT,ht,hg⟩:=hr pins { s3 with heap:=s3.heap.push { cls:=.type "slice", data:=.fields #[vl,vu,.none] } } σ H3 x v vl vu l u s3.heap.objs.size Q I4 r1 (Heap.IsSliceOf.new ..) pl pu q3
 show wpAny (model X.prog X.w) X.A (subscriptTail e (.Slice lo hi none p2) v (.ref s3.heap.objs.size)) (EP X pins σ Q) X.xe { s3 with heap:=s3.heap.push { cls:=.type "slice", data:=.fields #[vl,vu,.none] } }
 exact tail_any (ops:=[.ref s3.heap.objs.size,v]) ht hT hg (by with_unfolding_all rfl)
def cutV (xs:List V)(lo hi:Option Int) : List V:=(xs.drop (HT.sIx xs.length 0 lo)).take (HT.sIx xs.length xs.length hi - HT.sIx xs.length 0 lo)
theorem cutV_length (xs:List V)(lo hi:Option Int) : (cutV xs lo hi).length≤xs.length:=by
 unfold cutV
 rw [List.length_take,List.length_drop]
 omega
end
end L2
namespace L2
open PySem PySem.Spec PyProof.Rows
def ixN (n:Nat)(i:Int) : Option Nat:=if 0≤i then (if i < n then some i.toNat else none) else if -(n:Int)≤i then some (i + n).toNat else none
def atI {α:Type}(xs:List α)(i:Int) : Option α:=(ixN xs.length i).bind fun j=>xs[j]?
theorem ixN_seq {n:Nat}{i:Int}{j:Nat}(h:ixN n i=some j) : seqIndex? i n=some j∧j < n ∧ -(n:Int)≤i∧i < n:=by
 unfold ixN at h
 by_cases h0:0≤i
 ·rw [if_pos h0] at h
  by_cases h1:i < n
  ·rw [if_pos h1] at h
   have e:i.toNat=j:=Option.some.inj h
   exact ⟨by rw [seqIndex_of h0 h1,e],by omega,by omega,h1⟩
  ·rw [if_neg h1] at h; cases h
 ·rw [if_neg h0] at h
  by_cases h1 : -(n:Int)≤i
  ·rw [if_pos h1] at h
   have e:(i + n).toNat=j:=Option.some.inj h
   exact ⟨by rw [seqIndex_neg (by omega) h1,e],by omega,h1,by omega⟩
  ·rw [if_neg h1] at h; cases h
theorem atI_get {α:Type}{xs:List α}{i:Int}{v:α}(h:atI xs i=some v) : ∃ j,seqIndex? i xs.length=some j∧xs[j]? = some v∧j < xs.length ∧ -(xs.length:Int)≤i∧i < xs.length:=by
 unfold atI at h
 cases e:ixN xs.length i with
 | none=>rw [e] at h; cases h
 | some j =>
  rw [e] at h
  obtain ⟨h1,h2,h3,h4⟩:=ixN_seq e
  exact ⟨j,h1,h,h2,h3,h4⟩
theorem atI_nat {α:Type}{xs:List α}{j:Nat}{v:α}(h:xs[j]? = some v) : atI xs (j:Int)=some v:=by
 have hj:j < xs.length:=(List.getElem?_eq_some_iff.mp h).1
 have e:ixN xs.length (j:Int)=some j:=by
  unfold ixN
  rw [if_pos (by omega),if_pos (by omega)]; simp
 unfold atI; rw [e]; exact h
theorem atI_last {α:Type}(xs:List α)(v:α) : atI (xs ++ [v]) (-1)=some v:=by
 have hl:(xs ++ [v]).length=xs.length + 1:=by simp
 have e:ixN (xs ++ [v]).length (-1)=some xs.length:=by
  unfold ixN
  rw [hl,if_neg (by decide),if_pos (by omega)]
  congr 1
  omega
 unfold atI
 rw [e]
 show (xs ++ [v])[xs.length]? = some v
 simp
def PlainIx (b:Expr) : Prop:=∀ o i,subscripted b false o i=operate [o,i] (getItem o i)
def IxR (X:Cx)(r:R2) : Prop :=
 ∀ (value slice:Expr) (pins:List (Addr × Obj)) (s:Shared) (σ:St) (H:Hp) (x y:V) (v u:Value) (Q:VK),Inv X pins σ H s→RelV x v→RelV y u→r x y H Q →
  subscripted slice false v u=operate [v,u] (getItem v u)→wpAny (model X.prog X.w) X.A (subscriptTail value slice v u) (EP X pins σ Q) X.xe s
def MtR (X:Cx)(id:String)(r:V→List V→Hp→VK→Prop) : Prop :=
 ∀ (pins:List (Addr × Obj)) (s:Shared) (σ:St) (H:Hp) (x:V) (xs:List V) (v:Value) (us:List Value) (Q:VK),Inv X pins σ H s→RelV x v→Vals xs us→r x xs H Q →
  wpAny (model X.prog X.w) X.A (call (.builtin id) (v :: us)) (EP X pins σ Q) X.xe s
section
variable {X:Cx}{a b:Expr}{ta tb:TE}{pos:Pos}
theorem pe_ix {r:R2}(hr:IxR X r)(ha:PE X a ta)(hb:PE X b tb)(hs:PlainIx b) : PE X (.Subscript a b pos) (tOp r ta tb):=by
 intro pins s σ H Q I h
 exact Subscript_ (binT ha hb I h fun v u s2 x y H2 I2 rx ry q=>hr a b pins s2 σ H2 x y v u Q I2 rx ry q (hs _ _))
def rIxL (K:PySem.W.Frag) : R2:=fun x y H Q=>∃ p xs i v,x = .ref p∧y = .int i∧SqL K H p xs∧atI xs i=some v∧Q v H
def rIxT (K:PySem.W.Frag) : R2:=fun x y H Q=>∃ p xs i v,x = .ref p∧y = .int i∧SqT K H p xs∧atI xs i=some v∧Q v H
def rIxS:R2:=fun x y H Q=>∃ z i c,x = .str z∧y = .int i∧z.length≤sizeLine∧atI z.cps.toList i=some c∧Q (.str ⟨#[c]⟩) H
theorem ix_list:IxR X (rIxL X.K):=by
 intro value slice pins s σ H x y v u Q I rx ry h hs
 obtain ⟨p,xs,i,z,rfl,rfl,hq,he,q⟩:=h
 cases rx
 obtain ⟨t,rfl⟩:=ry
 obtain ⟨its,r,pl,hz⟩:=I.list hq
 obtain ⟨j,h1,h2,h3,h4,h5⟩:=atI_get he
 obtain ⟨w,ew,rw'⟩:=r.get h2
 have hl:=r.length
 have hn:=line63
 have fin:EP X pins σ Q w s:=⟨z,H,I,rw',q⟩
 by_cases h0:0≤i
 ·have hj:i.toNat=j:=by
   rw [seqIndex_of h0 h5] at h1
   exact Option.some.inj h1
  exact item_listR pl.isList h0 (by omega) (by rw [hj]; simpa using ew) fin hs
 ·have hj:(i + (its.toArray.size:Int)).toNat=j:=by
   rw [seqIndex_neg (by omega) h4] at h1
   rw [List.size_toArray,← hl]
   exact Option.some.inj h1
  exact subscriptTail_builtinR (x:=w) pl.isList.typeIs slot_list_getitem.lookup
   (wpAny_getItem_list_neg (Q:=fun r s'=>r=w∧EP X pins σ Q r s') pl.isList (by omega) (by rw [List.size_toArray] <;> omega) (by omega) (by rw [hj]; simpa using ew) ⟨rfl,fin⟩) hs
theorem ix_tup:IxR X (rIxT X.K):=by
 intro value slice pins s σ H x y v u Q I rx ry h hs
 obtain ⟨p,xs,i,z,rfl,rfl,hq,he,q⟩:=h
 cases rx
 obtain ⟨t,rfl⟩:=ry
 obtain ⟨its,r,pl,hz⟩:=I.tuple hq
 obtain ⟨j,h1,h2,h3,h4,h5⟩:=atI_get he
 obtain ⟨w,ew,rw'⟩:=r.get h2
 have hl:=r.length
 have hn:=line63
 have fin:EP X pins σ Q w s:=⟨z,H,I,rw',q⟩
 exact subscriptTail_builtinR (x:=w) pl.typeIs slot_tuple_getitem.lookup
  (getItem_tuple (j:=j) (Q:=fun r s'=>r=w∧EP X pins σ Q r s') pl (by omega) (by omega) (by rw [List.size_toArray,← hl]; exact h1) (by simpa using ew) ⟨rfl,fin⟩) hs
theorem ix_str:IxR X rIxS:=by
 intro value slice pins s σ H x y v u Q I rx ry h hs
 obtain ⟨z,i,c,rfl,rfl,hz,he,q⟩:=h
 obtain ⟨t,rfl⟩:=rx
 obtain ⟨t',rfl⟩:=ry
 obtain ⟨j,h1,h2,h3,h4,h5⟩:=atI_get he
 have hl:z.cps.toList.length=z.length:=by simp [Str.length]
 rw [hl] at h1 h4 h5
 have hn:=line63
 exact tail_any (typeIs_str s z t) slot_str_getitem.lookup (getItem_str (c:=c) (by
  have e1:decide (i < -(2 ^ 63:Int))=false:=decide_eq_false (by omega)
  have e2:decide (i ≥ 2 ^ 63)=false:=decide_eq_false (by omega)
  rw [e1,e2,Bool.or_false]) (by rw [h1]; simpa using h2) ⟨.str ⟨#[c]⟩,H,I.tok _,⟨_,rfl⟩,q⟩) hs
theorem slice_bounds (lo hi:Option Int)(n:Nat) : (sliceBounds lo hi none n).1=((HT.sIx n 0 lo:Nat) : Int)∧(sliceBounds lo hi none n).2.1=((HT.sIx n n hi:Nat) : Int)∧(sliceBounds lo hi none n).2.2=1:=by
 refine ⟨?_,?_,rfl⟩
 ·cases lo with
  | none=>simp [sliceBounds,HT.sIx]
  | some i =>
   simp only [sliceBounds,HT.sIx,Option.getD_none,show (1:Int) > 0 by decide,if_true]
   by_cases h:i < 0
   ·simp only [h,if_true] <;> omega
   ·simp only [h,if_false] <;> omega
 ·cases hi with
  | none=>simp [sliceBounds,HT.sIx]
  | some i =>
   simp only [sliceBounds,HT.sIx,Option.getD_none,show (1:Int) > 0 by decide,if_true]
   by_cases h:i < 0
   ·simp only [h,if_true] <;> omega
   ·simp only [h,if_false] <;> omega
theorem slicePick_cut (its:List Value)(lo hi:Option Int) : slicePick its.toArray lo hi none=((its.drop (HT.sIx its.length 0 lo)).take (HT.sIx its.length its.length hi - HT.sIx its.length 0 lo)).toArray:=by
 obtain ⟨h1,h2,h3⟩:=slice_bounds lo hi its.toArray.size
 unfold slicePick
 rw [h1,h2,h3]
 simp only [sliceRange_one,pick_run,List.size_toArray] <;> rfl
def rSlL (K:PySem.W.Frag) : V→Option Int→Option Int→Hp→VK→Prop:=fun x lo hi H Q=>∃ a xs,x = .ref a∧SqL K H a xs∧∀ p,H p=none→Q (.ref p) (upd H p (.lst (cutV xs lo hi)))
theorem sl_list:SlR X (rSlL X.K):=by
 intro pins s σ H x v vl vu lo hi sl Q I rx hs pl pu h
 obtain ⟨a,xs,rfl,hx,q⟩:=h
 cases rx
 obtain ⟨its,r,ht,hz⟩:=I.list hx
 have hlen:=r.length
 refine ⟨"list", _,slot_list_getitem.lookup,ht.isList.typeIs,?_⟩
 refine wpAny_getItem_list_slice ht.isList hs pl pu .none (by simp) ?_ (by rw [List.size_toArray] <;> omega)
 rw [slicePick_cut,← hlen]
 refine ⟨.ref s.heap.objs.size,_,I.laid (t':=s.toks) (o:=.lst (cutV xs lo hi)) (fun b ob q=>Heap.get?_push_of_some _ q) (Nat.le_refl _) ?_,rfl,q _ (I.hok.fresh (Nat.le_refl _))⟩
 exact ⟨Nat.le_trans (cutV_length xs lo hi) hz,_,0,(r.drop (HT.sIx xs.length 0 lo)).take (HT.sIx xs.length xs.length hi - HT.sIx xs.length 0 lo),Heap.get?_push_size _ rfl⟩
def flatV:V→Bool
 | .non=>true
 | .bl _=>true
 | .int _=>true
 | .str _=>true
 | _=>false
def eqV:V→V→Bool
 | .non,.non=>true
 | .bl a,.bl b=>a == b
 | .bl a,.int b=>(if a then 1 else 0) == b
 | .int a,.bl b=>a == (if b then 1 else 0)
 | .int a,.int b=>a == b
 | .str a,.str b=>a == b
 | _,_=>false
theorem eqAt_V {A:Around}{s:Shared}{y x:V}{u v:Value}(ry:RelV y u)(rx:RelV x v)(fy:flatV y=true)(fx:flatV x=true) : SeqAt.EqAt A s u v (eqV y x):=by
 cases y with
 | non =>
  cases ry
  cases x with
  | non=>cases rx; exact SeqAt.EqAt.same _
  | bl b=>cases rx; exact SeqAt.EqAt.none_bool b
  | int b=>obtain ⟨t,rfl⟩:=rx; exact SeqAt.EqAt.none_int b t
  | str b=>obtain ⟨t,rfl⟩:=rx; exact SeqAt.EqAt.none_str b t
  | _=>exact absurd (show false=true from fx) Bool.false_ne_true
 | bl a =>
  cases ry
  cases x with
  | non=>cases rx; exact SeqAt.EqAt.bool_none a
  | bl b=>cases rx; exact SeqAt.EqAt.bool_bool a b
  | int b=>obtain ⟨t,rfl⟩:=rx; exact SeqAt.EqAt.bool_int a b t
  | str b=>obtain ⟨t,rfl⟩:=rx; exact SeqAt.EqAt.bool_str a b t
  | _=>exact absurd (show false=true from fx) Bool.false_ne_true
 | int a =>
  obtain ⟨t',rfl⟩:=ry
  cases x with
  | non=>cases rx; exact SeqAt.EqAt.int_none a t'
  | bl b=>cases rx; exact SeqAt.EqAt.int_bool a t' b
  | int b=>obtain ⟨t,rfl⟩:=rx; exact SeqAt.EqAt.int_int a t' b t
  | str b=>obtain ⟨t,rfl⟩:=rx; exact SeqAt.EqAt.int_str a t' b t
  | _=>exact absurd (show false=true from fx) Bool.false_ne_true
 | str a =>
  obtain ⟨t',rfl⟩:=ry
  cases x with
  | non=>cases rx; exact SeqAt.EqAt.str_none a t'
  | bl b=>cases rx; exact SeqAt.EqAt.str_bool a t' b
  | int b=>obtain ⟨t,rfl⟩:=rx; exact SeqAt.EqAt.str_int a t' b t
  | str b=>obtain ⟨t,rfl⟩:=rx; exact SeqAt.EqAt.str_str a t' b t
  | _=>exact absurd (show false=true from fx) Bool.false_ne_true
 | _=>exact absurd (show false=true from fy) Bool.false_ne_true
def eqU (x:V)(u:Value) : Bool:=match u with
 | .none=>eqV .non x
 | .bool b=>eqV (.bl b) x
 | .int i _=>eqV (.int i) x
 | .str z _=>eqV (.str z) x
 | _=>false
theorem eqU_of {x y:V}{u:Value}(r:RelV y u)(f:flatV y=true) : eqU x u=eqV y x:=by
 cases y with
 | non=>cases r; rfl
 | bl b=>cases r; rfl
 | int i=>obtain ⟨t,rfl⟩:=r; rfl
 | str z=>obtain ⟨t,rfl⟩:=r; rfl
 | _=>exact absurd (show false=true from f) Bool.false_ne_true
theorem any_eqU {x:V} : ∀ {xs:List V}{us:List Value},Vals xs us→xs.all flatV=true→us.any (eqU x)=xs.any fun y=>eqV y x
 | _,_,.nil,_=>rfl
 | y :: xs,u :: us,.cons r t,f=>by
  rw [List.all_cons,Bool.and_eq_true] at f
  rw [List.any_cons,List.any_cons,eqU_of r f.1,any_eqU t f.2]
theorem mem_eqAt {A:Around}{s:Shared}{x:V}{v:Value}(rx:RelV x v)(fx:flatV x=true) : ∀ {xs:List V}{us:List Value},Vals xs us→xs.all flatV=true→∀ u∈us,SeqAt.EqAt A s u v (eqU x u)
 | _,_,.nil,_=>fun u hu=>by cases hu
 | y :: xs,u :: us,.cons r t,f=>fun u' hu=>by
  rw [List.all_cons,Bool.and_eq_true] at f
  rcases List.mem_cons.mp hu with rfl | hu
  ·rw [eqU_of r f.1]; exact eqAt_V r rx f.1 fx
  ·exact mem_eqAt rx fx t f.2 u' hu
def inV (x:V)(xs:List V) : Bool:=xs.any fun y=>eqV y x
def rIn (K:PySem.W.Frag)(neg:Bool) : R2:=fun x y H Q=>∃ p xs,y = .ref p∧(SqL K H p xs∨SqT K H p xs)∧flatV x=true∧xs.all flatV=true∧Q (.bl (if neg then !inV x xs else inV x xs)) H
theorem op_notIn_seq:OpR X (compareOp .NotIn) (rIn X.K true):=by
 intro pins s σ H x y v u Q I rx ry h
 obtain ⟨p,xs,rfl,hq,fx,fs,q⟩:=h
 cases ry
 rcases hq with hq | hq
 ·obtain ⟨its,r,pl,hz⟩:=I.list hq
  refine SeqAt.notIn_listAt (eqU x) pl.isList (fun w hw=>mem_eqAt rx fx r fs w (by simpa using hw)) ⟨.bl _,H,I,rfl,?_⟩
  rw [show its.toArray.any (eqU x)=its.any (eqU x) by simp,any_eqU r fs]
  exact q
 ·obtain ⟨its,r,pl,hz⟩:=I.tuple hq
  refine SeqAt.notIn_tupleAt (eqU x) pl (fun w hw=>mem_eqAt rx fx r fs w (by simpa using hw)) ⟨.bl _,H,I,rfl,?_⟩
  rw [show its.toArray.any (eqU x)=its.any (eqU x) by simp,any_eqU r fs]
  exact q
theorem call_len_seq:CallR X (.builtin "len") (fun xs H Q=>∃ p ys,xs = [.ref p]∧(SqL X.K H p ys∨SqT X.K H p ys)∧Q (.int ys.length) H):=by
 intro pins s σ H xs us Q I r h
 obtain ⟨p,ys,rfl,hq,q⟩:=h
 obtain ⟨u,rfl,rx⟩:=vals1 r
 cases rx
 have hn:=line63
 rcases hq with hq | hq
 ·obtain ⟨its,r',pl,hz⟩:=I.list hq
  have hlen:=r'.length
  exact Calls.call_len_list pl.isList (by simp only [List.size_toArray] <;> omega) ⟨.int ys.length,H,I.tok _,⟨s.toks + 1,by rw [List.size_toArray,hlen]⟩,q⟩
 ·obtain ⟨its,r',pl,hz⟩:=I.tuple hq
  have hlen:=r'.length
  exact len_tuple pl (by simp only [List.size_toArray] <;> omega) ⟨.int ys.length,H,I.tok _,⟨s.toks + 1,by rw [List.size_toArray,hlen]⟩,q⟩
theorem call_list_of:CallR X (.type "list") (fun xs H Q=>∃ p ys,xs = [.ref p]∧(SqL X.K H p ys∨SqT X.K H p ys)∧∀ l,H l=none→Q (.ref l) (upd H l (.lst ys))):=by
 intro pins s σ H xs us Q I r h
 obtain ⟨p,ys,rfl,hq,q⟩:=h
 obtain ⟨u,rfl,rx⟩:=vals1 r
 cases rx
 have fin:∀ (its:List Value),Vals ys its→ys.length≤sizeLine→∀ (h':Heap) (c':Nat),(∀ b o',s.heap.get? b=some o'→h'.get? b=some o') →
   h'.get? s.heap.objs.size=some { cls:=.type "list", dict:=none,data:=.seq its.toArray c',slots := #[] }→EP X pins σ Q (.ref s.heap.objs.size) { s with heap:=h' }:=fun its r' hz h' c' kp e =>
  ⟨.ref s.heap.objs.size,_,I.laid (t':=s.toks) kp (Nat.le_refl _) (show ObjOk X.prog X.w _ h' _ (.lst ys) from ⟨hz,its,c',r',e⟩),rfl,q _ (I.hok.fresh (Nat.le_refl _))⟩
 rcases hq with hq | hq
 ·obtain ⟨its,r',pl,hz⟩:=I.list hq
  have hlen:=r'.length
  obtain ⟨o,ho,hc,n,hd⟩:=pl.isList
  exact call_list_seq p (.inl rfl) ho hc hd (fun h' c' kp e=>fin its r' hz h' c' kp e) (by simp only [List.size_toArray] <;> omega)
 ·obtain ⟨its,r',pl,hz⟩:=I.tuple hq
  have hlen:=r'.length
  obtain ⟨o,ho,hc,n,hd⟩:=pl
  exact call_list_seq p (.inr rfl) ho hc hd (fun h' c' kp e=>fin its r' hz h' c' kp e) (by simp only [List.size_toArray] <;> omega)
def tyV (K:PySem.W.Frag)(T:String)(x:V)(H:Hp) : Prop:=match x with
 | .str _=>T = "str"
 | .int _=>T = "int"
 | .ref p=>(T = "list" ∧ ∃ xs,SqL K H p xs)∨(T = "tuple" ∧ ∃ o,K.lookup p=some o∧o.cls = .type "tuple" ∧ o.dict=none) ∨
   (T = "dict" ∧ ((∃ kvs,H p=some (.dK kvs))∨∃ kvs,H p=some (.dT kvs)))∨(T = "set" ∧ ∃ S n,H p=some (.set S n))
 | _=>False
theorem tyV_is {pins:List (Addr × Obj)}{σ:St}{H:Hp}{s:Shared}{T:String}{x:V}{v:Value}(I:Inv X pins σ H s) (r:RelV x v) (ty:tyV X.K T x H) :
  s.TypeIs v T∧∀ a,v = .ref a→∃ ob,s.heap.get? a=some ob∧ob.dict=none:=by
 cases x with
 | str z =>
  obtain ⟨t,rfl⟩:=r
  cases (show T = "str" from ty)
  exact ⟨typeIs_str s z t,fun _ e=>nomatch e⟩
 | int i =>
  obtain ⟨t,rfl⟩:=r
  cases (show T = "int" from ty)
  exact ⟨typeIs_int s i t,fun _ e=>nomatch e⟩
 | ref p =>
  cases r
  rcases ty with ⟨rfl,xs,hq⟩ | ⟨rfl,o,hk,hc,hd⟩ | ⟨rfl,hk⟩ | ⟨rfl,S,n,hk⟩
  ·obtain ⟨its,_,pl,_⟩:=I.list hq
   refine ⟨pl.isList.typeIs,fun a e=>?_⟩
   cases e
   obtain ⟨o,n,e,c,hd,_⟩:=pl
   exact ⟨o,e,hd⟩
  ·refine ⟨⟨o,I.kIn p o hk,hc⟩,fun a e=>?_⟩
   cases e
   exact ⟨o,I.kIn _ o hk,hd⟩
  ·have z:∃ o,s.heap.get? p=some o∧o.ExactDict:=by
    rcases hk with ⟨kvs,hk⟩ | ⟨kvs,hk⟩
    ·obtain ⟨_,_,_,_,o,_,_,e,ex,_⟩:=I.hok p _ hk
     exact ⟨o,e,ex⟩
    ·obtain ⟨_,_,_,_,o,_,_,e,ex,_⟩:=I.hok p _ hk
     exact ⟨o,e,ex⟩
   obtain ⟨o,e,ex⟩:=z
   refine ⟨⟨o,e,ex.1⟩,fun a e2=>?_⟩
   cases e2
   exact ⟨o,e,ex.2.1⟩
  ·obtain ⟨o,_,_,_,e,ex,_⟩:=I.hok p _ hk
   refine ⟨⟨o,e,ex.1⟩,fun a e2=>?_⟩
   cases e2
   exact ⟨o,e,ex.2.1⟩
 | _=>exact False.elim ty
def tBM0 (K:PySem.W.Frag)(T:String)(r:V→List V→Hp→VK→Prop)(to:TE) : TE:=fun σ H Q=>to σ H fun x H1=>tyV K T x H1∧r x [] H1 Q
def tBM (K:PySem.W.Frag)(T:String)(r:V→List V→Hp→VK→Prop)(to:TE)(t:TA) : TE:=fun σ H Q=>to σ H fun x H1=>tyV K T x H1∧t σ H1 fun xs H2=>r x xs H2 Q
variable {o e:Expr}{es:List Expr}{to:TE}{t:TA}{name:Str}{apos cpos:Pos}{T id:String}{r:V→List V→Hp→VK→Prop}
theorem pe_bm0 (pa:PlainAttrs T) (slot:Slot T name id) (hty:typeOf (.builtin id)=pure (.type "method_descriptor")) (hm:MtR X id r) (ho:PE X o to)
  (hbase:attributeBase o name X.env (eval o X.env)=eval o X.env:=by rfl) (hline:(apos.endLine == cpos.line)=true:=by rfl) : PE X (.Call (.Attribute o name apos) [] [] cpos) (tBM0 X.K T r to):=by
 intro pins s σ H Q I h
 refine wpAny_Call_method0_late hbase hline (thn (ho pins s σ H _ I h) fun v s1 ⟨x,H1,I1,r1,ty,q1⟩=>?_)
 obtain ⟨h1,h2⟩:=tyV_is I1 r1 ty
 exact ⟨T,id,pa,slot,hty,h1,h2,Calls.callWith_builtin rfl (PySem.evalArgs_none (hm pins s1 σ H1 x [] v [] Q I1 r1 .nil q1))⟩
theorem pe_bm (pa:PlainAttrs T) (slot:Slot T name id) (hty:typeOf (.builtin id)=pure (.type "method_descriptor")) (hm:MtR X id r) (ho:PE X o to) (ha:PA X (e :: es) t)
  (hbase:attributeBase o name X.env (eval o X.env)=eval o X.env:=by rfl)
  (hfew:((backTo cpos (starEach (e :: es) X.env)).all (fun x => !x.1) && (backToKw cpos (keywordEach [] X.env)).all (fun x=>x.1.isSome)
   && decide ((e :: es).length + ([] : List Keyword).length + (if ([] : List Keyword).isEmpty then 0 else 1) < 30))=true:=by rfl)
  (hline:(apos.endLine == cpos.line)=true:=by rfl) (hs:starEach (e :: es) X.env=(false,eval e X.env) :: starEach es X.env:=by rfl) (hplain:(backTo cpos (starEach es X.env)).any (·.1)=false:=by rfl) :
  PE X (.Call (.Attribute o name apos) (e :: es) [] cpos) (tBM X.K T r to t):=by
 intro pins s σ H Q I h
 refine wpAny_Call_method_late hbase hfew hline rfl (thn (ho pins s σ H _ I h) fun v s1 ⟨x,H1,I1,r1,ty,q1⟩=>?_)
 obtain ⟨h1,h2⟩:=tyV_is I1 r1 ty
 refine ⟨T,id,pa,slot,hty,h1,h2,?_⟩
 have hA:=ha cpos pins s1 σ H1 _ I1 q1
 rw [hs] at hA ⊢
 refine Calls.callWith_builtin (by show (false || (backTo cpos (starEach es X.env)).any (·.1))=false; rw [hplain] <;> rfl) (Calls.evalArgs_plain ?_)
 exact thn hA fun us s2 ⟨vs,H2,I2,r2,q2⟩=>hm pins s2 σ H2 x vs v us Q I2 r1 r2 q2
end
end L2
namespace L2
open PySem PySem.Spec PyProof.Rows
def MtM (X:Cx)(id:String)(r:V→List V→Hp→VK→Prop) : Prop :=
 ∀ (pins:List (Addr × Obj)) (s:Shared) (σ:St) (H:Hp) (x:V) (xs:List V) (v:Value) (us:List Value) (Q:VK),Inv X pins σ H s→RelV x v→Vals xs us→r x xs H Q →
  wpAny (model X.prog X.w) X.A (call (.builtin id) (v :: us)) (EP X pins σ Q) X.xe s
theorem Vals.one:∀ {x:V}{us:List Value},Vals [x] us→∃ u,us = [u]∧RelV x u
 | _,_,.cons r .nil=>⟨_,rfl,r⟩
theorem Vals.zero:∀ {us:List Value},Vals [] us→us = []
 | _,.nil=>rfl
theorem Vals.dropLast {xs:List V}{us:List Value}(h:Vals xs us) : Vals xs.dropLast us.dropLast:=by
 induction h with
 | nil=>exact .nil
 | cons r t ih =>
  cases t with
  | nil=>exact .nil
  | cons q t'=>exact .cons r ih
theorem erase_last {α:Type}(l:List α) : l.eraseIdx (l.length - 1)=l.dropLast:=by
 induction l with
 | nil=>rfl
 | cons a r ih =>
  cases r with
  | nil=>rfl
  | cons b r =>
   have e:(a :: b :: r).length - 1=((b :: r).length - 1) + 1:=by
    have h1:(a :: b :: r).length=r.length + 2:=rfl
    have h2:(b :: r).length=r.length + 1:=rfl
    omega
   rw [e,List.eraseIdx_cons_succ,ih]
   all_goals rfl
section
variable {X:Cx}{pins:List (Addr × Obj)}{σ:St}{H:Hp}{s:Shared}{l b:Addr}{xs ys zs:List V}
theorem Inv.lset {its its':List Value}{n:Nat}{f:Array Value→Array Value}{t':Nat}(I:Inv X pins σ H s) (hH:H l=some (.lst xs))
  (e:s.heap.get? l=some { cls:=.type "list", data:=.seq its.toArray n }) (hf:f its.toArray=its'.toArray) (hv:Vals ys its') (hz:ys.length≤sizeLine) :
  Inv X pins σ (upd H l (.lst ys)) { s with heap:=s.heap.update l (Obj.mapSeq f),toks:=t' }:=by
 have q:=PySem.IsL.update e f
 rw [hf] at q
 refine I.write (x:=l) (e:=l) (by rw [hH]; exact trivial) (.inl rfl) (fun b' u hb hu=>(Heap.get?_update_other s.heap (Obj.mapSeq f) (Ne.symm hb)).trans hu) ⟨_,q⟩ ?_
 exact ⟨hz,its',_,hv,q⟩
theorem Inv.lnew {its:List Value}{t':Nat}(I:Inv X pins σ H s) (hv:Vals ys its) (hz:ys.length≤sizeLine) :
  Inv X pins σ (upd H s.heap.objs.size (.lst ys)) { s with heap:=s.heap.push { cls:=.type "list", data:=.seq its.toArray },toks:=t' } :=
 I.laid (fun _ _ q=>Heap.get?_push_of_some _ q) (Nat.le_refl _) ⟨hz,its,0,hv,Heap.get?_push_size _ rfl⟩
theorem Inv.fresh (I:Inv X pins σ H s) : H s.heap.objs.size=none:=I.hok.fresh (Nat.le_refl _)
theorem Inv.lstM (I:Inv X pins σ H s)(hH:H l=some (.lst xs)) : xs.length≤sizeLine∧∃ (its:List Value) (n:Nat),Vals xs its∧xs.length=its.length∧s.heap.get? l=some { cls:=.type "list", data:=.seq its.toArray n }:=by
 obtain ⟨z,its,n,r,e⟩:=I.hok l _ hH
 exact ⟨z,its,n,r,r.length,e⟩
end
section
variable {X:Cx}
def rAppend:V→List V→Hp→VK→Prop:=fun x vs H Q=>∃ l xs y,x = .ref l∧vs = [y]∧H l=some (.lst xs)∧xs.length < sizeLine∧Q .non (upd H l (.lst (xs ++ [y])))
theorem mt_append:MtM X "list.append" rAppend:=by
 intro pins s σ H x vs v us Q I rx rv h
 obtain ⟨l,xs,y,rfl,rfl,hH,hz,q⟩:=h
 cases rx
 obtain ⟨u,rfl,ru⟩:=rv.one
 obtain ⟨z,its,n,r,hl,e⟩:=I.lstM hH
 refine call_meets F.slot_list_append ⟨_,e,rfl⟩ F.entry_list_append (F.args_list_append_2 _ _) (PySem.list_append l its.toArray n u (by rw [List.size_toArray]; omega)) ⟨e,?_⟩
 refine ⟨.non,_,I.lset (its':=its ++ [u]) hH e (by simp) (r.append (.cons ru .nil)) ?_,rfl,q⟩
 rw [List.length_append,List.length_singleton]
 omega
def rPop:V→List V→Hp→VK→Prop:=fun x vs H Q=>∃ l xs y,x = .ref l∧vs = []∧H l=some (.lst xs)∧xs[xs.length - 1]? = some y∧Q y (upd H l (.lst xs.dropLast))
theorem mt_pop:MtM X "list.pop" rPop:=by
 intro pins s σ H x vs v us Q I rx rv h
 obtain ⟨l,xs,y,rfl,rfl,hH,hy,q⟩:=h
 cases rx
 have hus:=rv.zero
 subst hus
 obtain ⟨z,its,n,r,hl,e⟩:=I.lstM hH
 obtain ⟨u,hu,ru⟩:=r.get hy
 have hy':its.toArray[its.toArray.size - 1]? = some u:=by
  show its.toArray[its.length - 1]? = some u
  rw [← Array.getElem?_toList,← hl]
  exact hu
 refine call_meets F.slot_list_pop ⟨_,e,rfl⟩ F.entry_list_pop (F.args_list_pop_1 _) (MeetsSeq.list_pop_last l its.toArray n u hy' (by rw [List.size_toArray]; omega)) ⟨e,?_⟩
 refine ⟨y,_,I.lset (its':=its.dropLast) hH e ?_ r.dropLast ?_,ru,q⟩
 ·show its.toArray.eraseIdxIfInBounds (its.toArray.size - 1)=its.dropLast.toArray
  rw [List.size_toArray,List.eraseIdxIfInBounds_toArray,erase_last]
 ·rw [List.length_dropLast]
  omega
def rClear:V→List V→Hp→VK→Prop:=fun x vs H Q=>∃ l xs,x = .ref l∧vs = []∧H l=some (.lst xs)∧Q .non (upd H l (.lst []))
theorem mt_clear:MtM X "list.clear" rClear:=by
 intro pins s σ H x vs v us Q I rx rv h
 obtain ⟨l,xs,rfl,rfl,hH,q⟩:=h
 cases rx
 have hus:=rv.zero
 subst hus
 obtain ⟨z,its,n,r,hl,e⟩:=I.lstM hH
 refine call_meets F.slot_list_clear ⟨_,e,rfl⟩ F.entry_list_clear (F.args_list_clear_1 _) (AutoSeq1.list_clear_list_0 l its.toArray n (by rw [List.size_toArray]; omega)) ⟨e,?_⟩
 exact ⟨.non,_,I.lset (its':=[]) (ys:=[]) hH e rfl .nil (Nat.zero_le _),rfl,q⟩
def rCat:R2:=fun x y H Q=>∃ l b xs zs,x = .ref l∧y = .ref b∧H l=some (.lst xs)∧H b=some (.lst zs)∧xs.length + zs.length≤sizeLine∧∀ p,H p=none→Q (.ref p) (upd H p (.lst (xs ++ zs)))
theorem op_cat:OpR X (binaryOp .Add) rCat:=by
 intro pins s σ H x y v u Q I rx ry h
 obtain ⟨l,b,xs,zs,rfl,rfl,hH,hB,hz,q⟩:=h
 cases rx
 cases ry
 obtain ⟨z,its,n,r,hl,e⟩:=I.lstM hH
 obtain ⟨z2,its2,n2,r2,hl2,e2⟩:=I.lstM hB
 refine PySem.P.add_list e e2 ?_ (by rw [List.size_toArray,List.size_toArray]; omega)
 have ea:its.toArray ++ its2.toArray=(its ++ its2).toArray:=by simp
 rw [ea]
 exact ⟨.ref _,_,I.lnew (t':=s.toks) (r.append r2) (by rw [List.length_append]; omega),rfl,q _ I.fresh⟩
end
section
variable {prog:Program}{w:World}{A:Around}{E:Value→Shared→Prop}{s:Shared}
end
section
variable {X:Cx}
end
end L2
namespace Att
open PySem PySem.W PySem.Calls PyProof.Rows
theorem ints_of_wellAll {P:Params}{h:Heap} : ∀ (ns:List Int) (vs:List Value),WellAll P h vs (ns.map WData.int)→IntsAre vs ns:=by
 intro ns
 induction ns with
 | nil =>
  intro vs w
  rw [List.map_nil] at w
  cases w
  exact .nil
 | cons n ns ih =>
  intro vs w
  rw [List.map_cons] at w
  cases w with
  | cons a b =>
   cases a
   exact .cons _ _ (ih _ b)
theorem script_of {l:OpenLaw}{n:Nat}(hn:l.most=some n) {P:Params}{h:Heap}{args:List WData}{vals:List Value}
  (hpre:l.row.toRowW.claim.pre args=true) (hwl:WellAll P h vals args) :
  ∃ a vs ns,vals = [Value.ref a]∧args = [WData.list (ns.map WData.int)]∧h.get? a=some { cls:=.type "list", data:=.seq vs.toArray }∧IntsAre vs ns∧ns.length≤n:=by
 have hsh:WShape.hasAll [] args [.list .int] = true:=(pre_splitW hpre).1
 have hc:l.pre.holds [] { args:=args } = true:=(pre_splitW hpre).2
 obtain ⟨d,r,rfl,h1,h2⟩:=hasAllW_cons hsh
 obtain rfl:=hasAllW_nil h2
 obtain ⟨xs,rfl,h3⟩:=hasW_list h1
 obtain ⟨ns,rfl⟩:=items_int h3
 have hlen:ns.length≤n:=by
  unfold OpenLaw.pre at hc
  have h4:(WTm.not (.lt (.lit (.int (n:Int))) (.len (.arg 0)))).holds [] { args:=[.list (ns.map .int)] } = true:=by
   have h4:=(holds_andW hc).1
   rw [hn] at h4
   exact h4
  have h5:=condW_of h4 (w_not (w_lt w_lit (w_len_list (w_arg rfl))))
  rw [List.length_map] at h5
  refine Nat.le_of_not_lt fun q=>?_
  have q':(n:Int) < ((ns.length:Nat) : Int):=by omega
  first
   | (rw [decide_eq_true q'] at h5; exact absurd h5 (by decide))
   | (simp at h5; omega)
 cases hwl with
 | cons w1 w2 =>
  cases w2
  cases w1 with
  | list ho hall=>exact ⟨_,_,ns,rfl,rfl,ho,ints_of_wellAll ns _ hall,hlen⟩
theorem post_true (l:OpenLaw)(args:List WData) : l.row.toRowW.claim.post args (.bool true) args=true :=
 postW_of (r:=l.row.toRowW) (X:=(true == true))
  (show WShape.has [] (.bool true) .bool=true by first | rfl | decide | simp [WShape.has,WShape.arms,WShape.armsAll])
  (show (WTm.eq .res (.lit (.bool true))).value [] { args:=args,res:=some (.bool true),after:=args } = some (.bool (true == true)) from w_eq_bool (w_res rfl) w_lit) rfl
theorem attach_call {l:OpenLaw}{n:Nat}{q:Program}{loose:List Str}{XP:(Str→Option Value)→Heap→Prop}{YP:World→Heap→Prop}{d:DefRec}
  (hn:l.most=some n) (hdf:d.params.defaults = [])
  (call:∀ (w:World) (s₀ s₁:Shared) (mg mb:Str→Option Value) (fa:Addr) (o:Obj) (pm cd doc:Value) (a:Addr) (vs:List Value) (ns:List Int),
   Ground q loose [] XP w s₀ mg mb s₁.heap→YP w s₁.heap →
   s₁.heap.get? fa=some o→o.data = .func (docDef d.name d.params d.body d.scope pm cd doc)→s₁.heap.CodeRec cd d.name→mg d.name=some (.ref fa) →
   s₁.heap.get? a=some { cls:=.type "list", data:=.seq vs.toArray }→IntsAre vs ns→ns.length≤n→s₁.gens = #[] →
   codeAny (model l.prog w) callerA (.call (.ref fa) ⟨[.ref a],[]⟩) (fun r s'=>r = .ok (.ret (.bool true))∧OldK s₁.heap s'.heap∧s'.os=s₁.os∧AllBare s'.gens) s₁) :
  WalkO q loose XP YP l.row.toRowW d [] (fun f vs=>PySem.call f vs):=by
 intro w s₀ s₁ mg mb G Y fa o pm cd doc dV kV ho hd hcd hD hmg hg args vals as hpre hlay hrd hwl hlo
 obtain rfl:dV = .none:=Dflts.none hD hdf
 obtain rfl:kV = .none:=Dflts.noKw hD
 obtain ⟨a,vs,ns,rfl,rfl,hobj,hints,hlen⟩:=script_of hn hpre hwl
 refine enter_call (codeAny_mono (call w s₀ s₁ mg mb fa o pm cd doc a vs ns G Y ho (fd_plain hd) hcd hmg hobj hints hlen hg) fun r s' hq=>?_)
 obtain ⟨rfl,h2,h3,h4⟩:=hq
 exact ⟨.inl ⟨.bool true,.bool true,[],rfl,fun _=>rfl,.bool true,post_true l _,fun _=>⟨List.Pairwise.nil,fun _ hm=>(nomatch hm)⟩⟩,h2,h3,h4⟩
section
variable {prog:Program}{w:World}{A:Around}{E:Value→Shared→Prop}{s:Shared}{K:Frag}
end
end Att
namespace L2
open PySem PySem.Spec PyProof.Rows
theorem vals_ints:∀ {vs:List Value}{ns:List Int},IntsAre vs ns→Vals (ns.map V.int) vs
 | _,_,.nil=>.nil
 | _,_,.cons n t h=>.cons ⟨t,rfl⟩ (vals_ints h)
def Only (H:Hp) : Prop:=∀ b,H b=none∨∃ o xs,H b=some (.frz o (.lst xs))
theorem law_call {P:Program}{w:World}{K:PySem.W.Frag}{mg mb:Str→Option Value}{CX:CXT}{k:Nat}{fa a:Addr}{fd:FuncData}{x:Str}{sp:Sp}{s₁:Shared}{vs:List Value}{ns:List Int}
  (KX:K.In s₁.heap) (hns:s₁.heap.Ns mainGlobals mg) (hb:s₁.heap.Ns builtinsNs mb) (hbb:∀ x:Str,x ≠ "__name__" → mb x=bootBuiltins x) (hlim:s₁.heap.NoLimit) (hg:s₁.gens = #[])
  (ha:s₁.heap.get? a=some { cls:=.type "list", data:=.seq vs.toArray }) (hi:IntsAre vs ns) (hl:ns.length≤sizeLine) (hr:Room k callerA)
  (F:∀ base:Heap,K.In base→base.Ns mainGlobals mg→FnOk P w K mg base CX k fa fd [x] sp) (hbind:∀ (s:Shared) (u:Value),BindsTo s fd ⟨[u],[]⟩ [(x,u)])
  (hsp:∀ H:Hp,Only H→SqL K H a (ns.map V.int)→sp [.ref a] H (fun v _=>v = .bl true) fun _ _ _=>False)
  (hCX:∀ H e s',CX [] H s₁ (fun _ _ _=>False) e s'→False) :
  codeAny (model P w) callerA (.call (.ref fa) ⟨[.ref a],[]⟩) (fun r s'=>r = .ok (.ret (.bool true))∧OldK s₁.heap s'.heap∧s'.os=s₁.os∧AllBare s'.gens) s₁:=by
 have rv:=vals_ints hi
 have lenV:=hi.length
 have core:∀ H:Hp,Only H→SqL K H a (ns.map V.int)→HOk P w H s₁.heap→(∀ b,H b ≠ none→b=a)→(H a ≠ none→K.lookup a=none) →
   codeAny (model P w) callerA (.call (.ref fa) ⟨[.ref a],[]⟩) (fun r s'=>r = .ok (.ret (.bool true))∧OldK s₁.heap s'.heap∧s'.os=s₁.os∧AllBare s'.gens) s₁:=by
  intro H hO hS hok hA hK
  have base_of:∀ {b:Addr}{o:Obj},s₁.heap.get? b=some o→H b=none→(hidT s₁.heap H).get? b=some o:=fun e n=>hidT_get e n
  have noA:∀ {b:Addr}{o:Obj}{es:Array DictEntry}{ep:Nat},s₁.heap.get? b=some o→o.data = .dict es ep→H b=none:=fun {b o es ep} e d=>by
   cases q:H b with
   | none=>rfl
   | some u =>
    have e':b=a:=hA b (by rw [q]; simp)
    subst e'
    rw [ha] at e; cases e
    have d':Data.seq vs.toArray _=Data.dict es ep:=d
    cases d'
  have nsK:∀ {b:Addr}{m:Str→Option Value},s₁.heap.Ns b m→(hidT s₁.heap H).Ns b m:=fun {b m} ⟨o,es,ep,e,d,r⟩=>⟨o,es,ep,base_of e (noA e d),d,r⟩
  have hKb:K.In (hidT s₁.heap H):=fun b o e=>base_of (KX b o e) (by
   cases q:H b with
   | none=>rfl
   | some u =>
    have e':b=a:=hA b (by rw [q]; simp)
    subst e'
    rw [hK (by rw [q]; simp)] at e; cases e)
  have hM:Mod K mg (hidT s₁.heap H):=⟨hKb,nsK hns,⟨mb,nsK hb,hbb⟩,let ⟨mc,h1,h2⟩:=hlim; ⟨mc,nsK h1,h2⟩⟩
  have e0:Env0 P w K mg (hidT s₁.heap H) callerA [] s₁ H:=⟨rfl,hM,fun b o e=>of_hidT e,Nat.le_of_eq (hidT_size _ _),trivial,fun b hb=>absurd (show b∈([] : List Addr) from hb) (by simp),hok,.of_eq hg⟩
  refine codeAny_mono ((F _ hKb (nsK hns)).run callerA [] s₁ H ⟨[.ref a],[]⟩ [.ref a] [.ref a] _ _ hr e0 (hbind s₁ (.ref a)) (.cons rfl .nil) (hsp H hO hS)) fun r s' h=>?_
  cases r with
  | error e=>exact (hCX H e s' h).elim
  | ok fl =>
   cases fl with
   | next=>exact False.elim h
   | brk=>exact False.elim h
   | cont=>exact False.elim h
   | ret u =>
    obtain ⟨v,H',os,bare,un,hok',r',q⟩:=h
    have q':v = .bl true:=q
    subst q'
    obtain rfl:u=Value.bool true:=r'
    refine ⟨rfl,OldK.of_keep fun b o e=>?_,os,bare⟩
    cases q:H b with
    | none=>exact un.keep b o e q (by intro z; exact absurd (show b∈([] : List Addr) from z) (by simp)) (by simp)
    | some u =>
     rcases hO b with z | ⟨ob,xs,z⟩
     ·rw [q] at z; cases z
     ·have z2:=un.frzs b ob _ z
      obtain ⟨e1,_⟩:=hok b _ z
      obtain ⟨e2,_⟩:=hok' b _ z2
      rw [e] at e1; cases e1
      exact e2
 cases hk:K.lookup a with
 | some o =>
  have e:=KX a o hk
  rw [ha] at e
  cases e
  refine core (fun _=>none) (fun _=>.inl rfl) (.inr ⟨_,vs.toArray,_,hk,rfl,rfl,rfl,by rw [List.size_toArray,lenV]; exact hl,by simpa using rv⟩) (fun b u z=>by have z':(none:Option HO)=some u:=z; cases z') (fun b z=>absurd rfl z) fun z=>absurd rfl z
 | none =>
  refine core (fun b=>if b=a then some (.frz { cls:=.type "list", data:=.seq vs.toArray } (.lst (ns.map V.int))) else none) (fun b=>?_) (.inl (.inr ⟨{ cls:=.type "list", data:=.seq vs.toArray },if_pos rfl⟩)) (fun b u z=>?_) (fun b z=>?_) fun _=>hk
  ·by_cases hb:b=a
   ·exact .inr ⟨_,_,if_pos hb⟩
   ·exact .inl (if_neg hb)
  ·by_cases hb:b=a
   ·have z':=(if_pos hb).symm.trans z
    cases z'
    subst hb
    exact ⟨ha,by rw [List.length_map]; exact hl,vs,_,rv,ha⟩
   ·have z':=(if_neg hb).symm.trans z
    cases z'
  ·by_cases hb:b=a
   ·exact hb
   ·exact absurd (if_neg hb) z
end L2
namespace L2
open PySem PySem.Spec PyProof.Rows
abbrev KOf {K:PySem.W.Frag}{h:Heap}(_:K.In h) : PySem.W.Frag:=K
theorem walk_of {l:PySem.W.OpenLaw}{n k:Nat}{q:Program}{loose:List Str}{XP:(Str→Option Value)→Heap→Prop}{YP:World→Heap→Prop}{d:DefRec}{K:Params→PySem.W.Frag}{CX:World→CXT}{sp:World→Sp}{x:Str}
  (hn:l.most=some n) (hn2:n≤sizeLine) (hdf:d.params.defaults = []) (hr:Room k callerA)
  (hY:∀ (w:World) (h:Heap),YP w h→(K w.params).In h)
  (F:∀ (w:World) (mg:Str→Option Value) (fa:Addr) (h:Heap),(K w.params).In h→h.Ns mainGlobals mg→mg d.name=some (.ref fa) →
   ∃ fd:FuncData,(∀ (s:Shared) (u:Value),BindsTo s fd ⟨[u],[]⟩ [(x,u)]) ∧
    ∀ base:Heap,(K w.params).In base→base.Ns mainGlobals mg→FnOk l.prog w (K w.params) mg base (CX w) k fa fd [x] (sp w))
  (hsp:∀ (w:World) (H:Hp) (a:Addr) (ns:List Int),ns.length≤n→Only H→SqL (K w.params) H a (ns.map V.int)→sp w [.ref a] H (fun v _=>v = .bl true) fun _ _ _=>False)
  (hCX:∀ (w:World) (H:Hp) (s:Shared) (e:Value) (s':Shared),CX w [] H s (fun _ _ _=>False) e s'→False) :
  PySem.W.WalkO q loose XP YP l.row.toRowW d [] (fun f vs=>PySem.call f vs):=by
 refine Att.attach_call hn hdf fun w s₀ s₁ mg mb fa o pm cd doc a vs ns G Y ho hd hcd hmg hobj hints hlen hg=>?_
 have KX:=hY w _ Y
 obtain ⟨fd,hb,hF⟩:=F w mg fa _ KX G.T.g hmg
 exact law_call KX G.T.g G.T.b G.T.builtins G.T.nolimit hg hobj hints (Nat.le_trans hlen hn2) hr hF hb (fun H hO hS=>hsp w H a ns hlen hO hS) fun H e s'=>hCX w H s₁ e s'
end L2
namespace L2
open PySem PySem.Spec PyProof.Rows
def inClass (s:Stmt)(j:Nat) : Stmt:=match s with
 | .ClassDef _ _ _ body _ _ _ _ _ _ _=>body.getD j (.Pass ⟨0,0,0,0⟩)
 | _=>.Pass ⟨0,0,0,0⟩
def defArgs (s:Stmt) : Arguments:=match s with
 | .FunctionDef _ a _ _ _ _ _ _ _ _=>a
 | _=>{ posonlyargs:=[],args:=[],vararg:=none,kwonlyargs:=[],kw_defaults:=[],kwarg:=none,defaults:=[] }
def defBody (s:Stmt) : List Stmt:=match s with
 | .FunctionDef _ _ b _ _ _ _ _ _ _=>b
 | _=>[]
def defScope (s:Stmt) : Scope:=match s with
 | .FunctionDef _ _ _ _ _ _ sc _ _ _=>sc
 | _=>{ kind:=.function,names:=[],isGenerator:=false,isCoroutine:=false }
abbrev E0:XK:=fun _ _ _=>False
structure Fun (K:PySem.W.Frag) (x qual:Str) (st:Stmt) (f:Addr) (fd:FuncData) : Prop where
 ex:∃ (oc:Value) (od:Option Addr) (kV doc pm:Value) (an:Option Addr) (cdv ct:Value) (osl:Array (Option Value)),
  fd=PySem.W.fnOf x qual (defArgs st) (defBody st) (defScope st) .none kV doc pm an cdv ct∧K.lookup f=some ⟨oc,od,.func fd,osl⟩∧PySem.W.codeIn K cdv qual=true
 kp:PySem.W.keepIn K (.ref f)=true
section
variable {P:Program}{w:World}{K:PySem.W.Frag}{mg:Str→Option Value}{base:Heap}
theorem Fun.binds {x qual:Str}{st:Stmt}{f:Addr}{fd:FuncData}{ps:List Str}(F:Fun K x qual st f fd)
  (h:∀ (kV doc pm:Value) (an:Option Addr) (cdv ct:Value) (us:List Value),us.length=ps.length→bindArgs (PySem.W.fnOf x qual (defArgs st) (defBody st) (defScope st) .none kV doc pm an cdv ct) ⟨us,[]⟩=pure (ps.zip us)) : Binds K fd ps []:=by
 obtain ⟨oc,od,kV,doc,pm,an,cdv,ct,osl,rfl,lk,hcd⟩:=F.ex
 exact .all (h kV doc pm an cdv ct)
theorem fun_mk {x qual:Str}{st:Stmt}{f:Addr}{oc:Value}{od an:Option Addr}{osl:Array (Option Value)}{kV doc pm cdv ct:Value}(l:K.lookup f=some ⟨oc,od,.func (PySem.W.fnOf x qual (defArgs st) (defBody st) (defScope st) .none kV doc pm an cdv ct),osl⟩)
  (c:PySem.W.codeIn K cdv qual=true) (k:PySem.W.keepIn K (.ref f)=true) : Fun K x qual st f (PySem.W.fnOf x qual (defArgs st) (defBody st) (defScope st) .none kV doc pm an cdv ct):=⟨⟨oc,od,kV,doc,pm,an,cdv,ct,osl,rfl,l,c⟩,k⟩
end
theorem small1000 {n:Nat}(h:n≤1000) : n < sizeLine:=Nat.lt_of_le_of_lt h (by decide)
section
variable {X:Cx}
theorem pv (i:Nat) {x:Str}{pos:Pos}(hN:X.N[i]? = some x:=by rfl) (hv:Vis X.env.scope x:=by first | exact Or.inl rfl | exact Or.inr (Or.inl rfl) | exact Or.inr (Or.inr rfl)) (hd:(x == ("__debug__" : Str))=false:=by decide)
  (hcd:(x == ("__classdict__" : Str))=false:=by decide) : PE X (.Name x pos) (tVar i):=pe_var hN hv hd hcd
end
theorem iteF {A B:Prop}(h:B) : if false=true then A else B:=by
 rw [if_neg Bool.false_ne_true]
 exact h
theorem iteT {A B:Prop}(h:A) : if true=true then A else B:=by
 rw [if_pos rfl]
 exact h
theorem iteNS {c A B:Prop} [Decidable c](hc:c)(h:B) : if (!decide c)=true then A else B:=by
 rw [decide_eq_true hc]
 exact iteF h
def Same (H H':Hp) : Prop:=∀ b o,H b=some o→H' b=some o
theorem Same.refl (H:Hp) : Same H H:=fun _ _ h=>h
theorem Same.trans {H H1 H2:Hp}(a:Same H H1)(b:Same H1 H2) : Same H H2:=fun c o h=>b c o (a c o h)
theorem Same.free {H H':Hp}(e:Same H H'){l:Addr}(h:H' l=Option.none) : H l=Option.none:=by
 cases q:H l with
 | none=>rfl
 | some o =>
  rw [e l o q] at h
  cases h
end L2
set_option maxHeartbeats 4000000
namespace L2
open PySem PySem.Spec PyProof.Rows
def Bz (n:Nat)(x:Int) : Prop:=x.natAbs < 2 ^ n
theorem Bz.mono {m n:Nat}{x:Int}(h:Bz m x)(hn:m≤n) : Bz n x:=Nat.lt_of_lt_of_le h (Nat.pow_le_pow_right (by decide) hn)
theorem Bz.bits {n:Nat}{x:Int}(h:Bz n x) : Builtin.Int.intBits x≤n:=PySem.intBits_le_iff.mpr h
theorem Bz.of_bits {n:Nat}{x:Int}(h:Builtin.Int.intBits x≤n) : Bz n x:=PySem.intBits_le_iff.mp h
theorem Bz.mulOk {m n:Nat}{x y:Int}(hx:Bz m x)(hy:Bz n y)(h:m + n≤134217728:=by decide) : IntMulOk x y:=PySem.IntMulOk.of_le hx.bits hy.bits h
theorem Bz.mul {m n:Nat}{x y:Int}(hx:Bz m x)(hy:Bz n y) : Bz (m + n) (x * y):=.of_bits (PySem.intBits_mul_le hx.bits hy.bits)
theorem Bz.neg {n:Nat}{x:Int}(hx:Bz n x) : Bz n (-x):=.of_bits (PySem.intBits_neg_le hx.bits)
theorem Bz.le {n:Nat}{x y:Int}(hx:Bz n x)(h:y.natAbs≤x.natAbs) : Bz n y:=Nat.lt_of_le_of_lt h hx
theorem Bz.fdiv {n:Nat}{x y:Int}(hx:Bz n x) : Bz n (x.fdiv y):=.of_bits (PySem.intBits_fdiv_le hx.bits)
theorem Bz.ediv {n:Nat}{x y:Int}(hx:Bz n x)(hy:0≤y) : Bz n (x / y):=by
 rw [← Int.fdiv_eq_ediv_of_nonneg x hy]
 exact hx.fdiv
theorem Bz.w {x:Int}(h1 : -340282366920938463463374607431768211456 < x)(h2:x < 340282366920938463463374607431768211456) : Bz 128 x:=by
 show x.natAbs < 340282366920938463463374607431768211456
 omega
theorem Bz.log2 {n:Nat}{x:Int}(h:Bz n x)(hn:n≤9000:=by decide) : x.natAbs.log2 < 9000:=by
 by_cases h0:x.natAbs=0
 ·rw [h0]; decide +kernel
 ·exact (Nat.log2_lt h0).mpr (Nat.lt_of_lt_of_le h (Nat.pow_le_pow_right (by decide) hn))
def CDivB (_ j:Int) : Prop:=0 < j∧j.natAbs.log2 < 9000
def CDivM (_ j:Int) : Prop:=j ≠ 0∧j.natAbs.log2 < 9000
section
variable {X:Cx}
theorem op_mulB:OpR X (binaryOp .Mult) (rI IntMulOk fun i j=>.int (i * j)):=opI fun _ _ _ _ _ _ _ hc q=>mul_int q hc
theorem op_fdivB:OpR X (binaryOp .FloorDiv) (rI CDivB fun i j=>.int (i / j)):=opI fun i j _ _ _ _ _ hc q=>by
 have h1:(0:Int) < j:=hc.1
 exact floordiv_int (by omega) (by rw [Int.fdiv_eq_ediv_of_nonneg i (by omega)]; exact q) (.inl (PyProof.noPylong_of_log2 hc.2))
theorem op_fdivM:OpR X (binaryOp .FloorDiv) (rI CDivM fun i j=>.int (i.fdiv j)):=opI fun i j _ _ _ _ _ hc q =>
 floordiv_int hc.1 q (.inl (PyProof.noPylong_of_log2 hc.2))
theorem ps_mid {st:Stmt}{t:TS}(h:PS X st t) : PS X st (fun D σ H=>∃ P:St→Hp→Prop,t { D with nx:=P } σ H∧∀ σ' H',P σ' H'→D.nx σ' H'):=by
 intro pins s σ H D I hw
 obtain ⟨P',hp,hk⟩:=hw
 refine thn (h pins s σ H _ I hp) fun f s1 q=>?_
 cases f with
 | next=>obtain ⟨σ',H',I',p⟩:=q; exact ⟨σ',H',I',hk _ _ p⟩
 | ret v=>exact q
 | brk=>exact q
 | cont=>exact q
theorem call_isi:CallR X (.builtin "isinstance") (fun xs H Q=>∃ x n t b,xs = [x,.ty n]∧TyOf X.K H x t∧PySem.W.kitOne X.K t (.type n)=some b∧Q (.bl b) H):=by
 intro pins s σ H xs us Q I r h
 obtain ⟨x,n,t,b,rfl,ty,e,q⟩:=h
 obtain ⟨u,w',rfl,r1,r2⟩:=vals2 r
 cases r2
 exact isinst_ok I r1 ty e fun tk=>⟨.bl b,H,I.tok tk,rfl,q⟩
end
theorem kp {H:Hp}{a p:Addr}{o u:HO}(h:H a=some o)(hp:H p=none) : upd H p u a=some o:=by rw [upd_ne (ne_of_none h hp)]; exact h
theorem iteN {c A B:Prop} [Decidable c](hc:¬ c)(h:B) : if decide c=true then A else B:=by
 rw [if_neg (fun z=>hc (of_decide_eq_true z))]
 exact h
theorem iteY {c A B:Prop} [Decidable c](hc:c)(h:A) : if decide c=true then A else B:=by
 rw [if_pos (decide_eq_true hc)]
 exact h
theorem ite3 {c A B:Prop} [Decidable c](h1:c→A)(h2:¬ c→B) : if decide c=true then A else B:=by
 by_cases h:c
 ·exact iteY h (h1 h)
 ·exact iteN h (h2 h)
theorem iteNo {c A B:Prop} [Decidable c](h1:¬ c→A)(h2:c→B) : if (!decide c)=true then A else B:=by
 by_cases h:c
 ·rw [decide_eq_true h]; exact iteF (h2 h)
 ·rw [decide_eq_false h]; exact iteT (h1 h)
theorem sz {n:Nat}(h:n≤1000:=by first | decide | (simp; done) | omega) : n≤sizeLine:=Nat.le_of_lt (small1000 h)
theorem at_ints {ns:List Int}{k:Int}(h0:0≤k)(h:k < (ns.length:Int)) : ∃ v:Int,atI (ns.map V.int) k=some (.int v):=by
 have hk:k.toNat < ns.length:=by omega
 have ek:k=((k.toNat:Nat) : Int):=by omega
 have q:atI (ns.map V.int) ((k.toNat:Nat) : Int)=some (.int ns[k.toNat]):=atI_nat (by rw [List.getElem?_map,List.getElem?_eq_getElem hk]; rfl)
 rw [← ek] at q
 exact ⟨_,q⟩
end L2
namespace L2
open PySem PySem.Spec PyProof.Rows
mutual
inductive DV (K:PySem.W.Frag) (H:Hp) : V→PyData→Prop
 | non:DV K H .non .none
 | bl (b:Bool) : DV K H (.bl b) (.bool b)
 | int (i:Int) : DV K H (.int i) (.int i)
 | str (x:Str) : DV K H (.str x) (.str x)
 | lst {a:Addr}{xs:List V}{ds:List PyData} : SqL K H a xs→DVs K H xs ds→DV K H (.ref a) (.list ds)
 | tup {a:Addr}{xs:List V}{ds:List PyData} : SqT K H a xs→DVs K H xs ds→DV K H (.ref a) (.tuple ds)
inductive DVs (K:PySem.W.Frag) (H:Hp) : List V→List PyData→Prop
 | nil:DVs K H [] []
 | cons {x:V}{xs:List V}{d:PyData}{ds:List PyData} : DV K H x d→DVs K H xs ds→DVs K H (x :: xs) (d :: ds)
end
section
variable {X:Cx}{pins:List (Addr × Obj)}{σ:St}{H:Hp}{s:Shared}
mutual
theorem DV.reads (I:Inv X pins σ H s) : ∀ {x:V}{d:PyData}{u:Value},DV X.K H x d→RelV x u→∃ as,Reads s.heap u d as
 | _,_,_,.non,r=>by cases r; exact ⟨_,.none⟩
 | _,_,_,.bl b,r=>by cases r; exact ⟨_,.bool b⟩
 | _,_,_,.int i,r=>by obtain ⟨t,rfl⟩:=r; exact ⟨_,.int i t⟩
 | _,_,_,.str x,r=>by obtain ⟨t,rfl⟩:=r; exact ⟨_,.str x t⟩
 | _,_,_,.lst h hs,r=>by
  cases r
  obtain ⟨its,rv,⟨o,n,e,c,_,dd⟩,_⟩:=I.list h
  obtain ⟨as,q⟩:=DVs.reads I hs rv
  exact ⟨_,.list e c dd (by simpa using q)⟩
 | _,_,_,.tup h hs,r=>by
  cases r
  obtain ⟨its,rv,⟨o,e,c,n,dd⟩,_⟩:=I.tuple h
  obtain ⟨as,q⟩:=DVs.reads I hs rv
  exact ⟨_,.tuple e c dd (by simpa using q)⟩
theorem DVs.reads (I:Inv X pins σ H s) : ∀ {xs:List V}{ds:List PyData}{us:List Value},DVs X.K H xs ds→Vals xs us→∃ as,ReadsAll s.heap us ds as
 | _,_,_,.nil,r=>by cases r; exact ⟨_,.nil⟩
 | _,_,_,.cons h hs,r=>by
  cases r with
  | cons r rr =>
   obtain ⟨as,q⟩:=DV.reads I h r
   obtain ⟨bs,q'⟩:=DVs.reads I hs rr
   exact ⟨_,.cons q q'⟩
end
end
def rNeD (K:PySem.W.Frag) : R2:=fun x y H Q=>∃ dx dy,DV K H x dx∧DV K H y dy∧SeqAt.shaped dx=true∧SeqAt.shaped dy=true∧Q (.bl (!PyData.eqv dx dy)) H
section
variable {X:Cx}{e se:Expr}{te ts:TE}{pos p2:Pos}
theorem op_neD (hu:X.A.units + 64 < cLine) : OpR X (compareOp .NotEq) (rNeD X.K):=by
 intro pins s σ H x y v u Q I rx ry h
 obtain ⟨dx,dy,hx,hy,sx,sy,q⟩:=h
 obtain ⟨as,r1⟩:=hx.reads I rx
 obtain ⟨bs,r2⟩:=hy.reads I ry
 exact ne_dataH r1 r2 sx sy hu ⟨.bl _,H,I,rfl,q⟩
end
def SqF (K:PySem.W.Frag)(H:Hp)(a:Addr)(xs:List V) : Prop :=
 (∃ o,H a=some (.frz o (.lst xs)))∨∃ (o:Obj) (its:Array Value) (n:Nat),K.lookup a=some o∧o.cls = .type "list" ∧ o.dict=none∧o.data = .seq its n∧its.size≤sizeLine∧Vals xs its.toList
theorem SqF.sq {K:PySem.W.Frag}{H:Hp}{a:Addr}{xs:List V}(h:SqF K H a xs) : SqL K H a xs:=by
 rcases h with ⟨o,h⟩ | h
 ·exact .inl (.inr ⟨o,h⟩)
 ·exact .inr h
theorem SqF.upd {K:PySem.W.Frag}{H:Hp}{a p:Addr}{xs:List V}{u:HO}(h:SqF K H a xs)(hp:∀ o w,H p ≠ some (.frz o w)) : SqF K (L2.upd H p u) a xs:=by
 rcases h with ⟨o,h⟩ | h
 ·refine .inl ⟨o,?_⟩
  rw [upd_ne (fun e=>hp o _ (by rw [← e]; exact h))]
  exact h
 ·exact .inr h
theorem SqF.new {K:PySem.W.Frag}{H:Hp}{a p:Addr}{xs:List V}{u:HO}(h:SqF K H a xs)(hp:H p=none) : SqF K (L2.upd H p u) a xs:=h.upd fun o w e=>by rw [hp] at e; cases e
theorem SqF.of_only {K:PySem.W.Frag}{H:Hp}{a:Addr}{xs:List V}(hO:Only H)(h:SqL K H a xs) : SqF K H a xs:=by
 rcases h with (h | ⟨o,h⟩) | h
 ·rcases hO a with z | ⟨o,ys,z⟩
  ·rw [z] at h; cases h
  ·rw [z] at h; cases h
 ·exact .inl ⟨o,h⟩
 ·exact .inr h
theorem same_new {H:Hp}{p:Addr}(h:H p=none)(o:HO) : Same H (L2.upd H p o):=fun b u q=>by rw [upd_ne (ne_of_none q h)]; exact q
theorem SqF.same {K:PySem.W.Frag}{H H':Hp}{a:Addr}{xs:List V}(h:SqF K H a xs)(s:Same H H') : SqF K H' a xs:=by
 rcases h with ⟨o,h⟩ | h
 ·exact .inl ⟨o,s _ _ h⟩
 ·exact .inr h
theorem cut_take (xs:List V)(m:Nat) : cutV xs none (some (m:Int))=xs.take m:=by
 unfold cutV
 rw [HT.sIx_none,HT.sIx_nat]
 simp
end L2
namespace L2
open PySem
theorem bt_isinstance:bootBuiltins "isinstance" = some (.builtin "isinstance"):=by decide +kernel
theorem bt_int:bootBuiltins "int" = some (.type "int"):=by decide +kernel
theorem bt_bool:bootBuiltins "bool" = some (.type "bool"):=by decide +kernel
theorem bt_abs:bootBuiltins "abs" = some (.builtin "abs"):=by decide +kernel
theorem bt_tuple:bootBuiltins "tuple" = some (.type "tuple"):=by decide +kernel
theorem bt_list:bootBuiltins "list" = some (.type "list"):=by decide +kernel
theorem bt_max:bootBuiltins "max" = some (.builtin "max"):=by decide +kernel
theorem bt_len:bootBuiltins "len" = some (.builtin "len"):=by decide +kernel
theorem bt_sorted:bootBuiltins "sorted" = some (.builtin "sorted"):=by decide +kernel
theorem bt_sum:bootBuiltins "sum" = some (.builtin "sum"):=by decide +kernel
theorem bt_ValueError:bootBuiltins "ValueError" = some (.type "ValueError"):=by decide +kernel
end L2
namespace L2
open PySem PySem.Spec PyProof.Rows
section
variable {X:Cx}{e se:Expr}{te ts:TE}{pos p2:Pos}
end
end L2
namespace M
def G (a b:Int) : Int:=if Nat.gcd a.natAbs b.natAbs=0 then 1 else (Nat.gcd a.natAbs b.natAbs:Nat)
theorem G_pos (a b:Int) : 0 < G a b:=by
 unfold G
 split <;> omega
theorem G_eq {a b:Int}(h:b ≠ 0) : G a b=((Nat.gcd a.natAbs b.natAbs:Nat) : Int):=by
 have:0 < Nat.gcd a.natAbs b.natAbs:=Nat.gcd_pos_of_pos_right _ (by omega)
 unfold G
 rw [if_neg (by omega)]
structure Inv (a b x y:Int) : Prop where
 x0:0≤x
 y0:0≤y
 e:Nat.gcd x.natAbs y.natAbs=Nat.gcd a.natAbs b.natAbs
theorem abs_eq (i:Int) : (if i < 0 then -i else i)=(i.natAbs:Int):=by
 split <;> omega
theorem Inv.start2 (a b:Int) : Inv a b (if a < 0 then -a else a) (if b < 0 then -b else b):=by
 rw [abs_eq,abs_eq]
 exact ⟨by omega,by omega,by simp⟩
theorem Inv.turn {a b x y:Int}(h:Inv a b x y)(hy:0 < y) : Inv a b y (x % y):=by
 obtain ⟨x0,y0,e⟩:=h
 refine ⟨y0,Int.emod_nonneg x (by omega),?_⟩
 rw [← e]
 have e1:(x % y).natAbs=x.natAbs % y.natAbs:=by
  obtain ⟨n,rfl⟩:=Int.eq_ofNat_of_zero_le x0
  obtain ⟨m,rfl⟩:=Int.eq_ofNat_of_zero_le y0
  exact congrArg Int.natAbs (Int.natCast_emod n m).symm
 rw [e1,Nat.gcd_comm x.natAbs y.natAbs]
 rw [Nat.gcd_comm y.natAbs (x.natAbs % y.natAbs),← Nat.gcd_rec,Nat.gcd_comm]
theorem less {x y:Int}(hy:0 < y) : (x % y).toNat < y.toNat:=by
 have h1:=Int.emod_nonneg x (show y ≠ 0 by omega)
 have h2:=Int.emod_lt_of_pos x hy
 omega
theorem Inv.out {a b x y:Int}(h:Inv a b x y)(hy:y=0)(hb:b ≠ 0) : x=G a b:=by
 obtain ⟨x0,y0,e⟩:=h
 rw [G_eq hb,← e,hy]
 simp
 omega
theorem G_dvd (a b:Int) : (G a b ∣ a)∧(G a b ∣ b):=by
 unfold G
 split
 ·exact ⟨Int.one_dvd _,Int.one_dvd _⟩
 ·exact ⟨Int.ofNat_dvd_left.mpr (Nat.gcd_dvd_left _ _),Int.ofNat_dvd_left.mpr (Nat.gcd_dvd_right _ _)⟩
theorem G_le {a b:Int}(h:b ≠ 0) : (G a b).natAbs≤b.natAbs:=by
 rw [G_eq h]
 exact Nat.le_of_dvd (by omega) (Nat.gcd_dvd_right _ _)
end M
namespace M
theorem num_low {t b:Int}(hb:0 < b) : t / G t b=(Rat.divInt t b).num:=by
 rw [Rat.num_divInt,G_eq (by omega),Int.sign_eq_one_of_pos hb,Int.one_mul]
 show t / _=t / ((Nat.gcd b.natAbs t.natAbs:Nat) : Int)
 rw [Nat.gcd_comm]
theorem den_low {t b:Int}(hb:0 < b) : b / G t b=((Rat.divInt t b).den:Int):=by
 rw [Rat.den_divInt,if_neg (by omega),G_eq (by omega)]
 show b / _=(((b.natAbs / Nat.gcd b.natAbs t.natAbs:Nat)) : Int)
 rw [Int.natCast_ediv,Nat.gcd_comm]
 congr 1
 omega
theorem num_neg {t b:Int}(hb:b < 0) : t.fdiv (-G t b)=(Rat.divInt t b).num:=by
 have e:Rat.divInt t b=Rat.divInt (-t) (-b):=(Rat.neg_divInt_neg t b).symm
 rw [e,← num_low (by omega)]
 have g:G (-t) (-b)=G t b:=by unfold G; simp
 have h:=G_pos t b
 rw [g,← Int.fdiv_eq_ediv_of_nonneg (-t) (Int.le_of_lt h)]
 rw [← Int.neg_fdiv_neg,Int.neg_neg]
theorem den_neg {t b:Int}(hb:b < 0) : b.fdiv (-G t b)=((Rat.divInt t b).den:Int):=by
 have e:Rat.divInt t b=Rat.divInt (-t) (-b):=(Rat.neg_divInt_neg t b).symm
 rw [e,← den_low (by omega)]
 have g:G (-t) (-b)=G t b:=by unfold G; simp
 have h:=G_pos t b
 rw [g,← Int.fdiv_eq_ediv_of_nonneg (-b) (Int.le_of_lt h)]
 rw [← Int.neg_fdiv_neg,Int.neg_neg]
theorem add_q (q r:Rat) : Rat.divInt (q.num * (r.den:Int) + r.num * (q.den:Int)) ((q.den:Int) * (r.den:Int))=q + r:=by
 have h1:=q.den_pos
 have h2:=r.den_pos
 rw [← Rat.divInt_add_divInt _ _ (by omega) (by omega),Rat.num_divInt_den,Rat.num_divInt_den]
end M
namespace M
abbrev D0:Int:=5342931457063200
def Item (r:Rat) : Prop:=∃ c:Int,r=Rat.divInt c D0 ∧ -(100000000000 * D0)≤c∧c≤100000000000 * D0
def All (rs:List Rat) : Prop:=∀ r∈rs,Item r
end M
namespace M
theorem cop_part {n1 n2:Int}{a b:Nat}(h1:Nat.Coprime n1.natAbs a)(h2:Nat.Coprime b a) : Nat.Coprime (n1 * (b:Int) + n2 * (a:Int)).natAbs a:=by
 have da:=Nat.gcd_dvd_right (n1 * (b:Int) + n2 * (a:Int)).natAbs a
 have dt:=Nat.gcd_dvd_left (n1 * (b:Int) + n2 * (a:Int)).natAbs a
 show Nat.gcd _ _=1
 generalize Nat.gcd (n1 * (b:Int) + n2 * (a:Int)).natAbs a=d at da dt
 have e1:(d:Int) ∣ n1 * (b:Int) + n2 * (a:Int):=Int.ofNat_dvd_left.mpr dt
 have e2:(d:Int) ∣ n2 * (a:Int):=Int.dvd_trans (Int.ofNat_dvd.mpr da) (Int.dvd_mul_left _ _)
 have e3:(d:Int) ∣ n1 * (b:Int):=(Int.dvd_add_left e2).mp e1
 have e4:d ∣ n1.natAbs * b:=by
  have z:=Int.ofNat_dvd_left.mp e3
  rwa [Int.natAbs_mul,Int.natAbs_natCast] at z
 have c1:Nat.Coprime d n1.natAbs:=Nat.Coprime.symm (Nat.Coprime.coprime_dvd_right da h1)
 have e5:d ∣ b:=c1.dvd_of_dvd_mul_left e4
 have e6:d ∣ 1:=by
  rw [← h2]
  exact Nat.dvd_gcd e5 da
 exact Nat.dvd_one.mp e6
theorem gcd_part {n1 n2:Int}{g a b:Nat}(h1:Nat.Coprime n1.natAbs (g * a)) (h2:Nat.Coprime n2.natAbs (g * b)) (h3:Nat.Coprime a b) :
  Nat.gcd (n1 * (b:Int) + n2 * (a:Int)).natAbs (g * a * b)=Nat.gcd (n1 * (b:Int) + n2 * (a:Int)).natAbs g:=by
 have c1:=cop_part (n1:=n1) (n2:=n2) (h1.coprime_dvd_right (Nat.dvd_mul_left a g)) h3.symm
 have c2:=cop_part (n1:=n2) (n2:=n1) (h2.coprime_dvd_right (Nat.dvd_mul_left b g)) h3
 rw [Int.add_comm] at c2
 rw [Nat.Coprime.gcd_mul_right_cancel_right _ c2.symm,Nat.Coprime.gcd_mul_right_cancel_right _ c1.symm]
theorem plus_low (q r:Rat) :
  (q.num * ((r.den:Int) / G q.den r.den) + r.num * ((q.den:Int) / G q.den r.den)) / G (q.num * ((r.den:Int) / G q.den r.den) + r.num * ((q.den:Int) / G q.den r.den)) (G q.den r.den)=(q + r).num ∧
  (q.den:Int) / G (q.num * ((r.den:Int) / G q.den r.den) + r.num * ((q.den:Int) / G q.den r.den)) (G q.den r.den) * ((r.den:Int) / G q.den r.den)=((q + r).den:Int):=by
 have p1:=q.den_pos
 have p2:=r.den_pos
 have hg:0 < Nat.gcd q.den r.den:=Nat.gcd_pos_of_pos_left _ p1
 have eg:G q.den r.den=((Nat.gcd q.den r.den:Nat) : Int):=by
  rw [G_eq (by omega)]
  simp
 obtain ⟨a,ea⟩:=Nat.gcd_dvd_left q.den r.den
 obtain ⟨b,eb⟩:=Nat.gcd_dvd_right q.den r.den
 have cab:Nat.Coprime a b:=by
  have z:=Nat.coprime_div_gcd_div_gcd (m:=q.den) (n:=r.den) hg
  have z1:q.den / Nat.gcd q.den r.den=a:=by
   conv=>lhs; lhs; rw [ea]
   exact Nat.mul_div_cancel_left _ hg
  have z2:r.den / Nat.gcd q.den r.den=b:=by
   conv=>lhs; lhs; rw [eb]
   exact Nat.mul_div_cancel_left _ hg
  rwa [z1,z2] at z
 rw [eg]
 have r1:=q.reduced
 have r2:=r.reduced
 have aq:=add_q q r
 generalize q + r=s at aq
 generalize Nat.gcd q.den r.den=g at *
 rw [ea] at r1 aq p1 ⊢
 rw [eb] at r2 aq p2 ⊢
 have d1:((g * a:Nat) : Int) / (g:Int)=(a:Int):=by
  rw [Int.natCast_mul]
  exact Int.mul_ediv_cancel_left _ (by omega)
 have d2:((g * b:Nat) : Int) / (g:Int)=(b:Int):=by
  rw [Int.natCast_mul]
  exact Int.mul_ediv_cancel_left _ (by omega)
 rw [d1,d2]
 have hb:0 < b:=by
  rcases Nat.eq_zero_or_pos b with h | h
  ·subst h; omega
  ·exact h
 have hD:(0:Int) < ((g * a * b:Nat) : Int):=by
  have:0 < g * a * b:=Nat.mul_pos p1 hb
  omega
 have gg:G (q.num * (b:Int) + r.num * (a:Int)) (g:Int)=G (q.num * (b:Int) + r.num * (a:Int)) ((g * a * b:Nat) : Int):=by
  rw [G_eq (by omega),G_eq (by omega),Int.natAbs_natCast,Int.natAbs_natCast,gcd_part r1 r2 cab]
 have es:Rat.divInt (q.num * (b:Int) + r.num * (a:Int)) ((g * a * b:Nat) : Int)=s:=by
  rw [← aq,← Rat.divInt_mul_right (n:=q.num * (b:Int) + r.num * (a:Int)) (d:=((g * a * b:Nat) : Int)) (a:=(g:Int)) (by omega)]
  congr 1
  ·simp only [Int.natCast_mul,Int.add_mul]
   rw [Int.mul_assoc,Int.mul_assoc,Int.mul_comm (b:Int),Int.mul_comm (a:Int)]
  ·simp only [Int.natCast_mul]
   rw [Int.mul_assoc ((g:Int) * a),Int.mul_comm (b:Int)]
 have dv:G (q.num * (b:Int) + r.num * (a:Int)) (g:Int) ∣ ((g * a:Nat) : Int):=by
  rw [Int.natCast_mul]
  exact Int.dvd_trans (G_dvd _ _).2 (Int.dvd_mul_right _ _)
 refine ⟨?_,?_⟩
 ·rw [gg,num_low hD,es]
 ·rw [← Int.mul_ediv_assoc' _ dv,gg,← Int.natCast_mul,den_low hD,es]
end M
namespace L2
open PySem PySem.Spec PyProof.Rows
theorem ObjOk.there {P:Program}{w:World}{H:Hp}{h:Heap}{a:Addr}{o:HO}(x:ObjOk P w H h a o) : ∃ ob,h.get? a=some ob:=by
 cases o with
 | lst xs=>obtain ⟨_,_,_,_,e⟩:=x; exact ⟨_,e⟩
 | tup xs=>obtain ⟨_,_,_,ob,e,_⟩:=x; exact ⟨ob,e⟩
 | dK kvs=>obtain ⟨_,_,_,_,o,_,_,e,_⟩:=x; exact ⟨o,e⟩
 | dT kvs=>obtain ⟨_,_,_,_,o,_,_,e,_⟩:=x; exact ⟨o,e⟩
 | set S n=>obtain ⟨o,_,_,_,e,_⟩:=x; exact ⟨o,e⟩
 | ins C dx fs=>obtain ⟨_,_,_,e,_⟩:=x; exact ⟨_,e⟩
 | own y=>exact x
 | xd fs=>obtain ⟨_,⟨_,_,_,e,_⟩,_⟩:=x; exact ⟨_,e⟩
 | rng lo hi=>obtain ⟨_,_,_,e⟩:=x; exact ⟨_,e⟩
 | frz ob u=>obtain ⟨e,_⟩:=x; exact ⟨_,e⟩
 | tbl ps=>exact ⟨_,x⟩
 | met f y=>exact ⟨_,x⟩
 | ext φ=>obtain ⟨_,e,_⟩:=x; exact e
structure Fly (P:Program) (w:World) (outer:List Env) (H:Hp) (s:Shared) (cls:Value) (H':Hp) (ea:Addr) (B:Heap) (a0:Value) (s':Shared) : Prop where
 os:s'.os=s.os
 bare:AllBare s'.gens
 new:s.heap.get? ea=none
 un:Un (frs outer) [] H H' s.heap s'.heap
 hok:HOk P w H' s'.heap
 keepB:∀ b o,s.heap.get? b=some o→H b=none→b ∉ frs outer→B.get? b=some o
 tracked:∀ b u,H' b=some u→∃ o,s'.heap.get? b=some o∧B.get? b=some o
 thB:∀ b o,s.heap.get? b=some o→b ∉ frs outer→∃ o',B.get? b=some o'
 fly:Heap.FlyingW B outer ea cls a0 s'.heap
def CXe (P:Program)(w:World) : CXT:=fun outer H s E e s'=>∃ (ea:Addr) (cls:Value) (H':Hp) (B:Heap) (a0:Value),e = .ref ea∧Fly P w outer H s cls H' ea B a0 s'∧E cls none H'
section
variable {P:Program}{w:World}{outer:List Env}{H H':Hp}{s s':Shared}{cls a0:Value}{ea:Addr}{B h':Heap}
theorem Fly.fresh (F:Fly P w outer H s cls H' ea B a0 s') : H' ea=none:=by
 cases q:H' ea with
 | none=>rfl
 | some u =>
  obtain ⟨o,_,e⟩:=F.tracked ea u q
  rw [F.fly.2.1] at e
  cases e
theorem Fly.move (F:Fly P w outer H s cls H' ea B a0 s')(st:B.StaysIn h')(up:s'.heap.UpToSlots h') : Un (frs outer) [] H H' s.heap h'∧HOk P w H' h':=by
 refine ⟨⟨fun b o e n hb _=>st b o (F.keepB b o e n hb),fun b o e n hb hx=>?_,F.un.free,fun b o e hx=>?_,F.un.tups,F.un.frzs,F.un.tbls⟩,fun a u e=>?_⟩
 ·obtain ⟨sl,e1⟩:=F.un.slot b o e n hb hx
  obtain ⟨_,o2,ho2,nf⟩:=F.fly.2.2.1.mem hb
  rw [e1] at ho2
  cases ho2
  obtain ⟨sl',e2⟩:=up b _ e1 nf
  exact ⟨sl',e2⟩
 ·by_cases hb:b∈frs outer
  ·obtain ⟨_,o2,ho2,nf⟩:=F.fly.2.2.1.mem hb
   obtain ⟨sl',e2⟩:=up b _ ho2 nf
   exact ⟨_,e2⟩
  ·obtain ⟨o',e'⟩:=F.thB b o e hb
   exact ⟨o',st b o' e'⟩
 ·refine (F.hok a u e).stay (fun b v hb q=>?_) (fun _ q=>q) fun _ _ q=>q
  have tr:∃ u',H' b=some u':=by
   rcases hb with z | z
   ·rw [z]; exact ⟨u,e⟩
   ·exact ⟨_,z⟩
  obtain ⟨u',e'⟩:=tr
  obtain ⟨o,e1,e2⟩:=F.tracked b u' e'
  rw [q] at e1
  cases e1
  exact st b v e2
end
section
variable {X:Cx}{pins:List (Addr × Obj)}{σ:St}{H:Hp}{s s':Shared}{M:Model}{E:Value→Shared→Prop}{Q:Unit→Shared→Prop}
theorem Inv.notStk (I:Inv X pins σ H s){b:Addr}{o:Obj}(e:X.s₀.heap.get? b=some o)(hb:b ∉ X.fs) : b ∉ frs X.stack:=fun z =>
 (List.mem_cons.mp (I.stkSub b z)).elim (fun q=>absurd q (Nat.ne_of_lt (Nat.lt_of_lt_of_le (Heap.lt_size e) I.ok.above))) hb
theorem made_fly (I:Inv X pins σ H s) (hst:X.stack=X.env :: X.outer) (hf:X.env.frame=some X.env.locals) (hex:X.ex = []) {h1:Heap}{ea:Addr}{cls:Value}{args:List Value}(hx:Heap.MadeExcOf s.heap h1 ea cls args)
  (k:∀ h' a0,Fly X.prog X.w X.outer X.H₀ X.s₀ cls H ea (PySem.W.hideAll s.heap (frs X.stack)) a0 { s with heap:=h' }→Q () { s with heap:=h' }) :
  wpAny M X.A (leaving X.env (.ref ea)) Q E { s with heap:=h1 }:=by
 have noex:∀ b:Addr,b ∉ X.ex:=fun b z=>by rw [hex] at z; cases z
 have hin:∀ env∈X.stack,∀ a,env.frame=some a→a∈frs X.stack:=fun env he a ha=>List.mem_filterMap.mpr ⟨env,he,ha⟩
 have hl:s.heap.FunFrames (PySem.W.hideAll s.heap (frs X.stack)) (X.env :: X.outer):=by
  have z:=PySem.W.funFrames_hide I.stack hin
  rw [hst] at z ⊢
  exact z
 refine wpAny_leaves_madeW (base:=PySem.W.hideAll s.heap (frs X.stack)) (h:=s.heap) (by rw [I.ok.frames,hst]) hf (fun b o q=>PySem.W.of_hideAll _ q) hl hx fun h' t x1 _ _ x4=>k h' (.ref t) ?_
 have st:=x1.1
 have nstk:∀ b u,H b=some u→b ∉ frs X.stack:=fun b u e z=>by rw [I.stkFree b z] at e; cases e
 have tr:∀ b u,H b=some u→∃ o,s.heap.get? b=some o∧h'.get? b=some o∧(PySem.W.hideAll s.heap (frs X.stack)).get? b=some o:=fun b u e=>by
  obtain ⟨o,ho⟩:=(I.hok b u e).there
  have q:=PySem.W.hideAll_get (frs X.stack) ho (nstk b u e)
  exact ⟨o,ho,st b o q,q⟩
 refine ⟨I.os,I.bare,?_,⟨fun b o e n hb _=>?_,fun b o e n hb _=>?_,fun b o e n _=>I.base.free b o e n (noex b),fun b o e _=>?_,I.base.tups,I.base.frzs,I.base.tbls⟩,fun a u e=>?_,fun b o e n hb=>?_,fun b u e=>?_,fun b o e hb=>?_,x1⟩
 ·cases q:X.s₀.heap.get? ea with
  | none=>rfl
  | some o =>
   obtain ⟨o',e⟩:=I.base.there ea o q (noex ea)
   rw [hx.new] at e
   cases e
 ·exact st b o (PySem.W.hideAll_get _ (I.base.keep b o e n hb (noex b)) (I.notStk e hb))
 ·obtain ⟨sl,e1⟩:=I.base.slot b o e n hb (noex b)
  obtain ⟨_,o2,ho2,nf⟩:=I.funs.mem hb
  rw [e1] at ho2
  cases ho2
  obtain ⟨sl',e2⟩:=x4 b _ (hx.keeps b _ e1) nf
  exact ⟨sl',e2⟩
 ·by_cases hb:b∈X.fs
  ·obtain ⟨_,o2,ho2,nf⟩:=I.funs.mem hb
   obtain ⟨sl',e2⟩:=x4 b _ (hx.keeps b _ ho2) nf
   exact ⟨_,e2⟩
  ·obtain ⟨o',e'⟩:=I.base.there b o e (noex b)
   exact ⟨o',st b o' (PySem.W.hideAll_get _ e' (I.notStk e hb))⟩
 ·refine (I.hok a u e).stay (fun b v hb q=>?_) (fun _ q=>q) fun _ _ q=>q
  have z:∃ u',H b=some u':=by
   rcases hb with z | z
   ·rw [z]; exact ⟨u,e⟩
   ·exact ⟨_,z⟩
  obtain ⟨u',e'⟩:=z
  obtain ⟨o,e1,e2,_⟩:=tr b u' e'
  rw [q] at e1
  cases e1
  exact e2
 ·exact PySem.W.hideAll_get _ (I.base.keep b o e n hb (noex b)) (I.notStk e hb)
 ·obtain ⟨o,_,e2,e3⟩:=tr b u e
  exact ⟨o,e2,e3⟩
 ·obtain ⟨o',e'⟩:=I.base.there b o e (noex b)
  exact ⟨o',PySem.W.hideAll_get _ e' (I.notStk e hb)⟩
theorem fly_on (I:Inv X pins σ H s) (hst:X.stack=X.env :: X.outer) (hf:X.env.frame=some X.env.locals) (hex:X.ex = []) {H':Hp}{ea:Addr}{cls a0:Value}{B:Heap}(F:Fly X.prog X.w X.stack H s cls H' ea B a0 s')
  (k:∀ h',Fly X.prog X.w X.outer X.H₀ X.s₀ cls H' ea B a0 { s' with heap:=h' }→Q () { s' with heap:=h' }) : wpAny M X.A (leaving X.env (.ref ea)) Q E s':=by
 have noex:∀ b:Addr,b ∉ X.ex:=fun b z=>by rw [hex] at z; cases z
 have sub:∀ b∈X.fs,b∈frs X.stack:=fun b hb=>by
  rw [hst]
  obtain ⟨env,he,hf'⟩:=List.mem_filterMap.mp hb
  exact List.mem_filterMap.mpr ⟨env,List.mem_cons_of_mem _ he,hf'⟩
 refine wpAny_leaves_onW (by rw [I.ok.frames,hst]) hf (by have z:=F.fly; rw [hst] at z; exact z) fun h' x1 x2=>k h' ?_
 have st:=x1.1
 have ff:=F.fly.2.2.1
 refine ⟨F.os.trans I.os,F.bare,?_,⟨fun b o e n hb _=>?_,fun b o e n hb _=>?_,fun b o e n _=>?_,fun b o e _=>?_,fun b xs e=>F.un.tups b xs (I.base.tups b xs e),fun b o u e=>F.un.frzs b o u (I.base.frzs b o u e),fun b ps e=>?_⟩,fun a u e=>?_,fun b o e n hb=>?_,fun b u e=>?_,fun b o e hb=>?_,x1⟩
 ·cases q:X.s₀.heap.get? ea with
  | none=>rfl
  | some o =>
   obtain ⟨o',e⟩:=I.base.there ea o q (noex ea)
   rw [F.new] at e
   cases e
 ·exact st b o (F.keepB b o (I.base.keep b o e n hb (noex b)) (I.base.free b o e n (noex b)) (I.notStk e hb))
 ·obtain ⟨sl,e1⟩:=I.base.slot b o e n hb (noex b)
  obtain ⟨sl2,e2⟩:=F.un.slot b _ e1 (I.base.free b o e n (noex b)) (sub b hb) (by simp)
  obtain ⟨_,o2,ho2,nf⟩:=ff.mem (sub b hb)
  rw [e2] at ho2
  cases ho2
  obtain ⟨sl',e3⟩:=x2 b _ e2 nf
  exact ⟨sl',e3⟩
 ·obtain ⟨o',e'⟩:=I.base.there b o e (noex b)
  exact F.un.free b o' e' (I.base.free b o e n (noex b)) (by simp)
 ·by_cases hb:b∈X.fs
  ·obtain ⟨_,o2,ho2,nf⟩:=ff.mem (sub b hb)
   obtain ⟨sl',e3⟩:=x2 b _ ho2 nf
   exact ⟨_,e3⟩
  ·obtain ⟨o',e'⟩:=I.base.there b o e (noex b)
   obtain ⟨o2,e2⟩:=F.thB b o' e' (I.notStk e hb)
   exact ⟨o2,st b o2 e2⟩
 ·obtain ⟨m1,e1⟩:=I.base.tbls b ps e
  obtain ⟨m2,e2⟩:=F.un.tbls b _ e1
  exact ⟨m1 ++ m2,by rw [e2,Array.append_assoc]⟩
 ·refine (F.hok a u e).stay (fun b v hb q=>?_) (fun _ q=>q) fun _ _ q=>q
  have z:∃ u',H' b=some u':=by
   rcases hb with z | z
   ·rw [z]; exact ⟨u,e⟩
   ·exact ⟨_,z⟩
  obtain ⟨u',e'⟩:=z
  obtain ⟨o,e1,e2⟩:=F.tracked b u' e'
  rw [q] at e1
  cases e1
  exact st b v e2
 ·exact F.keepB b o (I.base.keep b o e n hb (noex b)) (I.base.free b o e n (noex b)) (I.notStk e hb)
 ·obtain ⟨o,_,e2⟩:=F.tracked b u e
  exact ⟨o,st b o e2,e2⟩
 ·obtain ⟨o',e'⟩:=I.base.there b o e (noex b)
  exact F.thB b o' e' (I.notStk e hb)
end
section
variable {P:Program}{w:World}{K:PySem.W.Frag}{mg:Str→Option Value}{base:Heap}
theorem pass_e {N:List Str}{qual:Str}{scope:Scope}{f:Addr}{cd:Value}{A:Around}{outer:List Env}{s:Shared}{H:Hp}{E E':XK}(hE:∀ cls H',E' cls none H'→E cls none H') :
  Passes (CXe P w) (cxOf (CXe P w) P w K mg base N qual scope f cd A outer s H E) E':=fun pins σ H1 s1 e s' I h=>by
 obtain ⟨ea,cls,H',B,a0,rfl,F,q⟩:=h
 exact fly_on I rfl rfl rfl F fun h' F'=>⟨ea,cls,H',B,a0,rfl,F',hE _ _ q⟩
theorem Fun.okx {x qual:Str}{st:Stmt}{f:Addr}{fd:FuncData}{N ps:List Str}{k:Nat}{sp:Sp}(F:Fun K x qual st f fd) (S:FnScope N ps (defScope st)) (len:∀ vs H Q E,sp vs H Q E→vs.length=ps.length)
  (hbody:∀ (cdv:Value) (A:Around) (outer:List Env) (s:Shared) (H:Hp) (vs:List V) (Q:VK) (E:XK),Room k (A.deeper (envOfC qual (defScope st) s.heap.objs.size f cdv))→sp vs H Q E →
   ∃ t,PSs (cxOf (CXe P w) P w K mg base N qual (defScope st) f cdv A outer s H E) (defBody st) t∧t { nx:=fun _ H'=>Q .non H',rt:=Q } (start N vs) H) : FnOk P w K mg base (CXe P w) (k + 1) f fd ps sp:=by
 obtain ⟨oc,od,kV,doc,pm,an,cdv,ct,osl,rfl,lk,hcd⟩:=F.ex
 refine fn_of lk hcd S len fun A outer s H vs Q E hr hsp=>?_
 exact hbody cdv A outer s H vs Q E hr hsp
end
structure Exc (K:PySem.W.Frag) (mg:Str→Option Value) (x:Str) (C:Addr) : Prop where
 at':mg x=some (.ref C)
 ex:PySem.W.excIn K C [.type "ValueError", .type "Exception", .type "BaseException", .type "object"] "ValueError.__new__" = true
theorem Exc.obj {K:PySem.W.Frag}{mg:Str→Option Value}{x:Str}{C:Addr}{h:Heap}(T:Exc K mg x C)(KX:K.In h) : OwnCls x C [.type "ValueError", .type "Exception", .type "BaseException", .type "object"] "ValueError.__new__" mg h:=by
 refine ⟨T.at',?_⟩
 have q:=T.ex
 unfold PySem.W.excIn at q
 split at q
 ·rename_i dd cd sl ho
  split at q
  ·rename_i CC bm k0 k1 k2 k3 nw k5 hm hs
   simp only [beq_iff_eq,Bool.and_eq_true,Bool.not_eq_true'] at q
   obtain ⟨⟨⟨⟨⟨r1,r2⟩,r3⟩,r4⟩,r5⟩,r6⟩:=q
   subst r1
   subst r2
   obtain ⟨nm,bs,mr,ns,qn,hd,sn,sub,ab,col,dl⟩:=cd
   dsimp only at hm r3 r5 r6
   subst hm
   subst r3
   have hsl:sl = #[k0,k1,k2,k3,some (.builtin "ValueError.__new__"),k5]:=by
    obtain ⟨l⟩:=sl
    simp only at hs
    rw [hs]
   subst hsl
   exact ⟨bm,ns,nm,qn,bs,hd,sn,sub,ab,col,dd,k0,k1,k2,k3,k5,_,KX _ _ ho,.of_isNs (PySem.W.isNs_of_in KX r5),PySem.W.nsMap_none_of_in KX r5 r6,PySem.W.tail_of_in KX r4⟩
  ·cases q
 ·cases q
def tRaise (t:TA)(C:Addr)(E:XK) : TS:=fun _ σ H=>t σ H fun vs H1=>vs.length≤sizeLine∧E (.ref C) none H1
section
variable {P:Program}{w:World}{K:PySem.W.Frag}{mg:Str→Option Value}{base:Heap}{N:List Str}{qual:Str}{scope:Scope}{f C:Addr}{cd:Value}{A:Around}{outer:List Env}{s₀:Shared}{H₀:Hp}{E:XK}{x:Str}{e:Expr}{es:List Expr}{t:TA}{np cpos pos:Pos}
theorem ps_raise (T:Exc K mg x C) (hg:Gl (cxOf (CXe P w) P w K mg base N qual scope f cd A outer s₀ H₀ E) x) (ha:PA (cxOf (CXe P w) P w K mg base N qual scope f cd A outer s₀ H₀ E) (e :: es) t) (hd:(x == ("__debug__" : Str))=false:=by decide)
  (he:starEach (e :: es) (envOfC qual scope s₀.heap.objs.size f cd)=(false,eval e (envOfC qual scope s₀.heap.objs.size f cd)) :: starEach es (envOfC qual scope s₀.heap.objs.size f cd):=by rfl)
  (hpl:(backTo cpos (starEach es (envOfC qual scope s₀.heap.objs.size f cd))).any (·.1)=false:=by rfl) :
  PS (cxOf (CXe P w) P w K mg base N qual scope f cd A outer s₀ H₀ E) (.Raise (some (.Call (.Name x np) (e :: es) [] cpos)) none pos) (tRaise t C E):=by
 intro pins s σ H D I h
 obtain ⟨tl,N',nm,q,bs,hdct,sn,sub,ab,col,dd,k0,k1,k2,k3,k5,mN,hC,hN,hni,TL⟩:=(T.obj I.ok.mod.kin).obj
 have hA:=ha cpos pins s σ H _ I h
 refine wpAny_Raise_call_subT (C:=C) (nm:=nm) (q:=q) (N:=N') (bs:=bs) (bm:=tl) (hdct:=hdct) (sn:=sn) (sub:=sub) (ab:=ab) (col:=col) (dd:=dd) (k0:=k0) (k1:=k1) (k2:=k2) (k3:=k3) (k5:=k5)
  PySem.F.excBase_ValueError (mN:=mN) (TL.hasType PySem.F.excBase_ValueError.hasBase) (I.ok.hd rfl) ?_ hni (ld_glob I hg T.at' ⟨rfl,?_⟩ hd)
 ·show (backTo cpos (starEach (e :: es) (envOfC qual scope s₀.heap.objs.size f cd))).any (·.1)=false
  rw [he]
  show (false || (backTo cpos (starEach es (envOfC qual scope s₀.heap.objs.size f cd))).any (·.1))=false
  rw [hpl]
  rfl
 ·have hA':wpAny (model P w) (A.deeper (envOfC qual scope s₀.heap.objs.size f cd)) (spliced (backTo cpos (starEach (e :: es) (envOfC qual scope s₀.heap.objs.size f cd)))) _ _ s:=hA
  show wpAny (model P w) (A.deeper (envOfC qual scope s₀.heap.objs.size f cd)) (evalArgs (.ref C) true (backTo cpos (starEach (e :: es) (envOfC qual scope s₀.heap.objs.size f cd))) []) _ _ s
  rw [he] at hA' ⊢
  refine Calls.evalArgs_plain (wpAny_mono hA' (fun us s1 hq=>?_) fun _ _ y=>y)
  obtain ⟨vs,H1,I1,r1,z,q1⟩:=hq
  refine ⟨rfl,by rw [← r1.length]; exact z,I1.bk _ _ hC,hN.keeps I1.bk,TL.keeps I1.bk,fun h' e' hm=>?_⟩
  exact made_fly I1 rfl rfl rfl hm fun h2 a0 F=>⟨e',.ref C,H1,_,a0,rfl,F,q1⟩
end
def PEx (X:Cx)(e:Expr)(tx:St→Hp→VK→(Value→Hp→Prop)→Prop) : Prop :=
 ∀ (pins:List (Addr × Obj)) (s:Shared) (σ:St) (H:Hp) (Q:VK) (Ex:Value→Hp→Prop),Inv X pins σ H s→tx σ H Q Ex →
  wpAny (model X.prog X.w) X.A (eval e X.env) (EP X pins σ Q) (fun ev s'=>∃ H1 s1,Inv X pins σ H1 s1∧CXe X.prog X.w X.stack H1 s1 (fun cls _ H'=>Ex cls H') ev s') s
section
variable {X:Cx}{k:Nat}{f C:Addr}{fd:FuncData}{ps:List Str}{sp:Sp}{dvs:List V}{ds:List Value}{x m:Str}{p pos apos:Pos}{e o:Expr}{es:List Expr}{ta:TE}{t:TA}
theorem pex_call (F:FnOk X.prog X.w X.K X.mg X.base (CXe X.prog X.w) k f fd ps sp) (hr:Room k X.A) (hg:Gl X x) (hm:X.mg x=some (.ref f)) (hk:PySem.W.keepIn X.K (.ref f)=true) (hb:Binds X.K fd ps ds) (hd:Vals dvs ds)
  (ha:PA X.nox (e :: es) t) (hdb:(x == ("__debug__" : Str))=false:=by decide) (he:starEach (e :: es) X.env=(false,eval e X.env) :: starEach es X.env:=by rfl) (hpl:(backTo pos (starEach es X.env)).any (·.1)=false:=by rfl) :
  PEx X (.Call (.Name x p) (e :: es) [] pos) (fun σ H Q Ex=>t σ H fun vs H1=>sp (vs ++ dvs) H1 Q (fun cls _ H'=>Ex cls H')):=by
 intro pins s σ H Q Ex I h
 refine wpAny_Call_Name_kw (ld_glob I hg hm ?_ hdb)
 refine PySem.W.callWith_K (h₀:=X.base) I.ok.mod.kin hk (wpAny_mono (ha pos pins s σ H _ (I.wish _) h) (fun us s1 hq=>?_) fun _ _ z=>False.elim z) he hpl
 obtain ⟨vs,H1,I1,r,q⟩:=hq
 have I1':Inv X pins σ H1 s1:=I1.unwish
 refine ⟨I1'.kIn,?_⟩
 have r2:Vals (vs ++ dvs) (us ++ ds):=r.append hd
 have hl:(us ++ ds).length=ps.length:=by rw [← r2.length]; exact F.len _ _ _ _ q
 refine wpAny_call (codeAny_mono (F.run X.A X.stack s1 H1 ⟨us,[]⟩ (us ++ ds) (vs ++ dvs) Q _ hr I1'.env0 (hb s1 us I1'.kIn hl) r2 q) fun r s' hq=>?_)
 cases r with
 | error e=>exact ⟨H1,s1,I1',hq⟩
 | ok fl =>
  cases fl with
  | ret u=>exact I1'.after hq
  | next=>exact False.elim hq
  | brk=>exact False.elim hq
  | cont=>exact False.elim hq
end
abbrev Cx.inExc (X:Cx) (ea:Addr) : Cx:={ X with A:=X.A.mark (some (.ref ea)),calm:=false }
theorem Inv.inExc {X:Cx}{pins:List (Addr × Obj)}{σ:St}{H:Hp}{s:Shared}(I:Inv X pins σ H s)(ea:Addr) : Inv (X.inExc ea) pins σ H s :=
 ⟨⟨I.ok.mod,I.ok.kind,I.ok.glob,I.ok.blt,I.ok.above,I.ok.inj,I.ok.has,I.ok.cab,(fun z=>Bool.noConfusion z),I.ok.frames,I.ok.stk,I.ok.exf,I.ok.bs,I.ok.bsz,I.ok.noex,I.ok.exfs,I.ok.funs,I.ok.frf⟩,I.os,I.bare,I.base,I.loc,I.cell,I.free,I.freeC,I.pin,I.hok,I.len⟩
theorem Inv.outExc {X:Cx}{pins:List (Addr × Obj)}{σ:St}{H:Hp}{s:Shared}{ea:Addr}(ok:X.Ok)(I:Inv (X.inExc ea) pins σ H s) : Inv X pins σ H s :=
 ⟨ok,I.os,I.bare,I.base,I.loc,I.cell,I.free,I.freeC,I.pin,I.hok,I.len⟩
abbrev exO (ea:Addr) (cls:Value) : HO:=.ext fun h=>∃ (o:Obj) (vs:Array Value),h.get? ea=some o∧o.cls=cls∧o.data = .fields vs
def tTryAs (K:PySem.W.Frag)(tx:St→Hp→VK→(Value→Hp→Prop)→Prop)(C:Addr)(i:Nat)(tb:Addr→TS) : TS:=fun D σ H=>tx σ H (fun _ H1=>D.nx σ H1) fun cls H1 =>
 PySem.W.exmOne K cls (.ref C)=some true∧∀ ea,H1 ea=none→tb ea { nx:=fun _ _=>False,rt:=D.rt } (σ.set i (some (.ref ea))) (upd H1 ea (exO ea cls))
theorem ps_tryAs {X:Cx}{call:Expr}{tx:St→Hp→VK→(Value→Hp→Prop)→Prop}{cn n:Str}{C:Addr}{i:Nat}{b₀:Stmt}{suite:List Stmt}{tb:Addr→TS}{np epos hpos tpos:Pos}(hx:PEx X call tx) (hst:X.stack=X.env :: X.outer) (hf:X.env.frame=some X.env.locals)
  (hg:Gl X cn) (hm:X.mg cn=some (.ref C)) (hN:X.N.Nodup) (hi:X.N[i]? = some n) (hl:X.env.scope.names.lookup n=some .local) (hb:∀ ea,PSs (X.inExc ea).nox (b₀ :: suite) (tb ea))
  (hs:swapsWith call none epos.line X.env=pure false:=by rfl) (hd:(cn == ("__debug__" : Str))=false:=by decide) :
  PS X (.Try [.Expr call epos] [.ExceptHandler (some (.Name cn np)) (some n) (b₀ :: suite) hpos] [] [] tpos) (tTryAs X.K tx C i tb):=by
 intro pins s σ H D I h
 refine wpAny_Try_except (wpAny_execs_cons (wpAny_Expr_any (wpAny_mono (hx pins s σ H _ _ I h) (fun v s1 hq=>?_) fun ev s1 hq=>?_) I.quiet hs))
 ·obtain ⟨v',H1,I1,r1,q1⟩:=hq
  exact wpAny_execs_nil (wpAny_execs_nil ⟨σ,H1,I1,q1⟩)
 obtain ⟨H1,s0,I1,ea,cls,H',B,a0,rfl,F,hcls,hbody⟩:=hq
 have hfr:X.A.frames=some (X.env :: X.outer):=by rw [I.ok.frames,hst]
 have hfly:Heap.FlyingW B (X.env :: X.outer) ea cls a0 s1.heap:=by have z:=F.fly; rw [hst] at z; exact z
 refine wpAny_looks_onW hfr hf hfly fun h4 x1 x2=>wpAny_landsW x1 fun h5 y1 y2=>?_
 have m5:=F.move y1.1 (x2.trans y2)
 have I5:Inv X pins σ H' { s1 with heap:=h5 }:=I1.call' (s':={ s1 with heap:=h5 }) F.os m5.1 m5.2 F.bare fun b z=>by cases z
 have I5e:=I5.inExc ea
 refine wpAny_handleBy_cons (codeAny_handlers_test (ld_glob (X:=X.inExc ea) I5e hg hm ?_ hd)) (by intro q; cases q)
 obtain ⟨ob,hob,hobc⟩:=Heap.FlyingW.there y1
 have LT:PySem.W.Looks (model X.prog X.w) h5 (typeOf (.ref ea)) cls:=hobc ▸ (PySem.W.Looks.ld hob).andThen .now
 refine (PySem.W.exm_one I5.kIn LT hcls).here ?_
 show codeAny _ _ _ _ _
 refine codeAny_handlers_suite_as (lands_againW y1 fun h6 z1 z2=>?_)
 have m6:=F.move z1.1 ((x2.trans y2).trans z2)
 obtain ⟨oe,ws,hoe,hoec,hoed,_⟩:=z1.first
 have fr:=F.fresh
 have old:∀ b o,s0.heap.get? b=some o→b ≠ ea:=fun b o e z=>by rw [z,F.new] at e; cases e
 have ne':∀ b u,H' b=some u→b ≠ ea:=fun b u e z=>by rw [z,fr] at e; cases e
 have u6:Un (frs X.stack) [] H1 (upd H' ea (exO ea cls)) s0.heap h6:=by
  refine ⟨m6.1.keep,m6.1.slot,fun b o e n hx=>?_,m6.1.there,fun b xs e=>?_,fun b o u e=>?_,fun b ps e=>?_⟩
  ·rw [upd_ne (old b o e)]; exact m6.1.free b o e n hx
  ·have q:=m6.1.tups b xs e
   rw [upd_ne (ne' b _ q)]; exact q
  ·have q:=m6.1.frzs b o u e
   rw [upd_ne (ne' b _ q)]; exact q
  ·obtain ⟨m,q⟩:=m6.1.tbls b ps e
   exact ⟨m,by rw [upd_ne (ne' b _ q)]; exact q⟩
 have k6:HOk X.prog X.w (upd H' ea (exO ea cls)) h6:=fun a u e=>by
  by_cases ha:a=ea
  ·subst ha
   rw [upd_same] at e
   cases e
   exact ⟨⟨oe,ws,hoe,hoec,hoed⟩,⟨oe,hoe⟩,fun h1 h2 ⟨o,vs,p1,p2,p3⟩ k=>⟨o,vs,k o p1,p2,p3⟩⟩
  ·rw [upd_ne ha] at e
   refine (m6.2 a u e).stay (fun _ _ _ q=>q) (fun b q=>?_) fun b xs q=>?_
   ·rw [upd_ne (ne' b _ q)]; exact q
   ·rw [upd_ne (ne' b _ q)]; exact q
 have I6:Inv X pins σ (upd H' ea (exO ea cls)) { s1 with heap:=h6 }:=I1.call' (s':={ s1 with heap:=h6 }) F.os u6 k6 F.bare fun b z=>by cases z
 refine store_ok (X:=X.inExc ea) (v:=.ref ea) (I6.inExc ea) hN hi (.inl hl) rfl (fun s7 I7=>?_) (.inr hl)
 refine wpAny_mono (hb ea pins s7 _ _ _ (I7.wish _) (hbody ea fr)) (fun fl s8 q8=>?_) fun _ _ z=>False.elim z
 cases fl with
 | next=>obtain ⟨_,_,_,z⟩:=q8; exact False.elim z
 | brk=>obtain ⟨_,_,_,z⟩:=q8; exact False.elim z
 | cont=>obtain ⟨_,_,_,z⟩:=q8; exact False.elim z
 | ret u =>
  obtain ⟨v8,σ8,H8,I8,r8,q8⟩:=q8
  have I8':Inv X pins σ8 H8 s8:=Inv.outExc I.ok I8.unwish
  obtain ⟨m8,n8,_⟩:=I8'.loc
  have hcls8:(X.env.scope.kind == .class || (X.env.scope.kind == .module && X.env.locals != X.env.globals))=false:=by rw [I.ok.kind]; rfl
  show wpAny (model X.prog X.w) X.A (do bindName X.env n .none; unbindBehindTheSuite X.env n hpos) (fun _ s₃=>SP X pins D (.ret u) s₃) X.xe s8
  refine wpAny_nameGoes hl n8 hcls8 fun h9 m9 n9 sb=>?_
  refine ⟨v8,σ8.map (fun _=>none),H8,?_,r8,q8⟩
  have tracked:HOk X.prog X.w H8 h9:=fun b ob e=>by
   refine (I8'.hok b ob e).stay (fun c w' hc q=>(sb.2 c ?_).trans q) (fun _ q=>q) fun _ _ q=>q
   rintro rfl
   rcases hc with rfl | hc
   ·rw [I8'.free] at e; cases e
   ·rw [I8'.free] at hc; cases hc
  refine ⟨I8'.ok,I8'.os,I8'.bare,⟨fun b o e n hb hx=>?_,fun b o e n hb hx=>?_,I8'.base.free,fun b o e hx=>?_,I8'.base.tups,I8'.base.frzs,I8'.base.tbls⟩,⟨_,n9,fun j y v' e1 e2 e3=>?_⟩,fun y c e=>?_,I8'.free,I8'.freeC,fun p hp=>?_,tracked,by rw [List.length_map]; exact I8'.len⟩
  ·exact (sb.2 b (Nat.ne_of_lt (Nat.lt_of_lt_of_le (Heap.lt_size e) I8'.ok.above))).trans (I8'.base.keep b o e n hb hx)
  ·obtain ⟨sl,e1⟩:=I8'.base.slot b o e n hb hx
   exact ⟨sl,(sb.2 b (Nat.ne_of_lt (Nat.lt_of_lt_of_le (Heap.lt_size e) I8'.ok.above))).trans e1⟩
  ·obtain ⟨o',e1⟩:=I8'.base.there b o e hx
   exact ⟨o',(sb.2 b (Nat.ne_of_lt (Nat.lt_of_lt_of_le (Heap.lt_size e) I8'.ok.above))).trans e1⟩
  ·rw [List.getElem?_map] at e2
   cases q:σ8[j]? with
   | none=>rw [q] at e2; cases e2
   | some z=>rw [q] at e2; cases e2
  ·obtain ⟨w',z⟩:=I8'.cell y c e
   exact ⟨w',z.sameBut sb (I8'.cne y c e)⟩
  ·obtain ⟨e,n,ne,nf,d⟩:=I8'.pin p hp
   exact ⟨(sb.2 p.1 ne).trans e,n,ne,nf,d⟩
end L2
namespace L2
open PySem PySem.Spec PyProof.Rows
structure ExcI (K:PySem.W.Frag) (C:Addr) : Prop where
 ga:PySem.W.findIn K (.ref C) "__getattribute__" = some (some (.builtin "BaseException.__getattribute__"))
 gt:PySem.W.findIn K (.ref C) "__getattr__" = some none
 cl:PySem.W.findIn K (.ref C) "__class__" = some (some (.builtin "object.__class__"))
 mb:PySem.W.mroIn K C (.type "BaseException")=some true
 mo:PySem.W.mroIn K C (.type "object")=some true
section
variable {prog:Program}{w:World}{A:Around}{E:Value→Shared→Prop}{h:Heap}{g:Array GenState}{d:Drawn}{t:Nat}{os:OsState}{a C:Addr}{o:Obj}{vs:Array Value}{K:PySem.W.Frag}
theorem exc_get {R:Result→Shared→Prop}(KX:K.In h) (T:ExcI K C) (hx:h.get? a=some o) (hc:o.cls = .ref C) (hq:R (.ok (.ret (.ref C))) ⟨h,g,d,t,os⟩) :
  codeAny (model prog w) A (.call (.builtin "getset_descriptor.__get__") ⟨[.builtin "object.__class__", .ref a,.ref C],[]⟩) R ⟨h,g,d,t,os⟩:=by
 have g1:(⟨h,g,d,t,os⟩ : Shared).TypeIs (.builtin "object.__class__") "getset_descriptor" := F.typeOf_object_class
 have LO:=PySem.W.looks_mroIn (M:=model prog w) KX T.mo
 rw [← F.owner_object_class] at LO
 refine codeAny_call_builtin F.slot_gs_get.plain F.entry_gs_get (F.slot_gs_get.check _ _ _ _ _ _ _ _ g1 (F.args_gs_get _ _ _) ?_)
 repeat (any_goals (first | assumption | (with_reducible refine wpAny_loadPart_at hx ?_; rw [hc]) | (with_reducible refine PySem.W.Looks.at LO ?_) | wp_step))
 refine And.intro (Code.quiet_builtin _ (by decide +kernel)) (codeAny_builtin F.entry_object_class ?_)
 repeat (any_goals (first | assumption | (with_reducible refine wpAny_loadPart_at hx ?_; rw [hc]) | wp_step))
theorem exc_entry {tk:Tok}{Q:Fin→Shared→Prop}(KX:K.In h) (T:ExcI K C) (hx:h.get? a=some o) (hc:o.cls = .ref C) (hq:Q (.done (.ret (.ref C))) ⟨h,g,d,t,os⟩) :
  wpAny (model prog w) A (Builtin.«object.__getattribute__» (⟨[.ref a,.str "__class__" tk],[]⟩ : Args)) Q E ⟨h,g,d,t,os⟩:=by
 have g1:(⟨h,g,d,t,os⟩ : Shared).TypeIs (.builtin "object.__class__") "getset_descriptor" := F.typeOf_object_class
 have g2:=F.typeOf_object_class
 have g3:=F.slot_gs_get.lookup
 have g4:=F.slot_gs_set.lookup
 have L1:=PySem.W.looks_findIn (M:=model prog w) KX T.cl
 repeat (any_goals (first | assumption | (with_reducible refine wpAny_loadPart_at hx ?_; rw [hc]) | (with_reducible refine PySem.W.Looks.at L1 ?_) | wp_step))
 refine exc_get KX T hx hc ?_
 repeat (any_goals (first | assumption | (with_reducible refine PySem.W.Looks.at L1 ?_) | wp_step))
theorem exc_check {M:Model}{nameV:Value}{Q:Unit→Shared→Prop}(KX:K.In h) (T:ExcI K C) (hx:h.get? a=some o) (hc:o.cls = .ref C) (hq:Q () ⟨h,g,d,t,os⟩) :
  wpAny M A (checkBuiltinCall "BaseException.__getattribute__" ⟨[.ref a,nameV],[]⟩) Q E ⟨h,g,d,t,os⟩:=by
 have k1:builtinKind "BaseException.__getattribute__" = some .slot:=by decide +kernel
 have k2:splitId "BaseException.__getattribute__" = some ("BaseException", "__getattribute__"):=by decide +kernel
 have k3:=F.args_bexc_ga (.ref a) nameV
 have LB:=PySem.W.looks_mroIn (M:=M) KX T.mb
 simp only [checkBuiltinCall,k1,k2]
 refine wpAny_bind ?_
 unfold isInstance
 repeat (first | (with_reducible refine wpAny_loadPart_at hx ?_; rw [hc]) | (with_reducible refine PySem.W.Looks.at LB ?_) | wp_step)
 exact hq
theorem exc_call {tk:Tok}{R:Result→Shared→Prop}(KX:K.In h) (T:ExcI K C) (hx:h.get? a=some o) (hc:o.cls = .ref C) (hq:R (.ok (.ret (.ref C))) ⟨h,g,d,t,os⟩) :
  codeAny (model prog w) A (.call (.builtin "BaseException.__getattribute__") ⟨[.ref a,.str "__class__" tk],[]⟩) R ⟨h,g,d,t,os⟩ :=
 codeAny_call_builtin PySem.F.attrBase_ValueError.ga.plain F.entry_bexc_ga (exc_check KX T hx hc (exc_entry KX T hx hc hq))
theorem exc_by {tk:Tok}{fill expr:Bool}{Q:Value→Shared→Prop}(KX:K.In h) (T:ExcI K C) (hx:h.get? a=some o) (hc:o.cls = .ref C) (hq:Q (.ref C) ⟨h,g,d,t,os⟩) :
  wpAny (model prog w) A (getAttrBy (.ref a) (.str "__class__" tk) fill expr) Q E ⟨h,g,d,t,os⟩:=by
 have f3:=PySem.F.attrBase_ValueError.ga.bind (.ref a)
 have x0:(expr && onTheHeap (Value.builtin "BaseException.__getattribute__"))=false:=by cases expr <;> rfl
 have x2:(Value.builtin "BaseException.__getattribute__" == Value.builtin "object.__getattribute__")=false:=by decide +kernel
 have x1:(onTheHeap (Value.ref C) && Value.builtin "BaseException.__getattribute__" == Value.builtin "object.__getattribute__")=false:=by rw [x2]; rfl
 have L1:=PySem.W.looks_findIn (M:=model prog w) KX T.ga
 have L2:=PySem.W.looks_findIn (M:=model prog w) KX T.gt
 repeat (any_goals (first | assumption | (with_reducible refine wpAny_loadPart_at hx ?_; rw [hc]) | (with_reducible refine PySem.W.Looks.at L1 ?_) | (with_reducible refine PySem.W.Looks.at L2 ?_) | wp_step))
 refine exc_call KX T hx hc ?_
 repeat (any_goals (first | assumption | (with_reducible refine PySem.W.Looks.at L2 ?_) | wp_step))
theorem exc_attr {Q:Option Value→Shared→Prop}(KX:K.In h)(T:ExcI K C)(hx:h.get? a=some o)(hc:o.cls = .ref C)(hq:Q (some (.ref C)) ⟨h,g,d,t + 1,os⟩) : wpAny (model prog w) A (getAttr? (.ref a) "__class__") Q E ⟨h,g,d,t,os⟩:=by
 unfold getAttr? getAttrBy?
 repeat (any_goals (first | assumption | (with_reducible apply exc_by KX T hx hc) | wp_step))
end
theorem kitx_exc {K:PySem.W.Frag}{a C:Addr}(T:ExcI K C) : PySem.W.KitX K (.ref a) (.ref C) (fun h=>∃ o,h.get? a=some o∧o.cls = .ref C) where
 ty:=fun _ _ _ p=>by obtain ⟨o,p1,p2⟩:=p; exact p2 ▸ (PySem.W.Looks.ld p1).andThen .now
 it:=fun _ h X _=>by
  obtain ⟨cd,e,_⟩:=Option.bind_eq_some_iff.mp T.mo
  unfold PySem.W.clsIn at e
  split at e
  ·rename_i c0 d0 cd0 sl0 ho
   intro A' Q' E' s' k q
   unfold isType loadHead
   refine wpAny_bind (wpAny_loadPart (k _ _ (X _ _ ho)) ?_); exact wpAny_pure q
  ·cases e
 ne:=fun hh tp dd its n sl X htp=>by
  obtain ⟨cd,e,_⟩:=Option.bind_eq_some_iff.mp T.mo
  refine Bool.eq_false_iff.mpr fun q2=>?_
  have e2:C=tp:=Value.ref.inj (beq_iff_eq.mp q2)
  subst e2
  unfold PySem.W.clsIn at e
  split at e
  ·rename_i c0 d0 cd0 sl0 ho
   have zz:=(X _ _ ho).symm.trans htp
   cases zz
  ·cases e
 ca:=fun {prog w A E Q s} X p k=>by
  obtain ⟨o,p1,p2⟩:=p
  obtain ⟨h0,g0,d0,t0,os0⟩:=s
  exact exc_attr X T p1 p2 k
section
variable {X:Cx}
theorem call_isiE:CallR X (.builtin "isinstance") (fun xs H Q=>∃ ea D c b,xs = [.ref ea,c]∧H ea=some (exO ea (.ref D))∧ExcI X.K D∧(∀ u,RelV c u→PySem.W.kitOne X.K (.ref D) u=some b)∧Q (.bl b) H):=by
 intro pins s σ H xs us Q I r h
 obtain ⟨ea,D,c,b,rfl,he,T,e,q⟩:=h
 obtain ⟨u,w',rfl,r1,r2⟩:=vals2 r
 cases r1
 obtain ⟨⟨o,vs,p1,p2,_⟩,_⟩:=I.hok ea _ he
 exact PySem.W.kia_one (kitx_exc T) I.kIn ⟨o,p1,p2⟩ (e w' r2) (fun z=>nomatch z) fun tk=>⟨.bl b,H,I.tok tk,rfl,q⟩
end
end L2
namespace L2
open PySem PySem.Spec PyProof.Rows
def clOf (cells:List (Str × Addr)) : List (Str × NameKind)→List (Str × Addr)→List (Str × Addr)
 | [],acc=>acc
 | (n,k) :: r,acc=>if k == .free then (match cells.lookup n with | some c=>clOf cells r ((n,c) :: acc) | none=>clOf cells r acc) else clOf cells r acc
theorem clOf_sub {cells:List (Str × Addr)} : ∀ {names:List (Str × NameKind)}{acc:List (Str × Addr)},(∀ x c,acc.lookup x=some c→cells.lookup x=some c)→∀ x c,(clOf cells names acc).lookup x=some c→cells.lookup x=some c
 | [],_,h=>h
 | (n,k) :: r,acc,h=>by
  intro x c
  unfold clOf
  split
  ·split
   ·rename_i c' hc
    refine clOf_sub (names:=r) (fun y d hy=>?_) x c
    rw [List.lookup_cons] at hy
    by_cases e:y == n
    ·rw [e] at hy
     cases hy
     rw [beq_iff_eq.mp e]
     exact hc
    ·rw [Bool.eq_false_iff.mpr e] at hy
     exact h y d hy
   ·exact clOf_sub (names:=r) h x c
  ·exact clOf_sub (names:=r) h x c
theorem clOf_mono {cells:List (Str × Addr)} : ∀ {names:List (Str × NameKind)}{acc:List (Str × Addr)}{x:Str},(∃ c,acc.lookup x=some c)→∃ c,(clOf cells names acc).lookup x=some c
 | [],_,_,h=>h
 | (n,k) :: r,acc,x,h=>by
  unfold clOf
  split
  ·split
   ·refine clOf_mono (names:=r) ?_
    rw [List.lookup_cons]
    by_cases e:x == n
    ·rw [e]; exact ⟨_,rfl⟩
    ·rw [Bool.eq_false_iff.mpr e]; exact h
   ·exact clOf_mono (names:=r) h
  ·exact clOf_mono (names:=r) h
theorem clOf_has {cells:List (Str × Addr)} : ∀ {names:List (Str × NameKind)}{acc:List (Str × Addr)}{x:Str},(x,NameKind.free)∈names→(∃ c,cells.lookup x=some c)→∃ c,(clOf cells names acc).lookup x=some c
 | [],_,_,h,_=>by cases h
 | (n,k) :: r,acc,x,h,hc=>by
  unfold clOf
  rcases List.mem_cons.mp h with e | e
  ·cases e
   obtain ⟨c,hc⟩:=hc
   rw [hc]
   refine clOf_mono (names:=r) ⟨c,?_⟩
   rw [List.lookup_cons,beq_self_eq_true]
  ·split
   ·split
    ·exact clOf_has (names:=r) e hc
    ·exact clOf_has (names:=r) e hc
   ·exact clOf_has (names:=r) e hc
theorem closureFor_eq {scope:Scope}{env:Env}(h:∀ y∈scope.names,y.2 = .free→∃ c,env.cells.lookup y.1=some c) : closureFor scope env=pure (clOf env.cells scope.names []):=by
 have gen:∀ (names:List (Str × NameKind)) (acc:List (Str × Addr)),(∀ y∈names,y.2 = .free→∃ c,env.cells.lookup y.1=some c) →
   (forIn names acc fun (x:Str × NameKind) r=>(if x.2 == NameKind.free then do let c ← cellOf env x.1; pure (ForInStep.yield ((x.1,c) :: r)) else pure (ForInStep.yield r) : Sem (ForInStep (List (Str × Addr)))))=pure (clOf env.cells names acc):=by
  intro names
  induction names with
  | nil=>intro acc _; rfl
  | cons y r ih =>
   intro acc h
   obtain ⟨n,k⟩:=y
   have hr:∀ y∈r,y.2 = .free→∃ c,env.cells.lookup y.1=some c:=fun y hy=>h y (List.mem_cons_of_mem _ hy)
   rw [List.forIn_cons]
   unfold clOf
   by_cases e:(k == NameKind.free)=true
   ·obtain ⟨c,hc⟩:=h (n,k) List.mem_cons_self (by simpa using e)
    rw [if_pos e,hc]
    have hcell:cellOf env n=pure c:=by
     unfold cellOf
     rw [show env.cells.lookup n=some c from hc]
    simp only [if_pos e,hcell,pure_bind]
    exact ih _ hr
   ·rw [if_neg e]
    simp only [if_neg e,pure_bind]
    exact ih _ hr
 unfold closureFor
 have g:=gen scope.names [] h
 simp only [bind_pure]
 exact g
end L2
namespace L2
open PySem PySem.Spec PyProof.Rows
def rlb (env:Env)(names:List (Str × NameKind)) : List (Str × NameKind):=names.map fun (n,k)=>if (k == NameKind.free && env.scope.kind == .function && env.kindOf n == some .cell) then (n,NameKind.cell) else (n,k)
theorem rlb_lookup {env:Env} : ∀ {names:List (Str × NameKind)}{x:Str},(rlb env names).lookup x=(names.lookup x).map fun k=>if (k == NameKind.free && env.scope.kind == .function && env.kindOf x == some .cell) then NameKind.cell else k
 | [],_=>rfl
 | (n,k) :: r,x=>by
  have ih := @rlb_lookup env r x
  show List.lookup x ((if (k == NameKind.free && env.scope.kind == .function && env.kindOf n == some .cell)=true then (n,NameKind.cell) else (n,k)) :: rlb env r)=_
  rw [List.lookup_cons]
  cases hx:x == n with
  | true =>
   have e:=beq_iff_eq.mp hx
   subst e
   by_cases hc:(k == NameKind.free && env.scope.kind == .function && env.kindOf x == some .cell)=true
   ·rw [if_pos hc,List.lookup_cons,beq_self_eq_true]
    show _=some (if (k == NameKind.free && env.scope.kind == .function && env.kindOf x == some .cell)=true then NameKind.cell else k)
    rw [if_pos hc]
   ·rw [if_neg hc,List.lookup_cons,beq_self_eq_true]
    show _=some (if (k == NameKind.free && env.scope.kind == .function && env.kindOf x == some .cell)=true then NameKind.cell else k)
    rw [if_neg hc]
  | false =>
   by_cases hcond:(k == NameKind.free && env.scope.kind == .function && env.kindOf n == some .cell)=true
   ·rw [if_pos hcond,List.lookup_cons,hx]; exact ih
   ·rw [if_neg hcond,List.lookup_cons,hx]; exact ih
theorem mem_of_look {names:List (Str × NameKind)}{x:Str}{k:NameKind}(h:names.lookup x=some k) : (x,k)∈names:=PySem.mem_of_lookup h
def lcN (X:Cx)(ts:List Str)(js:List Nat) : List Str:=ts ++ js.map fun j=>X.N.getD j ""
def lcS (ts:List Str)(js:List Nat)(σ:St) : St:=ts.map (fun _=>none) ++ js.map fun j=>(σ[j]?).join
abbrev Cx.lc (X:Cx) (scope:Scope) (ts:List Str) (js:List Nat) (C:Addr) (s2:Shared) (H2:Hp) (fp:List Addr) : Cx :=
 { X with N:=lcN X ts js,s₀:=s2,H₀:=H2,env:=compEnvC scope (clOf X.env.cells scope.names []) C X.env,outer:=X.stack,ex:=fp,fn:=fun _=>false,pn:=[],xe:=fun _ _=>False }
structure LcOk (X:Cx) (scope:Scope) (js:List Nat) : Prop where
 kind:scope.kind = .function
 cell:∀ y∈scope.names,y.2 ≠ .cell
 names:∀ y∈scope.names,y.2 = .local→scope.names.lookup y.1=some .local
 free:∀ y∈scope.names,y.2 = .free→X.env.kindOf y.1=some .cell∨X.env.kindOf y.1=some .free
 cap:∀ j∈js,scope.names.lookup (X.N.getD j "")=some .free
section
variable {X:Cx}{scope:Scope}{ts:List Str}{js:List Nat}{pins:List (Addr × Obj)}{σ:St}{H H':Hp}{s:Shared}{h':Heap}
theorem lc_start {C:Addr}{fp:List Addr}{t':Nat}(L:LcOk X scope js) (I:Inv X pins σ H s) (hC:s.heap.objs.size≤C) (hns:h'.Ns C fun _=>none) (kept:∀ b o,s.heap.get? b=some o→h'.get? b=some o)
  (hfp:∀ b∈fp,FpOk X pins H b) (hob:∀ b∈fp,∃ o,s.heap.get? b=some o) : Inv (X.lc scope ts js C s H fp) [] (lcS ts js σ) H { s with heap:=h',toks:=t' }:=by
 have sub:∀ x c,(clOf X.env.cells scope.names []).lookup x=some c→X.env.cells.lookup x=some c:=clOf_sub (names:=scope.names) (acc:=[]) (fun _ _ z=>by cases z)
 have hasc:∀ x,scope.names.lookup x=some .free→∃ c,(clOf X.env.cells scope.names []).lookup x=some c:=fun x hx =>
  clOf_has (mem_of_look hx) (I.ok.has x (L.free _ (mem_of_look hx) rfl))
 have kinds:∀ x,(compEnvC scope (clOf X.env.cells scope.names []) C X.env).kindOf x=(scope.names.lookup x).map fun k=>if (k == NameKind.free && X.env.scope.kind == .function && X.env.kindOf x == some .cell) then NameKind.cell else k:=fun x=>rlb_lookup
 have ltC:∀ b o,s.heap.get? b=some o→b ≠ C:=fun b o e=>Nat.ne_of_lt (Nat.lt_of_lt_of_le (Heap.lt_size e) hC)
 have fromFree:∀ x,((compEnvC scope (clOf X.env.cells scope.names []) C X.env).kindOf x=some .cell∨(compEnvC scope (clOf X.env.cells scope.names []) C X.env).kindOf x=some .free)→scope.names.lookup x=some .free:=fun x hx=>by
  rw [kinds] at hx
  cases q:scope.names.lookup x with
  | none=>rw [q] at hx; rcases hx with z | z <;> cases z
  | some k =>
   rw [q] at hx
   have hk:k ≠ .cell:=L.cell _ (mem_of_look q)
   cases k with
   | free=>rfl
   | cell=>exact absurd rfl hk
   | _=>rcases hx with z | z <;> cases z
 refine ⟨⟨I.ok.mod,L.kind,I.ok.glob,I.ok.blt,hC,fun x y c h1 h2=>I.ok.inj x y c (sub x c h1) (sub y c h2),fun x hx=>hasc x (fromFree x hx),fun _ _ z=>Bool.noConfusion z,I.ok.hd,I.ok.frames,.inl rfl,fun b hb=>?_,I.bs,Nat.le_trans I.ok.bsz I.sz,fun b o e hb=>?_,fun b hb z=>?_,I.stack,I.stkFree⟩,
  rfl,I.bare,Un.kept kept,⟨_,hns,fun i x v h1 h2 h3=>?_⟩,fun x c e=>?_,I.hok.fresh hC,fun x c e=>I.freeC x c (sub x c e),fun p hp=>absurd (show p∈([] : List (Addr × Obj)) from hp) (by simp),I.hok.kept kept,?_⟩
 ·obtain ⟨o,e⟩:=hob b hb
  exact ⟨ltC b o e,fun x c q=>(hfp b hb).2.2.2.2.1 x c (sub x c q)⟩
 ·rcases (hfp b hb).2.2.2.1 with z | z
  ·exact I.ok.noex b o e z
  ·exact absurd (Nat.lt_of_lt_of_le (Heap.lt_size e) (Nat.le_trans I.ok.bsz z)) (Nat.lt_irrefl _)
 ·exact (List.mem_cons.mp (I.stkSub b z)).elim (hfp b hb).2.1 (hfp b hb).2.2.1
 ·have hi:¬ i < ts.length:=fun hi=>by
   have h2':(lcS ts js σ)[i]? = some (some v):=h2
   unfold lcS at h2'
   rw [List.getElem?_append_left (by simpa using hi),List.getElem?_map,List.getElem?_eq_getElem hi] at h2'
   cases h2'
  have h2':(lcS ts js σ)[i]? = some (some v):=h2
  have h1':(lcN X ts js)[i]? = some x:=h1
  unfold lcS at h2'
  unfold lcN at h1'
  rw [List.getElem?_append_right (by simpa using hi),List.getElem?_map,List.length_map] at h2'
  rw [List.getElem?_append_right (by omega),List.getElem?_map] at h1'
  cases q:js[i - ts.length]? with
  | none=>rw [q] at h1'; cases h1'
  | some j =>
   rw [q] at h1' h2'
   have e1:X.N.getD j "" = x:=Option.some.inj h1'
   have e2:(σ[j]?).join=some v:=Option.some.inj h2'
   have e3:σ[j]? = some (some v):=by
    cases z:σ[j]? with
    | none=>rw [z] at e2; cases e2
    | some o=>rw [z] at e2; exact congrArg some e2
   have hj:j < X.N.length:=by rw [← I.len]; exact (List.getElem?_eq_some_iff.mp e3).1
   have e4:X.N[j]? = some x:=by
    rw [List.getElem?_eq_getElem hj,← e1,List.getD_eq_getElem?_getD,List.getElem?_eq_getElem hj]; rfl
   have hf:=L.cap j (List.mem_of_getElem? q)
   rw [e1] at hf
   have hk:=L.free _ (mem_of_look hf) rfl
   obtain ⟨m,hn,hl⟩:=I.loc
   have vis:Vis X.env.scope x:=by
    rcases hk with z | z
    ·exact .inr (.inl z)
    ·exact .inr (.inr z)
   obtain ⟨u,r,l⟩:=hl j x v e4 e3 vis
   refine ⟨u,r,?_⟩
   rcases l with ⟨z,_⟩ | ⟨_,c,hc,hcell⟩
   ·have z':X.env.kindOf x=some .local:=z
    rcases hk with k | k
    ·rw [z'] at k; cases k
    ·rw [z'] at k; cases k
   ·obtain ⟨c',hc'⟩:=hasc x hf
    have e5:=sub x c' hc'
    rw [hc] at e5
    cases e5
    refine .inr ⟨?_,c,hc',?_⟩
    ·rw [kinds,hf]
     by_cases z:((NameKind.free == NameKind.free) && X.env.scope.kind == .function && X.env.kindOf x == some .cell)=true
     ·left; simp only [Option.map_some,if_pos z]
     ·right; simp only [Option.map_some,if_neg z]
    ·obtain ⟨o,ho,hd⟩:=hcell
     exact ⟨o,kept c o ho,hd⟩
 ·obtain ⟨v,o,ho,hd⟩:=I.cell x c (sub x c e)
  exact ⟨v,o,kept c o ho,hd⟩
 ·show (lcS ts js σ).length=(lcN X ts js).length
  unfold lcS lcN
  simp
end
end L2
namespace L2
open PySem PySem.Spec PyProof.Rows
def LcTurn (Mo:Model)(A:Around)(tgt elt:Expr)(tests:List Expr)(it lst:Value)(env:Env)(Fin:Shared→Prop)(Again:Shared→Prop)(s0:Shared) : Prop :=
 wpAny Mo A (pyNext it) (fun nx s1=>match nx with
  | none=>Fin s1
  | some v=>wpAny Mo A (letOwnedTupleGo tgt it v) (fun _ s2=>wpAny Mo A (assign tgt env v) (fun _ s3 =>
    wpAny Mo A (forIn tests true fun c ok=>if ok=true then (do let b ← isTrue c env (eval c env); pure (ForInStep.yield b)) else pure (ForInStep.yield ok)) (fun b s4 =>
     if b=true then wpAny Mo A (eval elt env) (fun y s5=>wpAny Mo A (call (.builtin "list.append") [lst,y]) (fun _ s6=>Again s6) (fun _ _=>False) s5) (fun _ _=>False) s4
     else Again s4) (fun _ _=>False) s3) (fun _ _=>False) s2) (fun _ _=>False) s1) (fun _ _=>False) s0
theorem compLoop_by {P:Program}{w:World}{A:Around}{R:Result→Shared→Prop}{s0:Shared}{elt tgt iter:Expr}{tests:List Expr}{scope:Scope}{pos:Pos}{it lst:Value}{env:Env}(Iv:Nat→Shared→Prop)
  (turn:∀ k sk,Iv k sk→LcTurn (model P w) A tgt elt tests it lst env (R (.ok .next)) (fun s'=>∃ j,j < k∧Iv j s') sk) (k0:Nat) (h0:Iv k0 s0) :
  codeAny (model P w) A (.compLoop (.ListComp elt [⟨tgt,iter,tests,0⟩] scope pos) 0 it lst env) R s0:=by
 refine codeAny_loop rfl Iv (fun k sk hk=>?_) k0 h0
 show wpAny (model P w) A ((compTurn (.ListComp elt [⟨tgt,iter,tests,0⟩] scope pos) 0 it lst env).onRaise fun ex=>do noteFrame ex env; theTreesLotGoes ex) _ _ sk
 refine wpAny_noted (wpAny_noRaise ?_)
 rw [compTurn_list]
 refine wpAny_bind (wpAny_standAt (wpAny_bind (thn (turn k sk hk) fun nx s1 q1=>?_)))
 cases nx with
 | none=>exact wpAny_pure q1
 | some v =>
  refine wpAny_bind (thn q1 fun _ s2 q2=>wpAny_bind (thn q2 fun _ s3 q3=>wpAny_bind (thn q3 fun b s4 q4=>?_)))
  cases b with
  | true=>exact wpAny_bind (wpAny_bind (thn q4 fun y s5 q5=>wpAny_bind (thn q5 fun _ s6 q6=>wpAny_pure (wpAny_pure ⟨rfl,q6⟩))))
  | false=>exact wpAny_pure ⟨rfl,q4⟩
def SubS:St→St→Prop
 | [],[]=>True
 | none :: a,_ :: b=>SubS a b
 | some v :: a,w :: b=>w=some v∧SubS a b
 | [],_ :: _=>False
 | _ :: _,[]=>False
theorem SubS.ok:∀ {a b:St},SubS a b→a.length=b.length∧∀ (i:Nat) v,a[i]? = some (some v)→b[i]? = some (some v)
 | [],[],_=>⟨rfl,fun i v h=>by simp at h⟩
 | none :: a,_ :: b,h=>by
  obtain ⟨h1,h2⟩:=SubS.ok (a:=a) (b:=b) h
  refine ⟨by simp [h1],fun i v hv=>?_⟩
  cases i with
  | zero=>simp at hv
  | succ i=>simpa using h2 i v (by simpa using hv)
 | some u :: a,w :: b,h=>by
  obtain ⟨h1,h2⟩:=SubS.ok (a:=a) (b:=b) h.2
  refine ⟨by simp [h1],fun i v hv=>?_⟩
  cases i with
  | zero=>simpa [h.1] using hv
  | succ i=>simpa using h2 i v (by simpa using hv)
 | [],_ :: _,h=>False.elim h
 | none :: _,[],h=>False.elim h
 | some _ :: _,[],h=>False.elim h
def PIfs (X:Cx)(ifs:List Expr)(t:TT) : Prop :=
 ∀ (pins:List (Addr × Obj)) (s:Shared) (σ:St) (H:Hp) (Q:Bool→Hp→Prop),Inv X pins σ H s→t σ H Q →
  wpAny (model X.prog X.w) X.A (forIn ifs true fun c r=>if r=true then do let ok ← isTrue c X.env (eval c X.env); pure (ForInStep.yield ok) else pure (ForInStep.yield r)) (TP X pins σ Q) X.xe s
def tYes:TT:=fun _ H Q=>Q true H
theorem pf_nil {X:Cx} : PIfs X [] tYes:=fun _ _ _ H _ I h=>wpAny_pure ⟨H,I,h⟩
theorem pf_one {X:Cx}{c:Expr}{t:TT}(h:PT X c t) : PIfs X [c] t:=fun pins s σ H Q I hq=>by
 simp only [List.forIn_nil,List.forIn_cons,if_true]
 exact wpAny_bind (wpAny_bind (thn (h pins s σ H Q I hq) fun b s' hb=>wpAny_pure (wpAny_pure hb)))
def LcW (J:It)(ts:List Str)(js:List Nat)(g:TG)(tc:TT)(te:TE)(σ:St)(H1:Hp)(Q:VK) : Prop:=∃ (W:Nat→List V→Hp→Prop) (n:Nat),W 0 [] H1∧∀ i ys H,W i ys H →
 (J.stop i H∧∀ p,H p=none→Q (.ref p) (upd H p (.lst ys))) ∨
 (i < n∧J.go i H∧ys.length < sizeLine∧∀ x H',J.yld i H x H'→g x (lcS ts js σ) H' fun σ2 H2=>SubS (lcS ts js σ) σ2∧tc σ2 H2 fun b H3=>if b=true then te σ2 H3 fun y H4=>W (i + 1) (ys ++ [y]) H4 else W (i + 1) ys H3)
abbrev Dp (α:Type):=Addr→Shared→Hp→List Addr→α
def tLc (wi:TI)(ts:List Str)(js:List Nat)(g:Dp TG)(tc:Dp TT)(te:Dp TE) : TE:=fun σ H Q=>wi σ H fun J H1=>∀ C s2 H2 fp,LcW J ts js (g C s2 H2 fp) (tc C s2 H2 fp) (te C s2 H2 fp) σ H1 Q
section
variable {X:Cx}{scope:Scope}{ts:List Str}{js:List Nat}{pins:List (Addr × Obj)}{σ:St}{H H':Hp}{s:Shared}{tg elt iter:Expr}{ifs:List Expr}{g:Dp TG}{tc:Dp TT}{te:Dp TE}{pos:Pos}{E:Value→Shared→Prop}
theorem Inv.track {D:Addr}{o:HO}(I:Inv X pins σ H s)(f:FpOk X pins H D)(hD:X.s₀.heap.objs.size≤D)(new:ObjOk X.prog X.w (upd H D o) s.heap D o) : Inv X pins σ (upd H D o) s:=by
 obtain ⟨f0,f1,f2,f3,f4,f5⟩:=f
 have ne:∀ b u,H b=some u→b ≠ D:=fun b u e z=>by rw [z,f0] at e; cases e
 have ne0:∀ b ob,X.s₀.heap.get? b=some ob→b ≠ D:=fun b ob e=>Nat.ne_of_lt (Nat.lt_of_lt_of_le (Heap.lt_size e) hD)
 refine ⟨I.ok,I.os,I.bare,⟨I.base.keep,I.base.slot,fun b ob e n hx=>?_,I.base.there,fun b xs e=>?_,fun b ob u e=>?_,fun b ps e=>?_⟩,I.loc,I.cell,?_,fun x c e=>?_,fun p hp=>?_,fun a u e=>?_,I.len⟩
 ·rw [upd_ne (ne0 b ob e)]; exact I.base.free b ob e n hx
 ·have q:=I.base.tups b xs e
  rw [upd_ne (ne b _ q)]; exact q
 ·have q:=I.base.frzs b ob u e
  rw [upd_ne (ne b _ q)]; exact q
 ·obtain ⟨m,q⟩:=I.base.tbls b ps e
  exact ⟨m,by rw [upd_ne (ne b _ q)]; exact q⟩
 ·rw [upd_ne (Ne.symm f1)]; exact I.free
 ·rw [upd_ne (f4 x c e)]; exact I.freeC x c e
 ·obtain ⟨a1,a2,a3⟩:=I.pin p hp
  exact ⟨a1,by rw [upd_ne (f5 p hp)]; exact a2,a3⟩
 ·by_cases ha:a=D
  ·subst ha
   rw [upd_same] at e
   cases e
   exact new
  ·rw [upd_ne ha] at e
   refine (I.hok a u e).stay (fun _ _ _ q=>q) (fun b q=>?_) fun b xs q=>?_
   ·rw [upd_ne (ne b _ q)]; exact q
   ·rw [upd_ne (ne b _ q)]; exact q
theorem lc_block {it:Addr}{fp:List Addr}{tn:Nat→Heap→Prop}{J:It}{Q:VK}{RR:Value→Addr→Result→Shared→Prop}(L:LcOk X scope js) (hc:X.calm=true) (I:Inv X pins σ H s) (T:Turn X.prog X.w X.K tg J fp it tn) (st:tn 0 s.heap)
  (hf:∀ b∈fp,FpOk X pins H b) (hg:∀ C s H fp,PG (X.lc scope ts js C s H fp) tg (g C s H fp)) (hcs:∀ C s H fp,PIfs (X.lc scope ts js C s H fp) ifs (tc C s H fp)) (he:∀ C s H fp,PE (X.lc scope ts js C s H fp) elt (te C s H fp)) (hw:∀ C s2 H2 fp,LcW J ts js (g C s2 H2 fp) (tc C s2 H2 fp) (te C s2 H2 fp) σ H Q)
  (hRR:∀ D C s' H' ys m',Inv X pins σ (upd H' D (.lst ys)) s'→FpOk X pins (upd H' D (.lst ys)) C→s'.heap.Ns C m'→Q (.ref D) (upd H' D (.lst ys))→RR (.ref D) C (.ok .next) s') :
  wpAny (model X.prog X.w) X.A (newList []) (fun acc s₃=>wpAny (model X.prog X.w) X.A (newFunctionEnv scope X.env.globals (clOf X.env.cells scope.names []) [] X.env.qual none .none (some X.env)) (fun cenv s₄ =>
   codeAny (model X.prog X.w) X.A (.compStart (.ListComp elt [⟨tg,iter,ifs,0⟩] scope pos) 0 (.ref it) acc { cenv with scope:=relabel scope X.env }) (RR acc cenv.locals) s₄) E s₃) E s:=by
 refine wpAny_newObj_type (wpAny_newFunctionEnv L.cell (by intro y hy; simp at hy) (fun h₁ hns₁ hsb₁=>?_) L.kind)
 dsimp only at hns₁ hsb₁ ⊢
 generalize hH2:s.heap.push { cls:=.type "list", dict:=none,data:=.seq ([] : List Value).toArray } = G2 at hns₁ hsb₁ ⊢
 have hC:G2.objs.size=s.heap.objs.size + 1:=by rw [← hH2,Heap.size_push]
 generalize hCd:G2.objs.size=C at hns₁ hsb₁ hC ⊢
 obtain ⟨W,nn,w0,turn⟩:=hw C s H fp
 have hDC:s.heap.objs.size ≠ C:=by rw [hC]; exact Nat.ne_of_lt (Nat.lt_succ_self _)
 have hCle:s.heap.objs.size≤C:=by rw [hC]; exact Nat.le_succ _
 have below:∀ b,b < s.heap.objs.size→b ≠ C∧b ≠ s.heap.objs.size:=fun b hb=>⟨by rw [hC]; exact Nat.ne_of_lt (Nat.lt_succ_of_lt hb),Nat.ne_of_lt hb⟩
 have old:∀ b o,s.heap.get? b=some o→h₁.get? b=some o:=fun b o e=>hsb₁.extBut b o (below b (Heap.lt_size e)).1 (Heap.get?_push_of_some _ (hH2 ▸ Heap.get?_push_of_some _ e))
 have hacc:h₁.PlainList s.heap.objs.size #[]:=⟨_,hsb₁.extBut _ _ hDC (Heap.get?_push_of_some _ (hH2 ▸ Heap.get?_push_size _ rfl))⟩
 have hob:∀ b∈fp,∃ o,s.heap.get? b=some o:=fun b hb=>by obtain ⟨o,e,_⟩:=T.obj 0 _ st b hb; exact ⟨o,e⟩
 have st₁:tn 0 h₁:=T.keep 0 _ _ st fun b _ o e=>old b o e
 generalize hD:s.heap.objs.size=D at hacc hDC hCle below ⊢
 have I1:Inv (X.lc scope ts js C s H fp) [] (lcS ts js σ) H { s with heap:=h₁,toks:=s.toks + ([] : List (Str × Value)).length }:=lc_start L I (by rw [hD]; exact hCle) hns₁ old hf hob
 have stk:∀ b∈frs X.stack,b < s.heap.objs.size:=fun b hb=>by obtain ⟨_,o,e,_⟩:=I.stack.mem hb; exact Heap.lt_size e
 have cells:∀ x c,(clOf X.env.cells scope.names []).lookup x=some c→X.env.cells.lookup x=some c:=clOf_sub (names:=scope.names) (acc:=[]) (fun _ _ z=>by cases z)
 have stat:∀ {K:Hp},(∀ b∈D :: fp,K b=none)→∀ b∈D :: fp,FpOk (X.lc scope ts js C s H fp) [] K b:=fun {K} hn b hb=>by
  refine ⟨hn b hb,?_,?_,?_,?_,fun p hp=>absurd (show p∈([] : List (Addr × Obj)) from hp) (by simp)⟩
  ·rcases List.mem_cons.mp hb with z | z
   ·rw [z]; exact hDC
   ·obtain ⟨o,e⟩:=hob b z
    exact (below b (by rw [← hD]; exact Heap.lt_size e)).1
  ·intro z
   rcases List.mem_cons.mp hb with q | q
   ·have:=stk b z
    rw [q,hD] at this
    exact Nat.lt_irrefl _ this
   ·exact (List.mem_cons.mp (I.stkSub b z)).elim (hf b q).2.1 (hf b q).2.2.1
  ·rcases List.mem_cons.mp hb with q | q
   ·right; rw [q]; exact Nat.le_of_eq hD
   ·exact .inl q
  ·intro x c e z
   rcases List.mem_cons.mp hb with q | q
   ·obtain ⟨v,qc⟩:=I.cell x c (cells x c e)
    have:=qc.lt
    rw [z,q,hD] at this
    exact Nat.lt_irrefl _ this
   ·exact (hf b q).2.2.2.2.1 x c (cells x c e) z
 have fr1:∀ b∈D :: fp,H b=none:=fun b hb=>by
  rcases List.mem_cons.mp hb with q | q
  ·rw [q]; exact I.hok.fresh (by rw [hD]; exact Nat.le_refl _)
  ·exact (hf b q).1
 have objs:∀ i (h:Heap) (its:Array Value),tn i h→h.PlainList D its→∀ b∈D :: fp,∃ o,h.get? b=some o∧∀ v,o.data ≠ .cell v:=fun i h its t p b hb=>by
  rcases List.mem_cons.mp hb with q | q
  ·subst q
   obtain ⟨n,e⟩:=p
   exact ⟨_,e,fun v z=>by cases z⟩
  ·exact T.obj i h t b q
 have loop:∀ s₃:Shared,s₃ = { s with heap:=h₁,toks:=s.toks + ([] : List (Str × Value)).length } →
   codeAny (model X.prog X.w) X.A (.compLoop (.ListComp elt [⟨tg,iter,ifs,0⟩] scope pos) 0 (.ref it) (.ref D) (compEnvC scope (clOf X.env.cells scope.names []) C X.env)) (RR (.ref D) C) s₃:=by
  rintro s₃ rfl
  refine compLoop_by (fun k s'=>∃ i ys its H',Inv (X.lc scope ts js C s H fp) [] (lcS ts js σ) H' s'∧tn i s'.heap∧(∀ b∈D :: fp,H' b=none)∧s'.heap.PlainList D its∧Vals ys its.toList∧ys.length≤sizeLine∧k=nn - i∧W i ys H') ?_ nn ⟨0,[],#[],H,I1,st₁,fr1,hacc,.nil,Nat.zero_le _,rfl,w0⟩
  rintro n s3 ⟨i,ys,its,H3,I3,st3,fr3,p3,v3,z3,rfl,w3⟩
  have I3':=I3.pinned (fp:=[D]) (fun b hb=>stat fr3 b (by rw [List.mem_singleton.mp hb]; exact List.mem_cons_self)) (fun b hb=>objs i _ its st3 p3 b (by rw [List.mem_singleton.mp hb]; exact List.mem_cons_self))
  have sp:∀ b∈fp,FpOk (X.lc scope ts js C s H fp) ([] ++ pinsAt [D] s3.heap) H3 b:=fun b hb=>by
   obtain ⟨a0,a1,a2,a3,a4,a5⟩:=stat fr3 b (List.mem_cons_of_mem _ hb)
   refine ⟨a0,a1,a2,a3,a4,fun p hp z=>?_⟩
   obtain ⟨q,_⟩:=of_pinsAt (show p∈pinsAt [D] s3.heap from hp)
   have e:=List.mem_singleton.mp q
   obtain ⟨o,eo⟩:=hob b hb
   exact (below b (by rw [← hD]; exact Heap.lt_size eo)).2 (by rw [← z]; exact e)
  rcases turn i ys H3 w3 with ⟨stop,qn⟩ | ⟨hin,go,hz,step⟩
  ·refine thn (T.done (X.lc scope ts js C s H fp) rfl rfl rfl hc i _ s3 _ H3 _ I3' sp st3 stop) fun r s4 ⟨hr,I4⟩=>?_
   subst hr
   obtain ⟨n3,e3⟩:=p3
   have e4:s4.heap.get? D=some { cls:=.type "list", data:=.seq its n3 }:=(I4.pin (D,_) (List.mem_append_right _ (mem_pinsAt (List.mem_singleton.mpr rfl) e3))).1
   have I4':Inv (X.lc scope ts js C s H fp) [] (lcS ts js σ) H3 s4:=Inv.unpinned (pins:=[]) I4
   have hlen:=v3.length
   have back:Inv X pins σ H3 s4:=I.call' (ch:=fp) I4'.os I4'.base I4'.hok I4'.bare fun b hb=>⟨(hf b hb).2.2.2.1,(hf b hb).2.1,(hf b hb).2.2.2.2.1,(hf b hb).2.2.2.2.2⟩
   have fD:FpOk X pins H3 D:=I.fpOk (Nat.le_of_eq hD) (fr3 D List.mem_cons_self)
   have ob:ObjOk X.prog X.w (upd H3 D (.lst ys)) s4.heap D (.lst ys):=⟨z3,its.toList,n3,v3,by simpa using e4⟩
   have tr:=back.track fD (by rw [← hD]; exact I.sz) ob
   obtain ⟨m4,n4,_⟩:=I4'.loc
   refine hRR D C s4 H3 ys m4 tr ?_ n4 (qn D (fr3 D List.mem_cons_self))
   refine I.fpOk (by rw [hD]; exact hCle) ?_
   rw [upd_ne (Ne.symm hDC)]
   exact I4'.free
  ·refine thn (T.item (X.lc scope ts js C s H fp) rfl rfl rfl hc i _ s3 _ H3 _ I3' sp st3 go) fun r s4 ⟨u,hr,h4⟩=>?_
   subst hr
   refine thn h4 fun _ s5 ⟨x,H5,I5,r5,y5,st5,fr5⟩=>?_
   obtain ⟨n3,e3⟩:=p3
   have e5:=I5.pin (D,_) (List.mem_append_right _ (mem_pinsAt (List.mem_singleton.mpr rfl) e3))
   have fr5':∀ b∈D :: fp,H5 b=none:=fun b hb=>by
    rcases List.mem_cons.mp hb with q | q
    ·rw [q]; exact e5.2.1
    ·exact fr5 b q
   have p5:s5.heap.PlainList D its:=⟨n3,e5.1⟩
   have I5b:Inv (X.lc scope ts js C s H fp) [] (lcS ts js σ) H5 s5:=Inv.unpinned (pins:=[]) I5
   have I5':=I5b.pinned (fp:=D :: fp) (stat fr5') (objs _ _ its st5 p5)
   refine thn (hg C s H fp _ s5 _ H5 x u _ I5' r5 (step x H5 y5)) fun _ s6 ⟨σ6,H6,I6,sub6,q6⟩=>?_
   refine thn (hcs C s H fp _ s6 σ6 H6 _ I6 q6) fun b s7 ⟨H7,I7,q7⟩=>?_
   have wk:∀ {H':Hp}{s':Shared},Inv (X.lc scope ts js C s H fp) ([] ++ pinsAt (D :: fp) s5.heap) σ6 H' s'→Inv (X.lc scope ts js C s H fp) ([] ++ pinsAt (D :: fp) s5.heap) (lcS ts js σ) H' s':=fun I'=>I'.weak sub6.ok.1 sub6.ok.2
   have rec':∀ {H':Hp}{s':Shared},Inv (X.lc scope ts js C s H fp) ([] ++ pinsAt (D :: fp) s5.heap) σ6 H' s'→Inv (X.lc scope ts js C s H fp) [] (lcS ts js σ) H' s'∧tn (i + 1) s'.heap∧(∀ b∈D :: fp,H' b=none)∧s'.heap.PlainList D its:=fun {H' s'} I'=>by
    have pin:∀ b∈D :: fp,∀ o,s5.heap.get? b=some o→s'.heap.get? b=some o∧H' b=none:=fun b hb o e=>by
     have z:=I'.pin (b,o) (List.mem_append_right _ (List.mem_append_right _ (mem_pinsAt hb e)))
     exact ⟨z.1,z.2.1⟩
    refine ⟨Inv.unpinned (pins:=[]) (wk I'),T.keep _ _ _ st5 fun b hb o e=>(pin b (List.mem_cons_of_mem _ hb) o e).1,fun b hb=>?_,⟨n3,(pin D List.mem_cons_self _ e5.1).1⟩⟩
    obtain ⟨o,e,_⟩:=objs _ _ its st5 p5 b hb
    exact (pin b hb o e).2
   cases b with
   | false =>
    obtain ⟨j1,j2,j3,j4⟩:=rec' I7
    exact ⟨nn - (i + 1),by omega,i + 1,ys,its,H7,j1,j2,j3,j4,v3,z3,rfl,q7⟩
   | true =>
    refine thn (he C s H fp _ s7 σ6 H7 _ I7 q7) fun yv s8 ⟨y,H8,I8,r8,w8⟩=>?_
    obtain ⟨j1,j2,j3,j4⟩:=rec' I8
    have hlen:its.size=ys.length:=by have:=v3.length; simp at this; omega
    refine wpAny_list_append_plain (hsz:=by rw [hlen]; exact z3) j4 fun h9 p9 sb9=>?_
    obtain ⟨f0,f1,f2,f3,f4,f5⟩:=stat j3 D List.mem_cons_self
    refine ⟨nn - (i + 1),by omega,i + 1,ys ++ [y],its.push yv,H8,j1.turned (t':=s8.toks) (fun b o hb e=>(sb9.2 b hb).trans e) f0 f1 f3 f4 f5,T.keep _ _ _ j2 fun b hb o e=>(sb9.2 b ?_).trans e,j3,p9,?_,?_,rfl,w8⟩
    ·obtain ⟨o,eo⟩:=hob b hb
     exact (below b (by rw [← hD]; exact Heap.lt_size eo)).2
    ·rw [Array.toList_push]
     exact v3.append (.cons r8 .nil)
    ·rw [List.length_append,List.length_singleton]; exact hz
 exact codeAny_compStart_list (loop _ rfl) (T.self _ 0 _ _ _ st₁ (loop _ rfl))
end
end L2
namespace L2
open PySem PySem.Spec PyProof.Rows
section
variable {X:Cx}{scope:Scope}{ts:List Str}{js:List Nat}{tg elt iter:Expr}{ifs:List Expr}{wi:TI}{g:Dp TG}{tc:Dp TT}{te:Dp TE}{pos:Pos}
theorem pe_lc (L:LcOk X scope js) (hc:X.calm=true) (hi:PI X tg iter wi) (hg:∀ C s H fp,PG (X.lc scope ts js C s H fp) tg (g C s H fp)) (hcs:∀ C s H fp,PIfs (X.lc scope ts js C s H fp) ifs (tc C s H fp)) (he:∀ C s H fp,PE (X.lc scope ts js C s H fp) elt (te C s H fp))
  (hs:∀ x,foldedSetIterable iter X.env x=pure x:=by intro _; rfl) : PE X (.ListComp elt [⟨tg,iter,ifs,0⟩] scope pos) (tLc wi ts js g tc te):=by
 intro pins s σ H Q I h
 rw [eval_ListComp]
 refine wpAny_comprehension_free (use:=none) rfl hs (closureFor_eq fun y hy hf=>I.ok.has y.1 (L.free y hy hf)) L.kind L.names (thn (hi pins s σ H _ I h) fun v s1 h1=>thn h1 fun itv s2 h2=>?_)
 obtain ⟨it,fp,tn,J,H2,rfl,I2,T,st2,f2,hw⟩:=h2
 refine lc_block (RR:=fun acc C=>compPost (model X.prog X.w) X.A X.xe none (EP X pins σ Q) acc C) L hc I2 T st2 f2 hg hcs he hw ?_
 intro D C s' H' ys m' I' fC hn hq
 obtain ⟨f0,f1,f2,f3,f4,f5⟩:=fC
 exact ⟨m',hn,fun h' hs'=>⟨.ref D,_,I'.turned (t':=s'.toks) (fun b o hb e=>(hs'.2 b hb).trans e) f0 f1 f3 f4 f5,rfl,hq⟩⟩
theorem ps_setLC {i:Nat}{x:Str}{pos' spos:Pos}(hN:X.N.Nodup) (hxi:X.N[i]? = some x) (hx:Loc X.env.scope x) (L:LcOk X scope js) (hc:X.calm=true) (hi:PI X tg iter wi) (hg:∀ C s H fp,PG (X.lc scope ts js C s H fp) tg (g C s H fp))
  (hcs:∀ C s H fp,PIfs (X.lc scope ts js C s H fp) ifs (tc C s H fp)) (he:∀ C s H fp,PE (X.lc scope ts js C s H fp) elt (te C s H fp))
  (hsw:swapsWith (.ListComp elt [⟨tg,iter,ifs,0⟩] scope pos) (some (.Name x pos')) spos.line X.env=pure true:=by rfl)
  (hs:∀ x,foldedSetIterable iter X.env x=pure x:=by intro _; rfl) (hf:X.fn x=true∨X.env.scope.names.lookup x=some .local:=by first | exact .inl rfl | exact .inr rfl | assumption) :
  PS X (.Assign [.Name x pos'] (.ListComp elt [⟨tg,iter,ifs,0⟩] scope pos) spos) (tAsg (tLc wi ts js g tc te) (gName i)):=by
 intro pins s σ H D0 I h
 rw [exec_Assign_Name_used x pos' _ spos hsw]; refine wpAny_bind (wpAny_standAt ?_); refine wpAny_bind ?_
 show wpAny _ X.A (do let _ ← comprehension (.ListComp elt [⟨tg,iter,ifs,0⟩] scope pos) scope X.env _ (newList []) false (eval iter X.env) (some (assign (.Name x pos') X.env))) _ _ s
 refine wpAny_bind (wpAny_mono (wpAny_comprehension_free (use:=some (assign (.Name x pos') X.env)) (Q:=fun _ s'=>SP X pins D0 .next s') rfl hs (closureFor_eq fun y hy hf=>I.ok.has y.1 (L.free y hy hf)) L.kind L.names
  (thn (hi pins s σ H _ I h) fun v s1 h1=>thn h1 fun itv s2 h2=>?_)) (fun _ s' hq=>wpAny_pure (wpAny_pure hq)) fun _ _ e=>e)
 obtain ⟨it,fp,tn,J,H2,rfl,I2,T,st2,f2,hw⟩:=h2
 refine lc_block (RR:=fun acc C=>compPost (model X.prog X.w) X.A X.xe (some (assign (.Name x pos') X.env)) (fun _ s'=>SP X pins D0 .next s') acc C) L hc I2 T st2 f2 hg hcs he hw ?_
 intro D C s' H' ys m' I' fC hn hq
 obtain ⟨oC,es,ep,hoC,hdC,rC⟩:=id hn
 have I'':=I'.pinned (fp:=[C]) (fun b hb=>by rw [List.mem_singleton.mp hb]; exact fC) (fun b hb=>by rw [List.mem_singleton.mp hb]; exact ⟨oC,hoC,fun v z=>by rw [hdC] at z; cases z⟩)
 show wpAny _ X.A (assign (.Name x pos') X.env (.ref D)) _ _ _
 refine wpAny_assign_Name (store_ok I'' hN hxi hx (v:=.ref D) rfl (fun s7 I7=>?_) hf)
 have e7:=I7.pin (C,oC) (List.mem_append_right _ (List.mem_append_right _ (mem_pinsAt (List.mem_singleton.mpr rfl) hoC)))
 refine ⟨m',⟨oC,es,ep,e7.1,hdC,rC⟩,fun h9 sb9=>?_⟩
 obtain ⟨f0,f1,f2,f3,f4,f5⟩:=fC
 exact ⟨_,_,(Inv.unpinned I7).turned (t':=s7.toks) (fun b o hb e=>(sb9.2 b hb).trans e) e7.2.1 f1 f3 f4 f5,hq⟩
end
end L2
namespace L2
open PySem PySem.Spec PyProof.Rows
def lcOkB (scope:Scope)(ek:List (Str × NameKind))(N:List Str)(js:List Nat) : Bool :=
 scope.kind == .function && scope.names.all (fun y=>y.2 != .cell) && scope.names.all (fun y=>y.2 != .local || scope.names.lookup y.1 == some .local) &&
 scope.names.all (fun y=>y.2 != .free || ek.lookup y.1 == some .cell || ek.lookup y.1 == some .free) && js.all (fun j=>scope.names.lookup (N.getD j "") == some .free)
theorem LcOk.of {X:Cx}{scope:Scope}{js:List Nat}(h:lcOkB scope X.env.scope.names X.N js=true) : LcOk X scope js:=by
 unfold lcOkB at h
 simp only [Bool.and_eq_true,List.all_eq_true,Bool.or_eq_true,bne_iff_ne,beq_iff_eq] at h
 obtain ⟨⟨⟨⟨h1,h2⟩,h3⟩,h4⟩,h5⟩:=h
 refine ⟨h1,h2,fun y hy e=>?_,fun y hy e=>?_,h5⟩
 ·exact (h3 y hy).resolve_left fun z=>z e
 ·rcases h4 y hy with (z | z) | z
  ·exact absurd e z
  ·exact .inl z
  ·exact .inr z
theorem nodup_of {l:List Str}(h:decide l.Nodup=true) : l.Nodup:=of_decide_eq_true h
theorem passN {X:Cx} : Passes (CXe X.prog X.w) X E0:=fun _ _ _ _ _ _ _ h=>by
 obtain ⟨_,_,_,_,_,_,_,z⟩:=h
 exact z.elim
theorem powx {P:Program}{w:World}{K:PySem.W.Frag}{mg:Str→Option Value}{base:Heap}{N:List Str}{qual:Str}{scope:Scope}{f:Addr}{cd:Value}{A:Around}{outer:List Env}{s:Shared}{H:Hp}{E:XK} :
  PassesOwn (model P w) (cxOf (CXe P w) P w K mg base N qual scope f cd A outer s H E).A (cxOf (CXe P w) P w K mg base N qual scope f cd A outer s H E).env (cxOf (CXe P w) P w K mg base N qual scope f cd A outer s H E).xe:=PassesOwn.leaving
theorem walk_ofX {l:PySem.W.OpenLaw}{n k:Nat}{q:Program}{loose:List Str}{XP:(Str→Option Value)→Heap→Prop}{YP:World→Heap→Prop}{d:DefRec}{K:Params→PySem.W.Frag}{sp:PySem.W.Frag→Sp}{x:Str}
  (hn:l.most=some n) (hn2:n≤sizeLine) (hdf:d.params.defaults = []) (hr:Room k callerA)
  (hY:∀ (w:World) (h:Heap),YP w h→(K w.params).In h)
  (F:∀ (w:World) (mg:Str→Option Value) (fa:Addr) (h:Heap),(K w.params).In h→h.Ns mainGlobals mg→mg d.name=some (.ref fa) →
   ∃ fd:FuncData,(∀ (s:Shared) (u:Value),BindsTo s fd ⟨[u],[]⟩ [(x,u)]) ∧
    ∀ base:Heap,(K w.params).In base→base.Ns mainGlobals mg→FnOk l.prog w (K w.params) mg base (CXe l.prog w) k fa fd [x] (sp (K w.params)))
  (hsp:∀ (K:PySem.W.Frag) (H:Hp) (a:Addr) (ns:List Int),ns.length≤n→Only H→SqL K H a (ns.map V.int)→sp K [.ref a] H (fun v _=>v = .bl true) fun _ _ _=>False) :
  PySem.W.WalkO q loose XP YP l.row.toRowW d [] (fun f vs=>PySem.call f vs) :=
 walk_of (K:=K) (CX:=fun w=>CXe l.prog w) (sp:=fun w=>sp (K w.params)) hn hn2 hdf hr hY F (fun w H a ns h1 h2 h3=>hsp (K w.params) H a ns h1 h2 h3) fun _ H s e s' h=>by
  obtain ⟨_,_,_,_,_,_,_,z⟩:=h
  exact z
end L2
namespace L2
open PySem PySem.Spec PyProof.Rows
section
variable {X:Cx}
theorem OpR.imp {f:Value→Value→Sem Value}{r r':R2}(h:OpR X f r)(i:∀ x y H Q,r' x y H Q→r x y H Q) : OpR X f r':=fun pins s σ H x y v u Q I rx ry hq=>h pins s σ H x y v u Q I rx ry (i _ _ _ _ hq)
theorem op_eqI:OpR X (compareOp .Eq) (rI0 fun i j=>.bl (decide (i=j))):=op_eq.imp fun x y H Q h=>by
 obtain ⟨i,j,rfl,rfl,q⟩:=h
 refine ⟨rfl,?_⟩
 have e:decide (V.int i=V.int j)=decide (i=j):=decide_eq_decide.mpr ⟨fun z=>V.int.inj z,fun z=>congrArg V.int z⟩
 rw [e]; exact q
theorem op_neI:OpR X (compareOp .NotEq) (rI0 fun i j=>.bl (!decide (i=j))):=op_ne.imp fun x y H Q h=>by
 obtain ⟨i,j,rfl,rfl,q⟩:=h
 refine ⟨rfl,?_⟩
 have e:decide (V.int i=V.int j)=decide (i=j):=decide_eq_decide.mpr ⟨fun z=>V.int.inj z,fun z=>congrArg V.int z⟩
 rw [e]; exact q
def rS0 (g:Str→Str→V) : R2:=fun x y H Q=>∃ i j,x = .str i∧y = .str j∧Q (g i j) H
theorem op_eqS:OpR X (compareOp .Eq) (rS0 fun i j=>.bl (decide (i=j))):=op_eq.imp fun x y H Q h=>by
 obtain ⟨i,j,rfl,rfl,q⟩:=h
 refine ⟨rfl,?_⟩
 have e:decide (V.str i=V.str j)=decide (i=j):=decide_eq_decide.mpr ⟨fun z=>V.str.inj z,fun z=>congrArg V.str z⟩
 rw [e]; exact q
end
theorem ite3n {c A B:Prop} [Decidable c](h1:¬ c→A)(h2:c→B) : if (!decide c)=true then A else B:=iteNo h1 h2
theorem iteB {b:Bool}{A B:Prop}(h1:b=true→A)(h2:b=false→B) : if b=true then A else B:=by
 cases b with
 | true=>exact iteT (h1 rfl)
 | false=>exact iteF (h2 rfl)
theorem Bz.add' {m n:Nat}{x y:Int}(hx:Bz m x)(hy:Bz n y) : Bz (max m n + 1) (x + y):=.of_bits (PySem.intBits_add_le hx.bits hy.bits)
def SameB (b:Addr)(H H':Hp) : Prop:=∀ a o,a ≠ b→H a=some o→H' a=some o
theorem Same.upd {H H':Hp}{p:Addr}(s:Same H H')(h:H p=none)(o:HO) : Same H (upd H' p o):=fun b u q=>by rw [upd_ne (ne_of_none q h)]; exact s b u q
theorem Same.new {H H':Hp}{p:Addr}(s:Same H H')(h:H' p=none)(o:HO) : Same H (L2.upd H' p o):=s.upd (s.free h) o
end L2
namespace L2
open PySem PySem.Spec PyProof.Rows
theorem pe_fold {X:Cx}{e:Expr}{t:TE}(v:V)(h:PE X e t)(c:∀ σ H Q,Q v H→t σ H Q) : PE X e (tC v):=fun pins s σ H Q I hq=>h pins s σ H Q I (c σ H Q hq)
end L2
namespace L2
open PySem PySem.Spec PyProof.Rows
theorem isiTy {K:PySem.W.Frag}{t:Value}{n:String}{b:Bool}(h:PySem.W.kitOne K t (.type n)=some b) : ∀ u,RelV (.ty n) u→PySem.W.kitOne K t u=some b:=fun u r=>by cases r; exact h
end L2
structure Iv (p:Prop) : Prop where
 o:p
namespace L2
open PySem PySem.Spec PyProof.Rows
end L2
namespace L2
open PySem PySem.Spec PyProof.Rows
def Its (x:Str) : It:=⟨fun i _=>i < x.cps.size,fun i H v H'=>H'=H∧∃ c,x.cps[i]? = some c∧v = .str ⟨#[c]⟩,fun i _=>x.cps.size≤i⟩
theorem turn_str {P:Program}{w:World}{K:PySem.W.Frag}{tg:Expr}{it:Addr}{x:Str}{St:Nat→Heap→Prop}
  (W:∀ A':Around,A'.handled=none→Walks P w A' it [it] [it] x.cps.size (SignAt x) St)
  (ob:∀ i h,St i h→∃ (o:Obj) (n:String) (vs:Array Value),h.get? it=some o∧o.cls = .type n∧o.data = .fields vs∧["enumerate", "zip", "dict_itemiterator", "dict_reverseitemiterator", "odict_iterator", "itertools.zip_longest", "itertools.pairwise"].contains n=false)
  (sf:∀ (A:Around) (i:Nat) (s:Shared) (Q:Value→Shared→Prop) (E:Value→Shared→Prop),St i s.heap→Q (.ref it) s→wpAny (model P w) A (pyIter (.ref it)) Q E s) :
  Turn P w K tg (Its x) [it] it (fun i h=>St i h∧i≤x.cps.size) where
 mem:=by simp
 obj:=fun i h st b hb=>by
  have e:b=it:=by simpa using hb
  subst e
  obtain ⟨o,n,vs,e,_,d,_⟩:=ob i h st.1
  exact ⟨o,e,fun v z=>by rw [d] at z; cases z⟩
 keep:=fun i h h' st k=>⟨(W {} rfl).frame i h h' st.1 k,st.2⟩
 item:=by
  intro X hP hw hK hc i pins s σ H E I hf st hg
  subst hP hw hK
  obtain ⟨f0,f1,f2,f3,f4,f5⟩:=hf it (by simp)
  refine (W X.A (I.ok.hd hc)).item i s _ _ hg st.1 fun v h' tk hv st' kk=>?_
  obtain ⟨c,u,hcx,rfl⟩:=hv
  have I1:Inv X pins σ H { s with heap:=h',toks:=tk }:=I.turned (fun b o hb e=>kk b o (by simpa using hb) e) f0 f1 f3 f4 f5
  obtain ⟨o,n,vs,e,hcl,hd,hn⟩:=ob _ _ st'
  have hi:i < x.cps.size:=hg
  exact ⟨_,rfl,go_of (s:={ s with heap:=h',toks:=tk }) e hcl hd hn ⟨.str ⟨#[c]⟩,H,I1,⟨u,rfl⟩,⟨rfl,c,hcx,rfl⟩,⟨st',hi⟩,fun b hb=>(hf b hb).1⟩⟩
 done:=by
  intro X hP hw hK hc i pins s σ H E I hf st hg
  subst hP hw hK
  obtain ⟨f0,f1,f2,f3,f4,f5⟩:=hf it (by simp)
  have e:i=x.cps.size:=Nat.le_antisymm st.2 hg
  subst e
  exact (W X.A (I.ok.hd hc)).done s _ _ st.1 fun h' tk kk=>⟨rfl,I.turned (fun b o hb e=>kk b o (by simpa using hb) e) f0 f1 f3 f4 f5⟩
 self:=fun A i s Q E st h=>sf A i s Q E st.1 h
section
variable {X:Cx}{tg:Expr}
def iStr (tl:TE) : TI:=fun σ H R=>tl σ H fun x H1=>∃ z,x = .str z∧R (Its z) H1
theorem pi_str {l:Expr}{tl:TE}(hl:PE X l tl) : PI X tg l (iStr tl):=by
 intro pins s σ H R I h
 refine thn (hl pins s σ H _ I h) fun v s1 ⟨x,H1,I1,r1,q1⟩=>?_
 obtain ⟨z,e,q⟩:=q1
 subst e
 obtain ⟨t,rfl⟩:=r1
 have fp:∀ b∈[s1.heap.objs.size],FpOk X pins H1 b:=fun b hb=>by
  have e:b=s1.heap.objs.size:=by simpa using hb
  subst e
  exact I1.fpOk (Nat.le_refl _) (I1.hok.fresh (Nat.le_refl _))
 cases ha:z.cps.all (· < 128)
 ·refine wpAny_pyIter_wide ha ?_
  refine ⟨s1.heap.objs.size,[s1.heap.objs.size],_,_,H1,rfl,I1.kept (t':=s1.toks) fun b o e=>Heap.get?_push_of_some _ e,
   turn_str (St:=fun i h=>h.IsStrIter s1.heap.objs.size "str_iterator" z t i) (fun A' hA=>Walks.strWide hA _ z t) (fun i h st=>?_) (fun A i s Q E st h=>wpAny_pyIter_striter_wide st h),⟨⟨_,Heap.get?_push_size _ rfl,rfl,rfl⟩,Nat.zero_le _⟩,fp,q⟩
  obtain ⟨o,e,c,d⟩:=st
  exact ⟨o,_,_,e,c,d,by decide⟩
 ·refine wpAny_pyIter_ascii ha ?_
  refine ⟨s1.heap.objs.size,[s1.heap.objs.size],_,_,H1,rfl,I1.kept (t':=s1.toks) fun b o e=>Heap.get?_push_of_some _ e,
   turn_str (St:=fun i h=>h.IsStrIter s1.heap.objs.size "str_ascii_iterator" z t i) (fun A' hA=>Walks.strAscii hA _ z t) (fun i h st=>?_) (fun A i s Q E st h=>wpAny_pyIter_striter_ascii st h),⟨⟨_,Heap.get?_push_size _ rfl,rfl,rfl⟩,Nat.zero_le _⟩,fp,q⟩
  obtain ⟨o,e,c,d⟩:=st
  exact ⟨o,_,_,e,c,d,by decide⟩
end
abbrev sg (c:Nat) : V:=.str ⟨#[c]⟩
theorem for_str {x:Str}{g:TG}{tb:TS}{D:Ends}{σ:St}{H:Hp}(Pv:Nat→St→Hp→Prop) (h0:Pv 0 σ H)
  (hs:∀ i c σ H,x.cps[i]? = some c→Pv i σ H→g (sg c) σ H fun σ2 H2=>tb { D with nx:=Pv (i + 1),ct:=Pv (i + 1),bk:=D.nx } σ2 H2) (hd:∀ σ H,Pv x.cps.size σ H→D.nx σ H) :
  ∃ W:Nat→Nat→St→Hp→Prop,(∃ m,W 0 m σ H)∧∀ i m σ H,W i m σ H →
   ((Its x).stop i H∧D.nx σ H)∨((Its x).go i H∧∃ N:St→Hp→Prop,(∀ σ' H',N σ' H'→∃ m',m' < m∧W (i + 1) m' σ' H')∧∀ v H',(Its x).yld i H v H'→g v σ H' fun σ2 H2=>tb { D with nx:=N,ct:=N,bk:=D.nx } σ2 H2):=by
 refine ⟨fun i m σ H=>m=x.cps.size - i∧i≤x.cps.size∧Pv i σ H,⟨x.cps.size,by simp,Nat.zero_le _,h0⟩,?_⟩
 rintro i m σ H ⟨rfl,hi,p⟩
 by_cases hlt:i < x.cps.size
 ·refine .inr ⟨hlt,Pv (i + 1),fun σ' H' p'=>⟨x.cps.size - (i + 1),by omega,rfl,hlt,p'⟩,fun v H' y=>?_⟩
  obtain ⟨e,c,hc,ev⟩:=y
  subst e ev
  exact hs i c σ _ hc p
 ·have e:i=x.cps.size:=by omega
  subst e
  exact .inl ⟨Nat.le_refl _,hd σ H p⟩
section
variable {K:PySem.W.Frag}{ts:List Str}{js:List Nat}{g:TG}{tc:TT}{te:TE}{σ:St}{H:Hp}{Q:VK}
theorem lc_list {a:Addr}{xs:List V}(Pv:Nat→List V→Hp→Prop) (h0:Pv 0 [] H) (hl:∀ i ys H,i≤xs.length→Pv i ys H→SqL K H a xs∧ys.length < sizeLine)
  (hs:∀ i x ys H,xs[i]? = some x→Pv i ys H→g x (lcS ts js σ) H fun σ2 H2=>SubS (lcS ts js σ) σ2∧tc σ2 H2 fun b H3=>if b=true then te σ2 H3 fun y H4=>i + 1≤xs.length∧Pv (i + 1) (ys ++ [y]) H4 else i + 1≤xs.length∧Pv (i + 1) ys H3)
  (hd:∀ ys H,Pv xs.length ys H→∀ p,H p=none→Q (.ref p) (upd H p (.lst ys))) : LcW (Itl K a) ts js g tc te σ H Q:=by
 refine ⟨fun i ys H=>i≤xs.length∧Pv i ys H,xs.length,⟨Nat.zero_le _,h0⟩,?_⟩
 rintro i ys H ⟨hi,p⟩
 obtain ⟨q,hz⟩:=hl i ys H hi p
 by_cases hlt:i < xs.length
 ·refine .inr ⟨hlt,⟨xs,xs[i],q,by simp [hlt]⟩,hz,fun x H' y=>?_⟩
  obtain ⟨e,y⟩:=y
  subst e
  exact hs i x ys _ (y xs q) p
 ·have e:i=xs.length:=by omega
  subst e
  exact .inl ⟨⟨xs,q,Nat.le_refl _⟩,hd ys H p⟩
theorem lc_range {lo:Int}{n:Nat}(Pv:Nat→List V→Hp→Prop) (h0:Pv 0 [] H) (hl:∀ i ys H,i≤n→Pv i ys H→ys.length < sizeLine)
  (hs:∀ i ys H,i < n→Pv i ys H→g (.int (lo + i)) (lcS ts js σ) H fun σ2 H2=>SubS (lcS ts js σ) σ2∧tc σ2 H2 fun b H3=>if b=true then te σ2 H3 fun y H4=>i + 1≤n∧Pv (i + 1) (ys ++ [y]) H4 else i + 1≤n∧Pv (i + 1) ys H3)
  (hd:∀ ys H,Pv n ys H→∀ p,H p=none→Q (.ref p) (upd H p (.lst ys))) : LcW (Itr lo n) ts js g tc te σ H Q:=by
 refine ⟨fun i ys H=>i≤n∧Pv i ys H,n,⟨Nat.zero_le _,h0⟩,?_⟩
 rintro i ys H ⟨hi,p⟩
 have hz:=hl i ys H hi p
 by_cases hlt:i < n
 ·refine .inr ⟨hlt,hlt,hz,fun x H' y=>?_⟩
  obtain ⟨e,y⟩:=y
  subst e y
  exact hs i ys _ hlt p
 ·have e:i=n:=by omega
  subst e
  exact .inl ⟨Nat.le_refl _,hd ys H p⟩
end
end L2
namespace L2
open PySem PySem.Spec PyProof.Rows
section
variable {X:Cx}
end
end L2
namespace L2
open PySem PySem.Spec PyProof.Rows
section
variable {X:Cx}{pins:List (Addr × Obj)}{σ:St}{H:Hp}{s:Shared}{h':Heap}
theorem Inv.turnedL {t':Nat}{ch:List Addr}(I:Inv X pins σ H s)(k:∀ b o,b ∉ ch→s.heap.get? b=some o→h'.get? b=some o)(hf:∀ b∈ch,FpOk X pins H b) : Inv X pins σ H { s with heap:=h',toks:=t' }:=by
 have nit:∀ b u,H b=some u→b ∉ ch:=fun b u e z=>by rw [(hf b z).1] at e; cases e
 refine I.step (g':=s.gens) (d':=s.drawn) (ch:=ch) (fun b hb=>⟨(hf b hb).2.2.2.1,(hf b hb).2.1,(hf b hb).2.2.2.2.1,(hf b hb).2.2.2.2.2⟩) (fun b o _ _ hc e _=>k b o hc e) (fun b o _ _ hc e _=>⟨o.slots,k b o hc e⟩) (fun _ _ _ _ n=>n)
  (fun b o hc e=>⟨o,k b o hc e⟩) (fun _ _ e=>e) (fun _ _ _ e=>e) (fun b ps e=>⟨#[],by rw [e]; simp⟩) (fun m hm=>?_) (fun b u e=>?_) I.bare
 ·obtain ⟨o,es,ep,ho,r⟩:=hm
  exact ⟨o,es,ep,k _ o (fun z=>(hf _ z).2.1 rfl) ho,r⟩
 ·refine (I.hok b u e).stay (fun c v hc q=>k c v ?_ q) (fun _ q=>q) fun _ _ q=>q
  rcases hc with z | z
  ·rw [z]; exact nit b u e
  ·exact nit c _ z
end
section
variable {X:Cx}
end
end L2
namespace L2
open PySem PySem.Spec PyProof.Rows
def memK (acc:List Key)(k:Key) : Bool:=acc.any fun x=>decide (x=k)
def addK (acc:List Key)(k:Key) : List Key:=if memK acc k=true then acc else acc ++ [k]
def dd (ks:List Key) : List Key:=ks.foldl addK []
section
variable {P:Program}{w:World}{A:Around}{E:Value→Shared→Prop}{s:Shared}{R:Result→Shared→Prop}
end
abbrev fr (led:Bool) : Obj:={ cls:=.type "set", dict:=none,data:=.set #[] 0 (.fresh 0 0 led) }
section
variable {P:Program}{w:World}{A:Around}{E:Value→Shared→Prop}{s:Shared}
end
end L2
namespace L2
open PySem PySem.Spec PyProof.Rows
section
variable {X:Cx}
end
end L2
namespace L2
open PySem PySem.Spec PyProof.Rows
abbrev cds (x:Str) : List Nat:=x.cps.toList
abbrev tx (l:List Nat) : Str:=⟨l.toArray⟩
theorem tx_cds (x:Str) : tx (cds x)=x:=by cases x; rfl
theorem cds_len (x:Str) : (cds x).length=x.length:=by show x.cps.toList.length=x.cps.size; simp
theorem cds_app (x y:Str) : cds (x ++ y)=cds x ++ cds y:=by
 show (x.cps ++ y.cps).toList=_
 simp
theorem str_ext {x y:Str}(h:cds x=cds y) : x=y:=by rw [← tx_cds x,← tx_cds y,h]
section
variable {X:Cx}
end
end L2
namespace L2
open PySem PySem.Spec PyProof.Rows
def isL (c:Nat) : Bool:=decide (97≤c) && decide (c≤122)
def isW (x:Str) : Bool:=decide (1≤x.length) && decide (x.length≤12) && (cds x).all isL
def letters:Str := "abcdefghijklmnopqrstuvwxyz"
theorem inV_str {x:Str}{ws:List Str} : inV (.str x) (ws.map V.str)=decide (x∈ws):=by
 rw [Bool.eq_iff_iff,decide_eq_true_iff]
 unfold inV
 rw [List.any_map,List.any_eq_true]
 have e:∀ w:Str,eqV (.str w) (.str x)=true↔w=x:=fun w=>by simp [eqV]
 constructor
 ·rintro ⟨w,hw,h⟩
  rw [← (e w).mp h]; exact hw
 ·intro h
  exact ⟨x,h,(e x).mpr rfl⟩
def SameT (H H':Hp) : Prop:=∀ a xs,H a=some (.tup xs)→H' a=some (.tup xs)
theorem SameT.refl (H:Hp) : SameT H H:=fun _ _ h=>h
theorem Same.t {H H':Hp}(s:Same H H') : SameT H H':=fun a xs h=>s a _ h
theorem SameT.new {H H':Hp}{p:Addr}(s:SameT H H')(h:H' p=none)(o:HO) : SameT H (upd H' p o):=fun a xs q=>by rw [upd_ne (ne_of_none (s a xs q) h)]; exact s a xs q
theorem SameT.lst {H H':Hp}{p:Addr}{ys:List V}(s:SameT H H')(h:H' p=some (.lst ys))(o:HO) : SameT H (upd H' p o):=fun a xs q=>by
 rw [upd_ne (ne_of (s a xs q) h (by intro z; cases z))]; exact s a xs q
mutual
inductive TV (K:PySem.W.Frag) (H:Hp) : V→PyData→Prop
 | non:TV K H .non .none
 | bl (b:Bool) : TV K H (.bl b) (.bool b)
 | int (i:Int) : TV K H (.int i) (.int i)
 | str (x:Str) : TV K H (.str x) (.str x)
 | tup {a:Addr}{xs:List V}{ds:List PyData} : H a=some (.tup xs)→TVs K H xs ds→TV K H (.ref a) (.tuple ds)
inductive TVs (K:PySem.W.Frag) (H:Hp) : List V→List PyData→Prop
 | nil:TVs K H [] []
 | cons {x:V}{xs:List V}{d:PyData}{ds:List PyData} : TV K H x d→TVs K H xs ds→TVs K H (x :: xs) (d :: ds)
end
section
variable {K:PySem.W.Frag}{H H':Hp}
mutual
theorem TV.mono (s:SameT H H') : ∀ {x:V}{d:PyData},TV K H x d→TV K H' x d
 | _,_,.non=>.non
 | _,_,.bl b=>.bl b
 | _,_,.int i=>.int i
 | _,_,.str x=>.str x
 | _,_,.tup h hs=>.tup (s _ _ h) (TVs.mono s hs)
theorem TVs.mono (s:SameT H H') : ∀ {xs:List V}{ds:List PyData},TVs K H xs ds→TVs K H' xs ds
 | _,_,.nil=>.nil
 | _,_,.cons h hs=>.cons (TV.mono s h) (TVs.mono s hs)
end
mutual
theorem TV.dv:∀ {x:V}{d:PyData},TV K H x d→DV K H x d
 | _,_,.non=>.non
 | _,_,.bl b=>.bl b
 | _,_,.int i=>.int i
 | _,_,.str x=>.str x
 | _,_,.tup h hs=>.tup (SqT.of h) (TVs.dv hs)
theorem TVs.dv:∀ {xs:List V}{ds:List PyData},TVs K H xs ds→DVs K H xs ds
 | _,_,.nil=>.nil
 | _,_,.cons h hs=>.cons (TV.dv h) (TVs.dv hs)
end
theorem TVs.length:∀ {xs:List V}{ds:List PyData},TVs K H xs ds→xs.length=ds.length
 | _,_,.nil=>rfl
 | _,_,.cons _ hs=>by simp [TVs.length hs]
theorem TVs.append:∀ {xs ys:List V}{ds es:List PyData},TVs K H xs ds→TVs K H ys es→TVs K H (xs ++ ys) (ds ++ es)
 | _,_,_,_,.nil,s=>s
 | _,_,_,_,.cons h hs,s=>.cons h (TVs.append hs s)
theorem TVs.get:∀ {xs:List V}{ds:List PyData}{i:Nat}{x:V},TVs K H xs ds→xs[i]? = some x→∃ d,ds[i]? = some d∧TV K H x d
 | _,_,_,_,.nil,e=>by simp at e
 | _,_,0,_,.cons h _,e=>by
  obtain rfl:=Option.some.inj e
  exact ⟨_,rfl,h⟩
 | _,_,i + 1,_,.cons _ hs,e=>by simpa using TVs.get (i:=i) hs (by simpa using e)
theorem TV.pair {x:V}{a b:PyData}(h:TV K H x (.tuple [a,b])) : ∃ p u v,x = .ref p∧H p=some (.tup [u,v])∧TV K H u a∧TV K H v b:=by
 cases h with
 | tup e hs =>
  cases hs with
  | cons h1 hs =>
   cases hs with
   | cons h2 hs =>
    cases hs
    exact ⟨_,_,_,rfl,e,h1,h2⟩
theorem TV.strs {x:V}{s:Str}(h:TV K H x (.str s)) : x = .str s:=by cases h; rfl
theorem TV.ints {x:V}{s:Int}(h:TV K H x (.int s)) : x = .int s:=by cases h; rfl
theorem TVs.strs (ws:List Str) : TVs K H (ws.map V.str) (ws.map PyData.str):=by
 induction ws with
 | nil=>exact .nil
 | cons w ws ih=>exact .cons (.str w) ih
end
structure Hs (H:Hp) (L:List (Addr × HO)) : Prop where
 nd:(L.map (·.1)).Nodup
 at':∀ p∈L,H p.1=some p.2
namespace Hs
variable {H H':Hp}{L:List (Addr × HO)}{a p:Addr}{o o':HO}
end Hs
end L2
namespace L2
open PySem PySem.Spec PyProof.Rows
structure Shp (n:Nat) (d:PyData) : Prop where
 lay:d.canLay0=true
 dep:d.depth≤n
theorem Shp.mono {m n:Nat}{d:PyData}(h:Shp m d)(hn:m≤n) : Shp n d:=⟨h.lay,Nat.le_trans h.dep hn⟩
theorem lay_all {ds:List PyData}(h:∀ d∈ds,d.canLay0=true) : PyData.canLayAll0 ds=true:=by
 induction ds with
 | nil=>simp [PyData.canLayAll0]
 | cons d ds ih =>
  simp only [PyData.canLayAll0,Bool.and_eq_true]
  exact ⟨h d List.mem_cons_self,ih fun x hx=>h x (List.mem_cons_of_mem _ hx)⟩
theorem dep_all {n:Nat}{ds:List PyData}(h:∀ d∈ds,d.depth≤n) : PyData.depthAll ds≤n:=by
 induction ds with
 | nil=>simp [PyData.depthAll]
 | cons d ds ih =>
  simp only [PyData.depthAll]
  exact Nat.max_le.mpr ⟨h d List.mem_cons_self,ih fun x hx=>h x (List.mem_cons_of_mem _ hx)⟩
theorem Shp.tup {n:Nat}{ds:List PyData}(h:∀ d∈ds,Shp n d) : Shp (n + 1) (.tuple ds) :=
 ⟨by simp only [PyData.canLay0]; exact lay_all fun d hd=>(h d hd).lay,by simp only [PyData.depth]; exact Nat.succ_le_succ (dep_all fun d hd=>(h d hd).dep)⟩
theorem Shp.lst {n:Nat}{ds:List PyData}(h:∀ d∈ds,Shp n d) : Shp (n + 1) (.list ds) :=
 ⟨by simp only [PyData.canLay0]; exact lay_all fun d hd=>(h d hd).lay,by simp only [PyData.depth]; exact Nat.succ_le_succ (dep_all fun d hd=>(h d hd).dep)⟩
theorem Shp.int (n:Nat)(i:Int) : Shp n (.int i):=⟨by simp [PyData.canLay0],by simp [PyData.depth]⟩
theorem Shp.str (n:Nat){x:Str}(h:∀ c∈cds x,c < 128) : Shp n (.str x):=by
 refine ⟨?_,by simp [PyData.depth]⟩
 simp only [PyData.canLay0]
 unfold PyData.strOk
 rw [← Array.all_toList,List.all_eq_true]
 intro c hc
 have:=h c hc
 exact decide_eq_true (by omega)
theorem Shp.shaped {d:PyData}(h:Shp 64 d) : SeqAt.shaped d=true:=by
 unfold SeqAt.shaped
 rw [Bool.and_eq_true,decide_eq_true_iff]
 exact ⟨h.lay,h.dep⟩
section
variable {K:PySem.W.Frag}{H:Hp}{x y:V}{d:PyData}{Q:VK}
theorem ned (hx:DV K H x d)(hy:DV K H y d)(s:Shp 64 d)(q:Q (.bl false) H) : rNeD K x y H Q:=⟨d,d,hx,hy,s.shaped,s.shaped,by rw [SeqAt.eqv_refl d s.lay]; exact q⟩
end
end L2
namespace L2
theorem Same.at' {H H':Hp}{a:PySem.Addr}{o:HO}(s:Same H H')(h:H a=some o) : H' a=some o:=s a o h
end L2
namespace L2
theorem upd_none {H:Hp}{a p:PySem.Addr}{o:HO}(h:upd H a o p=none) : p ≠ a∧H p=none:=by
 unfold upd at h
 by_cases e:p=a
 ·rw [if_pos e] at h; cases h
 ·rw [if_neg e] at h; exact ⟨e,h⟩
end L2
namespace L2
theorem atI_mapD {α:Type}{f:α→V}{ws:List α}{d:Int}(dflt:α)(h0:0≤d)(h:d < (ws.length:Int)) : atI (ws.map f) d=some (f (ws.getD d.toNat dflt)):=by
 have hk:d.toNat < ws.length:=by omega
 have ek:d=((d.toNat:Nat) : Int):=by omega
 have q:atI (ws.map f) ((d.toNat:Nat) : Int)=some (f ws[d.toNat]):=atI_nat (by rw [List.getElem?_map,List.getElem?_eq_getElem hk]; rfl)
 rw [← ek] at q
 rw [q,List.getD_eq_getElem?_getD,List.getElem?_eq_getElem hk]
 rfl
theorem getD_mem {α:Type}{ws:List α}{n:Nat}(dflt:α)(h:n < ws.length) : ws.getD n dflt∈ws:=by
 rw [List.getD_eq_getElem?_getD,List.getElem?_eq_getElem h]
 exact List.getElem_mem h
end L2
namespace L2
end L2
namespace L2
open PySem
theorem SqF.nw {K:PySem.W.Frag}{H:Hp}{a p:Addr}{xs:List V}{u:HO}(hp:H p=none)(h:SqF K H a xs) : SqF K (L2.upd H p u) a xs:=h.new hp
namespace Hs
variable {H H':Hp}{L L':List (Addr × HO)}{a p:Addr}{o o':HO}
end Hs
end L2
namespace L2
theorem upd_at {H:Hp}{a b:PySem.Addr}{o u:HO}(n:b ≠ a)(h:H b=some o) : upd H a u b=some o:=by rw [upd_ne n]; exact h
end L2
namespace L2
open PySem PySem.Spec PyProof.Rows
theorem vals_int_at:∀ {ns:List Int}{us:List Value}{i:Nat}{v:Value},Vals (ns.map V.int) us→us[i]? = some v→∃ t,v = .int (ns.getD i 0) t
 | [],_,i,v,r,e=>by cases r; simp at e
 | n :: ns,_,0,v,r,e=>by
  cases r with
  | cons h t =>
   obtain ⟨t,rfl⟩:=h
   exact ⟨t,(Option.some.inj e).symm⟩
 | n :: ns,_,i + 1,v,r,e=>by
  cases r with
  | cons h t=>simpa using vals_int_at (ns:=ns) (i:=i) t (by simpa using e)
theorem strs_of:∀ {ws:List Str}{us:List Value},Vals (ws.map V.str) us→StrsAre us ws
 | [],_,r=>by cases r; exact .nil
 | w :: ws,_,r=>by
  cases r with
  | cons h t =>
   obtain ⟨t',rfl⟩:=h
   exact .cons w t' (strs_of t)
theorem of_strs:∀ {ws:List Str}{us:List Value},StrsAre us ws→Vals (ws.map V.str) us
 | _,_,.nil=>.nil
 | _,_,.cons w t r=>.cons ⟨t,rfl⟩ (of_strs r)
section
variable {X:Cx}
theorem call_sum (hc:X.calm=true) : CallR X (.builtin "sum") (fun xs H Q=>∃ (p:Addr) (ns:List Int),xs = [.ref p]∧SqL X.K H p (ns.map V.int)∧Q (.int ns.sum) H):=by
 intro pins s σ H xs us Q I r h
 obtain ⟨p,ns,rfl,hp,q⟩:=h
 obtain ⟨u,rfl,ru⟩:=vals1 r
 cases ru
 obtain ⟨its,rv,pl,hz⟩:=I.list hp
 have hl:=rv.length
 rw [List.length_map] at hl
 obtain ⟨o,n,e,_⟩:=id pl
 have lt:=Heap.lt_size e
 refine call_sum_walkG (wpAny_pyIter_list pl.isList ?_)
 refine ⟨s.heap.objs.size,_,_,_,_,_,fun i=>ns.getD i 0,rfl,Walks.list (A:=X.A.in1) (by show X.A.handled=none; exact I.ok.hd hc) _ p (Nat.ne_of_lt lt) its.toArray,⟨⟨_,Heap.get?_push_size _ rfl,rfl,rfl⟩,pl.isList.push _⟩,fun b hb=>?_,fun i v hP=>vals_int_at rv (by simpa using hP),fun h' tk t' kk=>?_⟩
 ·show b < (s.heap.push _).objs.size
  rw [Heap.size_push]
  rcases hb with _ | ⟨_,_ | ⟨_,hb⟩⟩
  ·exact Nat.lt_succ_self _
  ·exact Nat.lt_succ_of_lt lt
  ·cases hb
 ·obtain ⟨f0,f1,f2,f3,f4,f5⟩:=I.fpOk (H':=H) (b:=s.heap.objs.size) (Nat.le_refl _) (I.hok.fresh (Nat.le_refl _))
  have I1:=I.kept (t':=s.toks) (h':=s.heap.push { cls:=.type "list_iterator", data:=.fields #[.ref p,rawInt 0] }) fun b o e=>Heap.get?_push_of_some _ e
  refine ⟨.int ns.sum,H,I1.turned (t':=tk) (fun b o hb e=>kk b o (by simpa using hb) e) f0 f1 f3 f4 f5,⟨t',?_⟩,q⟩
  have e2:its.toArray.size=ns.length:=by simp [← hl]
  rw [e2,preSum_getD,List.take_length]
theorem call_sortedS:CallR X (.builtin "sorted") (fun xs H Q=>∃ (p:Addr) (ws:List Str),xs = [.ref p]∧SqL X.K H p (ws.map V.str)∧ws.length < 64∧∀ (q:Addr) (ws':List Str),H q=none→ws'.Perm ws→sortedS ws'=true→Q (.ref q) (upd H q (.lst (ws'.map V.str)))):=by
 intro pins s σ H xs us Q I r h
 obtain ⟨p,ws,rfl,hp,h64,q⟩:=h
 obtain ⟨u,rfl,ru⟩:=vals1 r
 cases ru
 obtain ⟨its,rv,pl,hz⟩:=I.list hp
 have hl:=rv.length
 rw [List.length_map] at hl hz
 refine sorted_strs pl.isList (strs_of rv) (by omega) fun out ws' a1 a2 a3=>?_
 obtain ⟨n,en⟩:=sortedAll_at s.heap its out
 have hq:H (s.heap.objs.size + 1)=none:=I.hok.fresh (Nat.le_succ _)
 refine ⟨.ref (s.heap.objs.size + 1),_,I.laid (t':=s.toks) (o:=.lst (ws'.map V.str)) (fun b o e=>sortedAll_old e) (Nat.le_succ _) ⟨?_,out.toList,n,of_strs a1,?_⟩,rfl,q _ ws' hq a2 a3⟩
 ·rw [List.length_map,a2.length_eq]
  omega
 ·simpa using en
end
end L2
namespace L2
open PySem PySem.Spec PyProof.Rows
def Itv (K:PySem.W.Frag)(a:Addr)(n:Nat) : It :=
 ⟨fun i H=>∃ xs,SqL K H a xs∧xs.length=n∧i < n,fun i H v H'=>H'=H∧∀ xs,SqL K H a xs→xs[n - 1 - i]? = some v,fun i _=>i=n⟩
theorem turn_rev {P:Program}{w:World}{K:PySem.W.Frag}{tg:Expr}(a it:Addr)(n:Nat) : Turn P w K tg (Itv K a n) [it] it (fun i h=>h.IsRevIter it a ((n:Int) - 1 - (i:Int))) where
 mem:=List.mem_singleton.mpr rfl
 obj:=fun i h st b hb=>by
  obtain rfl:=List.mem_singleton.mp hb
  obtain ⟨o,e,_,d⟩:=st
  exact ⟨o,e,fun v z=>by rw [d] at z; cases z⟩
 keep:=fun i h h' st k=>st.at fun o e=>k it (List.mem_singleton.mpr rfl) o e
 item:=by
  intro X hP hw hK hc i pins s σ H E I hf st hg
  subst hP hw hK
  obtain ⟨xs,hq,hn,hi⟩:=hg
  obtain ⟨its,rv,pl,hz⟩:=I.list hq
  obtain ⟨x,hx⟩ : ∃ x,xs[n - 1 - i]? = some x:=⟨_,List.getElem?_eq_getElem (by omega)⟩
  obtain ⟨u,hu,ru⟩:=rv.get hx
  obtain ⟨f0,f1,f2,f3,f4,f5⟩:=hf it (List.mem_singleton.mpr rfl)
  have e1:(n:Int) - 1 - (i:Int)=((n - 1 - i:Nat) : Int):=by omega
  rw [e1] at st
  refine wpAny_pyNext_rev_item st pl.isList (x:=u) (by simpa using hu) fun h' st' sb=>?_
  have e2:((n - 1 - i:Nat) : Int) - 1=(n:Int) - 1 - ((i + 1:Nat) : Int):=by omega
  rw [e2] at st'
  obtain ⟨o,e,c,d⟩:=id st'
  refine ⟨u,rfl,go_of (s:={ s with heap:=h' }) e c d (by decide) ⟨x,H,I.turned (t':=s.toks) (fun b o hb e=>(sb.2 b hb).trans e) f0 f1 f3 f4 f5,ru,⟨rfl,fun ys hy=>?_⟩,st',fun b hb=>(hf b hb).1⟩⟩
  rw [I.list_inj hy hq]
  exact hx
 done:=by
  intro X hP hw hK hc i pins s σ H E I hf st hg
  subst hP hw hK
  obtain ⟨f0,f1,f2,f3,f4,f5⟩:=hf it (List.mem_singleton.mpr rfl)
  have hg:i=n:=hg
  have e1:(n:Int) - 1 - (i:Int) = -1:=by omega
  rw [e1] at st
  exact wpAny_pyNext_rev_end (I.ok.hd hc) st fun h' eb=>⟨rfl,I.turned (t':=s.toks) (fun b o hb e=>eb b o hb e) f0 f1 f3 f4 f5⟩
 self:=fun _ _ _ _ _ st h=>wpAny_pyIter_revIter st h
section
variable {X:Cx}{tg:Expr}
def iRev (K:PySem.W.Frag)(ta:TA) : TI:=fun σ H R=>ta σ H fun vs H1=>∃ a xs,vs = [.ref a]∧SqL K H1 a xs∧R (Itv K a xs.length) H1
theorem bt_reversed:bootBuiltins "reversed" = some (.type "reversed"):=by decide +kernel
theorem pi_rev {a:Expr}{ta:TA}{p pos:Pos}(hg:Gl X "reversed") (hm:X.mg "reversed" = none) (ha:PA X [a] ta) (hs:starEach [a] X.env = [(false,eval a X.env)]:=by rfl) :
  PI X tg (.Call (.Name "reversed" p) [a] [] pos) (iRev X.K ta):=by
 intro pins s σ H R I h
 refine Call_ (ld_blt I hg hm bt_reversed (PyProof.Rows.callWith_type1 (thn (ha pos pins s σ H _ I h) fun us s1 ⟨vs,H1,I1,r1,q1⟩=>?_) hs rfl))
 obtain ⟨l,xs,e,hq,q⟩:=q1
 subst e
 obtain ⟨u,rfl,ru⟩:=vals1 r1
 cases ru
 obtain ⟨its,rv,pl,hz⟩:=I1.list hq
 have hl:its.toArray.size=xs.length:=by simp [rv.length]
 refine call_reversed_list pl.isList ?_
 have ri:(s1.heap.push (revObj l ((its.toArray.size:Int) - 1))).IsRevIter s1.heap.objs.size l ((its.toArray.size:Int) - 1):=⟨_,Heap.get?_push_size _ rfl,rfl,rfl⟩
 refine wpAny_pyIter_revIter ri ?_
 refine ⟨s1.heap.objs.size,_,_,_,H1,rfl,I1.kept (t':=s1.toks) fun b o e=>Heap.get?_push_of_some _ e,turn_rev l _ xs.length,?_,fun b hb=>?_,q⟩
 ·have e1:(its.toArray.size:Int) - 1=(xs.length:Int) - 1 - ((0:Nat) : Int):=by rw [hl]; simp
  rw [← e1]
  exact ri
 ·obtain rfl:=List.mem_singleton.mp hb
  exact I1.fpOk (Nat.le_refl _) (I1.hok.fresh (Nat.le_refl _))
theorem for_rev {K:PySem.W.Frag}{a:Addr}{xs:List V}{g:TG}{tb:TS}{D:Ends}{σ:St}{H:Hp}(Pv:Nat→St→Hp→Prop) (h0:Pv 0 σ H) (hl:∀ i σ H,i≤xs.length→Pv i σ H→SqL K H a xs)
  (hs:∀ i x σ H,xs.reverse[i]? = some x→Pv i σ H→g x σ H fun σ2 H2=>tb { D with nx:=Pv (i + 1),ct:=Pv (i + 1),bk:=D.nx } σ2 H2) (hd:∀ σ H,Pv xs.length σ H→D.nx σ H) :
  ∃ W:Nat→Nat→St→Hp→Prop,(∃ m,W 0 m σ H)∧∀ i m σ H,W i m σ H →
   ((Itv K a xs.length).stop i H∧D.nx σ H)∨((Itv K a xs.length).go i H∧∃ N:St→Hp→Prop,(∀ σ' H',N σ' H'→∃ m',m' < m∧W (i + 1) m' σ' H')∧∀ x H',(Itv K a xs.length).yld i H x H'→g x σ H' fun σ2 H2=>tb { D with nx:=N,ct:=N,bk:=D.nx } σ2 H2):=by
 refine ⟨fun i m σ H=>m + i=xs.length∧Pv i σ H,⟨xs.length,rfl,h0⟩,?_⟩
 rintro i m σ H ⟨hm,p⟩
 cases m with
 | zero =>
  obtain rfl:i=xs.length:=by omega
  exact .inl ⟨rfl,hd σ H p⟩
 | succ m =>
  refine .inr ⟨⟨xs,hl i σ H (by omega) p,rfl,by omega⟩,Pv (i + 1),fun σ' H' p'=>⟨m,Nat.lt_succ_self _,by omega,p'⟩,?_⟩
  rintro x H' ⟨rfl,k⟩
  refine hs i x σ _ ?_ p
  rw [List.getElem?_reverse (by omega)]
  exact k xs (hl i σ _ (by omega) p)
end
end L2
namespace L2
open PySem PySem.Spec PyProof.Rows
def mxF (m:Int)(ns:List Int) : Int:=ns.foldl (fun a b=>if a < b then b else a) m
def mxD (d:Int) : List Int→Int
 | []=>d
 | n :: ns=>mxF n ns
def kept:List Value→Array Value
 | [] => #[]
 | v :: _ => #[v,v]
section
variable {P:Program}{w:World}{A:Around}{s:Shared}{R:Result→Shared→Prop}
theorem code_by {id:String}{B:Builtin}{args:Args}(e:entryFor table id=some B) (p:plainId id=true) (h:wpAny (model P w) A.in1 (B args)
  (fun fin s'=>match fin with | .done f=>R (.ok f) s' | .again c'=>c'.quiet=true∧codeAny (model P w) A c' R s') (fun e s'=>R (.error e) s') s) : codeAny (model P w) A (.builtin id args) R s :=
 codeAny_builtin e (by rw [Around.under_plainId p]; exact h)
theorem max_fill {It S l:Addr}{us:Array Value}{d:Value}{kw:List (Str × Value)}(hh:A.handled=none) (n1:l ≠ It) (n2:S ≠ It) (n3:S ≠ l) :
  ∀ (rs:List Int) (i:Nat) (s:Shared) (b:Option (Int × Tok)) (c:Nat),(∀ (j:Nat) n,rs[j]? = some n→∃ t,us[i + j]? = some (.int n t))→i + rs.length=us.size→s.heap.IsListIter It l i→s.heap.IsList l us →
   s.heap.get? S=some { cls:=.type "list", dict:=none,data:=.seq (kept (b.toList.map fun x=>.int x.1 x.2)) c,slots := #[] }→(b=none→rs = []→∃ k tl,kw=(k,d) :: tl) →
   (∀ (v:Value) (h':Heap) (tk:Nat),(match b,rs with | none,[]=>v=d | none,n :: ns=>∃ t,v = .int (mxF n ns) t | some m,ns=>∃ t,v = .int (mxF m.1 ns) t) →
    (∀ a o,a ≠ It→a ≠ S→s.heap.get? a=some o→h'.get? a=some o)→R (.ok (.ret v)) { s with heap:=h',toks:=tk }) →
   codeAny (model P w) A (.builtin "max.loop" ⟨[.ref It,.none,.ref S],kw⟩) R s:=by
 intro rs
 have nm:(toString "max" ++ toString ".loop" : String) = "max.loop" := by decide
 induction rs with
 | nil =>
  intro i s b c hv hn hi hl hS hk fin
  refine code_by PySem.F.entry_max_loop PySem.F.plain_max_loop (wpAny_bind (m:=seqItems? (.ref S)) (wpAny_seqItems hS rfl ?_))
  refine wpAny_bind (m:=tryCatch (pyNext (.ref It)) _) (wpAny_tryCatch (wpAny_pyNext_list_end (by simpa using hh) hi hl (by simp; simp at hn; omega) fun h' eb=>?_))
  have hS':=eb S _ n2 hS
  cases b with
  | none =>
   obtain ⟨k,tl,rfl⟩:=hk rfl rfl
   refine wpAny_bind (m:=rule _) (wpAny_rule (wpAny_pure ?_))
   exact fin d h' s.toks rfl fun a o x y e=>eb a o x e
  | some m =>
   refine wpAny_bind (m:=updateSeq S fun _ => #[]) (wpAny_updateSeq hS' rfl ?_ (show 2≤sizeLine from sz))
   refine wpAny_bind (m:=letGo _ _) (wpAny_letGo (wpAny_pure ?_))
   exact fin _ _ s.toks ⟨m.2,rfl⟩ fun a o x y e=>(Heap.get?_update_other _ _ (Ne.symm y)).trans (eb a o x e)
 | cons n ns ih =>
  intro i s b c hv hn hi hl hS hk fin
  obtain ⟨t,ht⟩:=hv 0 n rfl
  refine code_by PySem.F.entry_max_loop PySem.F.plain_max_loop (wpAny_bind (m:=seqItems? (.ref S)) (wpAny_seqItems hS rfl ?_))
  refine wpAny_bind (m:=tryCatch (pyNext (.ref It)) _) (wpAny_tryCatch (wpAny_pyNext_list_item hi hl ht fun h' hi' sb=>?_))
  have hS':=(sb.2 S n2).trans hS
  have hl':=hl.at fun o e=>(sb.2 l n1).trans e
  have hv':∀ (j:Nat) m,ns[j]? = some m→∃ t,us[i + 1 + j]? = some (.int m t):=fun j m e=>by
   obtain ⟨t,z⟩:=hv (j + 1) m (by simpa using e)
   exact ⟨t,by rw [← z]; congr 1; omega⟩
  have hn':i + 1 + ns.length=us.size:=by simp at hn; omega
  cases b with
  | none =>
   refine wpAny_bind (m:=updateSeq S fun _ => #[.int n t,.int n t]) (wpAny_updateSeq hS' rfl ?_ (show 0≤sizeLine from sz))
   rw [nm]
   refine wpAny_pure ⟨plainId_quiet PySem.F.plain_max_loop _,ih (i + 1) _ (some (n,t)) _ hv' hn' ?_ ?_ (Heap.get?_update_self _ hS' rfl) (fun z=>nomatch z) fun v h2 tk q k=>?_⟩
   ·exact hi'.at fun o e=>(Heap.get?_update_other _ _ n2).trans e
   ·exact hl'.at fun o e=>(Heap.get?_update_other _ _ n3).trans e
   ·exact fin v h2 tk q fun a o x y e=>k a o x y ((Heap.get?_update_other _ _ (Ne.symm y)).trans ((sb.2 a x).trans e))
  | some m =>
   refine wpAny_bind (m:=tryCatch (holding [.int n t,.int n t] _) _) (wpAny_tryCatch (wpAny_holding (wpAny_bind (m:=richCompare .Gt (.int n t) (.int m.1 m.2)) (PySem.P.gt_int ?_))))
   refine wpAny_bind (m:=holding [.bool (decide (m.1 < n))] (truthy (.bool (decide (m.1 < n))))) (wpAny_holding (wpAny_truthy_bool ?_))
   refine wpAny_bind (m:=letGo _ _) (wpAny_letGo (wpAny_pure ?_))
   by_cases lt:m.1 < n
   ·rw [if_pos (decide_eq_true lt)]
    refine wpAny_bind (m:=updateSeq S fun _ => #[.int n t,.int n t]) (wpAny_updateSeq hS' rfl ?_ (show 2≤sizeLine from sz))
    refine wpAny_bind (m:=letGo _ _) (wpAny_letGo ?_)
    rw [nm]
    refine wpAny_pure ⟨plainId_quiet PySem.F.plain_max_loop _,ih (i + 1) _ (some (n,t)) _ hv' hn' ?_ ?_ (Heap.get?_update_self _ hS' rfl) (fun z=>nomatch z) fun v h2 tk q k=>?_⟩
    ·exact hi'.at fun o e=>(Heap.get?_update_other _ _ n2).trans e
    ·exact hl'.at fun o e=>(Heap.get?_update_other _ _ n3).trans e
    ·refine fin v h2 tk ?_ fun a o x y e=>k a o x y ((Heap.get?_update_other _ _ (Ne.symm y)).trans ((sb.2 a x).trans e))
     show ∃ t,v=Value.int (mxF (if m.1 < n then n else m.1) ns) t
     rw [if_pos lt]
     exact q
   ·rw [if_neg (by simpa using lt)]
    refine wpAny_bind (m:=letGo _ _) (wpAny_letGo ?_)
    rw [nm]
    refine wpAny_pure ⟨plainId_quiet PySem.F.plain_max_loop _,ih (i + 1) _ (some m) _ hv' hn' hi' hl' hS' (fun z=>nomatch z) fun v h2 tk q k=>?_⟩
    refine fin v h2 tk ?_ fun a o x y e=>k a o x y ((sb.2 a x).trans e)
    show ∃ t,v=Value.int (mxF (if m.1 < n then n else m.1) ns) t
    rw [if_neg lt]
    exact q
end
theorem args_max_dflt (a v:Value) : argsOk "max" ⟨[a],[(Str.ofString "default", v)]⟩:=by
 unfold argsOk
 kernel_rfl
section
variable {X:Cx}{k:Str}
def CallKw (X:Cx)(f:Value)(k:Str)(r:List V→V→Hp→VK→Prop) : Prop :=
 ∀ (pins:List (Addr × Obj)) (s:Shared) (σ:St) (H:Hp) (xs:List V) (us:List Value) (x:V) (u:Value) (Q:VK),Inv X pins σ H s→Vals xs us→RelV x u→r xs x H Q →
  wpAny (model X.prog X.w) X.A (call f us [(k,u)]) (EP X pins σ Q) X.xe s
def tCK (r:List V→V→Hp→VK→Prop)(t:TA)(tk:TE) : TE:=fun σ H Q=>t σ H fun vs H1=>tk σ H1 fun v H2=>r vs v H2 Q
theorem pe_callKw {id:String}{r:List V→V→Hp→VK→Prop}{x:Str}{e ek:Expr}{es:List Expr}{p pos kp:Pos}{t:TA}{tk:TE}(hc:CallKw X (.builtin id) k r) (hg:Gl X x) (hm:X.mg x=none) (hv:bootBuiltins x=some (.builtin id)) (ha:PA X (e :: es) t) (hk:PE X ek tk)
  (hn:x ≠ "__name__" := by decide) (hdb:(x == ("__debug__" : Str))=false:=by decide) (he:backTo pos (starEach (e :: es) X.env)=(false,eval e X.env) :: backTo pos (starEach es X.env):=by rfl) (hpl:(backTo pos (starEach (e :: es) X.env)).any (·.1)=false:=by rfl) :
  PE X (.Call (.Name x p) (e :: es) [⟨some k,ek,kp⟩] pos) (tCK r t tk):=by
 intro pins s σ H Q I h
 refine wpAny_Call_Name_kw (ld_blt I hg hm hv ?_ hn hdb)
 refine PyProof.Rows.callWith_kw ?_ he hpl
 refine thn (ha pos pins s σ H _ I h) fun us s1 ⟨vs,H1,I1,r1,q1⟩=>?_
 refine PyProof.Rows.kws_cons (thn (hk pins s1 σ H1 _ I1 q1) fun u s2 ⟨v,H2,I2,r2,q2⟩=>PyProof.Rows.kws_nil ?_)
 exact hc pins s2 σ H2 vs us v u Q I2 r1 r2 q2
theorem max_run {pins:List (Addr × Obj)}{s:Shared}{σ:St}{H:Hp}{Q:VK}{p:Addr}{ns:List Int}{d:Int}{t:Tok}{kw:List (Str × Value)}(hc:X.calm=true) (I:Inv X pins σ H s) (hp:SqL X.K H p (ns.map V.int)) (q:Q (.int (mxD d ns)) H)
  (hk:ns = []→∃ k tl,kw=(k,.int d t) :: tl) :
  wpAny (model X.prog X.w) X.A.in1 (do let it ← pyIter (.ref p); again (.builtin "max.loop" ⟨[it,.none,← newList []],kw⟩))
   (fun fin s'=>match fin with
    | .done f=>(match (Except.ok f:Result) with | .ok (.ret v)=>EP X pins σ Q v s' | .ok _=>False | .error e=>X.xe e s')
    | .again c'=>c'.quiet=true∧codeAny (model X.prog X.w) X.A c' (fun r s'=>match r with | .ok (.ret v)=>EP X pins σ Q v s' | .ok _=>False | .error e=>X.xe e s') s') X.xe s:=by
 obtain ⟨its,rv,pl,hz⟩:=I.list hp
 have hl:=rv.length
 rw [List.length_map] at hl
 obtain ⟨o,n,e,_⟩:=id pl
 have lt:=Heap.lt_size e
 refine wpAny_bind (wpAny_pyIter_list pl.isList (wpAny_bind (wpAny_newList ?_ (Nat.zero_le _))))
 have z:(s.heap.push { cls:=.type "list_iterator", data:=.fields #[.ref p,.int 0 0] }).objs.size=s.heap.objs.size + 1:=Heap.size_push ..
 refine wpAny_pure ⟨plainId_quiet PySem.F.plain_max_loop _,max_fill (l:=p) (us:=its.toArray) (d:=.int d t) (I.ok.hd hc) (Nat.ne_of_lt lt) ?_ ?_ ns 0 _ none 0 (fun j m e=>?_) ?_ ?_ ((pl.isList.push _).push _) (Heap.get?_push_size _ rfl) (fun _=>hk) fun v h' tk qv k=>?_⟩
 ·show (_:Nat) ≠ _
  rw [z]
  omega
 ·show (_:Nat) ≠ _
  rw [z]
  exact fun y=>absurd lt (by rw [← y]; exact Nat.not_lt.mpr (Nat.le_succ _))
 ·obtain ⟨v,ev,rv'⟩:=rv.get (by rw [List.getElem?_map,e]; rfl)
  obtain ⟨t,rfl⟩:=rv'
  exact ⟨t,by simpa using ev⟩
 ·simp [hl]
 ·exact Heap.IsListIter.at ⟨_,Heap.get?_push_size _ rfl,rfl,rfl⟩ fun o e=>Heap.get?_push_of_some _ e
 ·refine ⟨.int (mxD d ns),H,I.kept (t':=tk) fun b o e=>k b o (Nat.ne_of_lt (Heap.lt_size e)) ?_ (Heap.get?_push_of_some _ (Heap.get?_push_of_some _ e)),?_,q⟩
  ·show (_:Nat) ≠ _
   rw [z]
   exact Nat.ne_of_lt (Nat.lt_succ_of_lt (Heap.lt_size e))
  ·cases ns with
   | nil=>exact ⟨t,qv⟩
   | cons n ns=>exact qv
theorem call_max_dflt (hc:X.calm=true) : CallKw X (.builtin "max") "default" (fun xs d H Q=>∃ (p:Addr) (ns:List Int) (i:Int),xs = [.ref p]∧d = .int i∧SqL X.K H p (ns.map V.int)∧Q (.int (mxD i ns)) H):=by
 intro pins s σ H xs us x u Q I r ru h
 obtain ⟨p,ns,i,rfl,rfl,hp,q⟩:=h
 obtain ⟨t,rfl⟩:=ru
 obtain ⟨u,rfl,ru⟩:=vals1 r
 cases ru
 refine kmk_tree PySem.F.kind_max PySem.F.plain_max PySem.F.entry_max (args_max_dflt _ _) ?_
 refine wpAny_bind (m:=Builtin.Builtins.bindParams "max" ["key", "default"] 0 ⟨[],[(Str.ofString "default", .int i t)]⟩) (wpAny_of_eq (a:=[none,some (.int i t)]) rfl ?_)
 have nm:(toString "max" ++ toString ".loop" : String) = "max.loop" := by decide
 refine wpAny_bind (m:=pure (Value.ref p)) (wpAny_pure ?_)
 rw [nm]
 exact max_run hc I hp q fun _=>⟨_,_,rfl⟩
end
end L2
namespace L2
open PySem PySem.Spec PyProof.Rows
section
variable {X:Cx}
end
end L2
namespace L2
open PySem PySem.Spec PyProof.Rows
abbrev TF:=Nat→St→Hp→VK→Prop
def okS (x:Str) : Prop:=∀ c∈x.cps.toList,c < 16 ^ 8
section
variable {X:Cx}
def PF (X:Cx)(es:List Expr)(t:TF) : Prop :=
 ∀ (n:Nat) (out:Str) (pins:List (Addr × Obj)) (s:Shared) (σ:St) (H:Hp) (Q:VK),out.length≤n→Inv X pins σ H s→t n σ H Q→wpAny (model X.prog X.w) X.A (joinParts out (evalEach es X.env)) (EP X pins σ Q) X.xe s
def fNil:TF:=fun n _ H Q=>n≤sizeLine∧∀ y:Str,Q (.str y) H
def fLit (k:Nat)(t:TF) : TF:=fun n σ H Q=>n + k≤sizeLine∧t (n + k) σ H Q
def fRep (te:TE)(t:TF) : TF:=fun n σ H Q=>te σ H fun v H1=>∃ x,v = .str x∧okS x∧x.length≤1000∧n + 10002≤sizeLine∧t (n + 10002) σ H1 Q
theorem pfs_nil:PF X [] fNil:=fun n out pins s σ H Q hn I h=>joinParts_nil ⟨.str out,H,I.tok _,⟨_,rfl⟩,h.2 out⟩ (Nat.le_trans hn h.1)
theorem len_app (x y:Str) : (x ++ y).length=x.length + y.length:=strLen_append x y
theorem pfs_lit {c:Str}{q:Nat}{p:Pos}{es:List Expr}{t:TF}{k:Nat}(hk:c.length≤k)(h:PF X es t) : PF X (.Constant (.str c) q p :: es) (fLit k t):=by
 intro n out pins s σ H Q hn I z
 refine joinParts_cons (thn (pe_str pins s σ H (fun v H1=>v = .str c∧H1=H) I ⟨rfl,rfl⟩) ?_)
 rintro u s1 ⟨v,H1,I1,r,rfl,rfl⟩
 obtain ⟨t',rfl⟩:=r
 have e:=len_app out c
 exact ⟨by have:=z.1; omega,h (n + k) _ pins s1 σ H1 Q (by omega) I1 z.2⟩
theorem pfs_r {e:Expr}{p:Pos}{es:List Expr}{te:TE}{t:TF}(he:PE X e te)(h:PF X es t) : PF X (.FormattedValue e 114 none p :: es) (fRep te t):=by
 intro n out pins s σ H Q hn I z
 refine joinParts_cons (wpAny_FormattedValue_repr (thn (he pins s σ H _ I z) ?_))
 rintro u s1 ⟨v,H1,I1,r,x,rfl,ok,lx,zn,zt⟩
 obtain ⟨t',rfl⟩:=r
 have l2:=StrLaws.reprText_len x ok
 have big:(reprText x).length≤sizeLine:=Nat.le_trans l2 (by unfold sizeLine; omega)
 refine pyReprObj_str (formatField_str (fun t2 tk=>?_) big) big
 have e:=len_app out (reprText x)
 exact ⟨by omega,h (n + 10002) _ pins _ σ H1 Q (by omega) (I1.tok _) zt⟩
theorem pe_fstr {a b:Expr}{es:List Expr}{p:Pos}{t:TF}(h:PF X (a :: b :: es) t) : PE X (.JoinedStr (a :: b :: es) p) (t 0):=by
 intro pins s σ H Q I z
 exact JoinedStr_many (h 0 Str.empty pins s σ H Q (Nat.le_refl _) I z)
end
end L2
namespace L2
theorem szB {n:Nat}(h:n≤1000000) : n≤PySem.sizeLine:=Nat.le_trans h (by decide)
end L2
namespace L2
open PySem
theorem se_c {c:Const}{j:Nat}{p:Pos}{es:List Expr}{env:Env} : starEach (.Constant c j p :: es) env=(false,eval (.Constant c j p) env) :: starEach es env:=rfl
end L2
namespace L2
open PySem PySem.Spec PyProof.Rows
section
variable {X:Cx}{k:Nat}{f C:Addr}{fd:FuncData}{ps:List Str}{sp:Sp}{dvs:List V}{ds:List Value}{x:Str}{p pos:Pos}{e:Expr}{es:List Expr}{t:TA}
end
end L2
namespace L2
open PySem PySem.Spec PyProof.Rows
section
variable {X:Cx}{k:Nat}{f C:Addr}{fd:FuncData}{ps:List Str}{sp:Sp}{dvs:List V}{ds:List Value}{m:Str}{pos apos:Pos}{e o:Expr}{es:List Expr}{ta:TE}{t:TA}
end
end L2
namespace L2
open PySem PySem.Spec PyProof.Rows
section
variable {X:Cx}
end
end L2
namespace L2
open PySem PySem.Spec PyProof.Rows
def Ite (K:PySem.W.Frag)(a:Addr) : It :=
  ⟨fun i H=>∃ xs x,SqL K H a xs∧xs[i]? = some x,
   fun i H v H'=>∃ T x,H T=none∧v = .ref T∧H'=upd H T (.tup [.int (i:Int),x])∧∀ xs,SqL K H a xs→xs[i]? = some x,
   fun i H=>∃ xs,SqL K H a xs∧xs.length≤i⟩
theorem turn_enum {P:Program}{w:World}{K:PySem.W.Frag}{elts:List Expr}{kk:Nat}{pos:Pos}{z it l:Addr}(ne:z ≠ it) :
  Turn P w K (.Tuple elts kk pos) (Ite K l) [z,it] z (fun i h=>(∃ old,IsEnum h z it ((i:Nat) : Int) old)∧h.IsListIter it l i) where
 mem:=List.mem_cons_self
 obj:=fun i h st b hb=>by
  obtain ⟨⟨old,he⟩,⟨o1,e1,c1,d1⟩⟩:=st
  rcases List.mem_cons.mp hb with rfl | hb
  ·exact ⟨_,he,fun v q=>by cases q⟩
  ·obtain rfl:=List.mem_singleton.mp hb
   exact ⟨_,e1,fun v q=>by rw [d1] at q; cases q⟩
 keep:=fun i h h' st k=>by
  obtain ⟨⟨old,he⟩,h1⟩:=st
  exact ⟨⟨old,k z List.mem_cons_self _ he⟩,h1.at fun o x=>k it (List.mem_cons_of_mem _ List.mem_cons_self) o x⟩
 item:=by
  intro X hP hw hK hc i pins s σ H E I hf st hg
  subst hP hw hK
  obtain ⟨xs,x,q1,hx⟩:=hg
  obtain ⟨its1,rv1,pl1,z1⟩:=I.list q1
  obtain ⟨u1,hu1,ru1⟩:=rv1.get hx
  obtain ⟨⟨old,he⟩,h1⟩:=st
  refine wpAny_pyNext_enum_item he h1 pl1.isList (x:=u1) (by simpa using hu1) ne fun h' a1 a2 a3 a4 a5=>?_
  refine ⟨_,rfl,wpAny_letOwnedTupleGo_enum a1 fun h2' he' hs'=>?_⟩
  have I1:Inv X pins σ H { s with heap:=h',toks:=s.toks + 1 }:=I.turnedL (t':=s.toks + 1) (ch:=[z,it]) (fun c o hc e=>a5 c o (fun q=>hc (by simp [q])) (fun q=>hc (by simp [q])) e) hf
  have hT0:=I.hok.fresh (Nat.le_refl s.heap.objs.size)
  have fT:FpOk X pins H s.heap.objs.size:=I.fpOk (Nat.le_refl _) hT0
  have I2:Inv X pins σ (upd H s.heap.objs.size (.tup [.int (i:Int),x])) { s with heap:=h',toks:=s.toks + 1 }:=I1.track fT I.sz ⟨(show 2≤sizeLine from sz),[.int i s.toks,u1],.cons ⟨_,rfl⟩ (.cons ru1 .nil),⟨_,a3,rfl,_,rfl⟩⟩
  obtain ⟨f0,f1,f2,f3,f4,f5⟩:=hf z List.mem_cons_self
  have ne':∀ c∈[z,it],c ≠ s.heap.objs.size:=fun c hc q=>by
   have q':∃ o,s.heap.get? c=some o:=by
    obtain ⟨o1,e1,_⟩:=h1
    rcases List.mem_cons.mp hc with rfl | hc
    ·exact ⟨_,he⟩
    ·obtain rfl:=List.mem_singleton.mp hc
     exact ⟨_,e1⟩
   obtain ⟨o,e⟩:=q'
   exact absurd (Heap.lt_size e) (by rw [q]; exact Nat.lt_irrefl _)
  refine ⟨.ref s.heap.objs.size,_,I2.turned (t':=s.toks + 1) (fun c o hc e=>(hs'.2 c hc).trans e) (by rw [upd_ne (ne' z List.mem_cons_self)]; exact f0) f1 f3 f4 f5,rfl,⟨_,x,hT0,rfl,rfl,fun zs hz=>by rw [I.list_inj hz q1]; exact hx⟩,?_,fun c hc=>by rw [upd_ne (ne' c hc)]; exact (hf c hc).1⟩
  have ei:(((i + 1:Nat)) : Int)=(i:Int) + 1:=by omega
  rw [ei]
  exact ⟨⟨_,he'⟩,a2.extBut hs'.extBut (Ne.symm ne)⟩
 done:=by
  intro X hP hw hK hc i pins s σ H E I hf st hg
  subst hP hw hK
  obtain ⟨xs,q1,hend⟩:=hg
  obtain ⟨its1,rv1,pl1,z1⟩:=I.list q1
  obtain ⟨⟨old,he⟩,h1⟩:=st
  have e1:=rv1.length
  obtain ⟨f0,f1,f2,f3,f4,f5⟩:=hf it (List.mem_cons_of_mem _ List.mem_cons_self)
  exact wpAny_pyNext_enum_end (I.ok.hd hc) he h1 pl1.isList (by simp; omega) fun h' eb=>⟨rfl,I.turned (t':=s.toks) (fun b o hb e=>eb b o hb e) f0 f1 f3 f4 f5⟩
 self:=fun A i s Q E st h=>let ⟨⟨_,he⟩,_⟩:=st; wpAny_pyIter_enum he h
section
variable {X:Cx}
def iEnum (K:PySem.W.Frag)(ta:TA) : TI:=fun σ H R=>ta σ H fun vs H1=>∃ a,vs = [.ref a]∧(∃ xs,SqL K H1 a xs)∧R (Ite K a) H1
theorem pi_enum {elts:List Expr}{kk:Nat}{tpos:Pos}{a:Expr}{ta:TA}{p pos:Pos}(hg:Gl X "enumerate") (hm:X.mg "enumerate" = none) (ha:PA X [a] ta) (hs:starEach [a] X.env = [(false,eval a X.env)]:=by rfl) :
  PI X (.Tuple elts kk tpos) (.Call (.Name "enumerate" p) [a] [] pos) (iEnum X.K ta):=by
 intro pins s σ H R I h
 refine Call_ (ld_blt I hg hm (by decide +kernel:bootBuiltins "enumerate" = some (.type "enumerate")) (PyProof.Rows.callWith_type1 (thn (ha pos pins s σ H _ I h) fun us s1 ⟨vs,H1,I1,r1,q1⟩=>?_) hs rfl))
 obtain ⟨l,e,⟨xs,hq⟩,q⟩:=q1
 subst e
 obtain ⟨u,rfl,ru⟩:=vals1 r1
 cases ru
 obtain ⟨its,rv,pl,hz⟩:=I1.list hq
 refine call_enumerate_list pl.isList fun h' a1 a2 a3 a4=>?_
 refine wpAny_pyIter_enum a1 ?_
 refine ⟨s1.heap.objs.size + 1,_,_,_,H1,rfl,I1.kept (t':=s1.toks) a4,turn_enum (z:=s1.heap.objs.size + 1) (it:=s1.heap.objs.size) (l:=l) (by show @Ne Nat _ _; omega),⟨⟨_,a1⟩,a2⟩,fun b hb=>?_,q⟩
 have hb':s1.heap.objs.size≤b:=by
  show @LE.le Nat _ _ _
  rcases List.mem_cons.mp hb with rfl | hb
  ·omega
  ·obtain rfl:=List.mem_singleton.mp hb
   exact Nat.le_refl _
 exact I1.fpOk hb' (I1.hok.fresh hb')
theorem for_enum {K:PySem.W.Frag}{a:Addr}{xs:List V}{g:TG}{tb:TS}{D:Ends}{σ:St}{H:Hp}(Pv:Nat→St→Hp→Prop) (h0:Pv 0 σ H) (hl:∀ i σ H,i≤xs.length→Pv i σ H→SqL K H a xs)
  (hs:∀ i x σ H T,xs[i]? = some x→Pv i σ H→H T=none→g (.ref T) σ (upd H T (.tup [.int (i:Int),x])) fun σ2 H2=>tb { D with nx:=Pv (i + 1),ct:=Pv (i + 1),bk:=D.nx } σ2 H2) (hd:∀ σ H,Pv xs.length σ H→D.nx σ H) :
  ∃ W:Nat→Nat→St→Hp→Prop,(∃ m,W 0 m σ H)∧∀ i m σ H,W i m σ H →
   ((Ite K a).stop i H∧D.nx σ H)∨((Ite K a).go i H∧∃ N:St→Hp→Prop,(∀ σ' H',N σ' H'→∃ m',m' < m∧W (i + 1) m' σ' H')∧∀ x H',(Ite K a).yld i H x H'→g x σ H' fun σ2 H2=>tb { D with nx:=N,ct:=N,bk:=D.nx } σ2 H2):=by
 refine ⟨fun i m σ H=>m + i=xs.length∧Pv i σ H,⟨xs.length,rfl,h0⟩,?_⟩
 rintro i m σ H ⟨hm,p⟩
 have q1:=hl i σ H (by omega) p
 cases m with
 | zero=>exact .inl ⟨⟨xs,q1,by omega⟩,hd σ H ((show i=xs.length by omega) ▸ p)⟩
 | succ m =>
  have h1:i < xs.length:=by omega
  refine .inr ⟨⟨xs,xs[i],q1,List.getElem?_eq_getElem h1⟩,Pv (i + 1),fun σ' H' p'=>⟨m,Nat.lt_succ_self _,by omega,p'⟩,fun x H' y=>?_⟩
  obtain ⟨T,x1,hT,rfl,rfl,k1⟩:=y
  exact hs i x1 σ H T (k1 xs q1) p hT
end
end L2
namespace PySem
section
variable {prog:Program}{w:World}{A:Around}{E:Value→Shared→Prop}{s:Shared}
end
end PySem
namespace L2
open PySem PySem.Spec PyProof.Rows
section
variable {X:Cx}{tg:Expr}
end
end L2
namespace L2
open PySem PySem.Spec PyProof.Rows
section
variable {P:Program}{w:World}{A:Around}{s:Shared}{R:Result→Shared→Prop}
end
section
variable {X:Cx}{k:Str}
end
end L2
namespace L2
open PySem PySem.Spec PyProof.Rows
section
variable {κ:Type} [DecidableEq κ]
def valV (kvs:List (κ × V))(k:κ) : Option V:=(kvs.find? fun kv=>decide (kv.1=k)).map (·.2)
def putK (kvs:List (κ × V))(k:κ)(v:V) : List (κ × V) :=
 if (kvs.any fun kv=>decide (kv.1=k))=true then kvs.map (fun kv=>if kv.1=k then (kv.1,v) else kv) else kvs ++ [(k,v)]
theorem valV_pos {p:κ × V}{r:List (κ × V)}{k:κ}(e:p.1=k) : valV (p :: r) k=some p.2:=by simp [valV,List.find?_cons,e]
theorem valV_neg {p:κ × V}{r:List (κ × V)}{k:κ}(e:¬ p.1=k) : valV (p :: r) k=valV r k:=by simp [valV,List.find?_cons,e]
theorem valV_any (k:κ) : ∀ kvs:List (κ × V),(kvs.any fun kv=>decide (kv.1=k))=(valV kvs k).isSome
 | []=>rfl
 | p :: r=>by
  rw [List.any_cons]
  by_cases e:p.1=k
  ·simp only [valV_pos e,decide_eq_true e,Bool.true_or,Option.isSome_some]
  ·rw [valV_neg e,decide_eq_false e,Bool.false_or]; exact valV_any k r
theorem length_putK (kvs:List (κ × V))(k:κ)(v:V) : (putK kvs k v).length≤kvs.length + 1:=by
 unfold putK
 split
 ·rw [List.length_map]; omega
 ·rw [List.length_append,List.length_cons,List.length_nil]; omega
theorem putK_new {kvs:List (κ × V)}{k:κ}(v:V)(h:valV kvs k=none) : putK kvs k v=kvs ++ [(k,v)]:=by
 unfold putK
 rw [valV_any,h]
 exact if_neg (by decide)
theorem RelO.isSome_eq {o:Option V}{u:Option Value}(r:RelO o u) : o.isSome=u.isSome:=by
 cases o with
 | none=>cases u with
  | none=>rfl
  | some _=>exact (show False from r).elim
 | some _=>cases u with
  | none=>exact (show False from r).elim
  | some _=>rfl
theorem KV.val {kvs:List (κ × V)}{vs:List (κ × Value)}(r:KV kvs vs)(k:κ) : RelO (valV kvs k) (valueAt vs k):=by
 unfold KV at r
 induction r with
 | nil=>exact True.intro
 | @cons p q ps qs h t ih =>
  obtain ⟨h1,h2⟩:=h
  by_cases e:p.1=k
  ·have e':q.1=k:=h1.symm.trans e
   have b:valueAt (q :: qs) k=some q.2:=by simp [valueAt,List.find?_cons,e']
   rw [valV_pos e,b]; exact h2
  ·have e':¬ q.1=k:=fun z=>e (h1.trans z)
   have b:valueAt (q :: qs) k=valueAt qs k:=by simp [valueAt,List.find?_cons,e']
   rw [valV_neg e,b]; exact ih
theorem KV.any {kvs:List (κ × V)}{vs:List (κ × Value)}(r:KV kvs vs)(k:κ) : (kvs.any fun kv=>decide (kv.1=k))=vs.any fun kv=>decide (kv.1=k):=by
 unfold KV at r
 induction r with
 | nil=>rfl
 | cons h t ih=>rw [List.any_cons,List.any_cons,ih,h.1]
theorem KV.repl {kvs:List (κ × V)}{vs:List (κ × Value)}(r:KV kvs vs) (k:κ) {y:V}{u:Value}(ry:RelV y u) :
  KV (kvs.map fun kv=>if kv.1=k then (kv.1,y) else kv) (vs.map fun kv=>if kv.1=k then (kv.1,u) else kv):=by
 unfold KV at r ⊢
 induction r with
 | nil=>exact .nil
 | @cons p q ps qs h t ih =>
  rw [List.map_cons,List.map_cons]
  refine .cons ?_ ih
  obtain ⟨h1,h2⟩:=h
  by_cases e:p.1=k
  ·rw [if_pos e,if_pos (h1.symm.trans e)]; exact ⟨h1,ry⟩
  ·rw [if_neg e,if_neg (fun z=>e (h1.trans z))]; exact ⟨h1,h2⟩
theorem KV.put {kvs:List (κ × V)}{vs:List (κ × Value)}(r:KV kvs vs)(k:κ){y:V}{u:Value}(ry:RelV y u) : KV (putK kvs k y) (stored vs k u):=by
 unfold putK stored
 rw [r.any k]
 by_cases e:(vs.any fun kv=>decide (kv.1=k))=true
 ·rw [if_pos e,if_pos e]; exact r.repl k ry
 ·rw [if_neg e,if_neg e]; exact Paired.snoc r ⟨rfl,ry⟩
theorem KV.length {kvs:List (κ × V)}{vs:List (κ × Value)}(r:KV kvs vs) : kvs.length=vs.length:=Paired.length r
end
theorem kV_is {P:Program}{w:World}{k:Key}{u:Value}(r:RelV (kV k) u) : (mixKind P w).is k u=true:=by
 cases k with
 | inl i=>obtain ⟨t,e⟩:=(show ∃ t,u=Value.int i t from r); subst e; exact mixKind_int P w i t
 | inr x=>obtain ⟨t,e⟩:=(show ∃ t,u=Value.str x t from r); subst e; exact mixKind_str P w x t
theorem items_are {P:Program}{w:World} : ∀ {ks:List Key}{us:List Value},Vals (ks.map kV) us→ItemsAre (mixKind P w) ks us
 | [],_,r=>by rw [List.map_nil] at r; cases r; exact .nil
 | k :: ks,_,r=>by
  rw [List.map_cons] at r
  cases r with
  | cons h t=>exact .cons (kV_is h) (items_are t)
abbrev KT (H:Hp) : List (List Key × V)→List (List Key × Addr × Value)→Prop:=Paired fun p q=>p.1=q.1∧H q.2.1=some (.tup (p.1.map kV))∧RelV p.2 q.2.2
theorem KT.val {H:Hp}{kvs:List (List Key × V)}{xs:List (List Key × Addr × Value)}(r:KT H kvs xs)(k:List Key) : RelO (valV kvs k) ((atKey xs k).map (·.2)):=by
 induction r with
 | nil=>exact True.intro
 | @cons p q ps qs h t ih =>
  obtain ⟨h1,_,h2⟩:=h
  by_cases e:p.1=k
  ·have e':q.1=k:=h1.symm.trans e
   have b:atKey (q :: qs) k=some q.2:=by simp [atKey,List.find?_cons,e']
   rw [valV_pos e,b]; exact h2
  ·have e':¬ q.1=k:=fun z=>e (h1.trans z)
   have b:atKey (q :: qs) k=atKey qs k:=by simp [atKey,List.find?_cons,e']
   rw [valV_neg e,b]; exact ih
theorem KT.repl {H:Hp}{kvs:List (List Key × V)}{xs:List (List Key × Addr × Value)}(r:KT H kvs xs) (k:List Key) {y:V}{u:Value}(ry:RelV y u) :
  KT H (kvs.map fun kv=>if kv.1=k then (kv.1,y) else kv) (xs.map (putAt k u)):=by
 induction r with
 | nil=>exact .nil
 | @cons p q ps qs h t ih =>
  rw [List.map_cons,List.map_cons]
  refine .cons ?_ ih
  obtain ⟨h1,h2,h3⟩:=h
  unfold putAt
  by_cases e:p.1=k
  ·rw [if_pos e,if_pos (h1.symm.trans e)]; exact ⟨h1,h2,ry⟩
  ·rw [if_neg e,if_neg (fun z=>e (h1.trans z))]; exact ⟨h1,h2,h3⟩
theorem KT.put {H:Hp}{kvs:List (List Key × V)}{xs:List (List Key × Addr × Value)}(r:KT H kvs xs) (k:List Key) {b:Addr}{y:V}{u:Value}(hb:H b=some (.tup (k.map kV))) (ry:RelV y u) :
  KT H (putK kvs k y) (storedH xs k b u):=by
 have e:(kvs.any fun kv=>decide (kv.1=k))=(atKey xs k).isSome:=by
  rw [valV_any,(r.val k).isSome_eq,Option.isSome_map]
 unfold putK storedH
 rw [e]
 by_cases q:(atKey xs k).isSome=true
 ·rw [if_pos q,if_pos q]; exact r.repl k ry
 ·rw [if_neg q,if_neg q]; exact Paired.snoc r ⟨rfl,hb,ry⟩
theorem KT.keeps {H H':Hp}{kvs:List (List Key × V)}{xs:List (List Key × Addr × Value)}(r:KT H kvs xs)(ht:∀ b ys,H b=some (.tup ys)→H' b=some (.tup ys)) : KT H' kvs xs :=
 Paired.mapP r fun _ _ z=>⟨z.1,ht _ _ z.2.1,z.2.2⟩
section
variable {P:Program}{w:World}{H:Hp}{h:Heap}{a:Addr}
theorem rd_of {u:HO}(ok:HOk P w H h)(e:Rd H a u) : ObjOk P w H h a u:=e.ok ok
theorem dk_rd {kvs:List (Key × V)}(ok:HOk P w H h)(e:Rd H a (.dK kvs)) : kvs.length≤sizeLine∧(a == sysModules)=false∧∃ vs,KV kvs vs∧h.DictOf (mixKind P w) a vs :=
 show ObjOk P w H h a (.dK kvs) from rd_of ok e
theorem dk_of {kvs:List (Key × V)}(ok:HOk P w H h)(e:H a=some (.dK kvs)) : kvs.length≤sizeLine∧(a == sysModules)=false∧∃ vs,KV kvs vs∧h.DictOf (mixKind P w) a vs:=dk_rd ok (.inl e)
theorem key_of {ks:List Key}(ok:HOk P w H h)(e:H a=some (.tup (ks.map kV))) : (tupleKind (mixKind P w)).is h ks a:=by
 obtain ⟨_,its,r,o,h1,h2,n,h3⟩:=(show ObjOk P w H h a (.tup (ks.map kV)) from ok a _ e)
 exact ⟨o,its.toArray,n,h1,h2,h3,by simpa using items_are r⟩
theorem dt_rd {kvs:List (List Key × V)}(ok:HOk P w H h)(e:Rd H a (.dT kvs)) : kvs.length≤sizeLine∧(a == sysModules)=false ∧
  ∃ xs,KT H kvs xs∧h.DictOfH (tupleKind (mixKind P w)) a xs:=by
 obtain ⟨z,y,xs,r,o,es,ep,h1,h2,h3,h4,h5⟩:=(show ObjOk P w H h a (.dT kvs) from rd_of ok e)
 refine ⟨z,y,xs,r,o,es,ep,h1,h2,h3,h4,fun x hx=>?_,h5⟩
 have all:∀ {l:List (List Key × V)}{m:List (List Key × Addr × Value)},KT H l m→∀ x∈m,(tupleKind (mixKind P w)).is h x.1 x.2.1:=by
  intro l m q
  induction q with
  | nil=>intro x hx; exact nomatch hx
  | @cons p q ps qs hq t ih =>
   intro x hx
   rcases List.mem_cons.mp hx with e | hx
   ·subst e
    exact key_of ok (by rw [← hq.1]; exact hq.2.1)
   ·exact ih x hx
 exact all r x hx
theorem dt_of {kvs:List (List Key × V)}(ok:HOk P w H h)(e:H a=some (.dT kvs)) : kvs.length≤sizeLine∧(a == sysModules)=false ∧
  ∃ xs,KT H kvs xs∧h.DictOfH (tupleKind (mixKind P w)) a xs:=dt_rd ok (.inl e)
end
def DGet (H:Hp)(a:Addr)(y:V)(r:Option V) : Prop :=
 (∃ kvs k,Rd H a (.dK kvs)∧y=kV k∧r=valV kvs k)∨∃ kvs k b,Rd H a (.dT kvs)∧y = .ref b∧H b=some (.tup (k.map kV))∧r=valV kvs k
def DPut (H:Hp)(a:Addr)(y v:V)(H':Hp) : Prop :=
 (∃ kvs k,H a=some (.dK kvs)∧y=kV k∧kvs.length < sizeLine∧H'=upd H a (.dK (putK kvs k v))) ∨
 ∃ kvs k b,H a=some (.dT kvs)∧y = .ref b∧H b=some (.tup (k.map kV))∧kvs.length < sizeLine∧H'=upd H a (.dT (putK kvs k v))
theorem DGet.k {H:Hp}{a:Addr}{kvs:List (Key × V)}{k:Key}(e:H a=some (.dK kvs)) : DGet H a (kV k) (valV kvs k):=.inl ⟨kvs,k,.inl e,rfl,rfl⟩
theorem DPut.k {H:Hp}{a:Addr}{kvs:List (Key × V)}{k:Key}{v:V}(e:H a=some (.dK kvs))(hl:kvs.length < sizeLine) : DPut H a (kV k) v (upd H a (.dK (putK kvs k v))):=.inl ⟨kvs,k,e,rfl,hl,rfl⟩
section
variable {X:Cx}{pins:List (Addr × Obj)}{σ:St}{H:Hp}{s:Shared}{a:Addr}{y v:V}{u r:Value}{o:Option V}{A:Around}{E:Value→Shared→Prop}
theorem Inv.big (I:Inv X pins σ H s) : sysModules < s.heap.objs.size:=by
 have h:mainGlobals < s.heap.objs.size:=(I.mod.glob.keeps I.bk).lt
 exact Nat.lt_trans (by decide) h
theorem d_getItem {Q:Value→Shared→Prop}(hu:A.units + 1 < cLine) (I:Inv X pins σ H s) (g:DGet H a y (some v)) (ry:RelV y u) (h:∀ w' s',Inv X pins σ H s'→RelV v w'→Q w' s') :
  wpAny (model X.prog X.w) A (getItem (.ref a) u) Q E s:=by
 rcases g with ⟨kvs,k,e,ey,l⟩ | ⟨kvs,k,b,e,ey,eb,l⟩
 ·subst ey
  obtain ⟨z,hd,vs,rel,dd⟩:=dk_rd I.hok e
  obtain ⟨w',hw,rw'⟩:=RelO.some_of (v:=v) (o:=valueAt vs k) (by rw [l]; exact rel.val k)
  exact wpAny_getItem_of (kV_is ry) dd.mapOf hw (h w' _ (I.tok _) rw')
 ·subst ey
  cases (show u=Value.ref b from ry)
  obtain ⟨z,hd,xs,rel,dd⟩:=dt_rd I.hok e
  obtain ⟨w',hw,rw'⟩:=RelO.some_of (v:=v) (o:=(atKey xs k).map (·.2)) (by rw [l]; exact rel.val k)
  obtain ⟨p,hp,hp2⟩:=Option.map_eq_some_iff.mp hw
  refine wpAny_getItem_heap (tupleKind_room_in1 hu) (key_of I.hok eb) dd hp ?_
  rw [hp2]
  exact h w' _ (I.tok _) rw'
theorem d_write {h':Heap}{t':Nat}{ob:HO}(I:Inv X pins σ H s) (mu:Mut (H a)) (hs:Heap.SameBut a s.heap h') (he:∃ q,h'.get? a=some q) (new:ObjOk X.prog X.w (upd H a ob) h' a ob) :
  Inv X pins σ (upd H a ob) { s with heap:=h',toks:=t' } :=
 I.write (x:=a) (e:=a) mu (.inl rfl) (fun b q hb z=>(hs.2 b hb).trans z) he new
theorem dk_new {P:Program}{w:World}{H':Hp}{h':Heap}{kvs:List (Key × V)}{vs:List (Key × Value)}(z:kvs.length≤sizeLine) (hd:(a == sysModules)=false) (rel:KV kvs vs) (dd:h'.DictOf (mixKind P w) a vs) :
  ObjOk P w H' h' a (.dK kvs):=⟨z,hd,vs,rel,dd⟩
theorem d_setItem {H':Hp}{Q:Unit→Shared→Prop}(hu:A.units + 1 < cLine) (I:Inv X pins σ H s) (g:DPut H a y v H') (ry:RelV y u) (rv:RelV v r) (h:∀ s',Inv X pins σ H' s'→Q () s') :
  wpAny (model X.prog X.w) A (setItem (.ref a) u r) Q E s:=by
 rcases g with ⟨kvs,k,e,ey,l,eH⟩ | ⟨kvs,k,b,e,ey,eb,l,eH⟩
 ·subst ey eH
  obtain ⟨z,hd,vs,rel,dd⟩:=dk_of I.hok e
  have hz:vs.length≤sizeLine:=by rw [← rel.length]; exact z
  have hl:(putK kvs k v).length≤sizeLine:=by have:=length_putK kvs k v; omega
  refine wpAny_setItem_pairs (hsz:=hz) (kV_is ry) dd fun h' dd' hs=>h _ ?_
  have he:∃ q,h'.get? a=some q:=let ⟨q,_,_,hq,_⟩:=dd'; ⟨q,hq⟩
  exact d_write I (by rw [e]; exact True.intro) hs he (dk_new hl hd (rel.put k rv) dd')
 ·subst ey eH
  cases (show u=Value.ref b from ry)
  obtain ⟨z,hd,xs,rel,dd⟩:=dt_of I.hok e
  have hz:xs.length≤sizeLine:=by rw [← Paired.length rel]; exact z
  have hl:(putK kvs k v).length≤sizeLine:=by have:=length_putK kvs k v; omega
  refine wpAny_setItem_heap (hsz:=hz) (tupleKind_room_in1 hu) (key_of I.hok eb) dd fun h' dd' hs=>h _ ?_
  obtain ⟨q,es,ep,hq,h2,h3,h4,_,h5⟩:=dd'
  refine d_write I (by rw [e]; exact True.intro) hs ⟨q,hq⟩ ⟨hl,hd,_,(rel.put k eb rv).keeps fun c ys ec=>?_,q,es,ep,hq,h2,h3,h4,h5⟩
  rw [upd_ne (ne_of ec e (fun z=>nomatch z))]
  exact ec
end
section
variable {X:Cx}{pins:List (Addr × Obj)}{σ:St}{H:Hp}{s:Shared}{a:Addr}{kvs:List (Key × V)}{k:Key}{u:Value}{A:Around}{E:Value→Shared→Prop}
end
def NoSl (i:Expr) : Prop:=∀ ov iv,subscripted i false ov iv=operate [ov,iv] (getItem ov iv)
theorem subD_of {prog:Program}{w:World}{A:Around}{E:Value→Shared→Prop}{s:Shared}{env:Env}{value slice:Expr}{pos:Pos}{T id:String}{Q:Value→Shared→Prop}
  (hl:typeLookup (.type T) "__getitem__" = pure (some (.builtin id))) (hs:NoSl slice)
  (h:wpAny (model prog w) A (eval value env) (fun o s₁=>wpAny (model prog w) A (eval slice env) (fun i s₂=>s₂.TypeIs o T∧wpAny (model prog w) A (getItem o i) Q E s₂) E s₁) E s) :
  wpAny (model prog w) A (eval (.Subscript value slice pos) env) Q E s:=by
 refine Subscript_ (wpAny_mono h (fun o s₁ h₁=>wpAny_mono h₁ (fun i s₂ h₂=>?_) fun _ _ x=>x) fun _ _ x=>x)
 obtain ⟨hT,h₂⟩:=h₂
 unfold subscriptTail
 refine wpAny_bind ?_
 rw [getitemInPython_of_ne hT.not_modules]
 refine wpAny_bind (wpAny_specialOf hT hl ?_)
 have fin:wpAny (model prog w) A (subscripted slice false o i) (fun r s₃=>wpAny (model prog w) A (letTemporaryGo value o r >>= fun _=>pure r) Q E s₃) E s₂:=by
  rw [hs o i]
  exact wpAny_operating (wpAny_mono h₂ (fun r s₃ h₃=>wpAny_bind (wpAny_letTemporaryGo (wpAny_pure h₃))) fun _ _ x=>x)
 first
  | exact wpAny_pure (wpAny_bind fin)
  | exact wpAny_bind (wpAny_pure (wpAny_bind fin))
  | exact wpAny_bind fin
theorem dict_typeIs {X:Cx}{pins:List (Addr × Obj)}{σ:St}{H:Hp}{s:Shared}{a:Addr}{y:V}{o:Option V}(I:Inv X pins σ H s)(g:DGet H a y o) : s.TypeIs (.ref a) "dict" := by
 rcases g with ⟨kvs,k,e,_,_⟩ | ⟨kvs,k,b,e,_,_,_⟩
 ·obtain ⟨_,_,vs,_,dd⟩:=dk_rd I.hok e
  exact dd.typeIs
 ·obtain ⟨_,_,xs,_,dd⟩:=dt_rd I.hok e
  exact dd.typeIs
def tDGet (td ty:TE) : TE:=fun σ H Q=>td σ H fun x H1=>ty σ H1 fun y H2=>∃ a v,x = .ref a∧DGet H2 a y (some v)∧Q v H2
def sDPut (td ty tv:TE) : TS:=fun D σ H=>tv σ H fun v H1=>td σ H1 fun x H2=>ty σ H2 fun y H3=>∃ a H4,x = .ref a∧DPut H3 a y v H4∧D.nx σ H4
section
variable {X:Cx}{o i e value:Expr}{pos pos' tpos:Pos}{td ty tv:TE}
theorem pe_dget (hu:X.A.units + 1 < cLine)(ho:PE X o td)(hi:PE X i ty)(hs:NoSl i) : PE X (.Subscript o i pos) (tDGet td ty):=by
 intro pins s σ H Q I h
 refine subD_of PySem.F.slot_dict_getitem.lookup hs (thn (ho pins s σ H _ I h) fun u s1 ⟨x,H1,I1,rx,q1⟩=>thn (hi pins s1 σ H1 _ I1 q1) fun iv s2 ⟨y,H2,I2,ry,a,v,ex,g,q2⟩=>?_)
 subst ex
 obtain rfl:u=Value.ref a:=rx
 exact ⟨dict_typeIs I2 g,d_getItem hu I2 g ry fun w' s3 I3 rw'=>⟨v,H2,I3,rw',q2⟩⟩
theorem ps_dput (hu:X.A.units + 1 < cLine) (ho:PE X o td) (hi:PE X i ty) (hv:PE X value tv) (hs:swapsWith value (some (.Subscript o i pos')) pos.line X.env=pure false) :
  PS X (.Assign [.Subscript o i pos'] value pos) (sDPut td ty tv):=by
 intro pins s σ H D I h
 refine wpAny_Assign_Subscript (thn (hv pins s σ H _ I h) fun r s1 ⟨v,H1,I1,rv,q1⟩=>thn (ho pins s1 σ H1 _ I1 q1) fun u s2 ⟨x,H2,I2,rx,q2⟩=>thn (hi pins s2 σ H2 _ I2 q2) fun iv s3 ⟨y,H3,I3,ry,a,H4,ex,g,q3⟩=>?_) hs
 subst ex
 obtain rfl:u=Value.ref a:=rx
 exact d_setItem hu I3 g ry rv fun s4 I4=>⟨σ,H4,I4,q3⟩
end
theorem dk_empty {P:Program}{w:World}{H:Hp}(h:Heap)(hb:sysModules < h.objs.size) : ObjOk P w H (h.push { cls:=.type "dict", data:=.dict #[] }) h.objs.size (.dK []) :=
 ⟨Nat.zero_le _,beq_eq_false_iff_ne.mpr (Ne.symm (Nat.ne_of_lt hb)),[],.nil,Heap.DictOf.new h⟩
def tDNewK:TE:=fun _ H Q=>∀ p,H p=none→Q (.ref p) (upd H p (.dK []))
section
variable {X:Cx}{pos:Pos}
theorem pe_dnewK:PE X (.Dict [] [] pos) tDNewK:=fun pins s σ H Q I h =>
 wpAny_Dict_empty ⟨.ref s.heap.objs.size,_,I.laid (a:=s.heap.objs.size) (o:=.dK []) (t':=s.toks) (fun _ _ q=>Heap.get?_push_of_some _ q) (Nat.le_refl _) (dk_empty s.heap I.big),rfl,h _ (I.hok.fresh (Nat.le_refl _))⟩
end
structure M1 (X:Cx) (o:Expr) (m:Str) (apos:Pos) (e:Expr) (cpos:Pos) : Prop where
 base:attributeBase o m X.env (eval o X.env)=eval o X.env
 few:((backTo cpos (starEach [e] X.env)).all (fun x => !x.1) && (backToKw cpos (keywordEach [] X.env)).all (fun x=>x.1.isSome)
  && decide (([e] : List Expr).length + ([] : List Keyword).length + (if ([] : List Keyword).isEmpty then 0 else 1) < 30))=true
 line:(apos.endLine == cpos.line)=true
 trees:backTo cpos (starEach [e] X.env) = [(false,eval e X.env)]
structure M2 (X:Cx) (o:Expr) (m:Str) (apos:Pos) (e f:Expr) (cpos:Pos) : Prop where
 base:attributeBase o m X.env (eval o X.env)=eval o X.env
 few:((backTo cpos (starEach [e,f] X.env)).all (fun x => !x.1) && (backToKw cpos (keywordEach [] X.env)).all (fun x=>x.1.isSome)
  && decide (([e,f] : List Expr).length + ([] : List Keyword).length + (if ([] : List Keyword).isEmpty then 0 else 1) < 30))=true
 line:(apos.endLine == cpos.line)=true
 trees:backTo cpos (starEach [e,f] X.env) = [(false,eval e X.env),(false,eval f X.env)]
section
variable {X:Cx}{pins:List (Addr × Obj)}{σ:St}{H:Hp}{s:Shared}{a:Addr}{y d:V}{u r:Value}{o:Option V}{A:Around}{E:Value→Shared→Prop}
end
section
variable {X:Cx}{o e f:Expr}{apos cpos:Pos}{td ty tx:TE}
end
section
variable {X:Cx}{pins:List (Addr × Obj)}{σ:St}{H:Hp}{s:Shared}{a:Addr}{kvs:List (Key × V)}{A:Around}{E:Value→Shared→Prop}
end
section
variable {X:Cx}{pins:List (Addr × Obj)}{σ:St}{H:Hp}{s:Shared}{a:Addr}{y:V}{u:Value}{A:Around}{E:Value→Shared→Prop}
end
end L2
namespace L2
open PySem PySem.Spec PyProof.Rows
section
variable {κ:Type} [DecidableEq κ]
end
end L2
namespace L2
open PySem PySem.Spec PyProof.Rows
theorem key_rel {k:Key}{u:Value}(h:keyIs k u=true) : RelV (kV k) u:=by
 rcases keyIs_shape h with ⟨i,t,rfl,rfl⟩ | ⟨x,t,rfl,rfl⟩
 ·exact ⟨t,rfl⟩
 ·exact ⟨t,rfl⟩
abbrev FzD (P:Program) (w:World) (a:Addr) (kvs:List (Key × V)) (ep:Nat) : HO:=.ext fun h=>∃ vs,KV kvs vs∧h.DictAt (mixKind P w) a vs ep∧(a == sysModules)=false
theorem Inv.freeze {X:Cx}{pins:List (Addr × Obj)}{σ:St}{H:Hp}{s:Shared}{a:Addr}{kvs:List (Key × V)}(I:Inv X pins σ H s) (e:H a=some (.dK kvs)) :
  ∃ ep vs,KV kvs vs∧s.heap.DictAt (mixKind X.prog X.w) a vs ep∧(a == sysModules)=false∧Inv X pins σ (upd H a (FzD X.prog X.w a kvs ep)) s:=by
 obtain ⟨z,hd,vs,rel,dd⟩:=dk_of I.hok e
 obtain ⟨ep,da⟩:=dd.dictAt
 obtain ⟨o,es,ho,r⟩:=id da
 refine ⟨ep,vs,rel,da,hd,?_⟩
 exact d_write (t':=s.toks) I (by rw [e]; exact True.intro) ⟨rfl,fun _ _=>rfl⟩ ⟨o,ho⟩ ⟨⟨vs,rel,da,hd⟩,⟨o,ho⟩,fun h1 h2 ⟨us,r1,d1,l1⟩ k=>⟨us,r1,d1.at' k,l1⟩⟩
section
variable {X:Cx}{tg:Expr}
end
end L2
namespace L2
open PySem PySem.Spec PyProof.Rows
section
variable {X:Cx}
def rStarts:V→List V→Hp→VK→Prop:=fun x vs H Q=>∃ a b,x = .str a∧vs = [.str b]∧Q (.bl (Txt.startswith a b)) H
theorem mt_startswith:MtR X "str.startswith" rStarts:=by
 intro pins s σ H x vs v us Q I rx rv h
 obtain ⟨a,b,rfl,rfl,q⟩:=h
 obtain ⟨t,rfl⟩:=rx
 obtain ⟨u,rfl,ru⟩:=vals1 rv
 obtain ⟨t',rfl⟩:=ru
 exact SC.startswith ⟨.bl _,H,I,rfl,q⟩
end
theorem starts_iff (a b:Str) : Txt.startswith a b=true↔cds b <+: cds a:=by
 unfold Txt.startswith
 rw [Bool.and_eq_true,decide_eq_true_eq,StrLaws.subAt_eq,List.drop_zero,beq_iff_eq,Nat.zero_add]
 show b.length≤a.length∧(cds a).take b.length=cds b↔_
 rw [← cds_len b,List.prefix_iff_eq_take]
 constructor
 ·rintro ⟨_,h⟩
  exact h.symm
 ·intro h
  refine ⟨?_,h.symm⟩
  have:=congrArg List.length h
  rw [List.length_take,cds_len] at this
  rw [cds_len]
  rw [cds_len] at this
  omega
end L2
namespace L2
open PySem PySem.Spec PyProof.Rows
def part3 (x y:Str) : Str × Str × Str:=match Builtin.Str.occurrences x y 0 x.length 1 with
 | i :: _=>(Builtin.Str.strSub x 0 i,y,Builtin.Str.strSub x (i + y.length) x.length)
 | []=>(x,Str.empty,Str.empty)
section
variable {X:Cx}
end
end L2
namespace L2
open PySem PySem.Spec PyProof.Rows
end L2
namespace L2
open PySem PySem.Spec PyProof.Rows
section
variable {X:Cx}
end
end L2
namespace L2
open PySem PySem.Spec PyProof.Rows
end L2
namespace L2
open PySem PySem.Spec PyProof.Rows
def strsOf:List Expr→Option (List Str)
 | []=>some []
 | .Constant (.str x) _ _ :: es=>(strsOf es).map (x :: ·)
 | _=>none
def tStrs (ws:List Str) : TA:=fun _ H Q=>Q (ws.map V.str) H
theorem pa_strs {X:Cx} : ∀ {es:List Expr}{ws:List Str},strsOf es=some ws→PA X es (tStrs ws)
 | [],ws,h=>by
  cases h
  exact pa_nil
 | e :: es,ws,h=>by
  unfold strsOf at h
  split at h
  ·rename_i e1
   cases e1
  ·rename_i x j p es' e1
   cases e1
   cases e2:strsOf es with
   | none=>rw [e2] at h; cases h
   | some us =>
    rw [e2] at h
    cases h
    exact pa_cons pe_str (pa_strs e2)
  ·cases h
end L2
namespace L2
open PySem PySem.Spec PyProof.Rows PySem.W
end L2
namespace L2
open PySem PySem.Spec PyProof.Rows PySem.W
section
variable {prog:Program}{w:World}{A:Around}{E:Value→Shared→Prop}{s:Shared}
end
section
variable {X:Cx}
end
end L2
namespace L2
open PySem
structure Lit (t:SetTable) : Prop where
 up:t.place.toList.Pairwise (· < ·)
 no:t.dummies = #[]
end L2
namespace L2
open PySem PySem.Spec PyProof.Rows
inductive EK (P:Program) (w:World) : List (Int × Value)→List Key→Prop
 | nil:EK P w [] []
 | cons {x:Value}{k:Key}{es:List (Int × Value)}{ks:List Key} : (mixKind P w).is k x=true→x.scannable=true→EK P w es ks→EK P w (((mixKind P w).hash k,x) :: es) (k :: ks)
section
variable {P:Program}{w:World}
variable {A:Around}{E:Value→Shared→Prop}{s:Shared}
end
end L2
namespace L2
open PySem PySem.Spec PyProof.Rows
section
variable {P:Program}{w:World}{A:Around}{E:Value→Shared→Prop}{s:Shared}
end
end L2
namespace L2
open PySem PySem.Spec PyProof.Rows
section
variable {P:Program}{w:World}{A:Around}{E:Value→Shared→Prop}{s:Shared}
end
end L2
namespace L2
open PySem PySem.Spec PyProof.Rows
section
variable {P:Program}{w:World}{A:Around}{E:Value→Shared→Prop}{s:Shared}{R:Result→Shared→Prop}
end
end L2
namespace L2
open PySem PySem.Spec PyProof.Rows
section
variable {P:Program}{w:World}
end
section
variable {X:Cx}
end
end L2
namespace L2
open PySem PySem.Spec PyProof.Rows
end L2
namespace L2
open PySem PySem.Spec PyProof.Rows
section
variable {X:Cx}
theorem call_isiO:CallR X (.builtin "isinstance") (fun xs H Q=>∃ x c t b,xs = [x,.ref c]∧TyOf X.K H x t∧PySem.W.kitOne X.K t (.ref c)=some b∧Q (.bl b) H):=by
 intro pins s σ H xs us Q I r h
 obtain ⟨x,c,t,b,rfl,ty,e,q⟩:=h
 obtain ⟨u,w',rfl,r1,r2⟩:=vals2 r
 cases r2
 exact isinst_ok I r1 ty e fun tk=>⟨.bl b,H,I.tok tk,rfl,q⟩
structure ClsC (K:PySem.W.Frag) (C:Addr) (m:Str) (f:Addr) : Prop where
 sg:PySem.W.specialIn K (.ref C) "__getattribute__" = some (some (.builtin "type.__getattribute__"))
 rd:PySem.W.readsIn K C (.type "type")=true
 fc:PySem.W.findCls K (.ref C) (.type "type") m=some (.val (.ref f))
 kp:PySem.W.keepIn K (.ref f)=true
variable {CX:CXT}{k k1 k2:Nat}{f f1 f2 C C1 C2:Addr}{fd fd1 fd2:FuncData}{ps ps1 ps2:List Str}{sp sp1 sp2:Sp}{E:XK}{m:Str}{pos apos:Pos}{e o:Expr}{es:List Expr}{ta:TE}{t:TA}
def tClsM (C:Addr)(sp:Sp)(E:XK)(ta:TE)(t:TA) : TE:=fun σ H Q=>ta σ H fun x H1=>x = .ref C∧t σ H1 fun vs H2=>sp vs H2 Q E
theorem pe_clsc {pl:Sem Bool}(he:PE X o ta) (c:ClsC X.K C m f) (F:FnOk X.prog X.w X.K X.mg X.base CX k f fd ps sp) (hr:Room k X.A) (hb:Binds X.K fd ps []) (hx:Passes CX X E) (ha:PA X (e :: es) t)
  (hst:starEach (e :: es) X.env=(false,eval e X.env) :: starEach es X.env:=by rfl) (hpl:(backTo pos (starEach es X.env)).any (·.1)=false:=by rfl)
  (ht:eval (.Call (.Attribute o m apos) (e :: es) [] pos) X.env=(do
   let ov ← eval o X.env
   standAt apos.atName
   let (f,first) ← holding [ov] (getMethod ov m pl)
   callWith pos f first (backTo pos (starEach (e :: es) X.env)) (backToKw pos (keywordEach [] X.env))):=by rfl) :
  PE X (.Call (.Attribute o m apos) (e :: es) [] pos) (tClsM C sp E ta t):=by
 intro pins s σ H Q I h
 refine PySem.W.methodCall_KW (pl:=pl) (thn (he pins s σ H _ I h) fun u s1 ⟨x,H1,I1,rx,ex,q⟩=>?_) ht
 subst ex
 obtain rfl:u=Value.ref C:=rx
 refine PySem.W.method_cls I1.kIn c.sg (PySem.W.cls_value I1.kIn c.rd c.fc rfl ?_)
 refine PySem.W.callWith_K (first:=[]) (h₀:=X.base) I.ok.mod.kin c.kp (thn (ha pos pins _ σ H1 _ (I1.tok _) q) fun us s2 ⟨vs,H2,I3,r,q2⟩=>⟨I3.kIn,?_⟩) hst hpl
 exact run_fn (us:=us) (vs:=vs) (dvs:=[]) (ds:=[]) F hr hb .nil hx I3 r (by rw [List.append_nil]; exact q2)
def tMeth2 (C1 C2:Addr)(m:Str)(sp1 sp2:Sp)(E:XK)(ta:TE)(t:TA) : TE:=fun σ H Q=>ta σ H fun x H1 =>
 (∃ a dx fs,x = .ref a∧H1 a=some (.ins C1 dx fs)∧fs.lookup m=none∧t σ H1 fun vs H2=>sp1 (x :: vs) H2 Q E)∨(∃ a dx fs,x = .ref a∧H1 a=some (.ins C2 dx fs)∧fs.lookup m=none∧t σ H1 fun vs H2=>sp2 (x :: vs) H2 Q E)
theorem pe_meth2 {pl:Sem Bool}(he:PE X o ta) (c1:Cls X.K C1) (m1:Meth X.K C1 m f1) (F1:FnOk X.prog X.w X.K X.mg X.base CX k1 f1 fd1 ps1 sp1) (hr1:Room k1 X.A) (b1:Binds X.K fd1 ps1 [])
  (c2:Cls X.K C2) (m2:Meth X.K C2 m f2) (F2:FnOk X.prog X.w X.K X.mg X.base CX k2 f2 fd2 ps2 sp2) (hr2:Room k2 X.A) (b2:Binds X.K fd2 ps2 []) (hx:Passes CX X E) (ha:PA X (e :: es) t)
  (hst:starEach (e :: es) X.env=(false,eval e X.env) :: starEach es X.env:=by rfl) (hpl:(backTo pos (starEach es X.env)).any (·.1)=false:=by rfl)
  (ht:eval (.Call (.Attribute o m apos) (e :: es) [] pos) X.env=(do
   let ov ← eval o X.env
   standAt apos.atName
   let (f,first) ← holding [ov] (getMethod ov m pl)
   callWith pos f first (backTo pos (starEach (e :: es) X.env)) (backToKw pos (keywordEach [] X.env))):=by rfl) :
  PE X (.Call (.Attribute o m apos) (e :: es) [] pos) (tMeth2 C1 C2 m sp1 sp2 E ta t):=by
 intro pins s σ H Q I h
 refine PySem.W.methodCall_KW (pl:=pl) (thn (he pins s σ H _ I h) fun u s1 ⟨x,H1,I1,rx,hq⟩=>?_) ht
 rcases hq with ⟨a,dx,fs,ex,ea,l,q⟩ | ⟨a,dx,fs,ex,ea,l,q⟩ <;> subst ex <;> obtain rfl:u=Value.ref a:=rx
 ·refine getmeth_ok I1 ea c1 m1 l ?_
  refine PySem.W.callWith_K (first:=[.ref a]) (h₀:=X.base) I.ok.mod.kin m1.kp (thn (ha pos pins s1 σ H1 _ I1 q) fun us s2 ⟨vs,H2,I2,r,q2⟩=>⟨I2.kIn,?_⟩) hst hpl
  exact run_fn (us:=.ref a :: us) (vs:=.ref a :: vs) (dvs:=[]) (ds:=[]) F1 hr1 b1 .nil hx I2 (.cons rfl r) (by rw [List.append_nil]; exact q2)
 ·refine getmeth_ok I1 ea c2 m2 l ?_
  refine PySem.W.callWith_K (first:=[.ref a]) (h₀:=X.base) I.ok.mod.kin m2.kp (thn (ha pos pins s1 σ H1 _ I1 q) fun us s2 ⟨vs,H2,I2,r,q2⟩=>⟨I2.kIn,?_⟩) hst hpl
  exact run_fn (us:=.ref a :: us) (vs:=.ref a :: vs) (dvs:=[]) (ds:=[]) F2 hr2 b2 .nil hx I2 (.cons rfl r) (by rw [List.append_nil]; exact q2)
theorem pe_meth20 {pl:Sem Bool}(he:PE X o ta) (c1:Cls X.K C1) (m1:Meth X.K C1 m f1) (F1:FnOk X.prog X.w X.K X.mg X.base CX k1 f1 fd1 ps1 sp1) (hr1:Room k1 X.A) (b1:Binds X.K fd1 ps1 [])
  (c2:Cls X.K C2) (m2:Meth X.K C2 m f2) (F2:FnOk X.prog X.w X.K X.mg X.base CX k2 f2 fd2 ps2 sp2) (hr2:Room k2 X.A) (b2:Binds X.K fd2 ps2 []) (hx:Passes CX X E)
  (ht:eval (.Call (.Attribute o m apos) [] [] pos) X.env=(do
   let ov ← eval o X.env
   standAt apos.atName
   let (f,first) ← holding [ov] (getMethod ov m pl)
   callWith pos f first (backTo pos (starEach [] X.env)) (backToKw pos (keywordEach [] X.env))):=by rfl) :
  PE X (.Call (.Attribute o m apos) [] [] pos) (tMeth2 C1 C2 m sp1 sp2 E ta tNil):=by
 intro pins s σ H Q I h
 refine PySem.W.methodCall_KW (pl:=pl) (thn (he pins s σ H _ I h) fun u s1 ⟨x,H1,I1,rx,hq⟩=>?_) ht
 rcases hq with ⟨a,dx,fs,ex,ea,l,q⟩ | ⟨a,dx,fs,ex,ea,l,q⟩ <;> subst ex <;> obtain rfl:u=Value.ref a:=rx
 ·refine getmeth_ok I1 ea c1 m1 l ?_
  exact PySem.W.callWith_K0 (first:=[.ref a]) I1.kIn m1.kp (run_fn (us:=[.ref a]) (vs:=[.ref a]) (dvs:=[]) (ds:=[]) F1 hr1 b1 .nil hx I1 (.cons rfl .nil) q)
 ·refine getmeth_ok I1 ea c2 m2 l ?_
  exact PySem.W.callWith_K0 (first:=[.ref a]) I1.kIn m2.kp (run_fn (us:=[.ref a]) (vs:=[.ref a]) (dvs:=[]) (ds:=[]) F2 hr2 b2 .nil hx I1 (.cons rfl .nil) q)
end
end L2
namespace L2
open PySem PySem.Spec PyProof.Rows
section
variable {X:Cx}
end
end L2
namespace L2
open PySem
theorem cxK {CX:CXT}{P:Program}{w:World}{K:PySem.W.Frag}{mg:Str→Option Value}{base:Heap}{N:List Str}{qual:Str}{scope:Scope}{f:Addr}{cd:Value}{A:Around}{outer:List Env}{s:Shared}{H:Hp}{E:XK} : (cxOf CX P w K mg base N qual scope f cd A outer s H E).K=K:=rfl
theorem lcK {X:Cx}{scope:Scope}{ts:List Str}{js:List Nat}{C:Addr}{s2:Shared}{H2:Hp}{fp:List Addr} : (Cx.lc X scope ts js C s2 H2 fp).K=X.K:=rfl
theorem wishK {X:Cx}{E:Value→Shared→Prop} : (X.wish E).K=X.K:=rfl
end L2
namespace L2
open PySem PySem.Spec PyProof.Rows PySem.W
def ev {α:Type}(lt:Nat→Nat→Bool) : KasT α→α
 | .ret a=>a
 | .ask i j k=>ev lt (k (lt i j))
structure Sto (n:Nat) (lt:Nat→Nat→Bool) : Prop where
 tr:∀ i j k,lt i j=true→lt j k=true→lt i k=true
 irr:∀ i,lt i i=false
 tot:∀ i j,i < n→j < n→i ≠ j→lt i j=true∨lt j i=true
section
variable {n:Nat}{lt:Nat→Nat→Bool}
def Dn (lt:Nat→Nat→Bool)(p:Array Nat)(k:Nat) : Prop:=∀ i j,i < j→j < k→lt (p.getD j 0) (p.getD i 0)=true
end
end L2
namespace L2
open PySem PySem.Spec PyProof.Rows PySem.W
section
variable {prog:Program}{w:World}{A:Around}{E:Value→Shared→Prop}{s:Shared}
end
section
variable {X:Cx}
end
end L2
namespace L2
open PySem PySem.Spec PyProof.Rows
theorem KV.at {kvs:List (Key × V)}{vs:List (Key × Value)}(h:KV kvs vs){i:Nat}{k:Key}{u:Value}(e:vs[i]? = some (k,u)) : ∃ x,kvs[i]? = some (k,x)∧RelV x u:=by
 induction h generalizing i with
 | nil=>cases i <;> cases e
 | @cons p q _ _ a _ ih =>
  cases i with
  | zero =>
   obtain rfl:q=(k,u):=Option.some.inj e
   refine ⟨p.2,?_,a.2⟩
   show some p=some (k,p.2)
   rw [← show p.1=k from a.1]
  | succ i=>exact ih e
def Iti (P:Program)(w:World)(a:Addr)(kvs:List (Key × V))(ep:Nat) : It :=
 ⟨fun i H=>H a=some (FzD P w a kvs ep)∧i < kvs.length,fun i H v H'=>∃ T k x,H T=none∧v = .ref T∧kvs[i]? = some (k,x)∧H'=upd H T (.tup [kV k,x]),fun i H=>H a=some (FzD P w a kvs ep)∧kvs.length≤i⟩
theorem entry_ii:entryFor table "dict_itemiterator.__iter__" = some Builtin.«dict_keyiterator.__iter__» := entryFor_alias (id' := "dict_keyiterator.__iter__") (by kernel_rfl) rfl (by decide +kernel) (by kernel_rfl)
theorem turn_items {P:Program}{w:World}{K:PySem.W.Frag}{elts:List Expr}{kk:Nat}{pos:Pos}(a it:Addr) (kvs:List (Key × V)) (ep:Nat) :
  Turn P w K (.Tuple elts kk pos) (Iti P w a kvs ep) [it] it (fun i h=>∃ ok ov,IsItemIter h it a i kvs.length ep ok ov) where
 mem:=List.mem_singleton.mpr rfl
 obj:=fun i h st b hb=>by
  obtain rfl:=List.mem_singleton.mp hb
  obtain ⟨ok,ov,e⟩:=st
  exact ⟨_,e,fun v z=>by cases z⟩
 keep:=fun i h h' st k=>by
  obtain ⟨ok,ov,e⟩:=st
  exact ⟨ok,ov,k it (List.mem_singleton.mpr rfl) _ e⟩
 item:=by
  intro X hP hw hK hc i pins s σ H E I hf st hg
  subst hP hw hK
  obtain ⟨e,hi⟩:=hg
  obtain ⟨⟨vs,rel,da,lo⟩,_,_⟩:=I.hok a _ e
  have hl:=KV.length rel
  obtain ⟨ok,ov,st⟩:=st
  rw [hl] at st
  obtain ⟨⟨k,u⟩,hx⟩ : ∃ p,vs[i]? = some p:=⟨_,List.getElem?_eq_getElem (by omega)⟩
  obtain ⟨x,hkx,rx⟩:=KV.at rel hx
  obtain ⟨f0,f1,f2,f3,f4,f5⟩:=hf it (List.mem_singleton.mpr rfl)
  refine wpAny_pyNext_items_item st da hx fun key h' hkey a1 a2 a3 a4=>?_
  refine ⟨_,rfl,wpAny_letOwnedTupleGo_items (s:={ s with heap:=h' }) a1 fun h2 st' sb=>?_⟩
  have I1:Inv X pins σ H { s with heap:=h' }:=I.turned (t':=s.toks) (fun b o hb e=>a4 b o hb e) f0 f1 f3 f4 f5
  have hT0:=I.hok.fresh (Nat.le_refl s.heap.objs.size)
  have fT:FpOk X pins H s.heap.objs.size:=I.fpOk (Nat.le_refl _) hT0
  have I2:Inv X pins σ (upd H s.heap.objs.size (.tup [kV k,x])) { s with heap:=h' }:=I1.track fT I.sz ⟨(show 2≤sizeLine from sz),[key,u],.cons (key_rel hkey) (.cons rx .nil),⟨_,a2,rfl,_,rfl⟩⟩
  have ne':it ≠ s.heap.objs.size:=fun q=>absurd (Heap.lt_size st) (by rw [q]; exact Nat.lt_irrefl _)
  refine ⟨.ref s.heap.objs.size,_,I2.turned (t':=s.toks) (fun c o hc e=>(sb.2 c hc).trans e) (by rw [upd_ne ne']; exact f0) f1 f3 f4 f5,rfl,⟨_,k,x,hT0,rfl,hkx,rfl⟩,⟨_,_,by rw [hl]; exact st'⟩,fun c hc=>?_⟩
  obtain rfl:=List.mem_singleton.mp hc
  rw [upd_ne ne']
  exact f0
 done:=by
  intro X hP hw hK hc i pins s σ H E I hf st hg
  subst hP hw hK
  obtain ⟨e,hi⟩:=hg
  obtain ⟨⟨vs,rel,da,lo⟩,_,_⟩:=I.hok a _ e
  have hl:=KV.length rel
  obtain ⟨ok,ov,st⟩:=st
  rw [hl] at st
  obtain ⟨f0,f1,f2,f3,f4,f5⟩:=hf it (List.mem_singleton.mpr rfl)
  exact wpAny_pyNext_items_end (I.ok.hd hc) st da (List.getElem?_eq_none (by omega)) fun h' eb=>⟨rfl,I.turned (t':=s.toks) (fun b o hb e=>eb b o hb e) f0 f1 f3 f4 f5⟩
 self:=fun A i s Q E st h=>by
  obtain ⟨ok,ov,e⟩:=st
  have ty:s.TypeIs (.ref it) "dict_itemiterator" := ⟨_,e,rfl⟩
  refine wpAny_pyIter_slot ty PySem.F.slot_dict_itemiterator_iter (wpAny_call_entry PySem.F.slot_dict_itemiterator_iter ty entry_ii ?_ (PySem.F.args_dict_itemiterator_iter_1 _))
  show wpAny _ _ (ret (.ref it)) _ _ s
  exact wpAny_pure ⟨_,rfl, "dict_itemiterator", _,ty,PySem.F.slot_dict_itemiterator_next.lookup,h⟩
def Itw (P:Program)(w:World)(a:Addr)(kvs:List (Key × V))(ep:Nat) : It :=
 ⟨fun i H=>H a=some (FzD P w a kvs ep)∧i < kvs.length,fun i H v H'=>H'=H∧∃ k,kvs[i]? = some (k,v),fun i H=>H a=some (FzD P w a kvs ep)∧kvs.length≤i⟩
theorem turn_values {P:Program}{w:World}{K:PySem.W.Frag}{tg:Expr}(a it:Addr)(kvs:List (Key × V))(ep:Nat) : Turn P w K tg (Itw P w a kvs ep) [it] it (fun i h=>h.IsValIter it a i kvs.length ep) where
 mem:=List.mem_singleton.mpr rfl
 obj:=fun i h st b hb=>by
  obtain rfl:=List.mem_singleton.mp hb
  obtain ⟨o,e,_,d⟩:=st
  exact ⟨o,e,fun v z=>by rw [d] at z; cases z⟩
 keep:=fun i h h' st k=>by
  obtain ⟨o,e,r⟩:=st
  exact ⟨o,k it (List.mem_singleton.mpr rfl) o e,r⟩
 item:=by
  intro X hP hw hK hc i pins s σ H E I hf st hg
  subst hP hw hK
  obtain ⟨e,hi⟩:=hg
  obtain ⟨⟨vs,rel,da,lo⟩,_,_⟩:=I.hok a _ e
  have hl:=KV.length rel
  rw [hl] at st
  obtain ⟨⟨k,u⟩,hx⟩ : ∃ p,vs[i]? = some p:=⟨_,List.getElem?_eq_getElem (by omega)⟩
  obtain ⟨x,hkx,rx⟩:=KV.at rel hx
  obtain ⟨f0,f1,f2,f3,f4,f5⟩:=hf it (List.mem_singleton.mpr rfl)
  refine wpAny_pyNext_values_item st da hx fun h' st' sb=>?_
  obtain ⟨o,e1,c,d⟩:=id st'
  rw [← hl] at st'
  exact ⟨u,rfl,go_of (s:={ s with heap:=h' }) e1 c d (by decide) ⟨x,H,I.turned (t':=s.toks) (fun b o hb e=>(sb.2 b hb).trans e) f0 f1 f3 f4 f5,rx,⟨rfl,k,hkx⟩,st',fun b hb=>(hf b hb).1⟩⟩
 done:=by
  intro X hP hw hK hc i pins s σ H E I hf st hg
  subst hP hw hK
  obtain ⟨e,hi⟩:=hg
  obtain ⟨⟨vs,rel,da,lo⟩,_,_⟩:=I.hok a _ e
  have hl:=KV.length rel
  rw [hl] at st
  obtain ⟨f0,f1,f2,f3,f4,f5⟩:=hf it (List.mem_singleton.mpr rfl)
  exact wpAny_pyNext_values_end (I.ok.hd hc) st da (List.getElem?_eq_none (by omega)) fun h' eb=>⟨rfl,I.turned (t':=s.toks) (fun b o hb e=>eb b o hb e) f0 f1 f3 f4 f5⟩
 self:=fun _ _ _ _ _ st h=>wpAny_pyIter_valiter st h
section
variable {X:Cx}
def iDict (P:Program)(w:World)(J:Addr→List (Key × V)→Nat→It)(tl:TE) : TI:=fun σ H R=>tl σ H fun x H1=>∃ a kvs,x = .ref a∧((H1 a=some (.dK kvs)∧∀ ep,R (J a kvs ep) (upd H1 a (FzD P w a kvs ep)))∨∃ ep,H1 a=some (FzD P w a kvs ep)∧R (J a kvs ep) H1)
theorem pi_items {elts:List Expr}{kk:Nat}{tpos:Pos}{l:Expr}{tl:TE}{apos pos:Pos}(hl:PE X l tl) (hb:attributeBase l "items" X.env (eval l X.env)=eval l X.env) (hn:(apos.endLine == pos.line)=true) :
  PI X (.Tuple elts kk tpos) (.Call (.Attribute l "items" apos) [] [] pos) (iDict X.prog X.w (Iti X.prog X.w) tl):=by
 intro pins s σ H R I h
 refine wpAny_Call_method (T := "dict") (id := "dict.items") hb rfl hn PySem.F.plainAttrs_dict PySem.F.slot_dict_items PySem.F.type_dict_items (thn (hl pins s σ H _ I h) fun v s1 ⟨x,H1,I1,r1,q1⟩=>?_)
 obtain ⟨a,kvs,e,q⟩:=q1
 subst e
 cases r1
 have fin:∀ (ep:Nat) (H2:Hp),Inv X pins σ H2 s1→H2 a=some (FzD X.prog X.w a kvs ep)→R (Iti X.prog X.w a kvs ep) H2 →
   s1.TypeIs (.ref a) "dict" ∧ (∀ b,Value.ref a = .ref b→∃ ob,s1.heap.get? b=some ob∧ob.dict=none)∧wpAny (model X.prog X.w) X.A (callWith pos (.builtin "dict.items") [.ref a] [] []) (fun v s2=>wpAny (model X.prog X.w) X.A (pyIter v) (PIE X pins σ (.Tuple elts kk tpos) R) X.xe s2) X.xe s1:=by
  intro ep H2 I2 hq r
  obtain ⟨⟨vs,rel,da,lo⟩,_,_⟩:=I2.hok a _ hq
  refine ⟨da.dictOf.typeIs,da.dictOf.mapOf.noDict,?_⟩
  refine method_meetsIn PySem.F.slot_dict_items PySem.F.entry_dict_items rfl (PySem.evalArgs_none ⟨rfl,da.dictOf.typeIs,PySem.F.args_dict_items_1 _,_,meets_dict_items (mixKind X.prog X.w) a lo,⟨vs,da.dictOf⟩,?_⟩)
  refine wpAny_pyIter_items (knd:=mixKind X.prog X.w) ⟨_,Heap.get?_push_size _ rfl,rfl,rfl⟩ (da.push _) ?_
  have k2:∀ b o,s1.heap.get? b=some o→((s1.heap.push { cls:=.type "dict_items", data:=.fields #[.ref a] }).push { cls:=.type "dict_itemiterator", data:=.fields #[.none,.bool false,.ref a,.int 0 0,.int vs.length 0,.int ep 0,.none,.none] }).get? b=some o:=fun b o e=>Heap.get?_push_of_some _ (Heap.get?_push_of_some _ e)
  refine ⟨_,_,_,_,H2,rfl,I2.kept (t':=s1.toks) k2,turn_items a _ kvs ep,⟨.none,.none,?_⟩,fun b hb=>?_,r⟩
  ·rw [KV.length rel]
   exact Heap.get?_push_size _ rfl
  ·obtain rfl:=List.mem_singleton.mp hb
   have le:s1.heap.objs.size≤(s1.heap.push { cls:=.type "dict_items", data:=.fields #[.ref a] }).objs.size:=by rw [Heap.size_push]; exact Nat.le_succ _
   exact I2.fpOk le (I2.hok.fresh le)
 rcases q with ⟨hq,q⟩ | ⟨ep,hq,q⟩
 ·obtain ⟨ep,vs,rel,da,lo,I2⟩:=I1.freeze hq
  exact fin ep _ I2 upd_same (q ep)
 ·exact fin ep H1 I1 hq q
theorem pi_values {tg:Expr}{l:Expr}{tl:TE}{apos pos:Pos}(hl:PE X l tl) (hb:attributeBase l "values" X.env (eval l X.env)=eval l X.env) (hn:(apos.endLine == pos.line)=true) :
  PI X tg (.Call (.Attribute l "values" apos) [] [] pos) (iDict X.prog X.w (Itw X.prog X.w) tl):=by
 intro pins s σ H R I h
 refine wpAny_Call_method (T := "dict") (id := "dict.values") hb rfl hn PySem.F.plainAttrs_dict PySem.F.slot_dict_values PySem.F.type_dict_values (thn (hl pins s σ H _ I h) fun v s1 ⟨x,H1,I1,r1,q1⟩=>?_)
 obtain ⟨a,kvs,e,q⟩:=q1
 subst e
 cases r1
 have fin:∀ (ep:Nat) (H2:Hp),Inv X pins σ H2 s1→H2 a=some (FzD X.prog X.w a kvs ep)→R (Itw X.prog X.w a kvs ep) H2 →
   s1.TypeIs (.ref a) "dict" ∧ (∀ b,Value.ref a = .ref b→∃ ob,s1.heap.get? b=some ob∧ob.dict=none)∧wpAny (model X.prog X.w) X.A (callWith pos (.builtin "dict.values") [.ref a] [] []) (fun v s2=>wpAny (model X.prog X.w) X.A (pyIter v) (PIE X pins σ tg R) X.xe s2) X.xe s1:=by
  intro ep H2 I2 hq r
  obtain ⟨⟨vs,rel,da,lo⟩,_,_⟩:=I2.hok a _ hq
  refine ⟨da.dictOf.typeIs,da.dictOf.mapOf.noDict,?_⟩
  refine method_meetsIn PySem.F.slot_dict_values PySem.F.entry_dict_values rfl (PySem.evalArgs_none ⟨rfl,da.dictOf.typeIs,PySem.F.args_dict_values_1 _,_,meets_dict_values (mixKind X.prog X.w) a lo,⟨vs,da.dictOf⟩,?_⟩)
  refine wpAny_pyIter_values (knd:=mixKind X.prog X.w) ⟨_,Heap.get?_push_size _ rfl,rfl,rfl⟩ (da.push _) ?_
  have k2:∀ b o,s1.heap.get? b=some o→((s1.heap.push { cls:=.type "dict_values", data:=.fields #[.ref a] }).push { cls:=.type "dict_valueiterator", data:=.fields #[.ref a,.int 0 0,.int vs.length 0,.int ep 0] }).get? b=some o:=fun b o e=>Heap.get?_push_of_some _ (Heap.get?_push_of_some _ e)
  refine ⟨_,_,_,_,H2,rfl,I2.kept (t':=s1.toks) k2,turn_values a _ kvs ep,?_,fun b hb=>?_,r⟩
  ·rw [KV.length rel]
   exact ⟨_,Heap.get?_push_size _ rfl,rfl,rfl⟩
  ·obtain rfl:=List.mem_singleton.mp hb
   have le:s1.heap.objs.size≤(s1.heap.push { cls:=.type "dict_values", data:=.fields #[.ref a] }).objs.size:=by rw [Heap.size_push]; exact Nat.le_succ _
   exact I2.fpOk le (I2.hok.fresh le)
 rcases q with ⟨hq,q⟩ | ⟨ep,hq,q⟩
 ·obtain ⟨ep,vs,rel,da,lo,I2⟩:=I1.freeze hq
  exact fin ep _ I2 upd_same (q ep)
 ·exact fin ep H1 I1 hq q
theorem lc_items {P:Program}{w:World}{a:Addr}{kvs:List (Key × V)}{ep:Nat}{ts:List Str}{js:List Nat}{g:TG}{tc:TT}{te:TE}{σ:St}{H:Hp}{Q:VK}(Pv:Nat→List V→Hp→Prop) (h0:Pv 0 [] H) (hl:∀ i ys H,i≤kvs.length→Pv i ys H→H a=some (FzD P w a kvs ep)∧ys.length < sizeLine)
  (hs:∀ i k x T ys H,kvs[i]? = some (k,x)→Pv i ys H→H T=none→g (.ref T) (lcS ts js σ) (upd H T (.tup [kV k,x])) fun σ2 H2=>SubS (lcS ts js σ) σ2∧tc σ2 H2 fun b H3=>if b=true then te σ2 H3 fun y H4=>i + 1≤kvs.length∧Pv (i + 1) (ys ++ [y]) H4 else i + 1≤kvs.length∧Pv (i + 1) ys H3)
  (hd:∀ ys H,Pv kvs.length ys H→∀ p,H p=none→Q (.ref p) (upd H p (.lst ys))) : LcW (Iti P w a kvs ep) ts js g tc te σ H Q:=by
 refine ⟨fun i ys H=>i≤kvs.length∧Pv i ys H,kvs.length,⟨Nat.zero_le _,h0⟩,fun i ys H ⟨hi,p⟩=>?_⟩
 obtain ⟨hf,hz⟩:=hl i ys H hi p
 by_cases e:i=kvs.length
 ·rw [e] at p ⊢
  exact .inl ⟨⟨hf,Nat.le_refl _⟩,hd ys H p⟩
 ·have hlt:i < kvs.length:=Nat.lt_of_le_of_ne hi e
  refine .inr ⟨hlt,⟨hf,hlt⟩,hz,fun x H' y=>?_⟩
  obtain ⟨T,k,x1,hT,rfl,hk,rfl⟩:=y
  exact hs i k x1 T ys H hk p hT
theorem for_items {P:Program}{w:World}{a:Addr}{kvs:List (Key × V)}{ep:Nat}{g:TG}{tb:TS}{D:Ends}{σ:St}{H:Hp}(Pv:Nat→St→Hp→Prop) (h0:Pv 0 σ H) (hl:∀ i σ H,i≤kvs.length→Pv i σ H→H a=some (FzD P w a kvs ep))
  (hs:∀ i k x T σ H,kvs[i]? = some (k,x)→Pv i σ H→H T=none→g (.ref T) σ (upd H T (.tup [kV k,x])) fun σ2 H2=>tb { D with nx:=Pv (i + 1),ct:=Pv (i + 1),bk:=D.nx } σ2 H2) (hd:∀ σ H,Pv kvs.length σ H→D.nx σ H) :
  ∃ W:Nat→Nat→St→Hp→Prop,(∃ m,W 0 m σ H)∧∀ i m σ H,W i m σ H →
   ((Iti P w a kvs ep).stop i H∧D.nx σ H)∨((Iti P w a kvs ep).go i H∧∃ N:St→Hp→Prop,(∀ σ' H',N σ' H'→∃ m',m' < m∧W (i + 1) m' σ' H')∧∀ x H',(Iti P w a kvs ep).yld i H x H'→g x σ H' fun σ2 H2=>tb { D with nx:=N,ct:=N,bk:=D.nx } σ2 H2):=by
 refine ⟨fun i m σ H=>m + i=kvs.length∧Pv i σ H,⟨kvs.length,rfl,h0⟩,fun i m σ H ⟨hm,p⟩=>?_⟩
 have q1:=hl i σ H (by omega) p
 rcases Nat.eq_zero_or_pos m with z | z
 ·exact .inl ⟨⟨q1,by omega⟩,hd σ H ((show i=kvs.length by omega) ▸ p)⟩
 ·refine .inr ⟨⟨q1,by omega⟩,Pv (i + 1),fun σ' H' p'=>⟨m - 1,by omega,by omega,p'⟩,fun x H' y=>?_⟩
  obtain ⟨T,k,x1,hT,rfl,hk,rfl⟩:=y
  exact hs i k x1 T σ H hk p hT
theorem for_values {P:Program}{w:World}{a:Addr}{kvs:List (Key × V)}{ep:Nat}{g:TG}{tb:TS}{D:Ends}{σ:St}{H:Hp}(Pv:Nat→St→Hp→Prop) (h0:Pv 0 σ H) (hl:∀ i σ H,i≤kvs.length→Pv i σ H→H a=some (FzD P w a kvs ep))
  (hs:∀ i k x σ H,kvs[i]? = some (k,x)→Pv i σ H→g x σ H fun σ2 H2=>tb { D with nx:=Pv (i + 1),ct:=Pv (i + 1),bk:=D.nx } σ2 H2) (hd:∀ σ H,Pv kvs.length σ H→D.nx σ H) :
  ∃ W:Nat→Nat→St→Hp→Prop,(∃ m,W 0 m σ H)∧∀ i m σ H,W i m σ H →
   ((Itw P w a kvs ep).stop i H∧D.nx σ H)∨((Itw P w a kvs ep).go i H∧∃ N:St→Hp→Prop,(∀ σ' H',N σ' H'→∃ m',m' < m∧W (i + 1) m' σ' H')∧∀ x H',(Itw P w a kvs ep).yld i H x H'→g x σ H' fun σ2 H2=>tb { D with nx:=N,ct:=N,bk:=D.nx } σ2 H2):=by
 refine ⟨fun i m σ H=>m + i=kvs.length∧Pv i σ H,⟨kvs.length,rfl,h0⟩,fun i m σ H ⟨hm,p⟩=>?_⟩
 have q1:=hl i σ H (by omega) p
 rcases Nat.eq_zero_or_pos m with z | z
 ·exact .inl ⟨⟨q1,by omega⟩,hd σ H ((show i=kvs.length by omega) ▸ p)⟩
 ·refine .inr ⟨⟨q1,by omega⟩,Pv (i + 1),fun σ' H' p'=>⟨m - 1,by omega,by omega,p'⟩,fun x H' y=>?_⟩
  obtain ⟨rfl,k,hk⟩:=y
  exact hs i k x σ _ hk p
end
end L2
namespace L2
open PySem PySem.Spec PyProof.Rows
section
variable {X:Cx}
end
end L2
namespace L2
open PySem PySem.Spec PyProof.Rows
section
variable {X:Cx}
end
end L2
namespace L2
open PySem PySem.Spec PyProof.Rows PySem.W
section
variable {prog:Program}{w:World}{A:Around}{E:Value→Shared→Prop} {κ:SortKind}{it:Array Keyed}{s:Shared}
end
section
variable {X:Cx}
end
end L2
namespace Lw
open PySem L2
def top (i:Nat) : Stmt:=PySem.Challenge.pw_prunepath_k43_trials.main.body.getD i (.Pass ⟨0,0,0,0⟩)
abbrev s_is_whole:Stmt:=top 7
abbrev s_greatest_divisor:Stmt:=top 9
abbrev s_ratio:Stmt:=top 10
abbrev s_check_measure:Stmt:=top 16
abbrev s_commonest:Stmt:=top 17
abbrev s_all_rows:Stmt:=top 18
abbrev s_misses:Stmt:=top 19
abbrev s_shares:Stmt:=top 20
abbrev s_mess:Stmt:=top 21
abbrev s_says:Stmt:=top 23
abbrev s_Node___init__:Stmt:=inClass (top 25) 0
abbrev s_Leaf_below:Stmt:=inClass (top 26) 0
abbrev s_Leaf_leaves:Stmt:=inClass (top 26) 1
abbrev s_Leaf_deep:Stmt:=inClass (top 26) 2
abbrev s_Leaf_place_of:Stmt:=inClass (top 26) 3
abbrev s_Fork_below:Stmt:=inClass (top 27) 1
abbrev s_Fork_leaves:Stmt:=inClass (top 27) 2
abbrev s_Fork_deep:Stmt:=inClass (top 27) 3
abbrev s_Fork_place_of:Stmt:=inClass (top 27) 4
abbrev s_Fork___init__:Stmt:=inClass (top 27) 0
abbrev s_Node_at:Stmt:=inClass (top 25) 1
abbrev s_costed:Stmt:=top 29
abbrev s_plus:Stmt:=top 11
abbrev s_minus:Stmt:=top 12
abbrev s_under:Stmt:=top 13
abbrev s_trees_by_place:Stmt:=top 30
abbrev s_places_of:Stmt:=top 31
abbrev s_forks:Stmt:=top 32
abbrev s_common_bottom:Stmt:=top 33
abbrev s_lifted:Stmt:=top 34
abbrev s_in_whole_costs:Stmt:=top 35
abbrev s_beginnings:Stmt:=top 37
abbrev s_check_price:Stmt:=top 38
abbrev s_unreduced_sum:Stmt:=top 39
abbrev s_cheapest_with_cost:Stmt:=top 40
abbrev s_cheapest:Stmt:=top 41
abbrev s_forks_inside:Stmt:=top 43
abbrev s_shared_out:Stmt:=top 44
abbrev s_link_inside:Stmt:=top 45
abbrev s_cut:Stmt:=top 46
abbrev s_sums_and_leaves:Stmt:=top 48
abbrev s_whole_links:Stmt:=top 49
abbrev s_least_linked:Stmt:=top 50
abbrev s_path:Stmt:=top 51
abbrev s_answer_pruned:Stmt:=top 53
abbrev s_missed:Stmt:=top 54
abbrev s_trial:Stmt:=top 55
abbrev s_law_cell:Stmt:=top 57
abbrev s_law_next:Stmt:=top 58
abbrev s_law_words:Stmt:=top 59
abbrev s_law_counted:Stmt:=top 60
abbrev s_law_question:Stmt:=top 61
abbrev s_law_pile:Stmt:=top 62
abbrev s_law_node:Stmt:=top 63
abbrev s_law_yes:Stmt:=top 64
abbrev s_law_commonest:Stmt:=top 65
abbrev s_law_missed:Stmt:=top 66
abbrev s_law_group:Stmt:=top 67
abbrev s_law_refused:Stmt:=top 68
abbrev s_law_right:Stmt:=top 69
abbrev s_law:Stmt:=top 70
set_option genInjectivity false in
set_option genSizeOf false in
structure Tx (K:PySem.W.Frag) (mg:Str→Option Value) where
 c_PruneError:Addr
 m_PruneError:mg "PruneError" = some (.ref c_PruneError)
 c_NoRatio:Addr
 m_NoRatio:mg "NoRatio" = some (.ref c_NoRatio)
 x_NoRatio:Exc K mg "NoRatio" c_NoRatio
 i_NoRatio:ExcI K c_NoRatio
 c_NoMeasure:Addr
 m_NoMeasure:mg "NoMeasure" = some (.ref c_NoMeasure)
 x_NoMeasure:Exc K mg "NoMeasure" c_NoMeasure
 i_NoMeasure:ExcI K c_NoMeasure
 c_NoPlace:Addr
 m_NoPlace:mg "NoPlace" = some (.ref c_NoPlace)
 c_NoPrice:Addr
 m_NoPrice:mg "NoPrice" = some (.ref c_NoPrice)
 c_Node:Addr
 m_Node:mg "Node" = some (.ref c_Node)
 C_Node:Cls K c_Node
 c_Leaf:Addr
 m_Leaf:mg "Leaf" = some (.ref c_Leaf)
 C_Leaf:Cls K c_Leaf
 c_Fork:Addr
 m_Fork:mg "Fork" = some (.ref c_Fork)
 C_Fork:Cls K c_Fork
 f_is_whole:Addr
 d_is_whole:FuncData
 F_is_whole:Fun K "is_whole" "is_whole" s_is_whole f_is_whole d_is_whole
 b_is_whole:Binds K d_is_whole ["value"] []
 m_is_whole:mg "is_whole" = some (.ref f_is_whole)
 f_greatest_divisor:Addr
 d_greatest_divisor:FuncData
 F_greatest_divisor:Fun K "greatest_divisor" "greatest_divisor" s_greatest_divisor f_greatest_divisor d_greatest_divisor
 b_greatest_divisor:Binds K d_greatest_divisor ["one", "other"] []
 m_greatest_divisor:mg "greatest_divisor" = some (.ref f_greatest_divisor)
 f_ratio:Addr
 d_ratio:FuncData
 F_ratio:Fun K "ratio" "ratio" s_ratio f_ratio d_ratio
 b_ratio:Binds K d_ratio ["top", "bottom"] []
 m_ratio:mg "ratio" = some (.ref f_ratio)
 f_check_measure:Addr
 d_check_measure:FuncData
 F_check_measure:Fun K "check_measure" "check_measure" s_check_measure f_check_measure d_check_measure
 b_check_measure:Binds K d_check_measure ["measure"] []
 m_check_measure:mg "check_measure" = some (.ref f_check_measure)
 f_commonest:Addr
 d_commonest:FuncData
 F_commonest:Fun K "commonest" "commonest" s_commonest f_commonest d_commonest
 b_commonest:Binds K d_commonest ["counted"] []
 m_commonest:mg "commonest" = some (.ref f_commonest)
 f_all_rows:Addr
 d_all_rows:FuncData
 F_all_rows:Fun K "all_rows" "all_rows" s_all_rows f_all_rows d_all_rows
 b_all_rows:Binds K d_all_rows ["counted"] []
 m_all_rows:mg "all_rows" = some (.ref f_all_rows)
 f_misses:Addr
 d_misses:FuncData
 F_misses:Fun K "misses" "misses" s_misses f_misses d_misses
 b_misses:Binds K d_misses ["counted"] []
 m_misses:mg "misses" = some (.ref f_misses)
 f_shares:Addr
 d_shares:FuncData
 F_shares:Fun K "shares" "shares" s_shares f_shares d_shares
 b_shares:Binds K d_shares ["counted"] []
 m_shares:mg "shares" = some (.ref f_shares)
 f_mess:Addr
 d_mess:FuncData
 F_mess:Fun K "mess" "mess" s_mess f_mess d_mess
 b_mess:Binds K d_mess ["counted", "measure"] []
 m_mess:mg "mess" = some (.ref f_mess)
 f_says:Addr
 d_says:FuncData
 F_says:Fun K "says" "says" s_says f_says d_says
 b_says:Binds K d_says ["question", "values"] []
 m_says:mg "says" = some (.ref f_says)
 f_Node___init__:Addr
 d_Node___init__:FuncData
 F_Node___init__:Fun K "__init__" "Node.__init__" s_Node___init__ f_Node___init__ d_Node___init__
 b_Node___init__:Binds K d_Node___init__ ["self", "counted"] []
 M_Node:Mk K c_Node f_Node___init__
 f_Leaf_below:Addr
 d_Leaf_below:FuncData
 F_Leaf_below:Fun K "below" "Leaf.below" s_Leaf_below f_Leaf_below d_Leaf_below
 b_Leaf_below:Binds K d_Leaf_below ["self", "sign"] []
 M_Leaf_below:Meth K c_Leaf "below" f_Leaf_below
 f_Leaf_leaves:Addr
 d_Leaf_leaves:FuncData
 F_Leaf_leaves:Fun K "leaves" "Leaf.leaves" s_Leaf_leaves f_Leaf_leaves d_Leaf_leaves
 b_Leaf_leaves:Binds K d_Leaf_leaves ["self"] []
 M_Leaf_leaves:Meth K c_Leaf "leaves" f_Leaf_leaves
 f_Leaf_deep:Addr
 d_Leaf_deep:FuncData
 F_Leaf_deep:Fun K "deep" "Leaf.deep" s_Leaf_deep f_Leaf_deep d_Leaf_deep
 b_Leaf_deep:Binds K d_Leaf_deep ["self"] []
 M_Leaf_deep:Meth K c_Leaf "deep" f_Leaf_deep
 f_Leaf_place_of:Addr
 d_Leaf_place_of:FuncData
 F_Leaf_place_of:Fun K "place_of" "Leaf.place_of" s_Leaf_place_of f_Leaf_place_of d_Leaf_place_of
 b_Leaf_place_of:Binds K d_Leaf_place_of ["self", "values"] []
 M_Leaf_place_of:Meth K c_Leaf "place_of" f_Leaf_place_of
 f_Fork_below:Addr
 d_Fork_below:FuncData
 F_Fork_below:Fun K "below" "Fork.below" s_Fork_below f_Fork_below d_Fork_below
 b_Fork_below:Binds K d_Fork_below ["self", "sign"] []
 M_Fork_below:Meth K c_Fork "below" f_Fork_below
 f_Fork_leaves:Addr
 d_Fork_leaves:FuncData
 F_Fork_leaves:Fun K "leaves" "Fork.leaves" s_Fork_leaves f_Fork_leaves d_Fork_leaves
 b_Fork_leaves:Binds K d_Fork_leaves ["self"] []
 M_Fork_leaves:Meth K c_Fork "leaves" f_Fork_leaves
 f_Fork_deep:Addr
 d_Fork_deep:FuncData
 F_Fork_deep:Fun K "deep" "Fork.deep" s_Fork_deep f_Fork_deep d_Fork_deep
 b_Fork_deep:Binds K d_Fork_deep ["self"] []
 M_Fork_deep:Meth K c_Fork "deep" f_Fork_deep
 f_Fork_place_of:Addr
 d_Fork_place_of:FuncData
 F_Fork_place_of:Fun K "place_of" "Fork.place_of" s_Fork_place_of f_Fork_place_of d_Fork_place_of
 b_Fork_place_of:Binds K d_Fork_place_of ["self", "values"] []
 M_Fork_place_of:Meth K c_Fork "place_of" f_Fork_place_of
 f_Fork___init__:Addr
 d_Fork___init__:FuncData
 F_Fork___init__:Fun K "__init__" "Fork.__init__" s_Fork___init__ f_Fork___init__ d_Fork___init__
 b_Fork___init__:Binds K d_Fork___init__ ["self", "counted", "question", "yes", "no"] []
 M_Fork:Mk K c_Fork f_Fork___init__
 f_Node_at:Addr
 d_Node_at:FuncData
 F_Node_at:Fun K "at" "Node.at" s_Node_at f_Node_at d_Node_at
 b_Node_at:Binds K d_Node_at ["self", "place"] []
 M_Node_at:Meth K c_Node "at" f_Node_at
 f_costed:Addr
 d_costed:FuncData
 F_costed:Fun K "costed" "costed" s_costed f_costed d_costed
 b_costed:Binds K d_costed ["node", "measure"] []
 m_costed:mg "costed" = some (.ref f_costed)
 f_plus:Addr
 d_plus:FuncData
 F_plus:Fun K "plus" "plus" s_plus f_plus d_plus
 b_plus:Binds K d_plus ["one", "other"] []
 m_plus:mg "plus" = some (.ref f_plus)
 f_minus:Addr
 d_minus:FuncData
 F_minus:Fun K "minus" "minus" s_minus f_minus d_minus
 b_minus:Binds K d_minus ["one", "other"] []
 m_minus:mg "minus" = some (.ref f_minus)
 f_under:Addr
 d_under:FuncData
 F_under:Fun K "under" "under" s_under f_under d_under
 b_under:Binds K d_under ["one", "other"] []
 m_under:mg "under" = some (.ref f_under)
 f_trees_by_place:Addr
 d_trees_by_place:FuncData
 F_trees_by_place:Fun K "trees_by_place" "trees_by_place" s_trees_by_place f_trees_by_place d_trees_by_place
 b_trees_by_place:Binds K d_trees_by_place ["tree"] []
 m_trees_by_place:mg "trees_by_place" = some (.ref f_trees_by_place)
 f_places_of:Addr
 d_places_of:FuncData
 F_places_of:Fun K "places_of" "places_of" s_places_of f_places_of d_places_of
 b_places_of:Binds K d_places_of ["tree", "sort"] []
 m_places_of:mg "places_of" = some (.ref f_places_of)
 f_forks:Addr
 d_forks:FuncData
 F_forks:Fun K "forks" "forks" s_forks f_forks d_forks
 b_forks:Binds K d_forks ["tree"] []
 m_forks:mg "forks" = some (.ref f_forks)
 f_common_bottom:Addr
 d_common_bottom:FuncData
 F_common_bottom:Fun K "common_bottom" "common_bottom" s_common_bottom f_common_bottom d_common_bottom
 b_common_bottom:Binds K d_common_bottom ["tree"] []
 m_common_bottom:mg "common_bottom" = some (.ref f_common_bottom)
 f_lifted:Addr
 d_lifted:FuncData
 F_lifted:Fun K "lifted" "lifted" s_lifted f_lifted d_lifted
 b_lifted:Binds K d_lifted ["tree", "bottom"] []
 m_lifted:mg "lifted" = some (.ref f_lifted)
 f_in_whole_costs:Addr
 d_in_whole_costs:FuncData
 F_in_whole_costs:Fun K "in_whole_costs" "in_whole_costs" s_in_whole_costs f_in_whole_costs d_in_whole_costs
 b_in_whole_costs:Binds K d_in_whole_costs ["tree"] []
 m_in_whole_costs:mg "in_whole_costs" = some (.ref f_in_whole_costs)
 f_beginnings:Addr
 d_beginnings:FuncData
 F_beginnings:Fun K "beginnings" "beginnings" s_beginnings f_beginnings d_beginnings
 b_beginnings:Binds K d_beginnings ["place", "places"] []
 m_beginnings:mg "beginnings" = some (.ref f_beginnings)
 f_check_price:Addr
 d_check_price:FuncData
 F_check_price:Fun K "check_price" "check_price" s_check_price f_check_price d_check_price
 b_check_price:Binds K d_check_price ["price"] []
 m_check_price:mg "check_price" = some (.ref f_check_price)
 f_unreduced_sum:Addr
 d_unreduced_sum:FuncData
 F_unreduced_sum:Fun K "unreduced_sum" "unreduced_sum" s_unreduced_sum f_unreduced_sum d_unreduced_sum
 b_unreduced_sum:Binds K d_unreduced_sum ["one", "other"] []
 m_unreduced_sum:mg "unreduced_sum" = some (.ref f_unreduced_sum)
 f_cheapest_with_cost:Addr
 d_cheapest_with_cost:FuncData
 F_cheapest_with_cost:Fun K "cheapest_with_cost" "cheapest_with_cost" s_cheapest_with_cost f_cheapest_with_cost d_cheapest_with_cost
 b_cheapest_with_cost:Binds K d_cheapest_with_cost ["tree", "price"] []
 m_cheapest_with_cost:mg "cheapest_with_cost" = some (.ref f_cheapest_with_cost)
 f_cheapest:Addr
 d_cheapest:FuncData
 F_cheapest:Fun K "cheapest" "cheapest" s_cheapest f_cheapest d_cheapest
 b_cheapest:Binds K d_cheapest ["tree", "price"] []
 m_cheapest:mg "cheapest" = some (.ref f_cheapest)
 f_forks_inside:Addr
 d_forks_inside:FuncData
 F_forks_inside:Fun K "forks_inside" "forks_inside" s_forks_inside f_forks_inside d_forks_inside
 b_forks_inside:Binds K d_forks_inside ["tree", "places"] []
 m_forks_inside:mg "forks_inside" = some (.ref f_forks_inside)
 f_shared_out:Addr
 d_shared_out:FuncData
 F_shared_out:Fun K "shared_out" "shared_out" s_shared_out f_shared_out d_shared_out
 b_shared_out:Binds K d_shared_out ["one", "many"] []
 m_shared_out:mg "shared_out" = some (.ref f_shared_out)
 f_link_inside:Addr
 d_link_inside:FuncData
 F_link_inside:Fun K "link_inside" "link_inside" s_link_inside f_link_inside d_link_inside
 b_link_inside:Binds K d_link_inside ["tree", "places", "fork"] []
 m_link_inside:mg "link_inside" = some (.ref f_link_inside)
 f_cut:Addr
 d_cut:FuncData
 F_cut:Fun K "cut" "cut" s_cut f_cut d_cut
 b_cut:Binds K d_cut ["places", "places_of_forks"] []
 m_cut:mg "cut" = some (.ref f_cut)
 f_sums_and_leaves:Addr
 d_sums_and_leaves:FuncData
 F_sums_and_leaves:Fun K "sums_and_leaves" "sums_and_leaves" s_sums_and_leaves f_sums_and_leaves d_sums_and_leaves
 b_sums_and_leaves:Binds K d_sums_and_leaves ["whole", "places"] []
 m_sums_and_leaves:mg "sums_and_leaves" = some (.ref f_sums_and_leaves)
 f_whole_links:Addr
 d_whole_links:FuncData
 F_whole_links:Fun K "whole_links" "whole_links" s_whole_links f_whole_links d_whole_links
 b_whole_links:Binds K d_whole_links ["whole", "places"] []
 m_whole_links:mg "whole_links" = some (.ref f_whole_links)
 f_least_linked:Addr
 d_least_linked:FuncData
 F_least_linked:Fun K "least_linked" "least_linked" s_least_linked f_least_linked d_least_linked
 b_least_linked:Binds K d_least_linked ["whole", "places"] []
 m_least_linked:mg "least_linked" = some (.ref f_least_linked)
 f_path:Addr
 d_path:FuncData
 F_path:Fun K "path" "path" s_path f_path d_path
 b_path:Binds K d_path ["tree"] []
 m_path:mg "path" = some (.ref f_path)
 f_answer_pruned:Addr
 d_answer_pruned:FuncData
 F_answer_pruned:Fun K "answer_pruned" "answer_pruned" s_answer_pruned f_answer_pruned d_answer_pruned
 b_answer_pruned:Binds K d_answer_pruned ["node", "places", "values"] []
 m_answer_pruned:mg "answer_pruned" = some (.ref f_answer_pruned)
 f_missed:Addr
 d_missed:FuncData
 F_missed:Fun K "missed" "missed" s_missed f_missed d_missed
 b_missed:Binds K d_missed ["node", "places", "group"] []
 m_missed:mg "missed" = some (.ref f_missed)
 f_trial:Addr
 d_trial:FuncData
 F_trial:Fun K "trial" "trial" s_trial f_trial d_trial
 b_trial:Binds K d_trial ["node", "measure", "group"] []
 m_trial:mg "trial" = some (.ref f_trial)
 f_law_cell:Addr
 d_law_cell:FuncData
 F_law_cell:Fun K "_law_cell" "_law_cell" s_law_cell f_law_cell d_law_cell
 b_law_cell:Binds K d_law_cell ["_law_script", "_law_k"] []
 m_law_cell:mg "_law_cell" = some (.ref f_law_cell)
 f_law_next:Addr
 d_law_next:FuncData
 F_law_next:Fun K "_law_next" "_law_next" s_law_next f_law_next d_law_next
 b_law_next:Binds K d_law_next ["_law_cell_here", "_law_k"] []
 m_law_next:mg "_law_next" = some (.ref f_law_next)
 f_law_words:Addr
 d_law_words:FuncData
 F_law_words:Fun K "_law_words" "_law_words" s_law_words f_law_words d_law_words
 b_law_words:Binds K d_law_words ["_law_cell_here"] []
 m_law_words:mg "_law_words" = some (.ref f_law_words)
 f_law_counted:Addr
 d_law_counted:FuncData
 F_law_counted:Fun K "_law_counted" "_law_counted" s_law_counted f_law_counted d_law_counted
 b_law_counted:Binds K d_law_counted ["_law_cell_here", "_law_words_here"] []
 m_law_counted:mg "_law_counted" = some (.ref f_law_counted)
 f_law_question:Addr
 d_law_question:FuncData
 F_law_question:Fun K "_law_question" "_law_question" s_law_question f_law_question d_law_question
 b_law_question:Binds K d_law_question ["_law_cell_here", "_law_words_here", "_law_scale"] []
 m_law_question:mg "_law_question" = some (.ref f_law_question)
 f_law_pile:Addr
 d_law_pile:FuncData
 F_law_pile:Fun K "_law_pile" "_law_pile" s_law_pile f_law_pile d_law_pile
 b_law_pile:Binds K d_law_pile ["_law_cells", "_law_words_here", "_law_scale"] []
 m_law_pile:mg "_law_pile" = some (.ref f_law_pile)
 f_law_node:Addr
 d_law_node:FuncData
 F_law_node:Fun K "_law_node" "_law_node" s_law_node f_law_node d_law_node
 b_law_node:Binds K d_law_node ["_law_tree"] []
 m_law_node:mg "_law_node" = some (.ref f_law_node)
 f_law_yes:Addr
 d_law_yes:FuncData
 F_law_yes:Fun K "_law_yes" "_law_yes" s_law_yes f_law_yes d_law_yes
 b_law_yes:Binds K d_law_yes ["_law_question_here", "_law_values"] []
 m_law_yes:mg "_law_yes" = some (.ref f_law_yes)
 f_law_commonest:Addr
 d_law_commonest:FuncData
 F_law_commonest:Fun K "_law_commonest" "_law_commonest" s_law_commonest f_law_commonest d_law_commonest
 b_law_commonest:Binds K d_law_commonest ["_law_told"] []
 m_law_commonest:mg "_law_commonest" = some (.ref f_law_commonest)
 f_law_missed:Addr
 d_law_missed:FuncData
 F_law_missed:Fun K "_law_missed" "_law_missed" s_law_missed f_law_missed d_law_missed
 b_law_missed:Binds K d_law_missed ["_law_tree", "_law_places", "_law_group_here"] []
 m_law_missed:mg "_law_missed" = some (.ref f_law_missed)
 f_law_group:Addr
 d_law_group:FuncData
 F_law_group:Fun K "_law_group" "_law_group" s_law_group f_law_group d_law_group
 b_law_group:Binds K d_law_group ["_law_cells", "_law_words_here"] []
 m_law_group:mg "_law_group" = some (.ref f_law_group)
 f_law_refused:Addr
 d_law_refused:FuncData
 F_law_refused:Fun K "_law_refused" "_law_refused" s_law_refused f_law_refused d_law_refused
 b_law_refused:Binds K d_law_refused ["_law_node_here", "_law_measure", "_law_group_here"] []
 m_law_refused:mg "_law_refused" = some (.ref f_law_refused)
 f_law_right:Addr
 d_law_right:FuncData
 F_law_right:Fun K "_law_right" "_law_right" s_law_right f_law_right d_law_right
 b_law_right:Binds K d_law_right ["_law_found", "_law_steps", "_law_tree", "_law_group_here"] []
 m_law_right:mg "_law_right" = some (.ref f_law_right)
 f_law:Addr
 d_law:FuncData
 F_law:Fun K "law" "law" s_law f_law d_law
 b_law:Binds K d_law ["_law_script"] []
 m_law:mg "law" = some (.ref f_law)
 M_Leaf:Mk K c_Leaf f_Node___init__
 M_Leaf_at:Meth K c_Leaf "at" f_Node_at
 M_Fork_at:Meth K c_Fork "at" f_Node_at
 cc_Node___init__:ClsC K c_Node "__init__" f_Node___init__
 c_MEASURES:Addr
 m_MEASURES:mg "MEASURES" = some (.ref c_MEASURES)
 q_MEASURES:∀ H,SqT K H c_MEASURES [.str "misses", .str "shares"]
 z_ValueError:mg "ValueError" = none
 z_abs:mg "abs" = none
 z_bool:mg "bool" = none
 z_enumerate:mg "enumerate" = none
 z_int:mg "int" = none
 z_isinstance:mg "isinstance" = none
 z_len:mg "len" = none
 z_list:mg "list" = none
 z_max:mg "max" = none
 z_range:mg "range" = none
 z_reversed:mg "reversed" = none
 z_sorted:mg "sorted" = none
 z_sum:mg "sum" = none
 z_tuple:mg "tuple" = none
 t4:PySem.W.exmOne K (.ref c_NoMeasure) (.ref c_NoMeasure)=some true
 t1:PySem.W.kitOne K (.ref c_NoMeasure) (.ref c_PruneError)=some true
 t3:PySem.W.kitOne K (.ref c_NoMeasure) (.type "ValueError")=some true
 nLc:PySem.W.findIn K (.ref c_Leaf) "counted" = some none
 nFcd:PySem.W.findIn K (.ref c_Fork) "counted" = some none
 nFqn:PySem.W.findIn K (.ref c_Fork) "question" = some none
 nFys:PySem.W.findIn K (.ref c_Fork) "yes" = some none
 nFno:PySem.W.findIn K (.ref c_Fork) "no" = some none
 nFlt:PySem.W.findIn K (.ref c_Fork) "leaf_count" = some none
 nFdh:PySem.W.findIn K (.ref c_Fork) "depth" = some none
 clL:PySem.W.findIn K (.ref c_Leaf) "__class__" = some (some (.builtin "object.__class__"))
 clF:PySem.W.findIn K (.ref c_Fork) "__class__" = some (some (.builtin "object.__class__"))
 ogt:PySem.W.specialIn K (.builtin "object.__class__") "__get__" = some (some (.builtin "getset_descriptor.__get__"))
 otk:PySem.W.takesIn K (.builtin "object.__class__")=some true
 omL:PySem.W.mroIn K c_Leaf (.type "object")=some true
 omF:PySem.W.mroIn K c_Fork (.type "object")=some true
 kLF:PySem.W.kitOne K (.ref c_Leaf) (.ref c_Fork)=some false
 kFF:PySem.W.kitOne K (.ref c_Fork) (.ref c_Fork)=some true
theorem sc_is_whole:FnScope ["value"] ["value"] (defScope s_is_whole):=⟨rfl,rfl,rfl,by decide +kernel,rfl,by decide +kernel,by decide +kernel⟩
theorem sc_greatest_divisor:FnScope ["one", "other", "larger", "smaller", "rest"] ["one", "other"] (defScope s_greatest_divisor):=⟨rfl,rfl,rfl,by decide +kernel,rfl,by decide +kernel,by decide +kernel⟩
theorem sc_ratio:FnScope ["top", "bottom", "divisor"] ["top", "bottom"] (defScope s_ratio):=⟨rfl,rfl,rfl,by decide +kernel,rfl,by decide +kernel,by decide +kernel⟩
theorem sc_check_measure:FnScope ["measure"] ["measure"] (defScope s_check_measure):=⟨rfl,rfl,rfl,by decide +kernel,rfl,by decide +kernel,by decide +kernel⟩
theorem sc_commonest:FnScope ["counted", "found", "greatest", "answer", "many"] ["counted"] (defScope s_commonest):=⟨rfl,rfl,rfl,by decide +kernel,rfl,by decide +kernel,by decide +kernel⟩
theorem sc_all_rows:FnScope ["counted"] ["counted"] (defScope s_all_rows):=⟨rfl,rfl,rfl,by decide +kernel,rfl,by decide +kernel,by decide +kernel⟩
theorem sc_misses:FnScope ["counted"] ["counted"] (defScope s_misses):=⟨rfl,rfl,rfl,by decide +kernel,rfl,by decide +kernel,by decide +kernel⟩
theorem sc_shares:FnScope ["counted", "rows", "squares"] ["counted"] (defScope s_shares):=⟨rfl,rfl,rfl,by decide +kernel,rfl,by decide +kernel,by decide +kernel⟩
theorem sc_mess:FnScope ["counted", "measure"] ["counted", "measure"] (defScope s_mess):=⟨rfl,rfl,rfl,by decide +kernel,rfl,by decide +kernel,by decide +kernel⟩
theorem sc_says:FnScope ["question", "values", "value"] ["question", "values"] (defScope s_says):=⟨rfl,rfl,rfl,by decide +kernel,rfl,by decide +kernel,by decide +kernel⟩
theorem sc_Node___init__:FnScope ["self", "counted"] ["self", "counted"] (defScope s_Node___init__):=⟨rfl,rfl,rfl,by decide +kernel,rfl,by decide +kernel,by decide +kernel⟩
theorem sc_Leaf_below:FnScope ["self", "sign"] ["self", "sign"] (defScope s_Leaf_below):=⟨rfl,rfl,rfl,by decide +kernel,rfl,by decide +kernel,by decide +kernel⟩
theorem sc_Leaf_leaves:FnScope ["self"] ["self"] (defScope s_Leaf_leaves):=⟨rfl,rfl,rfl,by decide +kernel,rfl,by decide +kernel,by decide +kernel⟩
theorem sc_Leaf_deep:FnScope ["self"] ["self"] (defScope s_Leaf_deep):=⟨rfl,rfl,rfl,by decide +kernel,rfl,by decide +kernel,by decide +kernel⟩
theorem sc_Leaf_place_of:FnScope ["self", "values"] ["self", "values"] (defScope s_Leaf_place_of):=⟨rfl,rfl,rfl,by decide +kernel,rfl,by decide +kernel,by decide +kernel⟩
theorem sc_Fork_below:FnScope ["self", "sign"] ["self", "sign"] (defScope s_Fork_below):=⟨rfl,rfl,rfl,by decide +kernel,rfl,by decide +kernel,by decide +kernel⟩
theorem sc_Fork_leaves:FnScope ["self"] ["self"] (defScope s_Fork_leaves):=⟨rfl,rfl,rfl,by decide +kernel,rfl,by decide +kernel,by decide +kernel⟩
theorem sc_Fork_deep:FnScope ["self"] ["self"] (defScope s_Fork_deep):=⟨rfl,rfl,rfl,by decide +kernel,rfl,by decide +kernel,by decide +kernel⟩
theorem sc_Fork_place_of:FnScope ["self", "values"] ["self", "values"] (defScope s_Fork_place_of):=⟨rfl,rfl,rfl,by decide +kernel,rfl,by decide +kernel,by decide +kernel⟩
theorem sc_Fork___init__:FnScope ["self", "counted", "question", "yes", "no"] ["self", "counted", "question", "yes", "no"] (defScope s_Fork___init__):=⟨rfl,rfl,rfl,by decide +kernel,rfl,by decide +kernel,by decide +kernel⟩
theorem sc_Node_at:FnScope ["self", "place", "node", "sign"] ["self", "place"] (defScope s_Node_at):=⟨rfl,rfl,rfl,by decide +kernel,rfl,by decide +kernel,by decide +kernel⟩
theorem sc_costed:FnScope ["node", "measure", "own"] ["node", "measure"] (defScope s_costed):=⟨rfl,rfl,rfl,by decide +kernel,rfl,by decide +kernel,by decide +kernel⟩
theorem sc_plus:FnScope ["one", "other", "shared", "lift", "top", "divisor"] ["one", "other"] (defScope s_plus):=⟨rfl,rfl,rfl,by decide +kernel,rfl,by decide +kernel,by decide +kernel⟩
theorem sc_minus:FnScope ["one", "other"] ["one", "other"] (defScope s_minus):=⟨rfl,rfl,rfl,by decide +kernel,rfl,by decide +kernel,by decide +kernel⟩
theorem sc_under:FnScope ["one", "other"] ["one", "other"] (defScope s_under):=⟨rfl,rfl,rfl,by decide +kernel,rfl,by decide +kernel,by decide +kernel⟩
theorem sc_trees_by_place:FnScope ["tree", "found", "waiting", "step", "place", "part"] ["tree"] (defScope s_trees_by_place):=⟨rfl,rfl,rfl,by decide +kernel,rfl,by decide +kernel,by decide +kernel⟩
theorem sc_places_of:FnScope ["tree", "sort"] ["tree", "sort"] (defScope s_places_of):=⟨rfl,rfl,rfl,by decide +kernel,rfl,by decide +kernel,by decide +kernel⟩
theorem sc_forks:FnScope ["tree"] ["tree"] (defScope s_forks):=⟨rfl,rfl,rfl,by decide +kernel,rfl,by decide +kernel,by decide +kernel⟩
theorem sc_common_bottom:FnScope ["tree", "shared", "part", "bottom"] ["tree"] (defScope s_common_bottom):=⟨rfl,rfl,rfl,by decide +kernel,rfl,by decide +kernel,by decide +kernel⟩
theorem sc_lifted:FnScope ["tree", "bottom", "lift"] ["tree", "bottom"] (defScope s_lifted):=⟨rfl,rfl,rfl,by decide +kernel,rfl,by decide +kernel,by decide +kernel⟩
theorem sc_in_whole_costs:FnScope ["tree"] ["tree"] (defScope s_in_whole_costs):=⟨rfl,rfl,rfl,by decide +kernel,rfl,by decide +kernel,by decide +kernel⟩
theorem sc_beginnings:FnScope ["place", "places"] ["place", "places"] (defScope s_beginnings):=⟨rfl,rfl,rfl,by decide +kernel,rfl,by decide +kernel,by decide +kernel⟩
theorem sc_check_price:FnScope ["price"] ["price"] (defScope s_check_price):=⟨rfl,rfl,rfl,by decide +kernel,rfl,by decide +kernel,by decide +kernel⟩
theorem sc_unreduced_sum:FnScope ["one", "other"] ["one", "other"] (defScope s_unreduced_sum):=⟨rfl,rfl,rfl,by decide +kernel,rfl,by decide +kernel,by decide +kernel⟩
theorem sc_cheapest_with_cost:FnScope ["tree", "price", "yes", "no", "places", "both", "spared"] ["tree", "price"] (defScope s_cheapest_with_cost):=⟨rfl,rfl,rfl,by decide +kernel,rfl,by decide +kernel,by decide +kernel⟩
theorem sc_cheapest:FnScope ["tree", "price"] ["tree", "price"] (defScope s_cheapest):=⟨rfl,rfl,rfl,by decide +kernel,rfl,by decide +kernel,by decide +kernel⟩
theorem sc_forks_inside:FnScope ["tree", "places"] ["tree", "places"] (defScope s_forks_inside):=⟨rfl,rfl,rfl,by decide +kernel,rfl,by decide +kernel,by decide +kernel⟩
theorem sc_shared_out:FnScope ["one", "many", "divisor"] ["one", "many"] (defScope s_shared_out):=⟨rfl,rfl,rfl,by decide +kernel,rfl,by decide +kernel,by decide +kernel⟩
theorem sc_link_inside:FnScope ["tree", "places", "fork", "known", "leaves", "dearer", "place"] ["tree", "places", "fork"] (defScope s_link_inside):=⟨rfl,rfl,rfl,by decide +kernel,rfl,by decide +kernel,by decide +kernel⟩
theorem sc_cut:FnScope ["places", "places_of_forks", "kept", "topmost"] ["places", "places_of_forks"] (defScope s_cut):=⟨rfl,rfl,rfl,by decide +kernel,rfl,by decide +kernel,by decide +kernel⟩
theorem sc_sums_and_leaves:FnScope ["whole", "places", "known", "found", "place", "yes", "no"] ["whole", "places"] (defScope s_sums_and_leaves):=⟨rfl,rfl,rfl,by decide +kernel,rfl,by decide +kernel,by decide +kernel⟩
theorem sc_whole_links:FnScope ["whole", "places", "known", "found", "place", "both"] ["whole", "places"] (defScope s_whole_links):=⟨rfl,rfl,rfl,by decide +kernel,rfl,by decide +kernel,by decide +kernel⟩
theorem sc_least_linked:FnScope ["whole", "places", "links", "least", "one"] ["whole", "places"] (defScope s_least_linked):=⟨rfl,rfl,rfl,by decide +kernel,rfl,by decide +kernel,by decide +kernel⟩
theorem sc_path:FnScope ["tree", "whole", "places", "steps", "weakest", "price"] ["tree"] (defScope s_path):=⟨rfl,rfl,rfl,by decide +kernel,rfl,by decide +kernel,by decide +kernel⟩
theorem sc_answer_pruned:FnScope ["node", "places", "values", "place"] ["node", "places", "values"] (defScope s_answer_pruned):=⟨rfl,rfl,rfl,by decide +kernel,rfl,by decide +kernel,by decide +kernel⟩
theorem sc_missed:FnScope ["node", "places", "group"] ["node", "places", "group"] (defScope s_missed):=⟨rfl,rfl,rfl,by decide +kernel,rfl,by decide +kernel,by decide +kernel⟩
theorem sc_trial:FnScope ["node", "measure", "group", "steps"] ["node", "measure", "group"] (defScope s_trial):=⟨rfl,rfl,rfl,by decide +kernel,rfl,by decide +kernel,by decide +kernel⟩
theorem sc_law_cell:FnScope ["_law_script", "_law_k"] ["_law_script", "_law_k"] (defScope s_law_cell):=⟨rfl,rfl,rfl,by decide +kernel,rfl,by decide +kernel,by decide +kernel⟩
theorem sc_law_next:FnScope ["_law_cell_here", "_law_k"] ["_law_cell_here", "_law_k"] (defScope s_law_next):=⟨rfl,rfl,rfl,by decide +kernel,rfl,by decide +kernel,by decide +kernel⟩
theorem sc_law_words:FnScope ["_law_cell_here", "_law_letters", "_law_word", "_law_k"] ["_law_cell_here"] (defScope s_law_words):=⟨rfl,rfl,rfl,by decide +kernel,rfl,by decide +kernel,by decide +kernel⟩
theorem sc_law_counted:FnScope ["_law_cell_here", "_law_words_here", "_law_made", "_law_k", "_law_word"] ["_law_cell_here", "_law_words_here"] (defScope s_law_counted):=⟨rfl,rfl,rfl,by decide +kernel,rfl,by decide +kernel,by decide +kernel⟩
theorem sc_law_question:FnScope ["_law_cell_here", "_law_words_here", "_law_scale"] ["_law_cell_here", "_law_words_here", "_law_scale"] (defScope s_law_question):=⟨rfl,rfl,rfl,by decide +kernel,rfl,by decide +kernel,by decide +kernel⟩
theorem sc_law_pile:FnScope ["_law_cells", "_law_words_here", "_law_scale", "_law_pile_here", "_law_cell_here", "_law_told"] ["_law_cells", "_law_words_here", "_law_scale"] (defScope s_law_pile):=⟨rfl,rfl,rfl,by decide +kernel,rfl,by decide +kernel,by decide +kernel⟩
theorem sc_law_node:FnScope ["_law_tree"] ["_law_tree"] (defScope s_law_node):=⟨rfl,rfl,rfl,by decide +kernel,rfl,by decide +kernel,by decide +kernel⟩
theorem sc_law_yes:FnScope ["_law_question_here", "_law_values"] ["_law_question_here", "_law_values"] (defScope s_law_yes):=⟨rfl,rfl,rfl,by decide +kernel,rfl,by decide +kernel,by decide +kernel⟩
theorem sc_law_commonest:FnScope ["_law_told", "_law_found", "_law_many", "_law_word", "_law_times_told"] ["_law_told"] (defScope s_law_commonest):=⟨rfl,rfl,rfl,by decide +kernel,rfl,by decide +kernel,by decide +kernel⟩
theorem sc_law_missed:FnScope ["_law_tree", "_law_places", "_law_group_here", "_law_many", "_law_values", "_law_due", "_law_part", "_law_place"] ["_law_tree", "_law_places", "_law_group_here"] (defScope s_law_missed):=⟨rfl,rfl,rfl,by decide +kernel,rfl,by decide +kernel,by decide +kernel⟩
theorem sc_law_group:FnScope ["_law_cells", "_law_words_here", "_law_made", "_law_cell_here", "_law_values"] ["_law_cells", "_law_words_here"] (defScope s_law_group):=⟨rfl,rfl,rfl,by decide +kernel,rfl,by decide +kernel,by decide +kernel⟩
theorem sc_law_refused:FnScope ["_law_node_here", "_law_measure", "_law_group_here", "e"] ["_law_node_here", "_law_measure", "_law_group_here"] (defScope s_law_refused):=⟨rfl,rfl,rfl,by decide +kernel,rfl,by decide +kernel,by decide +kernel⟩
theorem sc_law_right:FnScope ["_law_found", "_law_steps", "_law_tree", "_law_group_here", "_law_k", "_law_line", "_law_told"] ["_law_found", "_law_steps", "_law_tree", "_law_group_here"] (defScope s_law_right):=⟨rfl,rfl,rfl,by decide +kernel,rfl,by decide +kernel,by decide +kernel⟩
theorem sc_law:FnScope ["_law_script", "_law_words_here", "_law_tree", "_law_node_here", "_law_group_here", "_law_handed", "_law_measure", "_law_steps", "_law_found", "_law_other"] ["_law_script"] (defScope s_law):=⟨rfl,rfl,rfl,by decide +kernel,rfl,by decide +kernel,by decide +kernel⟩
structure Rz (n:Nat) (q:Rat) : Prop where
 zn:Bz n q.num
 zd:Bz n (q.den:Int)
theorem Rz.mono {m n:Nat}{q:Rat}(h:Rz m q)(hn:m≤n) : Rz n q:=⟨h.zn.mono hn,h.zd.mono hn⟩
abbrev rt (q:Rat) : HO:=.tup [.int q.num,.int (q.den:Int)]
def Nw (H:Hp)(Q:VK)(q:Rat) : Prop:=∀ p,H p=none→Q (.ref p) (upd H p (rt q))
theorem dp (q:Rat) : 0 < (q.den:Int):=by
 have:=q.den_pos
 omega
theorem cN (i:Int){j:Int}(h0:0 < j)(h1:j < 340282366920938463463374607431768211456) : CDivB i j:=⟨h0,(Bz.w (by omega) h1).log2⟩
theorem Nw.pos {H:Hp}{Q:VK}{t b:Int}(hb:0 < b)(q:Nw H Q (Rat.divInt t b)) : ∀ p,H p=none→Q (.ref p) (upd H p (.tup [.int (t.fdiv (M.G t b)),.int (b.fdiv (M.G t b))])):=by
 have h:=Int.le_of_lt (M.G_pos t b)
 rw [Int.fdiv_eq_ediv_of_nonneg t h,Int.fdiv_eq_ediv_of_nonneg b h,M.num_low hb,M.den_low hb]
 exact q
theorem Nw.neg {H:Hp}{Q:VK}{t b:Int}(hb:b < 0)(q:Nw H Q (Rat.divInt t b)) : ∀ p,H p=none→Q (.ref p) (upd H p (.tup [.int (t.fdiv (-M.G t b)),.int (b.fdiv (-M.G t b))])):=by
 rw [M.num_neg hb,M.den_neg hb]
 exact q
theorem cM {t b:Int}(hb:b ≠ 0)(bz:Bz 8000 b)(i:Int) : CDivM i (M.G t b):=⟨by have:=M.G_pos t b; omega,(bz.le (M.G_le hb)).log2⟩
theorem cM' {t b:Int}(hb:b ≠ 0)(bz:Bz 8000 b)(i:Int) : CDivM i (-M.G t b):=⟨by have:=M.G_pos t b; omega,(bz.le (by rw [Int.natAbs_neg]; exact M.G_le hb)).log2⟩
def sp_is_whole:Sp:=fun vs H Q _=>∃ i:Int,vs = [.int i]∧Q (.bl true) H
def sp_greatest_divisor:Sp:=fun vs H Q _=>∃ a b:Int,vs = [.int a,.int b]∧b ≠ 0∧Q (.int (M.G a b)) H
def sp_ratio (C:Addr) : Sp:=fun vs H Q E=>∃ t b:Int,vs = [.int t,.int b]∧Bz 8000 b∧((b=0∧E (.ref C) none H)∨(b ≠ 0∧Nw H Q (Rat.divInt t b)))
theorem rzd {n:Nat}{t b:Int}(hb:b ≠ 0)(zt:Bz n t)(zb:Bz n b) : Rz n (Rat.divInt t b):=by
 rcases Int.lt_or_gt_of_ne hb with h | h
 ·exact ⟨by rw [← M.num_neg h]; exact zt.fdiv,by rw [← M.den_neg h]; exact zb.fdiv⟩
 ·exact ⟨by rw [← M.num_low h]; exact zt.ediv (Int.le_of_lt (M.G_pos t b)),by rw [← M.den_low h]; exact zb.ediv (Int.le_of_lt (M.G_pos t b))⟩
def sp_law_cell (K:PySem.W.Frag) : Sp:=fun vs H Q _=>∃ (a:Addr) (ns:List Int) (k:Int),vs = [.ref a,.int k]∧SqL K H a (ns.map V.int)∧0≤k∧∀ v:Int,Q (.int v) H
inductive Tr where
 | en (w:Int)
 | fk (w:Int) (y n:Tr)
def trD:Tr→PyData
 | .en w=>.tuple [.str "end", .int w]
 | .fk w y n=>.tuple [.str "fork", .int w,trD y,trD n]
def Tr.lv:Tr→Nat
 | .en _=>1
 | .fk _ y n=>y.lv + n.lv
def Tr.dp:Tr→Nat
 | .en _=>0
 | .fk _ y n=>max y.dp n.dp + 1
theorem Tr.lv_pos:∀ t:Tr,0 < t.lv
 | .en _=>Nat.one_pos
 | .fk _ y n=>Nat.add_pos_left (lv_pos y) _
theorem Tr.dp_lt:∀ t:Tr,t.dp < t.lv
 | .en _=>Nat.one_pos
 | .fk _ y n=>by
  have h1:=dp_lt y
  have h2:=dp_lt n
  show max y.dp n.dp + 1 < y.lv + n.lv
  omega
theorem TV.quad {K:PySem.W.Frag}{H:Hp}{x:V}{a b c d:PyData}(h:TV K H x (.tuple [a,b,c,d])) : ∃ p u v w z,x = .ref p∧H p=some (.tup [u,v,w,z])∧TV K H u a∧TV K H v b∧TV K H w c∧TV K H z d:=by
 cases h with
 | tup e hs =>
  cases hs with
  | cons h1 hs =>
   cases hs with
   | cons h2 hs =>
    cases hs with
    | cons h3 hs =>
     cases hs with
     | cons h4 hs =>
      cases hs
      exact ⟨_,_,_,_,_,rfl,e,h1,h2,h3,h4⟩
theorem TV.en {K:PySem.W.Frag}{H:Hp}{x:V}{w:Int}(h:TV K H x (trD (.en w))) : ∃ p,x = .ref p∧H p=some (.tup [.str "end", .int w]):=by
 obtain ⟨p,u,v,rfl,hp,t1,t2⟩:=TV.pair h
 obtain rfl:=t1.strs
 obtain rfl:=t2.ints
 exact ⟨p,rfl,hp⟩
theorem TV.fk {K:PySem.W.Frag}{H:Hp}{x:V}{w:Int}{y n:Tr}(h:TV K H x (trD (.fk w y n))) : ∃ p u v,x = .ref p∧H p=some (.tup [.str "fork", .int w,u,v])∧TV K H u (trD y)∧TV K H v (trD n):=by
 unfold trD at h
 obtain ⟨p,a,b,u,v,rfl,hp,t1,t2,t3,t4⟩:=TV.quad h
 obtain rfl:=t1.strs
 obtain rfl:=t2.ints
 exact ⟨p,u,v,rfl,hp,t3,t4⟩
theorem TV.fk' {K:PySem.W.Frag}{H:Hp}{p:Addr}{u v:V}{w:Int}{y n:Tr}(hp:H p=some (.tup [.str "fork", .int w,u,v]))(h1:TV K H u (trD y))(h2:TV K H v (trD n)) : TV K H (.ref p) (trD (.fk w y n)):=by
 unfold trD
 exact .tup hp (.cons (.str _) (.cons (.int _) (.cons h1 (.cons h2 .nil))))
theorem TV.en' {K:PySem.W.Frag}{H:Hp}{p:Addr}{w:Int}(hp:H p=some (.tup [.str "end", .int w])) : TV K H (.ref p) (trD (.en w)):=.tup hp (.cons (.str _) (.cons (.int _) .nil))
theorem Same.over {H H':Hp}{z:Addr}(s:Same H H')(hz:H z=none)(o:HO) : Same H (upd H' z o):=fun a u e=>by
 rw [upd_ne (ne_of_none e hz)]
 exact s a u e
theorem TVs.snoc {K:PySem.W.Frag}{H:Hp} : ∀ {xs:List V}{ds:List PyData}{x:V}{d:PyData},TVs K H xs ds→TV K H x d→TVs K H (xs ++ [x]) (ds ++ [d])
 | _,_,_,_,.nil,t=>.cons t .nil
 | _,_,_,_,.cons h hs,t=>.cons h (TVs.snoc hs t)
theorem Same.free {H H':Hp}{p:Addr}(s:Same H H')(h:H' p=none) : H p=none:=by
 cases e:H p with
 | none=>rfl
 | some o=>rw [s p o e] at h; cases h
inductive PI:Tr→Str→List Str→List Str→Prop
 | stop (t:Tr) (q:Str) : PI t q [q] []
 | go {w:Int}{y n:Tr}{q:Str}{ps1 ps2 fs1 fs2:List Str} : PI y (q ++ "y") ps1 fs1→PI n (q ++ "n") ps2 fs2→PI (.fk w y n) q (ps2 ++ ps1) (q :: (fs2 ++ fs1))
theorem PI.len {t:Tr}{q:Str}{ps fs:List Str}(h:PI t q ps fs) : ps.length≤t.lv∧fs.length + 1=ps.length:=by
 induction h with
 | stop t q=>exact ⟨t.lv_pos,rfl⟩
 | @go w y n q ps1 ps2 fs1 fs2 _ _ h1 h2 =>
  rw [List.length_append,List.length_cons,List.length_append]
  show _≤y.lv + n.lv∧_
  omega
def wB (w:Int) : Prop := -100000000000000000000000000000000 < w∧w < 100000000000000000000000000000000
def Tr.B:Tr→Prop
 | .en w=>wB w
 | .fk w y n=>wB w∧y.B∧n.B
def bgs (x:Str)(ps:List Str) : List Str:=ps.filter fun o=>Txt.startswith x o
def kept (ps fs:List Str) : List Str:=ps.filter fun x=>decide ((bgs x fs).length=0)
def tops (fs:List Str) : List Str:=fs.filter fun x=>decide ((bgs x fs).length=1)
def stepS (x s o:Str) : Str:=if Txt.startswith x o=true∧o.length < s.length then o else s
def shortest (x:Str)(fs:List Str) : Str:=fs.foldl (stepS x) x
def stepM (fs:List Str)(m:List Str)(x:Str) : List Str:=if shortest x fs∈m then m else m ++ [shortest x fs]
def made (ps fs:List Str) : List Str:=ps.foldl (stepM fs) []
theorem mem_bgs {x o:Str}{ps:List Str} : o∈bgs x ps↔o∈ps∧cds o <+: cds x:=by
 unfold bgs
 rw [List.mem_filter,starts_iff]
theorem pre_same {a b:Str}(h:cds a <+: cds b)(l:b.length≤a.length) : a=b:=by
 obtain ⟨r,e⟩:=h
 have l2:=congrArg List.length e
 rw [List.length_append,cds_len,cds_len] at l2
 have:r = []:=List.length_eq_zero_iff.mp (by omega)
 subst this
 rw [List.append_nil] at e
 exact str_ext e
theorem pre_app (q s:Str) : cds q <+: cds (q ++ s):=by rw [cds_app]; exact List.prefix_append _ _
theorem yn_apart {q x:Str}(h1:cds (q ++ "y") <+: cds x)(h2:cds (q ++ "n") <+: cds x) : False:=by
 obtain ⟨r1,e1⟩:=h1
 obtain ⟨r2,e2⟩:=h2
 rw [cds_app,List.append_assoc] at e1 e2
 have e:=List.append_cancel_left (e1.trans e2.symm)
 have z1:cds ("y" : Str) = [121]:=by decide +kernel
 have z2:cds ("n" : Str) = [110]:=by decide +kernel
 rw [z1,z2] at e
 injection e with e _
 exact absurd e (by decide)
theorem longer {q x:Str}{s:Str}(hs:s.length=1)(h:cds (q ++ s) <+: cds x) : ¬ cds x <+: cds q:=by
 intro g
 have l1:=h.length_le
 have l2:=g.length_le
 rw [cds_len,cds_len,len_app] at l1
 rw [cds_len,cds_len] at l2
 omega
theorem PI.pre {t:Tr}{q:Str}{ps gs:List Str}(h:PI t q ps gs) : (∀ x∈ps,cds q <+: cds x)∧(∀ f∈gs,cds q <+: cds f):=by
 induction h with
 | stop t q=>exact ⟨fun x hx=>by rw [List.mem_singleton.mp hx]; exact List.prefix_refl _,fun f hf=>by cases hf⟩
 | @go w y n q ps1 ps2 fs1 fs2 _ _ h1 h2 =>
  refine ⟨fun x hx=>?_,fun f hf=>?_⟩
  ·rcases List.mem_append.mp hx with hx | hx
   ·exact (pre_app q _).trans (h2.1 x hx)
   ·exact (pre_app q _).trans (h1.1 x hx)
  ·rcases List.mem_cons.mp hf with rfl | hf
   ·exact List.prefix_refl _
   ·rcases List.mem_append.mp hf with hf | hf
    ·exact (pre_app q _).trans (h2.2 f hf)
    ·exact (pre_app q _).trans (h1.2 f hf)
theorem ynl:("y" : Str).length=1∧("n" : Str).length=1:=by decide +kernel
structure Facts (ps gs:List Str) : Prop where
 n1:ps.Nodup
 n2:gs.Nodup
 ap:∀ x∈ps,∀ f∈gs,¬ cds x <+: cds f
 co:∀ f∈gs,∃ x∈ps,cds f <+: cds x
 ne:ps ≠ []
theorem PI.facts {t:Tr}{q:Str}{ps gs:List Str}(h:PI t q ps gs) : Facts ps gs:=by
 induction h with
 | stop t q=>exact ⟨List.nodup_cons.mpr ⟨List.not_mem_nil,List.nodup_nil⟩,List.nodup_nil,fun x _ f hf=>(by cases hf),fun f hf=>(by cases hf),(by simp)⟩
 | @go w y n q ps1 ps2 fs1 fs2 g1 g2 h1 h2 =>
  have p1:=g1.pre
  have p2:=g2.pre
  refine ⟨?_,?_,?_,?_,?_⟩
  ·rw [List.nodup_append]
   exact ⟨h2.n1,h1.n1,fun a ha b hb e=>by subst e; exact yn_apart (p1.1 _ hb) (p2.1 _ ha)⟩
  ·rw [List.nodup_cons,List.nodup_append]
   refine ⟨fun z=>?_,h2.n2,h1.n2,fun a ha b hb e=>by subst e; exact yn_apart (p1.2 _ hb) (p2.2 _ ha)⟩
   rcases List.mem_append.mp z with z | z
   ·exact longer ynl.2 (p2.2 _ z) (List.prefix_refl _)
   ·exact longer ynl.1 (p1.2 _ z) (List.prefix_refl _)
  ·intro x hx f hf z
   rcases List.mem_cons.mp hf with rfl | hf
   ·rcases List.mem_append.mp hx with hx | hx
    ·exact longer ynl.2 (p2.1 _ hx) z
    ·exact longer ynl.1 (p1.1 _ hx) z
   ·rcases List.mem_append.mp hx with hx | hx <;> rcases List.mem_append.mp hf with hf | hf
    ·exact h2.ap x hx f hf z
    ·exact yn_apart (p1.2 _ hf) ((p2.1 _ hx).trans z)
    ·exact yn_apart ((p1.1 _ hx).trans z) (p2.2 _ hf)
    ·exact h1.ap x hx f hf z
  ·intro f hf
   rcases List.mem_cons.mp hf with rfl | hf
   ·obtain ⟨x,r,e⟩:=List.exists_cons_of_ne_nil h1.ne
    exact ⟨x,List.mem_append_right _ (by rw [e]; exact List.mem_cons_self),(pre_app _ _).trans (p1.1 x (by rw [e]; exact List.mem_cons_self))⟩
   ·rcases List.mem_append.mp hf with hf | hf
    ·obtain ⟨x,hx,z⟩:=h2.co f hf
     exact ⟨x,List.mem_append_left _ hx,z⟩
    ·obtain ⟨x,hx,z⟩:=h1.co f hf
     exact ⟨x,List.mem_append_right _ hx,z⟩
  ·intro z
   exact h1.ne (List.append_eq_nil_iff.mp z).2
theorem rising_pw:∀ (p:Str) (l:List Str),PyProof.Rows.risingS p l=true→∀ x∈l,cds p≤cds x
 | p,[],_,x,hx=>by cases hx
 | p,y :: r,h,x,hx=>by
  have h:(!PySem.Spec.ltCps y.cps.toList p.cps.toList && PyProof.Rows.risingS y r)=true:=h
  rw [Bool.and_eq_true,Bool.not_eq_true',PyProof.Rows.ltCps_eq,decide_eq_false_iff_not] at h
  have hpy:cds p≤cds y:=h.1
  rcases List.mem_cons.mp hx with rfl | hx
  ·exact hpy
  ·exact List.le_trans hpy (rising_pw y r h.2 x hx)
theorem sorted_tail {a:Str}{l:List Str}(h:PyProof.Rows.sortedS (a :: l)=true) : PyProof.Rows.sortedS l=true:=by
 cases l with
 | nil=>rfl
 | cons b l =>
  have h:(!PySem.Spec.ltCps b.cps.toList a.cps.toList && PyProof.Rows.risingS b l)=true:=h
  rw [Bool.and_eq_true] at h
  exact h.2
theorem sorted_one:∀ {l1 l2:List Str},PyProof.Rows.sortedS l1=true→PyProof.Rows.sortedS l2=true→l1.Perm l2→l1=l2
 | [],l2,_,_,p=>(List.nil_perm.mp p).symm
 | a :: l1,[],_,_,p=>absurd p.symm (by intro z; have:=z.length_eq; cases this)
 | a :: l1,b :: l2,h1,h2,p=>by
  have ha:a∈b :: l2:=p.mem_iff.mp List.mem_cons_self
  have hb:b∈a :: l1:=p.mem_iff.mpr List.mem_cons_self
  have e:a=b:=by
   rcases List.mem_cons.mp ha with e | ha
   ·exact e
   ·rcases List.mem_cons.mp hb with e | hb
    ·exact e.symm
    ·exact str_ext (List.le_antisymm (rising_pw a l1 h1 b hb) (rising_pw b l2 h2 a ha))
  subst e
  rw [sorted_one (sorted_tail h1) (sorted_tail h2) (List.Perm.cons_inv p)]
theorem filter_takeS {α:Type}{l:List α}{p:α→Bool}{i:Nat}{a:α}(h:l[i]? = some a) : (l.take (i + 1)).filter p=(l.take i).filter p ++ (if p a=true then [a] else []):=by
 rw [List.take_add_one,h,List.filter_append]
 congr 1
 simp [List.filter_cons]
theorem flat_str (ps:List Str) : (ps.map V.str).all flatV=true:=by
 rw [List.all_map]
 exact List.all_eq_true.mpr fun _ _=>rfl
theorem PI.short {t:Tr}{q:Str}{ps gs:List Str}(h:PI t q ps gs) : (∀ x∈ps,x.length≤q.length + t.dp)∧∀ x∈gs,x.length≤q.length + t.dp:=by
 induction h with
 | stop t q=>exact ⟨fun x hx=>by rw [List.mem_singleton.mp hx]; omega,fun x hx=>(by cases hx)⟩
 | @go w y n q ps1 ps2 fs1 fs2 _ _ h1 h2 =>
  have d:(Tr.fk w y n).dp=max y.dp n.dp + 1:=rfl
  rw [len_app,ynl.1] at h1
  rw [len_app,ynl.2] at h2
  refine ⟨fun x hx=>?_,fun x hx=>?_⟩
  ·rcases List.mem_append.mp hx with hx | hx
   ·have:=h2.1 x hx; omega
   ·have:=h1.1 x hx; omega
  ·rcases List.mem_cons.mp hx with rfl | hx
   ·omega
   ·rcases List.mem_append.mp hx with hx | hx
    ·have:=h2.2 x hx; omega
    ·have:=h1.2 x hx; omega
def Asc (x:Str) : Prop:=∀ c∈cds x,c < 128
theorem Asc.app {x y:Str}(h:Asc x)(g:Asc y) : Asc (x ++ y):=fun c hc=>by
 rw [cds_app] at hc
 exact (List.mem_append.mp hc).elim (h c) (g c)
theorem PI.asc {t:Tr}{q:Str}{ps gs:List Str}(h:PI t q ps gs) : Asc q→(∀ x∈ps,Asc x)∧∀ x∈gs,Asc x:=by
 have ay:Asc "y" := by unfold Asc; decide +kernel
 have an:Asc "n" := by unfold Asc; decide +kernel
 induction h with
 | stop t q=>exact fun a=>⟨fun x hx=>by rw [List.mem_singleton.mp hx]; exact a,fun x hx=>(by cases hx)⟩
 | @go w y n q ps1 ps2 fs1 fs2 _ _ h1 h2 =>
  intro a
  have h1:=h1 (a.app ay)
  have h2:=h2 (a.app an)
  refine ⟨fun x hx=>?_,fun x hx=>?_⟩
  ·rcases List.mem_append.mp hx with hx | hx
   ·exact h2.1 x hx
   ·exact h1.1 x hx
  ·rcases List.mem_cons.mp hx with rfl | hx
   ·exact a
   ·rcases List.mem_append.mp hx with hx | hx
    ·exact h2.2 x hx
    ·exact h1.2 x hx
theorem dvS {K:PySem.W.Frag}{H:Hp}{p:Addr}{ps:List Str}(h:H p=some (.lst (ps.map V.str))) : DV K H (.ref p) (.list (ps.map PyData.str)):=.lst (SqL.of h) (TVs.strs ps).dv
theorem shS {n:Nat}{ps:List Str}(h:∀ x∈ps,Asc x) : Shp (n + 1) (.list (ps.map PyData.str)):=.lst fun d hd=>by
 obtain ⟨x,hx,rfl⟩:=List.mem_map.mp hd
 exact .str n (h x hx)
structure Okf (fs gs:List Str) : Prop where
 sb:∀ f∈fs,f∈gs
 nd:fs.Nodup
 ln:fs.length≤gs.length
def sp_beginnings (K:PySem.W.Frag) : Sp:=fun vs H Q _=>∃ (x:Str) (a:Addr) (ps:List Str),vs = [.str x,.ref a]∧H a=some (.lst (ps.map V.str))∧ps.length≤100∧∀ p,H p=none→Q (.ref p) (upd H p (.lst ((bgs x ps).map V.str)))
def sp_cut (K:PySem.W.Frag) : Sp:=fun vs H Q _=>∃ (a b:Addr) (ps fs:List Str),vs = [.ref a,.ref b]∧H a=some (.lst (ps.map V.str))∧H b=some (.lst (fs.map V.str))∧ps.length + fs.length < 64 ∧
 ∀ H' p rs,Same H H'→H p=none→H' p=some (.lst (rs.map V.str))→rs.Perm (kept ps fs ++ tops fs)→PyProof.Rows.sortedS rs=true→Q (.ref p) H'
def sp_law (K:PySem.W.Frag) : Sp:=fun vs H Q _=>∃ (a:Addr) (ns:List Int),vs = [.ref a]∧SqF K H a (ns.map V.int)∧ns.length≤63∧∀ H',Q (.bl true) H'
def Tr.w:Tr→Int
 | .en w=>w
 | .fk w _ _=>w
inductive PS:Tr→Str→List Str→Int→Prop
 | stop (t:Tr) (q:Str) : PS t q [q] t.w
 | go {w:Int}{y n:Tr}{q:Str}{ps1 ps2:List Str}{s1 s2:Int} : PS y (q ++ "y") ps1 s1→PS n (q ++ "n") ps2 s2→PS (.fk w y n) q (ps2 ++ ps1) (s1 + s2)
theorem PS.pi {t:Tr}{q:Str}{ps:List Str}{s:Int}(h:PS t q ps s) : ∃ gs,PI t q ps gs:=by
 induction h with
 | stop t q=>exact ⟨_,.stop t q⟩
 | go _ _ h1 h2 =>
  obtain ⟨g1,h1⟩:=h1
  obtain ⟨g2,h2⟩:=h2
  exact ⟨_,.go h1 h2⟩
def Lies (one other:List Str) : Prop:=∀ x∈other,∃ o∈one,cds o <+: cds x
theorem Lies.refl (ps:List Str) : Lies ps ps:=fun x hx=>⟨x,hx,List.prefix_refl _⟩
theorem Lies.join {a b c d:List Str}(h1:Lies a b)(h2:Lies c d) : Lies (c ++ a) (d ++ b):=fun x hx=>by
 rcases List.mem_append.mp hx with z | z
 ·obtain ⟨o,ho,p⟩:=h2 x z
  exact ⟨o,List.mem_append_left _ ho,p⟩
 ·obtain ⟨o,ho,p⟩:=h1 x z
  exact ⟨o,List.mem_append_right _ ho,p⟩
def best (b c:Int) : Tr→Str→List Str × Int
 | .en w,q=>([q],w)
 | .fk w y n,q=>if ((best b c y (q ++ "y")).2 + (best b c n (q ++ "n")).2) * b + c * ((best b c n (q ++ "n")).1.length + (best b c y (q ++ "y")).1.length - 1) < w * b then ((best b c n (q ++ "n")).1 ++ (best b c y (q ++ "y")).1,(best b c y (q ++ "y")).2 + (best b c n (q ++ "n")).2) else ([q],w)
theorem best_ps (b c:Int) : ∀ (t:Tr) (q:Str),PS t q (best b c t q).1 (best b c t q).2
 | .en w,q=>.stop (.en w) q
 | .fk w y n,q=>by
  unfold best
  split
  ·exact .go (best_ps b c y _) (best_ps b c n _)
  ·exact .stop (.fk w y n) q
inductive CQ where
 | en (q:Rat)
 | fk (q:Rat) (y n:CQ)
def CQ.dp:CQ→Nat
 | .en _=>0
 | .fk _ y n=>1 + max y.dp n.dp
def rtD (q:Rat) : PyData:=.tuple [.int q.num,.int (q.den:Int)]
inductive CV (K:PySem.W.Frag) (H:Hp) : V→CQ→Prop
 | en {p r:Addr}{q:Rat} : H p=some (.tup [.str "end", .ref r])→H r=some (rt q)→CV K H (.ref p) (.en q)
 | fk {p r:Addr}{q:Rat}{v1 v2:V}{y n:CQ} : H p=some (.tup [.str "fork", .ref r,v1,v2])→H r=some (rt q)→CV K H v1 y→CV K H v2 n→CV K H (.ref p) (.fk q y n)
theorem CV.mono {K:PySem.W.Frag}{H H':Hp}{v:V}{c:CQ}(h:CV K H v c)(s:SameT H H') : CV K H' v c:=by
 induction h with
 | en h1 h2=>exact .en (s _ _ h1) (s _ _ h2)
 | fk h1 h2 _ _ i1 i2=>exact .fk (s _ _ h1) (s _ _ h2) i1 i2
theorem CV.same {K:PySem.W.Frag}{H H':Hp}{v:V}{c:CQ}(h:CV K H v c)(s:Same H H') : CV K H' v c:=h.mono s.t
theorem shpRt (n:Nat)(q:Rat) : Shp (n + 1) (rtD q):=.tup fun d hd=>by
 rcases hd with _ | ⟨_,_ | ⟨_,hd⟩⟩
 ·exact .int n _
 ·exact .int n _
 ·cases hd
def plc:Tr→Str→List (Str × Str)
 | .en _,q=>[(q, "end")]
 | .fk _ y n,q=>(q,("fork" : Str)) :: (plc y (q ++ "y") ++ plc n (q ++ "n"))
theorem plc_len:∀ (t:Tr) (q:Str),(plc t q).length + 1=2 * t.lv
 | .en _,_=>rfl
 | .fk _ y n,q=>by
  have h1:=plc_len y (q ++ "y")
  have h2:=plc_len n (q ++ "n")
  show ((q,("fork" : Str)) :: (plc y (q ++ "y") ++ plc n (q ++ "n"))).length + 1=2 * (y.lv + n.lv)
  rw [List.length_cons,List.length_append]
  omega
theorem snocT {P:Str × Tr→Prop}{as:List (Str × Tr)}{e:Str × Tr}(h:∀ x∈as,P x)(he:P e) : ∀ x∈as ++ [e],P x:=fun x hx=>by
 rcases List.mem_append.mp hx with z | z
 ·exact h x z
 ·rw [List.mem_singleton.mp z]; exact he
theorem pop1_at (ys:List V)(x:V) : (ys ++ [x])[(ys ++ [x]).length - 1]? = some x:=by
 rw [List.length_append,List.getElem?_append_right (by simp)]
 simp
theorem pop1_rest (ys:List V)(x:V) : (ys ++ [x]).dropLast=ys:=by simp
def rD (B w:Int) : PyData:=if B=0 then .int w else .tuple [.int (Rat.divInt w B).num,.int ((Rat.divInt w B).den:Int)]
theorem rD_pos {B w:Int}(h:0 < B) : rD B w = .tuple [.int (Rat.divInt w B).num,.int ((Rat.divInt w B).den:Int)]:=if_neg (by omega)
theorem rD_0 {w:Int} : rD 0 w = .int w:=if_pos rfl
def htD (B:Int) : Tr→PyData
 | .en w=>.tuple [.str "end", rD B w]
 | .fk w y n=>.tuple [.str "fork", rD B w,htD B y,htD B n]
theorem htD_0:∀ t:Tr,htD 0 t=trD t
 | .en w=>by rw [htD,trD,rD_0]
 | .fk w y n=>by rw [htD,trD,rD_0,htD_0 y,htD_0 n]
theorem TV.rD {K:PySem.W.Frag}{H:Hp}{x:V}{B w:Int}(hB:0 < B)(h:TV K H x (rD B w)) : ∃ c,x = .ref c∧H c=some (rt (Rat.divInt w B)):=by
 rw [rD_pos hB] at h
 obtain ⟨p,u,v,rfl,hp,t1,t2⟩:=TV.pair h
 obtain rfl:=t1.ints
 obtain rfl:=t2.ints
 exact ⟨p,rfl,hp⟩
theorem TV.rD' {K:PySem.W.Frag}{H:Hp}{c:Addr}{B w:Int}(hB:0 < B)(h:H c=some (rt (Rat.divInt w B))) : TV K H (.ref c) (Lw.rD B w):=by
 rw [rD_pos hB]
 exact .tup h (.cons (.int _) (.cons (.int _) .nil))
theorem TV.hen {K:PySem.W.Frag}{H:Hp}{x:V}{B w:Int}(h:TV K H x (htD B (.en w))) : ∃ p c,x = .ref p∧H p=some (.tup [.str "end", c])∧TV K H c (Lw.rD B w):=by
 unfold htD at h
 obtain ⟨p,u,v,rfl,hp,t1,t2⟩:=TV.pair h
 obtain rfl:=t1.strs
 exact ⟨p,_,rfl,hp,t2⟩
theorem TV.hfk {K:PySem.W.Frag}{H:Hp}{x:V}{B w:Int}{y n:Tr}(h:TV K H x (htD B (.fk w y n))) : ∃ p c u v,x = .ref p∧H p=some (.tup [.str "fork", c,u,v])∧TV K H c (Lw.rD B w)∧TV K H u (htD B y)∧TV K H v (htD B n):=by
 unfold htD at h
 obtain ⟨p,a,b,u,v,rfl,hp,t1,t2,t3,t4⟩:=TV.quad h
 obtain rfl:=t1.strs
 exact ⟨p,b,u,v,rfl,hp,t2,t3,t4⟩
theorem TV.hen' {K:PySem.W.Frag}{H:Hp}{p c:Addr}{B w:Int}(hB:0 < B)(h:H p=some (.tup [.str "end", .ref c]))(hc:H c=some (rt (Rat.divInt w B))) : TV K H (.ref p) (htD B (.en w)):=by
 unfold htD
 exact .tup h (.cons (.str _) (.cons (TV.rD' hB hc) .nil))
theorem TV.hfk' {K:PySem.W.Frag}{H:Hp}{p c:Addr}{u v:V}{B w:Int}{y n:Tr}(hB:0 < B)(h:H p=some (.tup [.str "fork", .ref c,u,v]))(hc:H c=some (rt (Rat.divInt w B)))(h1:TV K H u (htD B y))(h2:TV K H v (htD B n)) : TV K H (.ref p) (htD B (.fk w y n)):=by
 unfold htD
 exact .tup h (.cons (.str _) (.cons (TV.rD' hB hc) (.cons h1 (.cons h2 .nil))))
def knd:Tr→Str
 | .en _ => "end"
 | .fk _ _ _ => "fork"
def plt:Tr→Str→List (Str × Tr)
 | .en w,q=>[(q,.en w)]
 | .fk w y n,q=>(q,.fk w y n) :: (plt y (q ++ "y") ++ plt n (q ++ "n"))
theorem plt_plc:∀ (t:Tr) (q:Str),plc t q=(plt t q).map fun e=>(e.1,knd e.2)
 | .en _,_=>rfl
 | .fk w y n,q=>by
  show (q,("fork" : Str)) :: (plc y (q ++ "y") ++ plc n (q ++ "n"))=(q,("fork" : Str)) :: ((plt y (q ++ "y") ++ plt n (q ++ "n")).map fun e=>(e.1,knd e.2))
  rw [plt_plc y,plt_plc n,List.map_append]
theorem plt_pre:∀ {t:Tr}{q:Str}{e:Str × Tr},e∈plt t q→cds q <+: cds e.1
 | .en _,q,e,h=>by rw [List.mem_singleton.mp h]; exact List.prefix_refl _
 | .fk w y n,q,e,h=>by
  rcases List.mem_cons.mp h with rfl | h
  ·exact List.prefix_refl _
  ·rcases List.mem_append.mp h with h | h
   ·exact (pre_app _ _).trans (plt_pre h)
   ·exact (pre_app _ _).trans (plt_pre h)
theorem plt_nodup:∀ (t:Tr) (q:Str),((plt t q).map (·.1)).Nodup
 | .en _,_=>List.nodup_cons.mpr ⟨List.not_mem_nil,List.nodup_nil⟩
 | .fk w y n,q=>by
  show (q :: ((plt y (q ++ "y") ++ plt n (q ++ "n")).map (·.1))).Nodup
  rw [List.map_append,List.nodup_cons,List.nodup_append]
  refine ⟨fun z=>?_,plt_nodup y _,plt_nodup n _,fun a ha b hb e=>?_⟩
  ·rcases List.mem_append.mp z with z | z
   ·obtain ⟨e,he,rfl⟩:=List.mem_map.mp z
    exact longer ynl.1 (plt_pre he) (List.prefix_refl _)
   ·obtain ⟨e,he,rfl⟩:=List.mem_map.mp z
    exact longer ynl.2 (plt_pre he) (List.prefix_refl _)
  ·obtain ⟨e1,h1,rfl⟩:=List.mem_map.mp ha
   obtain ⟨e2,h2,rfl⟩:=List.mem_map.mp hb
   exact yn_apart (plt_pre h1) (by rw [e]; exact plt_pre h2)
theorem plt_len (t:Tr)(q:Str) : (plt t q).length + 1=2 * t.lv:=by have:=plc_len t q; rw [plt_plc,List.length_map] at this; exact this
theorem plc_nodup (t:Tr)(q:Str) : ((plc t q).map (·.1)).Nodup:=by
 rw [plt_plc,List.map_map]
 exact plt_nodup t q
def thD (B:Int)(e:Str × Tr) : PyData:=.tuple [.str e.1,htD B e.2]
def plts (ts:List (Str × Tr)) : List (Str × Tr):=ts.flatMap fun e=>plt e.2 e.1
theorem plts_app (as bs:List (Str × Tr)) : plts (as ++ bs)=plts as ++ plts bs:=List.flatMap_append
theorem plts_len:∀ as:List (Str × Tr),as.length≤(plts as).length
 | []=>Nat.le_refl _
 | e :: as=>by
  have h:=plts_len as
  have h2:=plt_len e.2 e.1
  have h3:=e.2.lv_pos
  show as.length + 1≤(plt e.2 e.1 ++ plts as).length
  rw [List.length_append]
  omega
theorem plt_step {us A B:List (Str × Tr)}(x:Str × Tr) : ((us ++ [x]) ++ (A ++ B)).Perm (us ++ (A ++ (x :: B))):=by
 rw [List.append_assoc]
 exact List.Perm.append_left us (List.perm_middle (l₁:=A) (a:=x) (l₂:=B)).symm
inductive DT (K:PySem.W.Frag) (B:Int) (H:Hp) : List (Key × V)→List (Str × Tr)→Prop
 | nil:DT K B H [] []
 | cons {v:V}{e:Str × Tr}{kvs:List (Key × V)}{es:List (Str × Tr)} : TV K H v (htD B e.2)→DT K B H kvs es→DT K B H ((.inr e.1,v) :: kvs) (e :: es)
theorem DT.mono {K:PySem.W.Frag}{B:Int}{H H':Hp}{kvs:List (Key × V)}{es:List (Str × Tr)}(h:DT K B H kvs es)(s:SameT H H') : DT K B H' kvs es:=by
 induction h with
 | nil=>exact .nil
 | cons t _ ih=>exact .cons (t.mono s) ih
theorem DT.snoc {K:PySem.W.Frag}{B:Int}{H:Hp}{kvs:List (Key × V)}{es:List (Str × Tr)}{v:V}{e:Str × Tr}(h:DT K B H kvs es)(t:TV K H v (htD B e.2)) : DT K B H (kvs ++ [(.inr e.1,v)]) (es ++ [e]):=by
 induction h with
 | nil=>exact .cons t .nil
 | cons a _ ih=>exact .cons a ih
theorem DT.length {K:PySem.W.Frag}{B:Int}{H:Hp}{kvs:List (Key × V)}{es:List (Str × Tr)}(h:DT K B H kvs es) : kvs.length=es.length:=by
 induction h with
 | nil=>rfl
 | cons _ _ ih=>rw [List.length_cons,List.length_cons,ih]
theorem DT.vno {K:PySem.W.Frag}{B:Int}{H:Hp}{kvs:List (Key × V)}{es:List (Str × Tr)}{x:Str}(h:DT K B H kvs es)(n:x ∉ es.map (·.1)) : valV kvs (.inr x)=none:=by
 induction h with
 | nil=>rfl
 | @cons v e kvs es _ _ ih =>
  rw [List.map_cons,List.mem_cons,not_or] at n
  rw [valV_neg (by intro z; injection z with z; exact n.1 z.symm)]
  exact ih n.2
theorem DT.get {K:PySem.W.Frag}{B:Int}{H:Hp}{kvs:List (Key × V)}{es:List (Str × Tr)}{i:Nat}{k:Key}{v:V}(h:DT K B H kvs es)(e:kvs[i]? = some (k,v)) : ∃ x,es[i]? = some x∧k = .inr x.1∧TV K H v (htD B x.2):=by
 induction h generalizing i with
 | nil=>cases i <;> cases e
 | @cons v' x kvs es t _ ih =>
  cases i with
  | zero =>
   have e:=Option.some.inj e
   cases e
   exact ⟨x,rfl,rfl,t⟩
  | succ i=>exact ih e
theorem TVs.lastH {K:PySem.W.Frag}{H:Hp}{B:Int} : ∀ {ys:List V}{ts:List (Str × Tr)},TVs K H ys (ts.map (thD B))→0 < ys.length→∃ zs y as e,ys=zs ++ [y]∧ts=as ++ [e]∧TVs K H zs (as.map (thD B))∧TV K H y (thD B e)
 | _,[],h,l=>by cases h; exact absurd l (Nat.lt_irrefl 0)
 | _,[e],h,l=>by
  cases h with
  | cons h1 h=>cases h; exact ⟨[],_,[],e,rfl,rfl,.nil,h1⟩
 | _,e :: e2 :: ts,h,l=>by
  cases h with
  | cons h1 h =>
   obtain ⟨zs,y,as,e',rfl,e3,t,ty⟩:=TVs.lastH (ts:=e2 :: ts) h (by rw [h.length]; exact Nat.succ_pos _)
   exact ⟨_ :: zs,y,e :: as,e',rfl,by rw [e3]; rfl,.cons h1 t,ty⟩
def sp_trees (K:PySem.W.Frag) : Sp:=fun vs H Q _=>∃ (v:V) (t:Tr) (B:Int),vs = [v]∧TV K H v (htD B t)∧t.lv≤30∧∀ H' d kvs es,Same H H'→H d=none→H' d=some (.dK kvs)→DT K B H' kvs es→es.Perm (plt t "")→Q (.ref d) H'
theorem st_dk {H H':Hp}{z:Addr}{kvs:List (Key × V)}(s:SameT H H')(hz:H' z=some (.dK kvs))(o:HO) : SameT H (upd H' z o):=fun a xs e=>by
 have e2:=s a xs e
 rw [upd_ne (ne_of e2 hz (by intro q; cases q))]
 exact e2
def plK (t:Tr)(so:Str) : List Str:=((plc t "").filter fun u=>decide (u.2=so)).map (·.1)
def sp_places_of (K:PySem.W.Frag) : Sp:=fun vs H Q _=>∃ (v:V) (t:Tr) (B:Int) (so:Str),vs = [v,.str so]∧TV K H v (htD B t)∧t.lv≤30∧∀ H' p ws,Same H H'→H p=none→H' p=some (.lst (ws.map V.str))→ws.Perm (plK t so)→PyProof.Rows.sortedS ws=true→Q (.ref p) H'
structure IsP (t:Tr) (ps:List Str) : Prop where
 kn:∀ x∈ps,x∈(plc t "").map (·.1)
 up:ps.Pairwise (fun a b=>cds a < cds b)
 one:∀ e∈plK t "end", (bgs e ps).length=1
noncomputable def isP (t:Tr) (ps:List Str) : Bool:=by
 classical
 exact decide (IsP t ps)
theorem sorted_pw:∀ {l:List Str},PyProof.Rows.sortedS l=true→l.Pairwise (fun a b=>cds a≤cds b)
 | [],_=>.nil
 | a :: l,h=>List.pairwise_cons.mpr ⟨rising_pw a l h,sorted_pw (sorted_tail h)⟩
theorem pw_rising:∀ {a:Str}{l:List Str},(a :: l).Pairwise (fun a b=>cds a < cds b)→PyProof.Rows.risingS a l=true
 | _,[],_=>rfl
 | a,b :: l,h=>by
  have h2:=List.pairwise_cons.mp h
  show (!PySem.Spec.ltCps b.cps.toList a.cps.toList && PyProof.Rows.risingS b l)=true
  rw [pw_rising h2.2,Bool.and_true,Bool.not_eq_true',PyProof.Rows.ltCps_eq,decide_eq_false_iff_not]
  exact List.lt_asymm (h2.1 b List.mem_cons_self)
theorem pw_sorted {l:List Str}(h:l.Pairwise (fun a b=>cds a < cds b)) : PyProof.Rows.sortedS l=true:=by
 cases l with
 | nil=>rfl
 | cons a l=>exact pw_rising h
theorem noMixS:∀ a b:List Str,SeqAt.noMixAll (a.map PyData.str) (b.map PyData.str)=true
 | [],[]=>by simp [SeqAt.noMixAll]
 | [],_ :: _=>by simp [SeqAt.noMixAll]
 | _ :: _,[]=>by simp [SeqAt.noMixAll]
 | k :: ks,l :: ls=>by
  rw [List.map_cons,List.map_cons,SeqAt.noMixAll,noMixS ks ls]
  simp [SeqAt.noMix]
theorem strD_inj:∀ {a b:List Str},a.map PyData.str=b.map PyData.str→a=b
 | [],[],_=>rfl
 | [],_ :: _,h=>nomatch h
 | _ :: _,[],h=>nomatch h
 | x :: a,y :: b,h=>by
  rw [List.map_cons,List.map_cons] at h
  injection h with h1 h2
  injection h1 with h1
  rw [h1,strD_inj h2]
theorem strs_eqv (a b:List Str) : PyData.eqv (.list (a.map PyData.str)) (.list (b.map PyData.str))=decide (a=b):=by
 have nm:SeqAt.noMix (.list (a.map PyData.str)) (.list (b.map PyData.str))=true:=by
  rw [SeqAt.noMix]
  exact noMixS a b
 rw [← SeqAt.same_eq_eqv _ _ nm,Bool.eq_iff_iff,PyProof.Rows.same_iff,decide_eq_true_iff]
 exact ⟨fun z=>strD_inj (by injection z),fun z=>by rw [z]⟩
theorem plc_long:∀ {t:Tr}{q:Str}{u:Str × Str},u∈plc t q→u.1.length≤q.length + t.dp
 | .en _,q,u,h=>by rw [List.mem_singleton.mp h]; exact Nat.le_add_right _ _
 | .fk w y n,q,u,h=>by
  have h:u∈(q,("fork" : Str)) :: (plc y (q ++ "y") ++ plc n (q ++ "n")):=h
  show u.1.length≤q.length + (max y.dp n.dp + 1)
  rcases List.mem_cons.mp h with rfl | h
  ·exact Nat.le_add_right _ _
  ·rcases List.mem_append.mp h with h | h
   ·have:=plc_long h
    rw [len_app,ynl.1] at this
    omega
   ·have:=plc_long h
    rw [len_app,ynl.2] at this
    omega
theorem plc_pre {t:Tr}{q:Str}{u:Str × Str}(h:u∈plc t q) : cds q <+: cds u.1:=by
 rw [plt_plc] at h
 obtain ⟨e,he,rfl⟩:=List.mem_map.mp h
 exact plt_pre he
theorem lt_pre:∀ {l a b:List Nat},a < b→l ++ a < l ++ b
 | [],_,_,h=>h
 | c :: l,_,_,h=>List.cons_lt_cons_iff.mpr (.inr ⟨rfl,lt_pre (l:=l) h⟩)
theorem ny_lt {q x y:Str}(hx:cds (q ++ "n") <+: cds x)(hy:cds (q ++ "y") <+: cds y) : cds x < cds y:=by
 obtain ⟨r1,e1⟩:=hx
 obtain ⟨r2,e2⟩:=hy
 rw [← e1,← e2,cds_app,cds_app,List.append_assoc,List.append_assoc]
 refine lt_pre ?_
 have n1:cds "n" = [110]:=by decide +kernel
 have y1:cds "y" = [121]:=by decide +kernel
 rw [n1,y1]
 exact List.cons_lt_cons_iff.mpr (.inl (by decide))
theorem PI.kn {t:Tr}{q:Str}{ps gs:List Str}(h:PI t q ps gs) : ∀ x∈ps,x∈(plc t q).map (·.1):=by
 induction h with
 | stop t q =>
  intro x hx
  rw [List.mem_singleton.mp hx]
  cases t with
  | en w=>exact List.mem_cons_self
  | fk w y n=>exact List.mem_cons_self
 | @go w y n q ps1 ps2 fs1 fs2 _ _ h1 h2 =>
  intro x hx
  show x∈q :: ((plc y (q ++ "y") ++ plc n (q ++ "n")).map (·.1))
  rw [List.map_append]
  refine List.mem_cons_of_mem _ (List.mem_append.mpr ?_)
  rcases List.mem_append.mp hx with hx | hx
  ·exact .inr (h2 x hx)
  ·exact .inl (h1 x hx)
theorem PI.up {t:Tr}{q:Str}{ps gs:List Str}(h:PI t q ps gs) : ps.Pairwise (fun a b=>cds a < cds b):=by
 induction h with
 | stop t q=>exact List.pairwise_singleton _ _
 | @go w y n q ps1 ps2 fs1 fs2 p1 p2 h1 h2=>exact List.pairwise_append.mpr ⟨h2,h1,fun a ha b hb=>ny_lt (p2.pre.1 a ha) (p1.pre.1 b hb)⟩
theorem bgs_none {e:Str}{ps:List Str}(h:∀ x∈ps,¬ cds x <+: cds e) : bgs e ps = []:=by
 rw [List.eq_nil_iff_forall_not_mem]
 intro x hx
 exact h x (mem_bgs.mp hx).1 (mem_bgs.mp hx).2
theorem bgs_app (e:Str)(a b:List Str) : bgs e (a ++ b)=bgs e a ++ bgs e b:=List.filter_append _ _
theorem PI.one {t:Tr}{q:Str}{ps gs:List Str}(h:PI t q ps gs) : ∀ u∈plc t q,u.2=Str.ofString "end" → (bgs u.1 ps).length=1:=by
 induction h with
 | stop t q =>
  intro u hu _
  have:bgs u.1 [q] = [q]:=List.filter_eq_self.mpr fun x hx=>by
   rw [List.mem_singleton.mp hx]
   exact (starts_iff u.1 q).mpr (plc_pre hu)
  rw [this]
  rfl
 | @go w y n q ps1 ps2 fs1 fs2 p1 p2 h1 h2 =>
  intro u hu e
  have hu:u∈(q,Str.ofString "fork") :: (plc y (q ++ "y") ++ plc n (q ++ "n")):=hu
  rw [bgs_app,List.length_append]
  rcases List.mem_cons.mp hu with rfl | hu
  ·exact absurd e (show ¬ Str.ofString "fork" = Str.ofString "end" by decide +kernel)
  ·rcases List.mem_append.mp hu with hu | hu
   ·rw [bgs_none (ps:=ps2) fun x hx z=>yn_apart (plc_pre hu) ((p2.pre.1 x hx).trans z),h1 u hu e]
    rfl
   ·rw [bgs_none (ps:=ps1) fun x hx z=>yn_apart ((p1.pre.1 x hx).trans z) (plc_pre hu),h2 u hu e]
    rfl
theorem PI.isP {t:Tr}{ps gs:List Str}(h:PI t "" ps gs) : IsP t ps:=⟨h.kn,h.up,fun e he=>by
 unfold plK at he
 obtain ⟨u,hu,rfl⟩:=List.mem_map.mp he
 have h2:=List.mem_filter.mp hu
 exact h.one u h2.1 (of_decide_eq_true h2.2)⟩
def Tr.wt:Tr→Int
 | .en w=>w
 | .fk w _ _=>w
def Tr.go:Tr→List Nat→Option Tr
 | t,[]=>some t
 | .en _,_ :: _=>none
 | .fk _ y n,c :: cs=>if c=121 then y.go cs else if c=110 then n.go cs else none
theorem cd_yn:cds ("y" : Str) = [121]∧cds ("n" : Str) = [110]:=by decide +kernel
theorem plt_go:∀ {t:Tr}{q:Str}{e:Str × Tr},e∈plt t q→∃ r,cds e.1=cds q ++ r∧t.go r=some e.2
 | .en w,q,e,h=>by rw [List.mem_singleton.mp h]; exact ⟨[],(List.append_nil _).symm,rfl⟩
 | .fk w y n,q,e,h=>by
  rcases List.mem_cons.mp h with rfl | h
  ·exact ⟨[],(List.append_nil _).symm,rfl⟩
  ·rcases List.mem_append.mp h with h | h
   ·obtain ⟨r,h1,h2⟩:=plt_go h
    exact ⟨121 :: r,by rw [h1,cds_app,cd_yn.1,List.append_assoc]; rfl,h2⟩
   ·obtain ⟨r,h1,h2⟩:=plt_go h
    exact ⟨110 :: r,by rw [h1,cds_app,cd_yn.2,List.append_assoc]; rfl,h2⟩
theorem plt_go0 {t u:Tr}{w:Str}(h:(w,u)∈plt t "") : t.go (cds w)=some u:=by
 obtain ⟨r,h1,h2⟩:=plt_go h
 have h1:cds w = [] ++ r:=h1
 rw [h1]
 exact h2
theorem DT.val {K:PySem.W.Frag}{B:Int}{H:Hp}{kvs:List (Key × V)}{es:List (Str × Tr)}{x:Str}{u:Tr}(h:DT K B H kvs es)(nd:(es.map (·.1)).Nodup)(m:(x,u)∈es) : ∃ v,valV kvs (.inr x)=some v∧TV K H v (htD B u):=by
 induction h with
 | nil=>cases m
 | @cons v e kvs es t _ ih =>
  rw [List.map_cons,List.nodup_cons] at nd
  rcases List.mem_cons.mp m with z | z
  ·subst z
   exact ⟨v,valV_pos rfl,t⟩
  ·have ne:e.1 ≠ x:=fun y=>nd.1 (by rw [y]; exact List.mem_map.mpr ⟨(x,u),z,rfl⟩)
   rw [valV_neg (by intro y; injection y with y; exact ne y)]
   exact ih nd.2 z
def sp_forks (K:PySem.W.Frag) : Sp:=fun vs H Q _=>∃ (v:V) (t:Tr) (B:Int),vs = [v]∧TV K H v (htD B t)∧t.lv≤30∧∀ H' p ws,Same H H'→H p=none→H' p=some (.lst (ws.map V.str))→ws.Perm (plK t "fork")→PyProof.Rows.sortedS ws=true→Q (.ref p) H'
theorem _root_.L2.TV.wt {K:PySem.W.Frag}{H:Hp}{v:V}{u:Tr}(h:TV K H v (trD u)) : ∃ p k r,v = .ref p∧H p=some (.tup (.str k :: .int u.wt :: r)):=by
 cases u with
 | en w=>obtain ⟨p,rfl,hp⟩:=TV.en h; exact ⟨_,_,_,rfl,hp⟩
 | fk w y n=>obtain ⟨p,v1,v2,rfl,hp,_,_⟩:=TV.fk h; exact ⟨_,_,_,rfl,hp⟩
def Rt (H:Hp)(p:Addr)(r:Rat) : Prop:=H p=some (rt r)
def Two (n:Nat)(vs:List V)(H:Hp)(R:Rat→Rat→Prop) : Prop:=∃ (p1 p2:Addr) (r1 r2:Rat),vs = [.ref p1,.ref p2]∧Rt H p1 r1∧Rt H p2 r2∧Rz n r1∧Rz n r2∧R r1 r2
def Nw2 (H:Hp)(Q:VK)(q:Rat) : Prop:=∀ p H',H p=none→Same H H'→H' p=some (rt q)→Q (.ref p) H'
def sp_plus:Sp:=fun vs H Q _=>Two 700 vs H fun r1 r2=>Nw H Q (r1 + r2)
def sp_minus:Sp:=fun vs H Q _=>Two 700 vs H fun r1 r2=>Nw2 H Q (r1 - r2)
theorem cGe {t b:Int}(hb:0 < b)(bz:Bz 8000 b)(i:Int) : CDivB i (M.G t b):=⟨M.G_pos t b,(bz.le (M.G_le (by omega))).log2⟩
theorem Rz.neg {n:Nat}{r:Rat}(h:Rz n r) : Rz n (-r):=⟨h.zn.neg,h.zd⟩
theorem Nw.sum {H:Hp}{Q:VK}{q r:Rat}(h:Nw H Q (q + r)) : ∀ p,H p=none→Q (.ref p) (upd H p (.tup [.int ((q.num * ((r.den:Int) / M.G q.den r.den) + r.num * ((q.den:Int) / M.G q.den r.den)) / M.G (q.num * ((r.den:Int) / M.G q.den r.den) + r.num * ((q.den:Int) / M.G q.den r.den)) (M.G q.den r.den)),.int ((q.den:Int) / M.G (q.num * ((r.den:Int) / M.G q.den r.den) + r.num * ((q.den:Int) / M.G q.den r.den)) (M.G q.den r.den) * ((r.den:Int) / M.G q.den r.den))])):=by
 rw [(M.plus_low q r).1,(M.plus_low q r).2]
 exact h
inductive LK:Tr→Str→List Str→List (Str × Int × Int)→Int→Int→Prop
 | stop (t:Tr) (q:Str) : LK t q [q] [] t.wt 1
 | go {w:Int}{y n:Tr}{q:Str}{ps1 ps2:List Str}{us1 us2:List (Str × Int × Int)}{s1 s2 m1 m2:Int} : LK y (q ++ "y") ps1 us1 s1 m1→LK n (q ++ "n") ps2 us2 s2 m2→LK (.fk w y n) q (ps2 ++ ps1) ((q,w - (s1 + s2),m1 + m2 - 1) :: (us2 ++ us1)) (s1 + s2) (m1 + m2)
theorem LK.pi {t:Tr}{q:Str}{ps:List Str}{us:List (Str × Int × Int)}{s m:Int}(h:LK t q ps us s m) : PI t q ps (us.map (·.1)):=by
 induction h with
 | stop t q=>exact .stop t q
 | go _ _ h1 h2 =>
  rw [List.map_cons,List.map_append]
  exact .go h1 h2
def und (ps:List Str)(f:Str) : List Str:=ps.filter fun x=>Txt.startswith x f
theorem und_app (a b:List Str)(f:Str) : und (a ++ b) f=und a f ++ und b f:=List.filter_append _ _
theorem und_all {ps:List Str}{f:Str}(h:∀ x∈ps,cds f <+: cds x) : und ps f=ps:=List.filter_eq_self.mpr fun x hx=>(starts_iff x f).mpr (h x hx)
theorem und_none {ps:List Str}{f:Str}(h:∀ x∈ps,¬ cds f <+: cds x) : und ps f = []:=by
 rw [List.eq_nil_iff_forall_not_mem]
 intro x hx
 have:=List.mem_filter.mp hx
 exact h x this.1 ((starts_iff x f).mp this.2)
theorem LK.vals (W:Str→Int) {t:Tr}{q:Str}{ps:List Str}{us:List (Str × Int × Int)}{s m:Int}(h:LK t q ps us s m) (hW:∀ e∈plt t q,W e.1=e.2.wt) :
  s=(ps.map W).sum∧m=(ps.length:Int)∧∀ u∈us,u.2.1=W u.1 - ((und ps u.1).map W).sum∧u.2.2=((und ps u.1).length:Int) - 1∧2≤(und ps u.1).length:=by
 induction h with
 | stop t q =>
  have e:W q=t.wt:=by
   cases t with
   | en w=>exact hW (q,.en w) List.mem_cons_self
   | fk w y n=>exact hW (q,.fk w y n) List.mem_cons_self
  refine ⟨?_,rfl,fun u hu=>(by cases hu)⟩
  show t.wt=W q + 0
  omega
 | @go w y n q ps1 ps2 us1 us2 s1 s2 m1 m2 g1 g2 h1 h2 =>
  obtain ⟨a1,a2,a3⟩:=h1 fun e he=>hW e (List.mem_cons_of_mem _ (List.mem_append_left _ he))
  obtain ⟨b1,b2,b3⟩:=h2 fun e he=>hW e (List.mem_cons_of_mem _ (List.mem_append_right _ he))
  have wq:W q=w:=hW (q,.fk w y n) List.mem_cons_self
  have p1:=g1.pi.pre
  have p2:=g2.pi.pre
  have l1:1≤ps1.length:=by have:=g1.pi.len.2; omega
  have l2:1≤ps2.length:=by have:=g2.pi.len.2; omega
  have sm:((ps2 ++ ps1).map W).sum=s1 + s2:=by rw [List.map_append,List.sum_append,← a1,← b1]; omega
  have ln:((ps2 ++ ps1).length:Int)=m1 + m2:=by rw [List.length_append,a2,b2]; omega
  refine ⟨sm.symm,ln.symm,fun u hu=>?_⟩
  rcases List.mem_cons.mp hu with rfl | hu
  ·have al:und (ps2 ++ ps1) q=ps2 ++ ps1:=und_all fun x hx=>by
    rcases List.mem_append.mp hx with hx | hx
    ·exact (pre_app _ _).trans (p2.1 x hx)
    ·exact (pre_app _ _).trans (p1.1 x hx)
   show w - (s1 + s2)=W q - ((und (ps2 ++ ps1) q).map W).sum∧m1 + m2 - 1=((und (ps2 ++ ps1) q).length:Int) - 1∧2≤(und (ps2 ++ ps1) q).length
   rw [al,sm,ln,wq]
   exact ⟨rfl,rfl,by rw [List.length_append]; omega⟩
  ·rcases List.mem_append.mp hu with hu | hu
   ·have c:=p2.2 u.1 (List.mem_map.mpr ⟨u,hu,rfl⟩)
    have e:und (ps2 ++ ps1) u.1=und ps2 u.1:=by rw [und_app,und_none (ps:=ps1) fun x hx z=>yn_apart (p1.1 x hx) (c.trans z),List.append_nil]
    rw [e]
    exact b3 u hu
   ·have c:=p1.2 u.1 (List.mem_map.mpr ⟨u,hu,rfl⟩)
    have e:und (ps2 ++ ps1) u.1=und ps1 u.1:=by rw [und_app,und_none (ps:=ps2) fun x hx z=>yn_apart (c.trans z) (p2.1 x hx),List.nil_append]
    rw [e]
    exact a3 u hu
theorem PI.forks {t:Tr}{q:Str}{ps gs:List Str}(h:PI t q ps gs) : (∀ g∈gs,(g,Str.ofString "fork")∈plc t q)∧∀ u∈plc t q,u.2=Str.ofString "fork" → (bgs u.1 ps = []↔u.1∈gs):=by
 induction h with
 | stop t q =>
  refine ⟨fun g hg=>(by cases hg),fun u hu _=>?_⟩
  have:bgs u.1 [q] = [q]:=List.filter_eq_self.mpr fun x hx=>by
   rw [List.mem_singleton.mp hx]
   exact (starts_iff u.1 q).mpr (plc_pre hu)
  rw [this]
  exact ⟨fun z=>(by cases z),fun z=>(by cases z)⟩
 | @go w y n q ps1 ps2 fs1 fs2 p1 p2 h1 h2 =>
  refine ⟨fun g hg=>?_,fun u hu e=>?_⟩
  ·show (g,Str.ofString "fork")∈(q,Str.ofString "fork") :: (plc y (q ++ "y") ++ plc n (q ++ "n"))
   rcases List.mem_cons.mp hg with rfl | hg
   ·exact List.mem_cons_self
   ·rcases List.mem_append.mp hg with hg | hg
    ·exact List.mem_cons_of_mem _ (List.mem_append_right _ (h2.1 g hg))
    ·exact List.mem_cons_of_mem _ (List.mem_append_left _ (h1.1 g hg))
  ·have hu:u∈(q,Str.ofString "fork") :: (plc y (q ++ "y") ++ plc n (q ++ "n")):=hu
   rw [bgs_app]
   rcases List.mem_cons.mp hu with rfl | hu
   ·refine ⟨fun _=>List.mem_cons_self,fun _=>?_⟩
    show bgs q ps2 ++ bgs q ps1 = []
    rw [bgs_none (ps:=ps2) fun x hx z=>longer ynl.2 (p2.pre.1 x hx) z,bgs_none (ps:=ps1) fun x hx z=>longer ynl.1 (p1.pre.1 x hx) z]
    rfl
   ·rcases List.mem_append.mp hu with hu | hu
    ·have pu:=plc_pre hu
     rw [bgs_none (ps:=ps2) fun x hx z=>yn_apart pu ((p2.pre.1 x hx).trans z),List.nil_append,h1.2 u hu e]
     refine ⟨fun z=>List.mem_cons_of_mem _ (List.mem_append_right _ z),fun z=>?_⟩
     rcases List.mem_cons.mp z with z | z
     ·rw [z] at pu
      exact (longer ynl.1 pu (List.prefix_refl _)).elim
     ·rcases List.mem_append.mp z with z | z
      ·exact (yn_apart pu (p2.pre.2 _ z)).elim
      ·exact z
    ·have pu:=plc_pre hu
     rw [bgs_none (ps:=ps1) fun x hx z=>yn_apart ((p1.pre.1 x hx).trans z) pu,List.append_nil,h2.2 u hu e]
     refine ⟨fun z=>List.mem_cons_of_mem _ (List.mem_append_left _ z),fun z=>?_⟩
     rcases List.mem_cons.mp z with z | z
     ·rw [z] at pu
      exact (longer ynl.2 pu (List.prefix_refl _)).elim
     ·rcases List.mem_append.mp z with z | z
      ·exact z
      ·exact (yn_apart (p1.pre.2 _ z) pu).elim
def insF (t:Tr)(ps:List Str) : List Str:=(plK t "fork").filter fun x=>decide ((bgs x ps).length=0)
theorem insF_perm {t:Tr}{ps gs:List Str}(h:PI t "" ps gs) : (insF t ps).Perm gs:=by
 have f:=h.forks
 have nd:=plc_nodup t ""
 refine (List.perm_ext_iff_of_nodup ?_ h.facts.n2).mpr fun x=>?_
 ·refine List.Nodup.sublist List.filter_sublist ?_
  exact List.Nodup.sublist (List.Sublist.map _ List.filter_sublist) nd
 ·unfold insF plK
  rw [List.mem_filter,List.mem_map]
  constructor
  ·rintro ⟨⟨u,hu,rfl⟩,e⟩
   have hu2:=List.mem_filter.mp hu
   exact (f.2 u hu2.1 (of_decide_eq_true hu2.2)).mp (List.length_eq_zero_iff.mp (of_decide_eq_true e))
  ·intro hx
   have m:=f.1 x hx
   refine ⟨⟨_,List.mem_filter.mpr ⟨m,decide_eq_true rfl⟩,rfl⟩,decide_eq_true ?_⟩
   exact List.length_eq_zero_iff.mpr ((f.2 _ m rfl).mpr hx)
theorem divInt_sub {a c B:Int}(hB:0 < B) : Rat.divInt a B - Rat.divInt c B=Rat.divInt (a - c) B:=by
 have hb:(B:Rat) ≠ 0:=fun z=>by
  have:B=0:=by exact_mod_cast z
  omega
 rw [Rat.divInt_eq_div,Rat.divInt_eq_div,Rat.divInt_eq_div,Rat.intCast_sub]
 grind
theorem G_cop {r:Rat}{m:Int}(hm:0 < m) : M.G r.num ((r.den:Int) * m)=M.G r.num m:=by
 have d0:=dp r
 have h1:0 < (r.den:Int) * m:=Int.mul_pos d0 hm
 rw [M.G_eq (by omega),M.G_eq (by omega),Int.natAbs_mul]
 have e:((r.den:Int)).natAbs=r.den:=rfl
 rw [e,Nat.Coprime.gcd_mul_left_cancel_right _ r.reduced.symm]
theorem shared_low {r:Rat}{m:Int}(hm:0 < m) : r.num / M.G r.num m=(Rat.divInt r.num ((r.den:Int) * m)).num∧(r.den:Int) * (m / M.G r.num m)=((Rat.divInt r.num ((r.den:Int) * m)).den:Int):=by
 have d0:=dp r
 have h1:0 < (r.den:Int) * m:=Int.mul_pos d0 hm
 rw [← M.num_low h1,← M.den_low h1,G_cop hm]
 exact ⟨rfl,(Int.mul_ediv_assoc _ (M.G_dvd r.num m).2).symm⟩
theorem shared_at {x B m:Int} : Rat.divInt (Rat.divInt x B).num (((Rat.divInt x B).den:Int) * m)=Rat.divInt x (m * B):=by
 have h:∀ r:Rat,Rat.divInt r.num ((r.den:Int) * m)=r * Rat.divInt 1 m:=fun r=>by
  have:=Rat.divInt_mul_divInt r.num 1 (d₁:=(r.den:Int)) (d₂:=m)
  rw [Rat.num_divInt_den,Int.mul_one] at this
  exact this.symm
 rw [h,Rat.divInt_mul_divInt,Int.mul_one,Int.mul_comm]
def wA (t:Tr)(x:Str) : Int:=match t.go (cds x) with
 | some u=>u.wt
 | none=>0
theorem wA_at {t:Tr} : ∀ e∈plt t "", wA t e.1=e.2.wt:=fun e he=>by
 unfold wA
 rw [plt_go0 (t:=t) (w:=e.1) (u:=e.2) he]
theorem plt_B:∀ {t:Tr}{q:Str},t.B→∀ e∈plt t q,-100000000000000000000000000000000 < e.2.wt∧e.2.wt < 100000000000000000000000000000000
 | .en w,q,h,e,he=>by rw [List.mem_singleton.mp he]; exact h
 | .fk w y n,q,h,e,he=>by
  rcases List.mem_cons.mp he with z | z
  ·rw [z]; exact h.1
  ·rcases List.mem_append.mp z with z | z
   ·exact plt_B h.2.1 e z
   ·exact plt_B h.2.2 e z
def sp_finside (K:PySem.W.Frag) : Sp:=fun vs H Q _=>∃ (v:V) (t:Tr) (B:Int) (a:Addr) (ps:List Str),vs = [v,.ref a]∧TV K H v (htD B t)∧t.lv≤30∧H a=some (.lst (ps.map V.str))∧ps.length < 64∧∀ H' p rs,Same H H'→H p=none→H' p=some (.lst (rs.map V.str))→rs.Perm (insF t ps)→PyProof.Rows.sortedS rs=true→Q (.ref p) H'
def sp_shared:Sp:=fun vs H Q _=>∃ (a:Addr) (r:Rat) (m:Int),vs = [.ref a,.int m]∧H a=some (rt r)∧0 < m∧m≤100∧Rz 700 r∧Nw H Q (Rat.divInt r.num ((r.den:Int) * m))
def sp_linki (K:PySem.W.Frag) : Sp:=fun vs H Q _=>∃ (v:V) (t:Tr) (B:Int) (a:Addr) (ps:List Str) (f:Str),vs = [v,.ref a,.str f]∧TV K H v (htD B t)∧t.lv≤30∧H a=some (.lst (ps.map V.str))∧ps.length < 64∧(∀ x∈ps,x∈(plc t "").map (·.1))∧f∈(plc t "").map (·.1)∧0 < B∧Bz 128 B∧t.B∧2≤(und ps f).length ∧
 ∀ H' p,Same H H'→H' p=some (rt (Rat.divInt (wA t f - ((und ps f).map (wA t)).sum) ((((und ps f).length:Int) - 1) * B)))→Q (.ref p) H'
theorem rising_le:∀ {a:Str}{l:List Str},(a :: l).Pairwise (fun a b=>cds a≤cds b)→PyProof.Rows.risingS a l=true
 | _,[],_=>rfl
 | a,b :: l,h=>by
  have h2:=List.pairwise_cons.mp h
  show (!PySem.Spec.ltCps b.cps.toList a.cps.toList && PyProof.Rows.risingS b l)=true
  rw [rising_le h2.2,Bool.and_true,Bool.not_eq_true',PyProof.Rows.ltCps_eq,decide_eq_false_iff_not]
  exact List.not_lt.mpr (h2.1 b List.mem_cons_self)
theorem pw_sorted_le {l:List Str}{p:Str→Bool}(h:l.Pairwise (fun a b=>cds a≤cds b)) : PyProof.Rows.sortedS (l.filter p)=true:=by
 have h:=List.Pairwise.sublist (List.filter_sublist (p:=p)) h
 generalize l.filter p=m at h
 cases m with
 | nil=>rfl
 | cons a l=>exact rising_le h
theorem _root_.L2.TV.hw {K:PySem.W.Frag}{H:Hp}{v:V}{B:Int}{u:Tr}(hB:0 < B)(h:TV K H v (htD B u)) : ∃ p k c r,v = .ref p∧H p=some (.tup (.str k :: .ref c :: r))∧H c=some (rt (Rat.divInt u.wt B)):=by
 cases u with
 | en w=>obtain ⟨p,c,rfl,hp,hc⟩:=TV.hen h; obtain ⟨c2,rfl,hc2⟩:=TV.rD hB hc; exact ⟨p,_,c2,_,rfl,hp,hc2⟩
 | fk w y n=>obtain ⟨p,c,a,b,rfl,hp,hc,_,_⟩:=TV.hfk h; obtain ⟨c2,rfl,hc2⟩:=TV.rD hB hc; exact ⟨p,_,c2,_,rfl,hp,hc2⟩
theorem dt_at {K:PySem.W.Frag}{B:Int}(hB:0 < B) {H:Hp}{d:Addr}{kvs:List (Key × V)}{es:List (Str × Tr)}{t:Tr}(hd:H d=some (.dK kvs)) (dt:DT K B H kvs es) (pm:es.Perm (plt t "")) {x:Str}(hx:x∈(plc t "").map (·.1)) :
  ∃ p k c r,DGet H d (.str x) (some (.ref p))∧H p=some (.tup (.str k :: .ref c :: r))∧H c=some (rt (Rat.divInt (wA t x) B)):=by
 have nd:(es.map (·.1)).Nodup:=(pm.map (·.1)).nodup_iff.mpr (plt_nodup t "")
 rw [plt_plc,List.map_map] at hx
 obtain ⟨⟨x',u⟩,he,ex⟩:=List.mem_map.mp hx
 obtain rfl:x'=x:=ex
 obtain ⟨v,ev,tv⟩:=dt.val nd (pm.mem_iff.mpr he)
 obtain ⟨p,k,c,r,rfl,hp,hc⟩:=tv.hw hB
 have g:DGet H d (.str x') (valV kvs (.inr x')):=DGet.k (k:=.inr x') hd
 rw [ev] at g
 exact ⟨p,k,c,r,g,hp,by rw [wA_at _ he]; exact hc⟩
theorem at_1 {k:Str}{c:Addr}{r:List V} : atI (V.str k :: V.ref c :: r) 1=some (.ref c):=by
 have e:atI (V.str k :: V.ref c :: r) ((1:Nat) : Int)=some (.ref c):=atI_nat rfl
 exact e
theorem wA_B {t:Tr}{x:Str}(h:t.B)(hx:x∈(plc t "").map (·.1)) : -100000000000000000000000000000000 < wA t x∧wA t x < 100000000000000000000000000000000:=by
 rw [plt_plc,List.map_map] at hx
 obtain ⟨e,he,rfl⟩:=List.mem_map.mp hx
 have:=plt_B h e he
 show -100000000000000000000000000000000 < wA t e.1∧wA t e.1 < 100000000000000000000000000000000
 rw [wA_at e he]
 exact this
theorem sumB {W:Str→Int} : ∀ {l:List Str},(∀ x∈l,-100000000000000000000000000000000 < W x∧W x < 100000000000000000000000000000000) → -(l.length:Int) * 100000000000000000000000000000000≤(l.map W).sum∧(l.map W).sum≤(l.length:Int) * 100000000000000000000000000000000
 | [],_=>⟨Int.le_refl _,Int.le_refl _⟩
 | x :: l,h=>by
  have h1:=h x List.mem_cons_self
  have h2:=sumB fun y hy=>h y (List.mem_cons_of_mem x hy)
  rw [List.map_cons,List.sum_cons,List.length_cons]
  omega
theorem bz128 {x:Int}(h1 : -10000000000000000000000000000000000≤x)(h2:x≤10000000000000000000000000000000000) : Bz 128 x:=Bz.w (by omega) (by omega)
theorem plc_yn:∀ {t:Tr}{q:Str}{u:Str × Str},(∀ c∈cds q,c=121∨c=110)→u∈plc t q→∀ c∈cds u.1,c=121∨c=110
 | .en _,q,u,a,h=>by rw [List.mem_singleton.mp h]; exact a
 | .fk w y n,q,u,a,h=>by
  have h:u∈(q,("fork" : Str)) :: (plc y (q ++ "y") ++ plc n (q ++ "n")):=h
  have ap:∀ (s:Str) (k:Nat),cds s = [k]→(k=121∨k=110)→∀ c∈cds (q ++ s),c=121∨c=110:=fun s k e hk c hc=>by
   rw [cds_app,e] at hc
   rcases List.mem_append.mp hc with z | z
   ·exact a c z
   ·rw [List.mem_singleton.mp z]; exact hk
  rcases List.mem_cons.mp h with rfl | h
  ·exact a
  ·rcases List.mem_append.mp h with h | h
   ·exact plc_yn (ap "y" 121 cd_yn.1 (.inl rfl)) h
   ·exact plc_yn (ap "n" 110 cd_yn.2 (.inr rfl)) h
theorem pl_yn {t:Tr}{x:Str}(h:x∈(plc t "").map (·.1)) : ∀ c∈cds x,c=121∨c=110:=by
 obtain ⟨u,hu,rfl⟩:=List.mem_map.mp h
 exact plc_yn (fun c hc=>by cases hc) hu
theorem tr_end:∀ (t:Tr) (q:Str),∃ u∈plc t q,u.2=Str.ofString "end"
 | .en _,q=>⟨_,List.mem_singleton.mpr rfl,rfl⟩
 | .fk w y n,q=>by
  obtain ⟨u,hu,e⟩:=tr_end y (q ++ "y")
  exact ⟨u,List.mem_cons_of_mem _ (List.mem_append_left _ hu),e⟩
theorem PI.end' {t:Tr}{q:Str}{ps gs:List Str}(h:PI t q ps gs) : ∀ x∈ps,∃ u∈plc t q,u.2=Str.ofString "end" ∧ cds x <+: cds u.1:=by
 induction h with
 | stop t q =>
  intro x hx
  rw [List.mem_singleton.mp hx]
  obtain ⟨u,hu,e⟩:=tr_end t q
  exact ⟨u,hu,e,plc_pre hu⟩
 | @go w y n q ps1 ps2 fs1 fs2 p1 p2 h1 h2 =>
  intro x hx
  rcases List.mem_append.mp hx with hx | hx
  ·obtain ⟨u,hu,e⟩:=h2 x hx
   exact ⟨u,List.mem_cons_of_mem _ (List.mem_append_right _ hu),e⟩
  ·obtain ⟨u,hu,e⟩:=h1 x hx
   exact ⟨u,List.mem_cons_of_mem _ (List.mem_append_left _ hu),e⟩
def sp_under29:Sp:=fun vs H Q _=>∃ (a b:Addr) (t1 b1 t2 b2:Int),vs = [.ref a,.ref b]∧H a=some (.tup [.int t1,.int b1])∧H b=some (.tup [.int t2,.int b2])∧Bz 8000 t1∧Bz 8000 b1∧Bz 8000 t2∧Bz 8000 b2∧Q (.bl (decide (t1 * b2 < t2 * b1))) H
def sp_usum:Sp:=fun vs H Q _=>∃ (a b:Addr) (t1 b1 t2 b2:Int),vs = [.ref a,.ref b]∧H a=some (.tup [.int t1,.int b1])∧H b=some (.tup [.int t2,.int b2])∧Bz 8000 t1∧Bz 8000 b1∧Bz 8000 t2∧Bz 8000 b2∧∀ p,H p=none→Q (.ref p) (upd H p (.tup [.int (t1 * b2 + t2 * b1),.int (b1 * b2)]))
def sp_check_price:Sp:=fun vs H Q _=>∃ (a:Addr) (t b:Int),vs = [.ref a]∧H a=some (.tup [.int t,.int b])∧0≤t∧Bz 8000 t∧Bz 8000 b∧∀ H',Same H H'→Q .non H'
def Tr.ct:Tr→Nat
 | .en _=>1
 | .fk _ y n=>1 + y.ct * n.ct
def CQ.ct:CQ→Nat
 | .en _=>1
 | .fk _ y n=>1 + y.ct * n.ct
def Tr.hd (b:Int) : Tr→CQ
 | .en w=>.en (Rat.divInt w b)
 | .fk w y n=>.fk (Rat.divInt w b) (y.hd b) (n.hd b)
theorem cds_x {a b:Str}(h:cds a=cds b) : a=b:=by
 rcases a with ⟨⟨a⟩⟩
 rcases b with ⟨⟨b⟩⟩
 have h:a=b:=h
 rw [h]
theorem str_as (a b c:Str) : a ++ b ++ c=a ++ (b ++ c):=cds_x (by rw [cds_app,cds_app,cds_app,cds_app,List.append_assoc])
theorem str_no (a:Str) : a ++ ("" : Str)=a:=cds_x (by rw [cds_app]; show cds a ++ [] = cds a; rw [List.append_nil])
theorem str_on (a:Str) : ("" : Str) ++ a=a:=cds_x (by rw [cds_app]; rfl)
theorem best_at (b c:Int) : ∀ (t:Tr) (q:Str),best b c t q=((best b c t "").1.map fun x=>q ++ x,(best b c t "").2)
 | .en w,q=>by unfold best; rw [List.map_cons,List.map_nil,str_no]
 | .fk w y n,q=>by
  have e1:=best_at b c y (q ++ "y")
  have e2:=best_at b c n (q ++ "n")
  have f1:=best_at b c y (("" : Str) ++ "y")
  have f2:=best_at b c n (("" : Str) ++ "n")
  unfold best
  rw [e1,e2,f1,f2]
  simp only [List.length_map]
  split
  ·simp only [List.map_append,List.map_map]
   congr 1
   congr 1
   ·refine List.map_congr_left fun x _=>?_
    show q ++ "n" ++ x=q ++ (("" : Str) ++ "n" ++ x)
    rw [str_on,str_as]
   ·refine List.map_congr_left fun x _=>?_
    show q ++ "y" ++ x=q ++ (("" : Str) ++ "y" ++ x)
    rw [str_on,str_as]
  ·simp only [List.map_cons,List.map_nil]
   rw [str_no]
theorem best_fk (b c w:Int)(y n:Tr) : best b c (.fk w y n) "" = if ((best b c y "").2 + (best b c n "").2) * b + c * ((best b c n "").1.length + (best b c y "").1.length - 1) < w * b then ((best b c n "").1.map (fun x=>("n" : Str) ++ x) ++ (best b c y "").1.map (fun x=>("y" : Str) ++ x),(best b c y "").2 + (best b c n "").2) else ([""],w):=by
 have f1:=best_at b c y (("" : Str) ++ "y")
 have f2:=best_at b c n (("" : Str) ++ "n")
 conv=>lhs; unfold best
 rw [f1,f2,str_on,str_on]
 simp only [List.length_map]
theorem low_eq {t b:Int}(hb:0 < b) : (Rat.divInt t b).num * b=t * ((Rat.divInt t b).den:Int):=by
 rw [← M.num_low hb,← M.den_low hb]
 obtain ⟨⟨x,hx⟩,⟨y,hy⟩⟩:=M.G_dvd t b
 have p:=M.G_pos t b
 generalize M.G t b=g at *
 subst hx
 subst hy
 rw [Int.mul_ediv_cancel_left _ (by omega),Int.mul_ediv_cancel_left _ (by omega)]
 grind
theorem low_n {k:Nat}{t b:Int}(hb:0 < b)(h:Bz k t) : Bz k (Rat.divInt t b).num:=by
 rw [← M.num_low hb]
 exact h.ediv (by have:=M.G_pos t b; omega)
theorem low_d {k:Nat}{t b:Int}(hb:0 < b)(h:Bz k b) : Bz k ((Rat.divInt t b).den:Int):=by
 rw [← M.den_low hb]
 exact h.ediv (by have:=M.G_pos t b; omega)
theorem low_p {t b:Int} : 0 < ((Rat.divInt t b).den:Int):=by have:=(Rat.divInt t b).den_pos; omega
theorem low_0 {t b:Int}(hb:0 < b)(h:0≤t) : 0≤(Rat.divInt t b).num:=by
 rw [← M.num_low hb]
 exact Int.ediv_nonneg h (by have:=M.G_pos t b; omega)
theorem cost_sum {t1 b1 t2 b2 s1 s2 b:Int}(h1:t1 * b=s1 * b1)(h2:t2 * b=s2 * b2) : (t1 * b2 + t2 * b1) * b=(s1 + s2) * (b1 * b2):=by grind
theorem cost_lt {ct cb pn pd wn wd s low top b w l:Int}(h1:ct * b=s * cb) (h2:pn * low=top * pd) (h3:wn * b=w * wd) (c0:0 < cb) (p0:0 < pd) (w0:0 < wd) (b0:0 < b) (l0:0 < low) :
  ((ct * pd + pn * (l - 1) * cb) * wd < wn * (cb * pd))↔(s * low + top * b * (l - 1) < w * low):=by
 have g1:0 < b * low:=Int.mul_pos b0 l0
 have g2:0 < cb * pd * wd:=Int.mul_pos (Int.mul_pos c0 p0) w0
 have e1:(ct * pd + pn * (l - 1) * cb) * wd * (b * low)=(s * low + top * b * (l - 1)) * (cb * pd * wd):=by grind
 have e2:wn * (cb * pd) * (b * low)=(w * low) * (cb * pd * wd):=by grind
 rw [← Int.mul_lt_mul_right g1,e1,e2,Int.mul_lt_mul_right g2]
theorem best_len (b c:Int)(t:Tr)(q:Str) : (best b c t q).1.length≤t.lv:=by
 obtain ⟨gs,h⟩:=(best_ps b c t q).pi
 exact h.len.1
theorem best_wd (b c:Int) : ∀ t:Tr,∀ x∈(best b c t "").1,x.length≤t.dp
 | .en w,x,hx=>by
  have hx:x∈[("" : Str)]:=hx
  rw [List.mem_singleton.mp hx]
  show ("" : Str).length≤0
  exact Nat.le_of_eq (by decide +kernel)
 | .fk w y n,x,hx=>by
  rw [best_fk] at hx
  show _≤max y.dp n.dp + 1
  have e1:("y" : Str).length=1:=by decide +kernel
  have e2:("n" : Str).length=1:=by decide +kernel
  have e3:("" : Str).length=0:=by decide +kernel
  split at hx
  ·rcases List.mem_append.mp hx with z | z
   ·obtain ⟨u,hu,rfl⟩:=List.mem_map.mp z
    have:=best_wd b c n u hu
    rw [len_app]
    omega
   ·obtain ⟨u,hu,rfl⟩:=List.mem_map.mp z
    have:=best_wd b c y u hu
    rw [len_app]
    omega
  ·rw [List.mem_singleton.mp hx]
   omega
structure Pr29 (top low b:Int) : Prop where
 t0:0≤top
 t1:top < 1000000000000000000000000000000
 l0:1≤low
 l1:low≤1000000000000000000000000000000
 b0:1≤b
 b1:b≤1000000000000000000000000000000
theorem bz109 {x:Int}(h1 : -100000000000000000000000000000000 < x)(h2:x < 100000000000000000000000000000000) : Bz 109 x:=by
 show x.natAbs < 649037107316853453566312041152512
 omega
theorem Tr.B.w:∀ {t:Tr},t.B→wB t.w
 | .en _,h=>h
 | .fk _ _ _,h=>h.1
structure Cost29 (low c b:Int) (t:Tr) (ct cb:Int) : Prop where
 e:ct * b=(best low c t "").2 * cb
 p:0 < cb
 zt:Bz (110 * t.lv) ct
 zb:Bz (109 * t.lv) cb
def sp_cwc (K:PySem.W.Frag)(d:Nat) : Sp:=fun vs H Q _=>∃ (v:V) (t:Tr) (a:Addr) (top low b:Int),vs = [v,.ref a]∧CV K H v (t.hd b)∧t.dp≤d∧t.lv≤21∧t.B∧Pr29 top low b∧H a=some (rt (Rat.divInt top low)) ∧
 ∀ H' p l r ct cb,Same H H'→H' p=some (.tup [.ref l,.ref r])→H' l=some (.lst ((best low (top * b) t "").1.map V.str))→H' r=some (.tup [.int ct,.int cb])→Cost29 low (top * b) b t ct cb→Q (.ref p) H'
theorem Cost29.stop {low c b:Int}{t:Tr}(b0:1≤b)(b1:b≤1000000000000000000000000000000)(h:t.B)(e:(best low c t "").2=t.w) : Cost29 low c b t (Rat.divInt t.w b).num ((Rat.divInt t.w b).den:Int):=by
 have l:=t.lv_pos
 have w:=h.w
 refine ⟨by rw [e]; exact low_eq (by omega),low_p,(low_n (by omega) (bz109 w.1 w.2)).mono (by omega),(low_d (by omega) (bz109 (by omega) (by omega))).mono (by omega)⟩
theorem Cost29.go {low c b w:Int}{y n:Tr}{t1 b1 t2 b2:Int}(h1:Cost29 low c b y t1 b1)(h2:Cost29 low c b n t2 b2)(e:(best low c (.fk w y n) "").2=(best low c y "").2 + (best low c n "").2) : Cost29 low c b (.fk w y n) (t1 * b2 + t2 * b1) (b1 * b2):=by
 have l1:=y.lv_pos
 have l2:=n.lv_pos
 refine ⟨by rw [e]; exact cost_sum h1.e h2.e,Int.mul_pos h1.p h2.p,?_,?_⟩
 ·exact ((h1.zt.mul h2.zb).add' (h2.zt.mul h1.zb)).mono (by show _≤110 * (y.lv + n.lv); omega)
 ·exact (h1.zb.mul h2.zb).mono (by show _≤109 * (y.lv + n.lv); omega)
def sp_cheap29 (K:PySem.W.Frag) : Sp:=fun vs H Q _=>∃ (v:V) (t:Tr) (a:Addr) (top low b:Int),vs = [v,.ref a]∧CV K H v (t.hd b)∧t.dp≤20∧t.lv≤21∧t.B∧Pr29 top low b∧H a=some (rt (Rat.divInt top low)) ∧
 ∀ H' l,Same H H'→H' l=some (.lst ((best low (top * b) t "").1.map V.str))→Q (.ref l) H'
inductive PVs (H:Hp) : List V→List (List Str × Int)→Prop
 | nil:PVs H [] []
 | cons {p l:Addr}{ps:List Str}{s:Int}{xs:List V}{rs:List (List Str × Int)} : H p=some (.tup [.ref l,.int s])→H l=some (.lst (ps.map V.str))→PVs H xs rs→PVs H (.ref p :: xs) ((ps,s) :: rs)
def tot (top low b:Int)(r:List Str × Int) : Int:=r.2 * low + top * (r.1.length:Int) * b
inductive LVs (H:Hp) : List V→List (List Str)→Prop
 | nil:LVs H [] []
 | cons {l:Addr}{ps:List Str}{xs:List V}{rs:List (List Str)} : H l=some (.lst (ps.map V.str))→LVs H xs rs→LVs H (.ref l :: xs) (ps :: rs)
theorem Tr.wt_w (t:Tr) : t.wt=t.w:=by cases t <;> rfl
theorem PI.lk {t:Tr}{q:Str}{ps gs:List Str}(h:PI t q ps gs) : ∃ us s m,LK t q ps us s m∧us.map (·.1)=gs:=by
 induction h with
 | stop t q=>exact ⟨_,_,_,.stop t q,rfl⟩
 | go _ _ h1 h2 =>
  obtain ⟨u1,s1,m1,l1,e1⟩:=h1
  obtain ⟨u2,s2,m2,l2,e2⟩:=h2
  exact ⟨_,_,_,.go l1 l2,by rw [List.map_cons,List.map_append,e1,e2]⟩
theorem LK.one {t:Tr}{q:Str}{ps:List Str}{us:List (Str × Int × Int)}{s m:Int}(h:LK t q ps us s m) : 1≤m∧m=(ps.length:Int)∧(∀ u∈us,1≤u.2.2)∧(us ≠ []→2≤m):=by
 induction h with
 | stop t q=>exact ⟨Int.le_refl _,rfl,fun u hu=>(by cases hu),fun z=>absurd rfl z⟩
 | @go w y n q ps1 ps2 us1 us2 s1 s2 m1 m2 _ _ h1 h2 =>
  refine ⟨by omega,by rw [List.length_append]; omega,fun u hu=>?_,fun _=>by omega⟩
  rcases List.mem_cons.mp hu with rfl | hu
  ·show 1≤m1 + m2 - 1
   omega
  ·rcases List.mem_append.mp hu with hu | hu
   ·exact h2.2.2.1 u hu
   ·exact h1.2.2.1 u hu
theorem best_lk {b:Int}(hb:0 < b) : ∀ (t:Tr) (q:Str),∃ us m,LK t q (best b 0 t q).1 us (best b 0 t q).2 m∧∀ u∈us,0 < u.2.1
 | .en w,q=>⟨[],1,.stop (.en w) q,fun u hu=>(by cases hu)⟩
 | .fk w y n,q=>by
  obtain ⟨u1,m1,l1,p1⟩:=best_lk hb y (q ++ "y")
  obtain ⟨u2,m2,l2,p2⟩:=best_lk hb n (q ++ "n")
  unfold best
  split
  ·rename_i c
   rw [Int.zero_mul,Int.add_zero,Int.mul_lt_mul_right hb] at c
   refine ⟨_,_,.go l1 l2,fun u hu=>?_⟩
   rcases List.mem_cons.mp hu with rfl | hu
   ·show 0 < w - _
    omega
   ·rcases List.mem_append.mp hu with hu | hu
    ·exact p2 u hu
    ·exact p1 u hu
  ·exact ⟨[],1,.stop (.fk w y n) q,fun u hu=>(by cases hu)⟩
def Cutc (a b:Int)(c:Str→Bool)(us:List (Str × Int × Int)) : Prop:=∀ u∈us,(c u.1=true→u.2.1 * b=a * u.2.2)∧(c u.1=false→a * u.2.2 < u.2.1 * b)
structure Cutf (F:List Str) (c:Str→Bool) (q:Str) (us:List (Str × Int × Int)) : Prop where
 nd:F.Nodup
 me:∀ x,(x∈F∧cds q <+: cds x)↔∃ u∈us,u.1=x∧c x=true
 up:∀ x∈F,cds x <+: cds q→x=q
structure Cuts (t:Tr) (q:Str) (a b:Int) (c:Str→Bool) (F ps:List Str) (us:List (Str × Int × Int)) (s m:Int) (ps':List Str) (us':List (Str × Int × Int)) (s' m':Int) : Prop where
 lk:LK t q ps' us' s' m'
 tot:s' * b + a * m'=s * b + a * m
 gt:∀ u∈us',a * u.2.2 < u.2.1 * b
 le:m'≤m
 lt:(∃ u∈us,c u.1=true)→m' < m
 ls:Lies ps' ps
 sub:∀ u∈us',∃ v∈us,v.1=u.1
 me:∀ x,x∈ps'↔(x∈ps∧bgs x F = [])∨(x∈F∧cds q <+: cds x∧(bgs x F).length=1)
theorem one_of {l:List Str}{x y:Str}(hx:x∈l)(hy:y∈l)(h:l.length=1) : x=y:=by
 obtain ⟨z,rfl⟩:=List.length_eq_one_iff.mp h
 rw [List.mem_singleton.mp hx,List.mem_singleton.mp hy]
theorem one_self {l:List Str}{x:Str}(nd:l.Nodup)(hx:x∈l)(h:∀ y∈l,y=x) : l.length=1:=by
 cases l with
 | nil=>cases hx
 | cons a l =>
  cases l with
  | nil=>rfl
  | cons b l =>
   have h1:=h a List.mem_cons_self
   have h2:=h b (List.mem_cons_of_mem _ List.mem_cons_self)
   rw [h1,h2,List.nodup_cons] at nd
   exact absurd List.mem_cons_self nd.1
theorem pre_yn {q x:Str}{s:Str}(hs:s.length=1)(h:cds x <+: cds (q ++ s))(hx:x ≠ q ++ s) : cds x <+: cds q:=by
 by_cases c:(q ++ s).length≤x.length
 ·exact absurd (pre_same h c) hx
 ·refine List.prefix_of_prefix_length_le h (pre_app q s) ?_
  rw [len_app] at c
  rw [cds_len,cds_len]
  omega
theorem Cutf.y {F:List Str}{c:Str→Bool}{q:Str}{us1 us2:List (Str × Int × Int)}{l:Int × Int}(h:Cutf F c q ((q,l) :: (us2 ++ us1)))(hq:c q=false)(p1:∀ u∈us1,cds (q ++ "y") <+: cds u.1)(p2:∀ u∈us2,cds (q ++ "n") <+: cds u.1) : Cutf F c (q ++ "y") us1:=by
 refine ⟨h.nd,fun x=>⟨fun hx=>?_,fun hx=>?_⟩,fun x hx px=>?_⟩
 ·obtain ⟨u,hu,e,cx⟩:=(h.me x).mp ⟨hx.1,(pre_app _ _).trans hx.2⟩
  rcases List.mem_cons.mp hu with rfl | hu
  ·obtain rfl:q=x:=e
   rw [hq] at cx
   cases cx
  ·rcases List.mem_append.mp hu with hu | hu
   ·exact (yn_apart hx.2 (e ▸ p2 u hu)).elim
   ·exact ⟨u,hu,e,cx⟩
 ·obtain ⟨u,hu,e,cx⟩:=hx
  exact ⟨((h.me x).mpr ⟨u,List.mem_cons_of_mem _ (List.mem_append_right _ hu),e,cx⟩).1,e ▸ p1 u hu⟩
 ·by_cases e:x=q ++ "y"
  ·exact e
  ·exfalso
   have e2:=h.up x hx (pre_yn ynl.1 px e)
   subst e2
   obtain ⟨u,hu,e3,cx⟩:=(h.me x).mp ⟨hx,List.prefix_refl _⟩
   rw [hq] at cx
   cases cx
theorem Cutf.n {F:List Str}{c:Str→Bool}{q:Str}{us1 us2:List (Str × Int × Int)}{l:Int × Int}(h:Cutf F c q ((q,l) :: (us2 ++ us1)))(hq:c q=false)(p1:∀ u∈us1,cds (q ++ "y") <+: cds u.1)(p2:∀ u∈us2,cds (q ++ "n") <+: cds u.1) : Cutf F c (q ++ "n") us2:=by
 refine ⟨h.nd,fun x=>⟨fun hx=>?_,fun hx=>?_⟩,fun x hx px=>?_⟩
 ·obtain ⟨u,hu,e,cx⟩:=(h.me x).mp ⟨hx.1,(pre_app _ _).trans hx.2⟩
  rcases List.mem_cons.mp hu with rfl | hu
  ·obtain rfl:q=x:=e
   rw [hq] at cx
   cases cx
  ·rcases List.mem_append.mp hu with hu | hu
   ·exact ⟨u,hu,e,cx⟩
   ·exact (yn_apart (e ▸ p1 u hu) hx.2).elim
 ·obtain ⟨u,hu,e,cx⟩:=hx
  exact ⟨((h.me x).mpr ⟨u,List.mem_cons_of_mem _ (List.mem_append_left _ hu),e,cx⟩).1,e ▸ p2 u hu⟩
 ·by_cases e:x=q ++ "n"
  ·exact e
  ·exfalso
   have e2:=h.up x hx (pre_yn ynl.2 px e)
   subst e2
   obtain ⟨u,hu,e3,cx⟩:=(h.me x).mp ⟨hx,List.prefix_refl _⟩
   rw [hq] at cx
   cases cx
theorem LK.cutc {a b:Int}{c:Str→Bool}{F:List Str}{t:Tr}{q:Str}{ps:List Str}{us:List (Str × Int × Int)}{s m:Int}(h:LK t q ps us s m)(hc:Cutc a b c us)(hF:Cutf F c q us) : ∃ ps' us' s' m',Cuts t q a b c F ps us s m ps' us' s' m':=by
 induction h with
 | stop t q =>
  refine ⟨[q],[],t.wt,1,.stop t q,rfl,fun u hu=>(by cases hu),Int.le_refl _,fun ⟨u,hu,_⟩=>(by cases hu),Lies.refl _,fun u hu=>(by cases hu),fun x=>?_⟩
  have no:∀ x∈F,¬ cds q <+: cds x:=fun x hx z=>by
   obtain ⟨u,hu,_⟩:=(hF.me x).mp ⟨hx,z⟩
   cases hu
  have eb:bgs q F = []:=by
   rw [List.eq_nil_iff_forall_not_mem]
   intro y hy
   obtain ⟨y1,y2⟩:=mem_bgs.mp hy
   have e:=hF.up y y1 y2
   rw [e] at y1
   exact no q y1 (List.prefix_refl _)
  constructor
  ·intro hx
   rw [List.mem_singleton.mp hx]
   exact .inl ⟨List.mem_singleton.mpr rfl,eb⟩
  ·rintro (hx | ⟨h1,h2,_⟩)
   ·exact hx.1
   ·exact (no x h1 h2).elim
 | @go w y n q ps1 ps2 us1 us2 s1 s2 m1 m2 g1 g2 h1 h2 =>
  have p1:=g1.pi.pre
  have p2:=g2.pi.pre
  have f1:∀ u∈us1,cds (q ++ "y") <+: cds u.1:=fun u hu=>p1.2 u.1 (List.mem_map.mpr ⟨u,hu,rfl⟩)
  have f2:∀ u∈us2,cds (q ++ "n") <+: cds u.1:=fun u hu=>p2.2 u.1 (List.mem_map.mpr ⟨u,hu,rfl⟩)
  have o1:=g1.one.1
  have o2:=g2.one.1
  have c0:=hc (q,w - (s1 + s2),m1 + m2 - 1) List.mem_cons_self
  cases e:c q with
  | true =>
   have c1:(w - (s1 + s2)) * b=a * (m1 + m2 - 1):=c0.1 e
   have qF:q∈F:=((hF.me q).mpr ⟨_,List.mem_cons_self,rfl,e⟩).1
   refine ⟨[q],[],w,1,.stop (.fk w y n) q,?_,fun u hu=>(by cases hu),by omega,fun _=>by omega,?_,fun u hu=>(by cases hu),fun x=>?_⟩
   ·rw [Int.sub_mul,Int.mul_sub,Int.mul_one] at c1
    rw [Int.mul_one]
    omega
   ·intro x hx
    refine ⟨q,List.mem_singleton.mpr rfl,?_⟩
    rcases List.mem_append.mp hx with hx | hx
    ·exact (pre_app _ _).trans (p2.1 x hx)
    ·exact (pre_app _ _).trans (p1.1 x hx)
   ·constructor
    ·intro hx
     rw [List.mem_singleton.mp hx]
     refine .inr ⟨qF,List.prefix_refl _,one_self (hF.nd.sublist List.filter_sublist) (mem_bgs.mpr ⟨qF,List.prefix_refl _⟩) fun z hz=>?_⟩
     obtain ⟨z1,z2⟩:=mem_bgs.mp hz
     exact hF.up z z1 z2
    ·rintro (⟨hx,hb⟩ | ⟨h1,h2,h3⟩)
     ·exfalso
      have px:cds q <+: cds x:=by
       rcases List.mem_append.mp hx with hx | hx
       ·exact (pre_app _ _).trans (p2.1 x hx)
       ·exact (pre_app _ _).trans (p1.1 x hx)
      have:q∈bgs x F:=mem_bgs.mpr ⟨qF,px⟩
      rw [hb] at this
      cases this
     ·rw [one_of (mem_bgs.mpr ⟨h1,List.prefix_refl _⟩) (mem_bgs.mpr ⟨qF,h2⟩) h3]
      exact List.mem_singleton.mpr rfl
  | false =>
   have c1:a * (m1 + m2 - 1) < (w - (s1 + s2)) * b:=c0.2 e
   obtain ⟨ps1',us1',s1',m1',C1⟩:=h1 (fun u hu=>hc u (List.mem_cons_of_mem _ (List.mem_append_right _ hu))) (hF.y e f1 f2)
   obtain ⟨ps2',us2',s2',m2',C2⟩:=h2 (fun u hu=>hc u (List.mem_cons_of_mem _ (List.mem_append_left _ hu))) (hF.n e f1 f2)
   have t1:=C1.tot
   have t2:=C2.tot
   have l1:=C1.le
   have l2:=C2.le
   refine ⟨_,_,_,_,.go C1.lk C2.lk,?_,fun u hu=>?_,by omega,?_,Lies.join C1.ls C2.ls,fun u hu=>?_,fun x=>?_⟩
   ·rw [Int.add_mul,Int.mul_add,Int.add_mul,Int.mul_add]
    omega
   ·rcases List.mem_cons.mp hu with rfl | hu
    ·show a * (m1' + m2' - 1) < (w - (s1' + s2')) * b
     rw [Int.sub_mul,Int.add_mul,Int.mul_sub,Int.mul_add,Int.mul_one] at c1 ⊢
     omega
    ·rcases List.mem_append.mp hu with hu | hu
     ·exact C2.gt u hu
     ·exact C1.gt u hu
   ·rintro ⟨u,hu,cu⟩
    rcases List.mem_cons.mp hu with rfl | hu
    ·have cu:c q=true:=cu
     rw [e] at cu
     cases cu
    ·rcases List.mem_append.mp hu with hu | hu
     ·have:=C2.lt ⟨u,hu,cu⟩
      omega
     ·have:=C1.lt ⟨u,hu,cu⟩
      omega
   ·rcases List.mem_cons.mp hu with rfl | hu
    ·exact ⟨_,List.mem_cons_self,rfl⟩
    ·rcases List.mem_append.mp hu with hu | hu
     ·obtain ⟨v,hv,e2⟩:=C2.sub u hu
      exact ⟨v,List.mem_cons_of_mem _ (List.mem_append_left _ hv),e2⟩
     ·obtain ⟨v,hv,e2⟩:=C1.sub u hu
      exact ⟨v,List.mem_cons_of_mem _ (List.mem_append_right _ hv),e2⟩
   ·rw [List.mem_append,C1.me,C2.me,List.mem_append]
    constructor
    ·rintro ((⟨z1,z2⟩ | ⟨z1,z2,z3⟩) | (⟨z1,z2⟩ | ⟨z1,z2,z3⟩))
     ·exact .inl ⟨.inl z1,z2⟩
     ·exact .inr ⟨z1,(pre_app _ _).trans z2,z3⟩
     ·exact .inl ⟨.inr z1,z2⟩
     ·exact .inr ⟨z1,(pre_app _ _).trans z2,z3⟩
    ·rintro (⟨z1 | z1,z2⟩ | ⟨z1,z2,z3⟩)
     ·exact .inl (.inl ⟨z1,z2⟩)
     ·exact .inr (.inl ⟨z1,z2⟩)
     ·obtain ⟨u,hu,eu,cu⟩:=(hF.me x).mp ⟨z1,z2⟩
      rcases List.mem_cons.mp hu with rfl | hu
      ·obtain rfl:q=x:=eu
       rw [e] at cu
       cases cu
      ·rcases List.mem_append.mp hu with hu | hu
       ·exact .inl (.inr ⟨z1,eu ▸ f2 u hu,z3⟩)
       ·exact .inr (.inr ⟨z1,eu ▸ f1 u hu,z3⟩)
inductive Sc (b c:Int) : Tr→Tr→Prop
 | en {w w':Int} : w' * b=w * c→Sc b c (.en w) (.en w')
 | fk {w w':Int}{y n y' n':Tr} : w' * b=w * c→Sc b c y y'→Sc b c n n'→Sc b c (.fk w y n) (.fk w' y' n')
theorem Sc.wt {b c:Int}{t t':Tr}(h:Sc b c t t') : t'.wt * b=t.wt * c:=by cases h <;> assumption
theorem Sc.lv {b c:Int}{t t':Tr}(h:Sc b c t t') : t'.lv=t.lv:=by
 induction h with
 | en _=>rfl
 | fk _ _ _ h1 h2=>show _ + _=_ + _; rw [h1,h2]
theorem Sc.lk {b c:Int}{t:Tr}{q:Str}{ps:List Str}{us:List (Str × Int × Int)}{s m:Int}(h:LK t q ps us s m) : ∀ {t':Tr},Sc b c t t'→∃ us' s',LK t' q ps us' s' m∧s' * b=s * c∧(∀ u∈us,∃ v∈us',v.1=u.1∧v.2.1 * b=u.2.1 * c∧v.2.2=u.2.2)∧∀ v∈us',∃ u∈us,v.1=u.1∧v.2.1 * b=u.2.1 * c∧v.2.2=u.2.2:=by
 induction h with
 | stop t q=>exact fun h=>⟨[],_,.stop _ q,h.wt,fun u hu=>(by cases hu),fun u hu=>(by cases hu)⟩
 | @go w y n q ps1 ps2 us1 us2 s1 s2 m1 m2 g1 g2 h1 h2 =>
  intro t' h
  cases h with
  | @fk _ w' _ _ y' n' e k1 k2 =>
   obtain ⟨u1,z1,l1,e1,a1,b1⟩:=h1 k1
   obtain ⟨u2,z2,l2,e2,a2,b2⟩:=h2 k2
   have ew:(w' - (z1 + z2)) * b=(w - (s1 + s2)) * c:=by
    rw [Int.sub_mul,Int.sub_mul,Int.add_mul,Int.add_mul]
    omega
   refine ⟨_,_,.go l1 l2,by rw [Int.add_mul,Int.add_mul]; omega,fun u hu=>?_,fun u hu=>?_⟩
   ·rcases List.mem_cons.mp hu with rfl | hu
    ·exact ⟨_,List.mem_cons_self,rfl,ew,rfl⟩
    ·rcases List.mem_append.mp hu with hu | hu
     ·obtain ⟨v,hv,z⟩:=a2 u hu
      exact ⟨v,List.mem_cons_of_mem _ (List.mem_append_left _ hv),z⟩
     ·obtain ⟨v,hv,z⟩:=a1 u hu
      exact ⟨v,List.mem_cons_of_mem _ (List.mem_append_right _ hv),z⟩
   ·rcases List.mem_cons.mp hu with rfl | hu
    ·exact ⟨_,List.mem_cons_self,rfl,ew,rfl⟩
    ·rcases List.mem_append.mp hu with hu | hu
     ·obtain ⟨v,hv,z⟩:=b2 u hu
      exact ⟨v,List.mem_cons_of_mem _ (List.mem_append_left _ hv),z⟩
     ·obtain ⟨v,hv,z⟩:=b1 u hu
      exact ⟨v,List.mem_cons_of_mem _ (List.mem_append_right _ hv),z⟩
def Weak (us:List (Str × Int × Int))(u:Str × Int × Int) : Prop:=u∈us∧∀ v∈us,u.2.1 * v.2.2≤v.2.1 * u.2.2
theorem sc_le {b c x y:Int}{k l x' y':Int}(hb:0 < b)(hc:0 < c)(hx:x' * b=x * c)(hy:y' * b=y * c) : x' * k≤y' * l↔x * k≤y * l:=by
 have e1:x' * k * b=x * k * c:=by grind
 have e2:y' * l * b=y * l * c:=by grind
 rw [← Int.mul_le_mul_right hb,e1,e2,Int.mul_le_mul_right hc]
theorem Weak.sc {b c:Int}{us us':List (Str × Int × Int)}(hb:0 < b)(hc:0 < c)(h1:∀ u∈us,∃ v∈us',v.1=u.1∧v.2.1 * b=u.2.1 * c∧v.2.2=u.2.2)(h2:∀ v∈us',∃ u∈us,v.1=u.1∧v.2.1 * b=u.2.1 * c∧v.2.2=u.2.2)(x:Str) : (∃ v,Weak us' v∧v.1=x)↔∃ u,Weak us u∧u.1=x:=by
 constructor
 ·rintro ⟨v,⟨hv,le⟩,rfl⟩
  obtain ⟨u,hu,e1,e2,e3⟩:=h2 v hv
  refine ⟨u,⟨hu,fun w hw=>?_⟩,e1.symm⟩
  obtain ⟨w',hw',f1,f2,f3⟩:=h1 w hw
  have:=le w' hw'
  rw [f3,e3] at this
  exact (sc_le hb hc e2 f2).mp this
 ·rintro ⟨u,⟨hu,le⟩,rfl⟩
  obtain ⟨v,hv,e1,e2,e3⟩:=h1 u hu
  refine ⟨v,⟨hv,fun w' hw'=>?_⟩,e1⟩
  obtain ⟨w,hw,f1,f2,f3⟩:=h2 w' hw'
  have:=le w hw
  rw [f3,e3]
  exact (sc_le hb hc e2 f2).mpr this
structure Nxt (t:Tr) (B:Int) (x y:Rat × List Str) : Prop where
 ex:∃ us s m us' s' m' F c u,LK t "" x.2 us s m∧Weak us u∧y.1=Rat.divInt u.2.1 (u.2.2 * B)∧0 < u.2.1∧0 < u.2.2∧(∀ z,z∈F↔∃ v,Weak us v∧v.1=z)∧Cuts t "" u.2.1 u.2.2 c F x.2 us s m y.2 us' s' m'∧m' < m
theorem TV.cv {K:PySem.W.Frag}{H:Hp}{B:Int}(hB:0 < B) : ∀ {t:Tr}{v:V},TV K H v (htD B t)→CV K H v (t.hd B)
 | .en w,v,h=>by
  obtain ⟨p,c,rfl,hp,hc⟩:=TV.hen h
  obtain ⟨c2,rfl,hc2⟩:=TV.rD hB hc
  exact .en hp hc2
 | .fk w y n,v,h=>by
  obtain ⟨p,c,a,b,rfl,hp,hc,h1,h2⟩:=TV.hfk h
  obtain ⟨c2,rfl,hc2⟩:=TV.rD hB hc
  exact .fk hp hc2 (TV.cv hB h1) (TV.cv hB h2)
theorem den_dvd {w B:Int}(hB:0 < B) : ((Rat.divInt w B).den:Int) ∣ B:=by
 rw [← M.den_low hB]
 obtain ⟨k,hk⟩:=(M.G_dvd w B).2
 have p:=M.G_pos w B
 refine ⟨M.G w B,?_⟩
 rw [Int.ediv_mul_cancel (M.G_dvd w B).2]
theorem lcm_ok {C D B:Int}(c0:0 < C)(d0:0 < D)(b0:0 < B)(hc:C ∣ B)(hd:D ∣ B) : 0 < C * (D / M.G C D)∧C * (D / M.G C D) ∣ B∧C ∣ C * (D / M.G C D)∧D ∣ C * (D / M.G C D):=by
 obtain ⟨c,rfl⟩ : ∃ c:Nat,C=(c:Int):=⟨C.toNat,by omega⟩
 obtain ⟨d,rfl⟩ : ∃ d:Nat,D=(d:Int):=⟨D.toNat,by omega⟩
 obtain ⟨b,rfl⟩ : ∃ b:Nat,B=(b:Int):=⟨B.toNat,by omega⟩
 have e:(c:Int) * ((d:Int) / M.G (c:Int) (d:Int))=((Nat.lcm c d:Nat) : Int):=by
  rw [M.G_eq (by omega)]
  show (c:Int) * ((d:Int) / ((Nat.gcd c d:Nat) : Int))=_
  rw [← Int.natCast_ediv,← Int.natCast_mul]
  congr 1
  unfold Nat.lcm
  rw [Nat.mul_div_assoc _ (Nat.gcd_dvd_right c d)]
 rw [e]
 have hc:=Int.natCast_dvd_natCast.mp hc
 have hd:=Int.natCast_dvd_natCast.mp hd
 refine ⟨?_,Int.natCast_dvd_natCast.mpr (Nat.lcm_dvd hc hd),Int.natCast_dvd_natCast.mpr (Nat.dvd_lcm_left c d),Int.natCast_dvd_natCast.mpr (Nat.dvd_lcm_right c d)⟩
 have:=Nat.lcm_pos (m:=c) (n:=d) (by omega) (by omega)
 omega
def sp_cbottom (K:PySem.W.Frag) : Sp:=fun vs H Q _=>∃ (v:V) (t:Tr) (B:Int),vs = [v]∧TV K H v (htD B t)∧t.lv≤30∧0 < B∧Bz 128 B∧∀ H' (C:Int),Same H H'→0 < C→C ∣ B→(∀ e∈plt t "", ((Rat.divInt e.2.wt B).den:Int) ∣ C)→Q (.int C) H'
theorem dvd_bz {C B:Int}(b0:0 < B)(bz:Bz 128 B)(h:C ∣ B) : Bz 128 C:=bz.le (Nat.le_of_dvd (by omega) (Int.natAbs_dvd_natAbs.mpr h))
def Dn (B C:Int) : Tr→Prop
 | .en w=>((Rat.divInt w B).den:Int) ∣ C
 | .fk w y n=>((Rat.divInt w B).den:Int) ∣ C∧Dn B C y∧Dn B C n
theorem Dn.of {B C:Int} : ∀ {t:Tr}{q:Str},(∀ e∈plt t q,((Rat.divInt e.2.wt B).den:Int) ∣ C)→Dn B C t
 | .en w,q,h=>h (q,.en w) List.mem_cons_self
 | .fk w y n,q,h=>⟨h (q,.fk w y n) List.mem_cons_self,Dn.of fun e he=>h e (List.mem_cons_of_mem _ (List.mem_append_left _ he)),Dn.of fun e he=>h e (List.mem_cons_of_mem _ (List.mem_append_right _ he))⟩
theorem Dn.w {B C:Int} : ∀ {t:Tr},Dn B C t→((Rat.divInt t.wt B).den:Int) ∣ C
 | .en _,h=>h
 | .fk _ _ _,h=>h.1
theorem lift_w {w B C:Int}(b0:0 < B)(h:((Rat.divInt w B).den:Int) ∣ C) : (Rat.divInt w B).num * (C / ((Rat.divInt w B).den:Int)) * B=w * C:=by
 have e:=low_eq (t:=w) b0
 obtain ⟨k,hk⟩:=h
 have p:=low_p (t:=w) (b:=B)
 generalize (Rat.divInt w B).num=x at *
 generalize ((Rat.divInt w B).den:Int)=y at *
 subst hk
 rw [Int.mul_ediv_cancel_left _ (by omega)]
 grind
def sp_lifted (K:PySem.W.Frag)(d:Nat) : Sp:=fun vs H Q _=>∃ (v:V) (t:Tr) (B C:Int),vs = [v,.int C]∧TV K H v (htD B t)∧t.dp≤d∧0 < B∧Bz 128 B∧t.B∧0 < C∧Bz 128 C∧Dn B C t∧∀ H' x t',Same H H'→TV K H' x (trD t')→Sc B C t t'→Q x H'
theorem sc_bd {w w' B C:Int}(c0:0 < C)(cb:C≤B)(h:w' * B=w * C)(hw:wB w) : wB w':=by
 have b0:0 < B:=by omega
 obtain ⟨h1,h2⟩:=hw
 constructor
 ·refine Int.lt_of_not_ge fun z=>?_
  have e1:w' * B ≤ -100000000000000000000000000000000 * B:=Int.mul_le_mul_of_nonneg_right z (by omega)
  have e2 : -100000000000000000000000000000000 * C < w * C:=Int.mul_lt_mul_of_pos_right h1 c0
  omega
 ·refine Int.lt_of_not_ge fun z=>?_
  have e1:100000000000000000000000000000000 * B≤w' * B:=Int.mul_le_mul_of_nonneg_right z (by omega)
  have e2:w * C < 100000000000000000000000000000000 * C:=Int.mul_lt_mul_of_pos_right h2 c0
  omega
theorem Sc.B {B C:Int}{t t':Tr}(c0:0 < C)(cb:C≤B)(h:Sc B C t t')(hb:t.B) : t'.B:=by
 induction h with
 | en e=>exact sc_bd c0 cb e hb
 | fk e _ _ h1 h2=>exact ⟨sc_bd c0 cb e hb.1,h1 hb.2.1,h2 hb.2.2⟩
def sp_inwhole (K:PySem.W.Frag) : Sp:=fun vs H Q _=>∃ (v:V) (t:Tr) (B:Int),vs = [v]∧TV K H v (htD B t)∧t.lv≤21∧0 < B∧Bz 128 B∧t.B∧∀ H' x t' (C:Int),Same H H'→TV K H' x (trD t')→Sc B C t t'→0 < C→C≤B→t'.B→Q x H'
inductive DR (H:Hp) : List (Key × V)→List (Str × Int × Int)→Prop
 | nil:DR H [] []
 | cons {p:Addr}{e:Str × Int × Int}{kvs:List (Key × V)}{es:List (Str × Int × Int)} : H p=some (.tup [.int e.2.1,.int e.2.2])→DR H kvs es→DR H ((.inr e.1,.ref p) :: kvs) (e :: es)
theorem DR.mono {H H':Hp}{kvs:List (Key × V)}{es:List (Str × Int × Int)}(h:DR H kvs es)(s:SameT H H') : DR H' kvs es:=by
 induction h with
 | nil=>exact .nil
 | cons t _ ih=>exact .cons (s _ _ t) ih
theorem DR.snoc {H:Hp}{kvs:List (Key × V)}{es:List (Str × Int × Int)}{p:Addr}{e:Str × Int × Int}(h:DR H kvs es)(t:H p=some (.tup [.int e.2.1,.int e.2.2])) : DR H (kvs ++ [(.inr e.1,.ref p)]) (es ++ [e]):=by
 induction h with
 | nil=>exact .cons t .nil
 | cons a _ ih=>exact .cons a ih
theorem DR.length {H:Hp}{kvs:List (Key × V)}{es:List (Str × Int × Int)}(h:DR H kvs es) : kvs.length=es.length:=by
 induction h with
 | nil=>rfl
 | cons _ _ ih=>rw [List.length_cons,List.length_cons,ih]
theorem DR.vno {H:Hp}{kvs:List (Key × V)}{es:List (Str × Int × Int)}{x:Str}(h:DR H kvs es)(n:x ∉ es.map (·.1)) : valV kvs (.inr x)=none:=by
 induction h with
 | nil=>rfl
 | @cons p e kvs es _ _ ih =>
  rw [List.map_cons,List.mem_cons,not_or] at n
  rw [valV_neg (by intro z; injection z with z; exact n.1 z.symm)]
  exact ih n.2
theorem DR.val {H:Hp}{kvs:List (Key × V)}{es:List (Str × Int × Int)}{e:Str × Int × Int}(h:DR H kvs es)(nd:(es.map (·.1)).Nodup)(m:e∈es) : ∃ p,valV kvs (.inr e.1)=some (.ref p)∧H p=some (.tup [.int e.2.1,.int e.2.2]):=by
 induction h with
 | nil=>cases m
 | @cons p f kvs es t _ ih =>
  rw [List.map_cons,List.nodup_cons] at nd
  rcases List.mem_cons.mp m with z | z
  ·subst z
   exact ⟨p,valV_pos rfl,t⟩
  ·have ne:f.1 ≠ e.1:=fun y=>nd.1 (by rw [y]; exact List.mem_map.mpr ⟨e,z,rfl⟩)
   rw [valV_neg (by intro y; injection y with y; exact ne y)]
   exact ih nd.2 z
theorem DR.get {H:Hp}{kvs:List (Key × V)}{es:List (Str × Int × Int)}{i:Nat}{k:Key}{v:V}(h:DR H kvs es)(e:kvs[i]? = some (k,v)) : ∃ x p,es[i]? = some x∧k = .inr x.1∧v = .ref p∧H p=some (.tup [.int x.2.1,.int x.2.2]):=by
 induction h generalizing i with
 | nil=>cases i <;> cases e
 | @cons p x kvs es t _ ih =>
  cases i with
  | zero =>
   have e:=Option.some.inj e
   cases e
   exact ⟨x,p,rfl,rfl,rfl,t⟩
  | succ i=>exact ih e
def ent (W:Str→Int)(ps:List Str)(x:Str) : Str × Int × Int:=(x,((und ps x).map W).sum,((und ps x).length:Int))
def lnk (W:Str→Int)(ps:List Str)(x:Str) : Str × Int × Int:=(x,W x - ((und ps x).map W).sum,((und ps x).length:Int) - 1)
theorem ent_key (W:Str→Int)(ps xs:List Str) : (xs.map (ent W ps)).map (·.1)=xs:=by rw [List.map_map]; exact List.map_id xs
theorem lnk_key (W:Str→Int)(ps xs:List Str) : (xs.map (lnk W ps)).map (·.1)=xs:=by rw [List.map_map]; exact List.map_id xs
theorem PI.leaf {t:Tr}{ps gs:List Str}(h:PI t "" ps gs){x:Str}(hx:x∈ps) : und ps x = [x]:=by
 have up:=h.isP.up
 have nd:=h.facts.n1
 have ends:=h.end'
 have one:=h.one
 have al:∀ y∈und ps x,y=x:=fun y hy=>by
  obtain ⟨hy1,hy2⟩:=List.mem_filter.mp hy
  have px:=(starts_iff y x).mp hy2
  obtain ⟨u,hu,e,pu⟩:=ends y hy1
  exact one_of (mem_bgs.mpr ⟨hy1,pu⟩) (mem_bgs.mpr ⟨hx,px.trans pu⟩) (one u hu e)
 have mx:x∈und ps x:=List.mem_filter.mpr ⟨hx,(starts_iff x x).mpr (List.prefix_refl _)⟩
 have l1:(und ps x).length=1:=one_self (nd.sublist List.filter_sublist) mx al
 obtain ⟨z,e⟩:=List.length_eq_one_iff.mp l1
 rw [e] at mx ⊢
 rw [List.mem_singleton.mp mx]
theorem filter_two {α:Type}{p p1 p2:α→Bool} : ∀ {l:List α},(∀ x∈l,p x=(p1 x || p2 x)∧(p1 x && p2 x)=false)→(l.filter p).Perm (l.filter p1 ++ l.filter p2)
 | [],_=>List.Perm.refl _
 | x :: l,h=>by
  have ih:=filter_two (l:=l) fun y hy=>h y (List.mem_cons_of_mem _ hy)
  obtain ⟨h1,h2⟩:=h x List.mem_cons_self
  rw [List.filter_cons,List.filter_cons,List.filter_cons,h1]
  cases e1:p1 x with
  | true =>
   rw [e1] at h2
   have e2:p2 x=false:=h2
   rw [e2]
   exact ih.cons x
  | false =>
   cases e2:p2 x with
   | true=>exact (ih.cons x).trans List.perm_middle.symm
   | false=>exact ih
theorem next_yn {f x:Str}(h:cds f <+: cds x)(n:f ≠ x)(yn:∀ c∈cds x,c=121∨c=110) : cds (f ++ "n") <+: cds x∨cds (f ++ "y") <+: cds x:=by
 obtain ⟨r,e⟩:=h
 cases r with
 | nil=>exact absurd (str_ext (by rw [← e,List.append_nil])) n
 | cons c r =>
  have:=yn c (by rw [← e]; exact List.mem_append_right _ List.mem_cons_self)
  rcases this with rfl | rfl
  ·right
   rw [cds_app,cd_yn.1]
   exact ⟨r,by rw [← e,List.append_assoc]; rfl⟩
  ·left
   rw [cds_app,cd_yn.2]
   exact ⟨r,by rw [← e,List.append_assoc]; rfl⟩
theorem PI.und2 {t:Tr}{ps gs:List Str}(h:PI t "" ps gs){f:Str}(hf:f∈gs) : (und ps f).Perm (und ps (f ++ "n") ++ und ps (f ++ "y")):=by
 refine filter_two fun x hx=>?_
 have kn:=pl_yn (h.kn x hx)
 have nf:f ≠ x:=fun e=>h.facts.ap x hx f hf (by rw [e]; exact List.prefix_refl _)
 have s0:=starts_iff x f
 have s1:=starts_iff x (f ++ "n")
 have s2:=starts_iff x (f ++ "y")
 constructor
 ·rw [Bool.eq_iff_iff,Bool.or_eq_true,s0,s1,s2]
  exact ⟨fun z=>next_yn z nf kn,fun z=>z.elim (fun z=>(pre_app _ _).trans z) fun z=>(pre_app _ _).trans z⟩
 ·rw [Bool.eq_false_iff,Ne,Bool.and_eq_true,s1,s2]
  exact fun z=>yn_apart z.2 z.1
theorem sum_perm {l l':List Int}(h:l.Perm l') : l.sum=l'.sum:=by
 induction h with
 | nil=>rfl
 | cons x _ ih=>rw [List.sum_cons,List.sum_cons,ih]
 | swap x y l=>rw [List.sum_cons,List.sum_cons,List.sum_cons,List.sum_cons]; omega
 | trans _ _ h1 h2=>exact h1.trans h2
theorem ent_fork {W:Str→Int}{t:Tr}{ps gs:List Str}(h:PI t "" ps gs){f:Str}(hf:f∈gs) : ent W ps f=(f,(ent W ps (f ++ "y")).2.1 + (ent W ps (f ++ "n")).2.1,(ent W ps (f ++ "y")).2.2 + (ent W ps (f ++ "n")).2.2):=by
 have p:=h.und2 hf
 unfold ent
 have e1:((und ps f).map W).sum=((und ps (f ++ "n")).map W).sum + ((und ps (f ++ "y")).map W).sum:=by rw [sum_perm (p.map W),List.map_append,List.sum_append]
 have e2:(und ps f).length=(und ps (f ++ "n")).length + (und ps (f ++ "y")).length:=by rw [p.length_eq,List.length_append]
 rw [e1,e2]
 congr 1
 congr 1
 ·exact Int.add_comm _ _
 ·show ((_ + _:Nat) : Int)=((und ps (f ++ "y")).length:Int) + ((und ps (f ++ "n")).length:Int)
  omega
theorem PI.kids {t:Tr}{q:Str}{ps gs:List Str}(h:PI t q ps gs) : ∀ f∈gs,(f ++ "y" ∈ ps∨f ++ "y" ∈ gs)∧(f ++ "n" ∈ ps∨f ++ "n" ∈ gs):=by
 induction h with
 | stop t q=>intro f hf; cases hf
 | @go w y n q ps1 ps2 fs1 fs2 g1 g2 h1 h2 =>
  have root:∀ {u:Tr}{r:Str}{qs hs:List Str},PI u r qs hs→r∈qs∨r∈hs:=fun g=>by
   cases g with
   | stop=>exact .inl List.mem_cons_self
   | go=>exact .inr List.mem_cons_self
  intro f hf
  have up:∀ {x:Str}{a b:List Str},x∈a∨x∈b→(a ⊆ ps2 ++ ps1)→(b ⊆ q :: (fs2 ++ fs1))→x∈ps2 ++ ps1∨x∈q :: (fs2 ++ fs1):=fun z s1 s2=>z.imp (fun z=>s1 z) fun z=>s2 z
  have i1:ps1 ⊆ ps2 ++ ps1:=List.subset_append_right _ _
  have i2:ps2 ⊆ ps2 ++ ps1:=List.subset_append_left _ _
  have j1:fs1 ⊆ q :: (fs2 ++ fs1):=fun z hz=>List.mem_cons_of_mem _ (List.mem_append_right _ hz)
  have j2:fs2 ⊆ q :: (fs2 ++ fs1):=fun z hz=>List.mem_cons_of_mem _ (List.mem_append_left _ hz)
  rcases List.mem_cons.mp hf with rfl | hf
  ·exact ⟨up (root g1) i1 j1,up (root g2) i2 j2⟩
  ·rcases List.mem_append.mp hf with hf | hf
   ·exact ⟨up (h2 f hf).1 i2 j2,up (h2 f hf).2 i2 j2⟩
   ·exact ⟨up (h1 f hf).1 i1 j1,up (h1 f hf).2 i1 j1⟩
theorem dt_at0 {K:PySem.W.Frag}{H:Hp}{d:Addr}{kvs:List (Key × V)}{es:List (Str × Tr)}{t:Tr}(hd:H d=some (.dK kvs)) (dt:DT K 0 H kvs es) (pm:es.Perm (plt t "")) {x:Str}(hx:x∈(plc t "").map (·.1)) :
  ∃ p k r,DGet H d (.str x) (some (.ref p))∧H p=some (.tup (.str k :: .int (wA t x) :: r)):=by
 have nd:(es.map (·.1)).Nodup:=(pm.map (·.1)).nodup_iff.mpr (plt_nodup t "")
 rw [plt_plc,List.map_map] at hx
 obtain ⟨⟨x',u⟩,he,ex⟩:=List.mem_map.mp hx
 obtain rfl:x'=x:=ex
 obtain ⟨v,ev,tv⟩:=dt.val nd (pm.mem_iff.mpr he)
 rw [htD_0] at tv
 obtain ⟨p,k,r,rfl,hp⟩:=TV.wt tv
 have g:DGet H d (.str x') (valV kvs (.inr x')):=DGet.k (k:=.inr x') hd
 rw [ev] at g
 exact ⟨p,k,r,g,by rw [wA_at _ he]; exact hp⟩
theorem at1' {k:Str}{w:Int}{r:List V} : atI (V.str k :: V.int w :: r) 1=some (.int w):=by
 have e:atI (V.str k :: V.int w :: r) ((1:Nat) : Int)=some (.int w):=atI_nat rfl
 exact e
theorem nd_take {α:Type}{l:List α}{i:Nat}{x:α}(nd:l.Nodup)(h:l[i]? = some x) : x ∉ l.take i:=fun z=>by
 have n2:=nd
 rw [← List.take_append_drop i l,List.nodup_append] at n2
 refine n2.2.2 x z x ?_ rfl
 refine List.mem_of_getElem? (i:=0) ?_
 rw [List.getElem?_drop]
 exact h
theorem rev_before {l:List Str}(h:l.Pairwise (fun a b=>cds a≤cds b)){i:Nat}{x y:Str}(hx:l.reverse[i]? = some x)(hy:y∈l)(lt:cds x < cds y) : y∈l.reverse.take i:=by
 have h2:l.reverse.Pairwise (fun a b=>cds b≤cds a):=List.pairwise_reverse.mpr h
 have hy2:=List.mem_reverse.mpr hy
 rw [← List.take_append_drop i l.reverse] at hy2 h2
 rcases List.mem_append.mp hy2 with z | z
 ·exact z
 ·exfalso
  have hd:l.reverse.drop i=x :: l.reverse.drop (i + 1):=List.drop_eq_getElem?_toList_append.trans (by rw [hx]; rfl)
  have h3:=(List.pairwise_append.mp h2).2.1
  rw [hd] at z h3
  rcases List.mem_cons.mp z with rfl | z
  ·exact List.lt_irrefl _ lt
  ·exact absurd ((List.pairwise_cons.mp h3).1 y z) (List.not_le.mpr lt)
theorem put_pair {H:Hp}{z p:Addr}{kv:List (Key × V)}{es:List (Str × Int × Int)}{x:Str}{a b:Int}(hp:H p=none) (hz:H z=some (.dK kv)) (dr:DR H kv es) :
  SameT H (upd (upd H p (.tup [.int a,.int b])) z (.dK (kv ++ [(.inr x,.ref p)])))∧upd (upd H p (.tup [.int a,.int b])) z (.dK (kv ++ [(.inr x,.ref p)])) z=some (.dK (kv ++ [(.inr x,.ref p)])) ∧
  DR (upd (upd H p (.tup [.int a,.int b])) z (.dK (kv ++ [(.inr x,.ref p)]))) (kv ++ [(.inr x,.ref p)]) (es ++ [(x,a,b)])∧∀ c o,c ≠ z→H c=some o→upd (upd H p (.tup [.int a,.int b])) z (.dK (kv ++ [(.inr x,.ref p)])) c=some o:=by
 have s1:=(SameT.refl H).new hp (.tup [.int a,.int b])
 have hz1:upd H p (.tup [.int a,.int b]) z=some (.dK kv):=kp hz hp
 have s2:=st_dk (SameT.refl _) hz1 (.dK (kv ++ [(.inr x,.ref p)]))
 refine ⟨st_dk s1 hz1 _,upd_same,?_,fun c o hc e=>?_⟩
 ·exact DR.snoc (e:=(x,a,b)) ((dr.mono s1).mono s2) (s2 _ _ upd_same)
 ·rw [upd_ne hc]
  exact kp e hp
theorem frac_tr {a b c d e f:Int}(b0:0 < b)(d0:0 < d)(f0:0 < f)(h1:a * d≤c * b)(h2:c * f≤e * d) : a * f≤e * b:=by
 have h3:a * d * f≤c * b * f:=Int.mul_le_mul_of_nonneg_right h1 (by omega)
 have h4:c * f * b≤e * d * b:=Int.mul_le_mul_of_nonneg_right h2 (by omega)
 have h5:a * f * d≤e * b * d:=by
  have e1:a * f * d=a * d * f:=by grind
  have e2:e * b * d=e * d * b:=by grind
  have e3:c * b * f=c * f * b:=by grind
  omega
 exact Int.le_of_mul_le_mul_right h5 d0
def sp_sums (K:PySem.W.Frag) : Sp:=fun vs H Q _=>∃ (v:V) (t:Tr) (a:Addr) (ps gs:List Str),vs = [v,.ref a]∧TV K H v (trD t)∧t.lv≤21∧t.B∧H a=some (.lst (ps.map V.str))∧PI t "" ps gs ∧
 ∀ H' d kvs (fs:List Str),Same H H'→H d=none→H' d=some (.dK kvs)→fs.Perm gs→DR H' kvs ((ps ++ fs).map (ent (wA t) ps))→Q (.ref d) H'
def sp_wlinks (K:PySem.W.Frag) : Sp:=fun vs H Q _=>∃ (v:V) (t:Tr) (a:Addr) (ps gs:List Str),vs = [v,.ref a]∧TV K H v (trD t)∧t.lv≤21∧t.B∧H a=some (.lst (ps.map V.str))∧PI t "" ps gs ∧
 ∀ H' d kvs (fs:List Str),Same H H'→H d=none→H' d=some (.dK kvs)→fs.Perm gs→DR H' kvs (fs.map (lnk (wA t) ps))→Q (.ref d) H'
def sp_least (K:PySem.W.Frag) : Sp:=fun vs H Q _=>∃ (v:V) (t:Tr) (a:Addr) (ps:List Str) (us:List (Str × Int × Int)) (s m:Int),vs = [v,.ref a]∧TV K H v (trD t)∧t.lv≤21∧t.B∧H a=some (.lst (ps.map V.str))∧LK t "" ps us s m∧us ≠ [] ∧
 ∀ H' p (rs:List Str),Same H H'→H' p=some (.lst (rs.map V.str))→rs.Nodup→rs ≠ []→(∀ x,x∈rs↔∃ u,Weak us u∧u.1=x)→Q (.ref p) H'
inductive QVs (H:Hp) : List V→List (Rat × List Str)→Prop
 | nil:QVs H [] []
 | cons {p r l:Addr}{q:Rat}{ps:List Str}{xs:List V}{sts:List (Rat × List Str)} : H p=some (.tup [.ref r,.ref l])→H r=some (rt q)→H l=some (.lst (ps.map V.str))→QVs H xs sts→QVs H (.ref p :: xs) ((q,ps) :: sts)
theorem QVs.same {H H':Hp}{xs:List V}{sts:List (Rat × List Str)}(h:QVs H xs sts)(s:Same H H') : QVs H' xs sts:=by
 induction h with
 | nil=>exact .nil
 | cons h1 h2 h3 _ ih=>exact .cons (s _ _ h1) (s _ _ h2) (s _ _ h3) ih
theorem QVs.put {H:Hp}{z p0:Addr}{ys:List V}{xs:List V}{sts:List (Rat × List Str)}(h:QVs H xs sts)(hz:H z=some (.lst (.ref p0 :: ys)))(o:HO) : QVs (upd H z o) xs sts:=by
 induction h with
 | nil=>exact .nil
 | @cons p r l q ps xs sts h1 h2 h3 _ ih =>
  refine .cons (by rw [upd_ne (ne_of h1 hz (by intro z; cases z))]; exact h1) (by rw [upd_ne (ne_of h2 hz (by intro z; cases z))]; exact h2) ?_ ih
  rw [upd_ne (ne_of h3 hz ?_)]
  ·exact h3
  ·intro e
   cases ps <;> cases e
theorem QVs.len {H:Hp}{xs:List V}{sts:List (Rat × List Str)}(h:QVs H xs sts) : xs.length=sts.length:=by
 induction h with
 | nil=>rfl
 | cons _ _ _ _ ih=>rw [List.length_cons,List.length_cons,ih]
theorem QVs.at {H:Hp}{xs:List V}{sts:List (Rat × List Str)}(h:QVs H xs sts) : ∀ {i:Nat}{x:V},xs[i]? = some x→∃ p r l q ps,x = .ref p∧H p=some (.tup [.ref r,.ref l])∧H r=some (rt q)∧H l=some (.lst (ps.map V.str))∧sts[i]? = some (q,ps):=by
 induction h with
 | nil=>intro i x h; cases h
 | cons h1 h2 h3 _ ih =>
  intro i x h
  cases i with
  | zero=>cases h; exact ⟨_,_,_,_,_,rfl,h1,h2,h3,rfl⟩
  | succ i=>exact ih (i:=i) h
theorem QVs.snoc {H:Hp}{xs:List V}{sts:List (Rat × List Str)}{p r l:Addr}{q:Rat}{ps:List Str}(h:QVs H xs sts)(h1:H p=some (.tup [.ref r,.ref l]))(h2:H r=some (rt q))(h3:H l=some (.lst (ps.map V.str))) : QVs H (xs ++ [.ref p]) (sts ++ [(q,ps)]):=by
 induction h with
 | nil=>exact .cons h1 h2 h3 .nil
 | cons a b c _ ih=>exact .cons a b c ih
inductive Pth (t:Tr) (B:Int) : List (Rat × List Str)→Int→Int→List (Str × Int × Int)→Prop
 | one {us:List (Str × Int × Int)}{m:Int} : LK t "" (best 1 0 t "").1 us (best 1 0 t "").2 m→(∀ u∈us,0 < u.2.1)→Pth t B [(0,(best 1 0 t "").1)] 0 1 us
 | step {l:List (Rat × List Str)}{x:Rat × List Str}{a b:Int}{us us':List (Str × Int × Int)}{s m s' m':Int}{u:Str × Int × Int}{c:Str→Bool}{F ps':List Str} : Pth t B (l ++ [x]) a b us→LK t "" x.2 us s m→Weak us u→(∀ z,z∈F↔∃ v,Weak us v∧v.1=z)→Cutc u.2.1 u.2.2 c us→Cutf F c "" us→Cuts t "" u.2.1 u.2.2 c F x.2 us s m ps' us' s' m'→m' < m→Pth t B (l ++ [x] ++ [(Rat.divInt u.2.1 (u.2.2 * B),ps')]) u.2.1 u.2.2 us'
theorem Pth.gt {t:Tr}{B a b:Int}{sts:List (Rat × List Str)}{us:List (Str × Int × Int)}(h:Pth t B sts a b us) : 0≤a∧0 < b∧∀ u∈us,a * u.2.2 < u.2.1 * b:=by
 induction h with
 | one _ h2=>exact ⟨Int.le_refl _,by decide,fun u hu=>by have:=h2 u hu; omega⟩
 | @step l x a b us us' s m s' m' u c F ps' p lk wk hF hc hf ct lt ih =>
  have one:=lk.one.2.2.1 u wk.1
  have g:=ih.2.2 u wk.1
  refine ⟨?_,by omega,ct.gt⟩
  have h1:0≤a * u.2.2:=Int.mul_nonneg ih.1 (by omega)
  have h2:0 < u.2.1 * b:=by omega
  exact Int.le_of_lt (Int.pos_of_mul_pos_left h2 ih.2.1)
theorem LK.bd {t:Tr}{ps:List Str}{us:List (Str × Int × Int)}{s m:Int}(lk:LK t "" ps us s m)(tl:t.lv≤21)(tb:t.B) : ∀ u∈us,-10000000000000000000000000000000000≤u.2.1∧u.2.1≤10000000000000000000000000000000000:=fun u hu=>by
 have vl:=(lk.vals (wA t) wA_at).2.2 u hu
 have pl:=lk.pi.len.1
 have ul:(und ps u.1).length≤ps.length:=List.length_filter_le _ _
 have h1:=sumB (W:=wA t) (l:=und ps u.1) fun x hx=>wA_B tb (lk.pi.kn x (List.mem_filter.mp hx).1)
 have h2 : -100000000000000000000000000000000 < wA t u.1∧wA t u.1 < 100000000000000000000000000000000:=wA_B tb (List.mem_map.mpr ⟨_,lk.pi.forks.1 u.1 (List.mem_map.mpr ⟨u,hu,rfl⟩),rfl⟩)
 rw [vl.1]
 omega
theorem Pth.all {t:Tr}{B a b:Int}{sts:List (Rat × List Str)}{us:List (Str × Int × Int)}(b0:0 < B)(h:Pth t B sts a b us) : (∃ ps l,sts=(0,ps) :: l)∧∀ x∈sts,(∃ gs,PI t "" x.2 gs)∧∃ (n d:Int) (u:Str × Int × Int),x.1=Rat.divInt n (d * B)∧0≤n∧1≤d∧d≤(t.lv:Int)∧(t.lv≤21→t.B→n≤10000000000000000000000000000000000):=by
 induction h with
 | @one us m lk h2 =>
  refine ⟨⟨_,[],rfl⟩,fun x hx=>?_⟩
  rw [List.mem_singleton.mp hx]
  have:=t.lv_pos
  exact ⟨⟨_,lk.pi⟩,0,1,("", 0,0),(Rat.zero_divInt _).symm,Int.le_refl _,Int.le_refl _,by omega,fun _ _=>by omega⟩
 | @step l x a b us us' s m s' m' u c F ps' p lk wk hF hc hf ct lt ih =>
  obtain ⟨⟨ps,l2,e⟩,al⟩:=ih
  refine ⟨⟨ps,l2 ++ [_],by rw [e]; rfl⟩,fun y hy=>?_⟩
  rcases List.mem_append.mp hy with hy | hy
  ·exact al y hy
  ·rw [List.mem_singleton.mp hy]
   have one:=lk.one
   have g:=p.gt
   have g1:=g.2.2 u wk.1
   have o1:=one.2.2.1 u wk.1
   have vl:=(lk.vals (wA t) wA_at).2.2 u wk.1
   have h1:0≤a * u.2.2:=Int.mul_nonneg g.1 (by omega)
   have pl:=lk.pi.len.1
   have ul:(und x.2 u.1).length≤x.2.length:=List.length_filter_le _ _
   refine ⟨⟨_,ct.lk.pi⟩,u.2.1,u.2.2,u,rfl,Int.le_of_lt (Int.pos_of_mul_pos_left (show 0 < u.2.1 * b by omega) g.2.1),o1,by omega,fun tl tb=>(lk.bd tl tb u wk.1).2⟩
theorem us_one {us:List (Str × Int × Int)}(nd:(us.map (·.1)).Nodup){u v:Str × Int × Int}(hu:u∈us)(hv:v∈us)(e:u.1=v.1) : u=v:=by
 induction us with
 | nil=>cases hu
 | cons w us ih =>
  rw [List.map_cons,List.nodup_cons] at nd
  rcases List.mem_cons.mp hu with rfl | hu2 <;> rcases List.mem_cons.mp hv with rfl | hv2
  ·rfl
  ·exact absurd (List.mem_map.mpr ⟨v,hv2,e.symm⟩) nd.1
  ·exact absurd (List.mem_map.mpr ⟨u,hu2,e⟩) nd.1
  ·exact ih nd.2 hu2 hv2
theorem weak_cut {us:List (Str × Int × Int)}{F:List Str}{u:Str × Int × Int}(nd:(us.map (·.1)).Nodup)(d0:∀ v∈us,1≤v.2.2)(hF:∀ z,z∈F↔∃ v,Weak us v∧v.1=z)(hu:Weak us u) : Cutc u.2.1 u.2.2 (fun x=>decide (x∈F)) us:=fun v hv=>by
 have h1:=hu.2 v hv
 have du:=d0 u hu.1
 have dv:=d0 v hv
 constructor
 ·intro c
  obtain ⟨v',wv,e⟩:=(hF v.1).mp (of_decide_eq_true c)
  obtain rfl:=us_one nd wv.1 hv e
  have:=wv.2 u hu.1
  omega
 ·intro c
  have nc:=of_decide_eq_false c
  rcases Int.lt_or_le (u.2.1 * v.2.2) (v.2.1 * u.2.2) with z | z
  ·exact z
  ·exfalso
   refine nc ((hF v.1).mpr ⟨v,⟨hv,fun w hw=>?_⟩,rfl⟩)
   have dw:=d0 w hw
   exact frac_tr (by omega) (by omega) (by omega) z (hu.2 w hw)
theorem weak_f {us:List (Str × Int × Int)}{F:List Str}(nf:F.Nodup)(hF:∀ z,z∈F↔∃ v,Weak us v∧v.1=z) : Cutf F (fun x=>decide (x∈F)) "" us:=by
 refine ⟨nf,fun x=>⟨fun hx=>?_,fun hx=>?_⟩,fun x hx px=>?_⟩
 ·obtain ⟨v,wv,e⟩:=(hF x).mp hx.1
  exact ⟨v,wv.1,e,decide_eq_true hx.1⟩
 ·obtain ⟨u,hu,e,c⟩:=hx
  exact ⟨of_decide_eq_true c,List.nil_prefix⟩
 ·refine str_ext ?_
  have:cds x <+: []:=px
  rw [List.prefix_nil.mp this]
  rfl
theorem nd_len:∀ {l l':List Str},l.Nodup→(∀ x∈l,x∈l')→l.length≤l'.length
 | [],_,_,_=>Nat.zero_le _
 | a :: l,l',nd,s=>by
  rw [List.nodup_cons] at nd
  have ha:=s a List.mem_cons_self
  have h:=nd_len (l:=l) (l':=l'.erase a) nd.2 fun x hx=>(List.mem_erase_of_ne (by rintro rfl; exact nd.1 hx)).mpr (s x (List.mem_cons_of_mem _ hx))
  rw [List.length_erase_of_mem ha] at h
  have:=List.length_pos_of_mem ha
  rw [List.length_cons]
  omega
theorem cut_is {t:Tr}{ps ps' F rs:List Str}{us us':List (Str × Int × Int)}{s m s' m' a b:Int}{c:Str→Bool}(h:LK t "" ps us s m)(ct:Cuts t "" a b c F ps us s m ps' us' s' m')(nf:F.Nodup)(sb:∀ f∈F,f∈us.map (·.1))(pm:rs.Perm (kept ps F ++ tops F))(so:PyProof.Rows.sortedS rs=true) : rs=ps':=by
 have fa:=h.pi.facts
 have fa':=ct.lk.pi.facts
 refine sorted_one so (pw_sorted ct.lk.pi.isP.up) (pm.trans ?_)
 refine (List.perm_ext_iff_of_nodup ?_ fa'.n1).mpr fun x=>?_
 ·rw [List.nodup_append]
  refine ⟨fa.n1.sublist List.filter_sublist,nf.sublist List.filter_sublist,fun x hx y hy e=>?_⟩
  subst e
  exact fa.ap x (List.mem_filter.mp hx).1 x (sb x (List.mem_filter.mp hy).1) (List.prefix_refl _)
 ·rw [ct.me,List.mem_append]
  unfold kept tops
  rw [List.mem_filter,List.mem_filter,decide_eq_true_iff,decide_eq_true_iff,List.length_eq_zero_iff]
  exact or_congr Iff.rfl ⟨fun z=>⟨z.1,List.nil_prefix,z.2⟩,fun z=>⟨z.1,z.2.2⟩⟩
def sp_path (K:PySem.W.Frag) : Sp:=fun vs H Q _=>∃ (v:V) (t:Tr) (B:Int),vs = [v]∧TV K H v (htD B t)∧t.lv≤21∧1≤B∧B≤1000000000000000000000000000000∧t.B ∧
 ∀ H' p xs (sts:List (Rat × List Str)) a b,Same H H'→H p=none→H' p=some (.lst xs)→QVs H' xs sts→Pth t B sts a b []→sts.length≤21→Q (.ref p) H'
structure TlOk (x:Int × Int) : Prop where
 t0:0≤x.1
 l0:0 < x.2
 zt:Bz 260 x.1
 zl:Bz 260 x.2
structure Nbr (t:Tr) (B:Int) (x y:Rat × List Str) : Prop where
 ex:∃ (a b n d s m s' m':Int) (us us':List (Str × Int × Int)),x.1=Rat.divInt a (b * B)∧0 < b∧y.1=Rat.divInt n (d * B)∧0 < d∧a * d < n * b∧LK t "" x.2 us s m∧LK t "" y.2 us' s' m'∧s' * d + n * m'=s * d + n * m∧m' < m∧Lies y.2 x.2
theorem Pth.last {t:Tr}{B a b:Int}{sts:List (Rat × List Str)}{us:List (Str × Int × Int)}(h:Pth t B sts a b us) : ∃ l x s m,sts=l ++ [x]∧LK t "" x.2 us s m∧x.1=Rat.divInt a (b * B):=by
 cases h with
 | one lk h2=>exact ⟨[],_,_,_,rfl,lk,(Rat.zero_divInt _).symm⟩
 | step p lk wk hF hc hf ct lt=>exact ⟨_,_,_,_,rfl,ct.lk,rfl⟩
theorem snoc_inj {α:Type}{l l':List α}{x x':α}(h:l ++ [x] = l' ++ [x']) : l=l'∧x=x':=by
 have h1:=congrArg List.dropLast h
 have h2:=congrArg List.getLast? h
 rw [List.dropLast_concat,List.dropLast_concat] at h1
 rw [List.getLast?_concat,List.getLast?_concat] at h2
 exact ⟨h1,Option.some.inj h2⟩
theorem LK.uni {t:Tr}{q:Str}{ps:List Str}{us:List (Str × Int × Int)}{s m:Int}(h:LK t q ps us s m) : ∀ {us':List (Str × Int × Int)}{s' m':Int},LK t q ps us' s' m'→us'=us∧s'=s∧m'=m:=by
 induction h with
 | stop t q =>
  intro us' s' m' h'
  generalize e : [q] = ps at h'
  cases h' with
  | stop=>exact ⟨rfl,rfl,rfl⟩
  | @go w y n _ ps1 ps2 us1 us2 s1 s2 m1 m2 g1 g2 =>
   exfalso
   have h1:=g1.pi.len.2
   have h2:=g2.pi.len.2
   have h3:=congrArg List.length e
   rw [List.length_singleton,List.length_append] at h3
   omega
 | @go w y n q ps1 ps2 us1 us2 s1 s2 m1 m2 g1 g2 i1 i2 =>
  intro us' s' m' h'
  generalize e:ps2 ++ ps1=ps at h'
  cases h' with
  | stop =>
   exfalso
   have h1:=g1.pi.len.2
   have h2:=g2.pi.len.2
   have h3:=congrArg List.length e
   rw [List.length_singleton,List.length_append] at h3
   omega
  | @go _ _ _ _ ps1' ps2' us1' us2' s1' s2' m1' m2' k1 k2 =>
   have a1:=g1.pi.pre.1
   have a2:=g2.pi.pre.1
   have b1:=k1.pi.pre.1
   have b2:=k2.pi.pre.1
   have f:∀ {l1 l2:List Str},(∀ x∈l1,cds (q ++ "y") <+: cds x)→(∀ x∈l2,cds (q ++ "n") <+: cds x)→(l2 ++ l1).filter (fun x=>Txt.startswith x (q ++ "y"))=l1∧(l2 ++ l1).filter (fun x=>Txt.startswith x (q ++ "n"))=l2:=fun {l1 l2} z1 z2=>by
    rw [List.filter_append,List.filter_append]
    have c1:l2.filter (fun x=>Txt.startswith x (q ++ "y")) = []:=List.filter_eq_nil_iff.mpr fun x hx z=>yn_apart ((starts_iff x _).mp z) (z2 x hx)
    have c2:l1.filter (fun x=>Txt.startswith x (q ++ "y"))=l1:=List.filter_eq_self.mpr fun x hx=>(starts_iff x _).mpr (z1 x hx)
    have c3:l2.filter (fun x=>Txt.startswith x (q ++ "n"))=l2:=List.filter_eq_self.mpr fun x hx=>(starts_iff x _).mpr (z2 x hx)
    have c4:l1.filter (fun x=>Txt.startswith x (q ++ "n")) = []:=List.filter_eq_nil_iff.mpr fun x hx z=>yn_apart (z1 x hx) ((starts_iff x _).mp z)
    rw [c1,c2,c3,c4]
    exact ⟨rfl,List.append_nil _⟩
   have e1:=f a1 a2
   have e2:=f b1 b2
   rw [e] at e1
   have d1:ps1=ps1':=e1.1.symm.trans e2.1
   have d2:ps2=ps2':=e1.2.symm.trans e2.2
   subst d1
   subst d2
   obtain ⟨rfl,rfl,rfl⟩:=i1 k1
   obtain ⟨rfl,rfl,rfl⟩:=i2 k2
   exact ⟨rfl,rfl,rfl⟩
theorem Cuts.uni {t:Tr}{a b a' b':Int}{c c':Str→Bool}{F F' ps ps1 ps2:List Str}{us us1 us2:List (Str × Int × Int)}{s m s1 m1 s2 m2:Int}(h1:Cuts t "" a b c F ps us s m ps1 us1 s1 m1)(h2:Cuts t "" a' b' c' F' ps us s m ps2 us2 s2 m2)(n1:F.Nodup)(n2:F'.Nodup)(hF:∀ z,z∈F↔z∈F') : ps1=ps2:=by
 have pm:F.Perm F':=(List.perm_ext_iff_of_nodup n1 n2).mpr hF
 refine sorted_one (pw_sorted h1.lk.pi.isP.up) (pw_sorted h2.lk.pi.isP.up) ((List.perm_ext_iff_of_nodup h1.lk.pi.facts.n1 h2.lk.pi.facts.n1).mpr fun x=>?_)
 have e:(bgs x F).Perm (bgs x F'):=pm.filter _
 have e1:bgs x F = []↔bgs x F' = []:=by rw [← List.length_eq_zero_iff,e.length_eq,List.length_eq_zero_iff]
 rw [h1.me,h2.me,hF x,e1,e.length_eq]
theorem frac_eq {B:Int}{n d n' d':Int}(b0:0 < B)(d0:0 < d)(d0':0 < d')(h:n * d'=n' * d) : Rat.divInt n (d * B)=Rat.divInt n' (d' * B):=by
 have h1:=Int.mul_pos d0 b0
 have h2:=Int.mul_pos d0' b0
 rw [Rat.divInt_eq_divInt_iff (by omega) (by omega)]
 grind
structure StepTo (t:Tr) (B:Int) (x:Rat × List Str) (us:List (Str × Int × Int)) (y:Rat × List Str) : Prop where
 ex:∃ (u:Str × Int × Int) (c:Str→Bool) (F:List Str) (s m:Int) (us':List (Str × Int × Int)) (s' m':Int),LK t "" x.2 us s m∧Weak us u∧(∀ z,z∈F↔∃ v,Weak us v∧v.1=z)∧Cutf F c "" us∧Cuts t "" u.2.1 u.2.2 c F x.2 us s m y.2 us' s' m'∧m' < m∧y.1=Rat.divInt u.2.1 (u.2.2 * B)
theorem Pth.split {t:Tr}{B a b:Int}{sts:List (Rat × List Str)}{us:List (Str × Int × Int)}(h:Pth t B sts a b us) : ∀ {p r:List (Rat × List Str)}{z z2:Rat × List Str},sts=p ++ [z] ++ (z2 :: r)→∃ a1 b1 us1,Pth t B (p ++ [z]) a1 b1 us1∧StepTo t B z us1 z2:=by
 induction h with
 | one lk h2 =>
  intro p r z z2 e
  have:=congrArg List.length e
  rw [List.length_append,List.length_append,List.length_singleton,List.length_singleton,List.length_cons] at this
  omega
 | @step l x a b us us' s m s' m' u c F ps' hp lk wk hF hc hf ct lt ih =>
  intro p r z z2 e
  rcases List.eq_nil_or_concat r with rfl | ⟨r0,w,rfl⟩
  ·obtain ⟨e1,e2⟩:=snoc_inj (l:=l ++ [x]) (l':=p ++ [z]) e
   obtain ⟨rfl,rfl⟩:=snoc_inj e1
   exact ⟨a,b,us,hp,⟨u,c,F,s,m,us',s',m',lk,wk,hF,hf,by rw [← e2]; exact ct,lt,by rw [← e2]⟩⟩
  ·have e3:l ++ [x] ++ [(Rat.divInt u.2.1 (u.2.2 * B),ps')] = (p ++ [z] ++ (z2 :: r0)) ++ [w]:=by
    rw [e]
    simp
   exact ih (snoc_inj e3).1
theorem Pth.head {t:Tr}{B a b:Int}{sts:List (Rat × List Str)}{us:List (Str × Int × Int)}(h:Pth t B sts a b us) : ∃ l,sts=(0,(best 1 0 t "").1) :: l:=by
 induction h with
 | one _ _=>exact ⟨[],rfl⟩
 | step _ _ _ _ _ _ _ _ ih =>
  obtain ⟨l,e⟩:=ih
  exact ⟨l ++ [_],by rw [e]; rfl⟩
theorem StepTo.uni {t:Tr}{B:Int}{x y y':Rat × List Str}{us us':List (Str × Int × Int)}(b0:0 < B)(h:StepTo t B x us y)(h':StepTo t B x us' y') : y=y':=by
 obtain ⟨u,c,F,s,m,us1,s1,m1,lk,wk,hF,hf,ct,lt,e⟩:=h.ex
 obtain ⟨u',c',F',s',m',us1',s1',m1',lk',wk',hF',hf',ct',lt',e'⟩:=h'.ex
 obtain ⟨rfl,rfl,rfl⟩:=lk.uni lk'
 have d:=lk.one.2.2.1 u wk.1
 have d':=lk.one.2.2.1 u' wk'.1
 have p:=ct.uni ct' hf.nd hf'.nd fun z=>(hF z).trans (hF' z).symm
 have q:y.1=y'.1:=by
  rw [e,e']
  refine frac_eq b0 (by omega) (by omega) ?_
  have h1:=wk.2 u' wk'.1
  have h2:=wk'.2 u wk.1
  omega
 exact Prod.ext q p
theorem Pth.uni {t:Tr}{B a b:Int}{sts:List (Rat × List Str)}{us:List (Str × Int × Int)}(b0:0 < B)(h:Pth t B sts a b us) : ∀ {sts':List (Rat × List Str)}{a' b':Int}{us':List (Str × Int × Int)},Pth t B sts' a' b' us'→sts.length≤sts'.length→sts <+: sts':=by
 induction h with
 | one lk h2 =>
  intro sts' a' b' us' h' le
  obtain ⟨l,rfl⟩:=h'.head
  exact ⟨l,rfl⟩
 | @step l x a b us us2 s m s' m' u c F ps' hp lk wk hF hc hf ct lt ih =>
  intro sts' a' b' us' h' le
  rw [List.length_append,List.length_singleton] at le
  obtain ⟨r,e⟩:=ih h' (by omega)
  cases r with
  | nil =>
   have:=congrArg List.length e
   rw [List.append_nil] at this
   omega
  | cons y r =>
   obtain ⟨a1,b1,us1,hp1,st⟩:=h'.split e.symm
   have st2:StepTo t B x us (Rat.divInt u.2.1 (u.2.2 * B),ps'):=⟨u,c,F,s,m,us2,s',m',lk,wk,hF,hf,ct,lt,rfl⟩
   have ey:=st2.uni b0 st
   rw [ey]
   exact ⟨r,by rw [← e,List.append_assoc]; rfl⟩
theorem Pth.full {t:Tr}{B a b a' b':Int}{sts sts':List (Rat × List Str)}(b0:0 < B)(h:Pth t B sts a b [])(h':Pth t B sts' a' b' []) : sts=sts':=by
 have key:∀ {a b a' b':Int}{s1 s2:List (Rat × List Str)},Pth t B s1 a b []→Pth t B s2 a' b' []→s1.length≤s2.length→s1=s2:=fun {a b a' b' s1 s2} k k' le=>by
  obtain ⟨r,e⟩:=k.uni b0 k' le
  cases r with
  | nil=>rw [← e,List.append_nil]
  | cons y r =>
   exfalso
   obtain ⟨l,x,s,m,el,lk,_⟩:=k.last
   rw [el] at e
   obtain ⟨a1,b1,us1,hp1,st⟩:=k'.split e.symm
   obtain ⟨u,c,F,s2,m2,us2,s3,m3,lk2,wk,_⟩:=st.ex
   obtain ⟨rfl,_,_⟩:=lk.uni lk2
   cases wk.1
 rcases Nat.le_total sts.length sts'.length with z | z
 ·exact key h h' z
 ·exact (key h' h z).symm
def kd:V→Bool
 | .int _ | .bl _ | .str _ | .non=>true
 | _=>false
def whV:V→Bool
 | .int _=>true
 | _=>false
def isWV:V→Bool
 | .str x=>isW x
 | _=>false
def lenV:V→Prop
 | .str x=>x.length≤1000
 | _=>True
def fitsV (v:V)(s:Str) : Bool:=if s = "number" then whV v else isWV v
def colD (c:Str × Str) : PyData:=.tuple [.str c.1,.str c.2]
structure GoodC (cs:List (Str × Str)) : Prop where
 lo:1≤cs.length
 hi:cs.length≤6
 nm:∀ c∈cs,isW c.1=true
 so:∀ c∈cs,c.2 = "number" ∨ c.2 = "word"
 nd:(cs.map (·.1)).Nodup
theorem isW_all {x:Str}(h:isW x=true) : ∀ c∈cds x,97≤c∧c≤122:=by
 unfold isW at h
 simp only [Bool.and_eq_true,List.all_eq_true] at h
 intro c hc
 have:=h.2 c hc
 unfold isL at this
 simp only [Bool.and_eq_true,decide_eq_true_eq] at this
 exact this
def kD:Key→PyData
 | .inl i=>.int i
 | .inr x=>.str x
def rowD (r:List Key × Str) : PyData:=.tuple [.tuple (r.1.map kD),.str r.2]
def okK:Key→Prop
 | .inl _=>True
 | .inr x=>isW x=true
structure RowOk (r:List Key × Str) : Prop where
 ks:∀ k∈r.1,okK k
 an:isW r.2=true
theorem shpW (n:Nat){x:Str}(h:isW x=true) : Shp n (.str x):=.str n fun c hc=>by have:=isW_all h c hc; omega
theorem shpK (n:Nat){k:Key}(h:okK k) : Shp n (kD k):=by
 cases k with
 | inl i=>exact .int n i
 | inr x=>exact shpW n h
theorem shpR {r:List Key × Str}(h:RowOk r) : Shp 2 (rowD r):=.tup fun d hd=>by
 rcases List.mem_cons.mp hd with rfl | hd
 ·exact .tup fun d hd=>by obtain ⟨k,hk,rfl⟩:=List.mem_map.mp hd; exact shpK 0 (h.ks k hk)
 ·obtain rfl:=List.mem_singleton.mp hd
  exact shpW 1 h.an
theorem tvK {K:PySem.W.Frag}{H:Hp}(k:Key) : TV K H (kV k) (kD k):=by
 cases k with
 | inl i=>exact .int i
 | inr x=>exact .str x
theorem tvKs {K:PySem.W.Frag}{H:Hp} : ∀ ks:List Key,TVs K H (ks.map kV) (ks.map kD)
 | []=>.nil
 | k :: ks=>.cons (tvK k) (tvKs ks)
structure Fit (ks:List Key) (cs:List (Str × Str)) : Prop where
 len:ks.length=cs.length
 ok:∀ k∈ks,okK k
 fit:∀ (i:Nat) k c,ks[i]? = some k→cs[i]? = some c→fitsV (kV k) c.2=true
structure Wds (ws:List Str) : Prop where
 nd:ws.Nodup
 ok:∀ w∈ws,isW w=true
theorem let_at {d:Int}(h0:0≤d)(h:d < 26) : atI ("abcdefghijklmnopqrstuvwxyz" : Str).cps.toList d=some (97 + d.toNat):=by
 have hk:∀ k:Nat,k < 26→(letters.cps.toList)[k]? = some (97 + k):=by decide +kernel
 have ek:d=((d.toNat:Nat) : Int):=by omega
 have q:atI letters.cps.toList ((d.toNat:Nat) : Int)=some (97 + d.toNat):=atI_nat (hk _ (by omega))
 rw [← ek] at q
 exact q
theorem let_size:("abcdefghijklmnopqrstuvwxyz" : Str).cps.size=26:=by
 show letters.cps.size=26
 decide +kernel
theorem let_len:("abcdefghijklmnopqrstuvwxyz" : Str).length=26:=let_size
def pre (w:Str)(j:Nat) : Str:=tx ((cds w).take (j + 1))
theorem grow_w {w:Str}{c:Nat}(h:∀ x∈cds w,97≤x∧x≤122)(hc:97≤c∧c≤122) : ∀ x∈cds (w ++ ⟨#[c]⟩),97≤x∧x≤122:=fun x hx=>by
 rw [cds_app] at hx
 rcases List.mem_append.mp hx with hx | hx
 ·exact h x hx
 ·rw [List.mem_singleton.mp hx]; exact hc
theorem isW_of {w:Str}(h:∀ x∈cds w,97≤x∧x≤122)(h1:1≤w.length)(h2:w.length≤12) : isW w=true:=by
 unfold isW
 rw [decide_eq_true h1,decide_eq_true h2]
 simp only [Bool.true_and,List.all_eq_true]
 intro c hc
 have:=h c hc
 unfold isL
 rw [decide_eq_true this.1,decide_eq_true this.2]
 rfl
theorem len1 (c:Nat) : (⟨#[c]⟩ : Str).length=1:=rfl
theorem lenA (x y:Str) : (x ++ y).length=x.length + y.length:=by rw [← cds_len,← cds_len,← cds_len,cds_app,List.length_append]
theorem cut_strs {ws:List Str}{m:Int}(h:0≤m) : cutV (ws.map V.str) none (some m)=(ws.take m.toNat).map V.str:=by
 have e:m=((m.toNat:Nat) : Int):=by omega
 rw [e,cut_take,List.map_take]
 rfl
def cD (c:Str × Int) : PyData:=.tuple [.str c.1,.int c.2]
structure Cts (cs:List (Str × Int)) : Prop where
 len:cs.length≤60
 wd:∀ c∈cs,isW c.1=true
 one:∀ c∈cs,1≤c.2
def cmS (z:V × Int)(c:Str × Int) : V × Int:=if z.2 < c.2 then (.str c.1,c.2) else z
theorem cmS_t {z:V × Int}{c:Str × Int}(h:z.2 < c.2) : cmS z c=(.str c.1,c.2):=if_pos h
theorem cmS_f {z:V × Int}{c:Str × Int}(h:¬ z.2 < c.2) : cmS z c=z:=if_neg h
def cmn (cs:List (Str × Int)) : V × Int:=cs.foldl cmS (.non,0)
abbrev sumC (cs:List (Str × Int)) : Int:=(cs.map (·.2)).sum
theorem sumC_cons (c:Str × Int)(cs:List (Str × Int)) : sumC (c :: cs)=sumC cs + c.2:=by
 show ((c :: cs).map (·.2)).sum=_
 rw [List.map_cons,List.sum_cons,Int.add_comm]
def Cn (K:PySem.W.Frag)(H:Hp)(a:Addr)(cs:List (Str × Int)) : Prop:=∃ xs,H a=some (.lst xs)∧TVs K H xs (cs.map cD)
theorem Cn.same {K:PySem.W.Frag}{H H':Hp}{a:Addr}{cs:List (Str × Int)}(h:Cn K H a cs)(s:Same H H') : Cn K H' a cs:=let ⟨xs,h1,h2⟩:=h; ⟨xs,s _ _ h1,h2.mono s.t⟩
def sp_commonest (K:PySem.W.Frag) : Sp:=fun vs H Q _=>∃ (a:Addr) (cs:List (Str × Int)),vs = [.ref a]∧Cn K H a cs∧Q (cmn cs).1 H
def sp_all_rows (K:PySem.W.Frag) : Sp:=fun vs H Q _=>∃ (a:Addr) (cs:List (Str × Int)),vs = [.ref a]∧Cn K H a cs∧cs.length≤60∧∀ H',Same H H'→Q (.int (sumC cs)) H'
def sp_misses (K:PySem.W.Frag) : Sp:=fun vs H Q _=>∃ (a:Addr) (cs:List (Str × Int)),vs = [.ref a]∧Cn K H a cs∧cs.length≤60∧∀ H',Same H H'→Q (.int (sumC cs - mxD 0 (cs.map (·.2)))) H'
structure Ctz (cs:List (Str × Int)) : Prop extends Cts cs where
 up:∀ c∈cs,c.2 < 1000000000000000000000000000000000000
theorem sum_bd:∀ {cs:List (Str × Int)},(∀ c∈cs,1≤c.2)→(∀ c∈cs,c.2 < 1000000000000000000000000000000000000)→(cs.length:Int)≤sumC cs∧sumC cs≤1000000000000000000000000000000000000 * (cs.length:Int)
 | [],_,_=>⟨by decide,by decide⟩
 | c :: cs,h1,h2=>by
  have a:=h1 c List.mem_cons_self
  have b:=h2 c List.mem_cons_self
  have z:=sum_bd (cs:=cs) (fun x hx=>h1 x (List.mem_cons_of_mem _ hx)) (fun x hx=>h2 x (List.mem_cons_of_mem _ hx))
  rw [sumC_cons,List.length_cons]
  omega
theorem Ctz.sum {cs:List (Str × Int)}(h:Ctz cs) : (cs.length:Int)≤sumC cs∧sumC cs≤60000000000000000000000000000000000000:=by
 have z:=sum_bd h.one h.up
 have:=h.len
 omega
abbrev sqC (cs:List (Str × Int)) : Int:=(cs.map fun c=>c.2 * c.2).sum
def messR (cs:List (Str × Int))(m:Str) : Rat:=if m = "misses" then Rat.divInt (sumC cs - mxD 0 (cs.map (·.2))) 1 else if sumC cs=0 then Rat.divInt 0 1 else Rat.divInt (sumC cs * sumC cs - sqC cs) (sumC cs)
def isM (m:Str) : Prop:=m = "misses" ∨ m = "shares"
theorem isM_in (m:Str)(h:isM m) : inV (.str m) [.str "misses", .str "shares"] = true:=by
 rcases h with rfl | rfl <;> decide +kernel
theorem isM_out (m:Str)(h:¬ isM m) : inV (.str m) [.str "misses", .str "shares"] = false:=by
 have e:inV (.str m) ((["misses", "shares"] : List Str).map V.str)=decide (m∈(["misses", "shares"] : List Str)):=inV_str
 show inV (.str m) ((["misses", "shares"] : List Str).map V.str)=false
 rw [e]
 refine decide_eq_false fun z=>h ?_
 rcases List.mem_cons.mp z with z | z
 ·exact .inl z
 ·exact .inr (List.mem_singleton.mp z)
structure Sh (m:Str) : Prop where
 ok:okS m
 len:m.length≤1000
def sp_check_measure (C:Addr) : Sp:=fun vs H Q E=>∃ m:Str,vs = [.str m]∧Sh m∧((isM m∧Q .non H)∨(¬ isM m∧E (.ref C) none H))
def sp_shares (K:PySem.W.Frag) : Sp:=fun vs H Q _=>∃ (a:Addr) (cs:List (Str × Int)),vs = [.ref a]∧Cn K H a cs∧Ctz cs∧Nw2 H Q (messR cs "shares")
def sp_mess (K:PySem.W.Frag)(C:Addr) : Sp:=fun vs H Q E=>∃ (a:Addr) (cs:List (Str × Int)) (m:Str),vs = [.ref a,.str m]∧Cn K H a cs∧Ctz cs∧Sh m∧((isM m∧Nw2 H Q (messR cs m))∨(¬ isM m∧E (.ref C) none H))
theorem Nw2.of {H H':Hp}{Q:VK}{q:Rat}(h:Nw2 H Q q)(s:Same H H') : Nw2 H' Q q:=fun p H2 hp s2 e=>h p H2 (by
 cases z:H p with
 | none=>rfl
 | some o=>rw [s _ _ z] at hp; cases hp) (s.trans s2) e
theorem Nw2.nw {H:Hp}{Q:VK}{q:Rat}(h:Nw2 H Q q) : Nw H Q q:=fun p hp=>h p _ hp (same_new hp _) upd_same
structure Qs where
 kd:Str
 at':Nat
 c:Key
def qV (q:Qs) : List V:=[.str q.kd,.int q.at',kV q.c]
def Ask (q:Qs)(ks:List Key) : Prop:=(q.kd = "most" ∧ (∃ v n,ks[q.at']? = some (.inl v)∧q.c = .inl n))∨(q.kd = "is" ∧ ∃ v w,ks[q.at']? = some (.inr v)∧q.c = .inr w)
def say (q:Qs)(ks:List Key) : Bool:=match ks[q.at']?,q.c with
 | some (.inl v),.inl n=>decide (v≤n)
 | some (.inr v),.inr w=>decide (v=w)
 | _,_=>false
abbrev Row:=List Key × Str
structure Grp (cs:List (Str × Str)) (rs:List Row) : Prop where
 len:rs.length≤60
 ok:∀ r∈rs,RowOk r
 fit:∀ r∈rs,Fit r.1 cs
def Gl' (K:PySem.W.Frag)(H:Hp)(a:Addr)(rs:List Row) : Prop:=∃ xs,H a=some (.lst xs)∧TVs K H xs (rs.map rowD)
def QOk (cs:List (Str × Str))(q:Qs) : Prop:=∃ c,cs[q.at']? = some c∧((q.kd = "most" ∧ c.2 = "number" ∧ ∃ n,q.c = .inl n)∨(q.kd = "is" ∧ c.2 = "word" ∧ ∃ w,q.c = .inr w∧isW w=true))
def sp_says:Sp:=fun vs H Q _=>∃ (qa va:Addr) (q:Qs) (ks:List Key),vs = [.ref qa,.ref va]∧H qa=some (.tup (qV q))∧H va=some (.tup (ks.map kV))∧Ask q ks∧Q (.bl (say q ks)) H
theorem TVs.row {K:PySem.W.Frag}{H:Hp}{xs:List V}{rs:List Row}{i:Nat}{x:V}(h:TVs K H xs (rs.map rowD))(hi:xs[i]? = some x) : ∃ r p u,rs[i]? = some r∧x = .ref p∧H p=some (.tup [.ref u,.str r.2])∧H u=some (.tup (r.1.map kV))∧TV K H x (rowD r):=by
 obtain ⟨d,hd,tv⟩:=h.get hi
 rw [List.getElem?_map] at hd
 obtain ⟨r,hr,rfl⟩:=Option.map_eq_some_iff.mp hd
 have tv0:=tv
 obtain ⟨p,u,v,rfl,hp,t1,t2⟩:=tv.pair
 obtain rfl:=t2.strs
 cases t1 with
 | tup hu us =>
  rename_i a ws
  refine ⟨r,p,a,hr,rfl,hp,?_,tv0⟩
  have e:∀ {ws:List V}{ks:List Key},TVs K H ws (ks.map kD)→ws=ks.map kV:=fun {ws ks}=>by
   induction ks generalizing ws with
   | nil=>intro h; cases h; rfl
   | cons k ks ih =>
    intro h
    cases h with
    | cons h1 h2 =>
     rw [ih h2]
     cases k with
     | inl n=>rw [h1.ints]; rfl
     | inr w=>rw [h1.strs]; rfl
  rw [e us] at hu
  exact hu
theorem filter_take {rs:List Row}{i:Nat}{r:Row}(f:Row→Bool)(h:rs[i]? = some r) : (rs.take (i + 1)).filter f=(rs.take i).filter f ++ (if f r=true then [r] else []):=by
 rw [List.take_add_one,h,List.filter_append]
 congr 1
 show List.filter f [r] = _
 rw [List.filter_cons]
 rfl
theorem str_eqV (v w:Str) : decide (V.str v=V.str w)=decide (v=w):=decide_eq_decide.mpr ⟨fun z=>by injection z,fun z=>by rw [z]⟩
structure Tn (n:Nat) (x:Str) : Prop where
 l:x.length≤n
 a:∀ c∈cds x,c < 128
def p1 (x:Str) : Str:=(part3 x "/").1
def p2 (x:Str) : Str:=(part3 x "/").2.2
def bare (x:Str) : Str:=if Txt.startswith x "-" = true then tx ((cds x).drop 1) else x
def iv (x:Str) : Int:=(PySem.intText? x).getD 0
def yn (c:Int) : Str:=if c=0 then "y" else "n"
def sp_law_next:Sp:=fun vs H Q _=>∃ c k:Int,vs = [.int c,.int k]∧0≤k∧k≤3∧∀ v:Int,0≤v→v < 2147483647→Q (.int v) H
theorem mulN (c:Int){k:Int}(h:0≤k)(h2:k≤3) : IntMulOk c (48271 + 21350 * k):=by
 obtain rfl | rfl | rfl | rfl:k=0∨k=1∨k=2∨k=3:=by omega
 all_goals exact IntMulOk.of_right (by decide +kernel)
inductive NT where
 | lf (cs:List (Str × Int))
 | fk (cs:List (Str × Int)) (q:Qs) (y n:NT)
def NT.lv:NT→Nat
 | .lf _=>1
 | .fk _ _ y n=>y.lv + n.lv
def NT.dp:NT→Nat
 | .lf _=>0
 | .fk _ _ y n=>1 + max y.dp n.dp
def NT.sz:NT→Nat
 | .lf _=>1
 | .fk _ _ y n=>1 + y.sz + n.sz
theorem NT.dp_sz:∀ t:NT,t.dp < t.sz
 | .lf _=>by show 0 < 1; decide
 | .fk _ _ y n=>by
  have:=y.dp_sz
  have:=n.dp_sz
  show 1 + max y.dp n.dp < 1 + y.sz + n.sz
  omega
inductive TD (K:PySem.W.Frag) (H:Hp) : V→NT→Prop
 | lf {p l:Addr}{cs:List (Str × Int)} : H p=some (.tup [.ref l,.non])→Cn K H l cs→TD K H (.ref p) (.lf cs)
 | fk {p l qa:Addr}{cs:List (Str × Int)}{q:Qs}{v1 v2:V}{y n:NT} : H p=some (.tup [.ref l,.ref qa,v1,v2])→Cn K H l cs→H qa=some (.tup (qV q))→TD K H v1 y→TD K H v2 n→TD K H (.ref p) (.fk cs q y n)
theorem TD.same {K:PySem.W.Frag}{H H':Hp}{v:V}{t:NT}(h:TD K H v t)(s:Same H H') : TD K H' v t:=by
 induction h with
 | lf h1 h2=>exact .lf (s _ _ h1) (h2.same s)
 | fk h1 h2 h3 _ _ i1 i2=>exact .fk (s _ _ h1) (h2.same s) (s _ _ h3) i1 i2
def ffs (l qa:Addr)(v1 v2:V)(a b:Int) : List (Str × V):=[("counted", .ref l),("question", .ref qa),("yes", v1),("no", v2),("leaf_count", .int a),("depth", .int b)]
inductive ND (CL CF:Addr) (K:PySem.W.Frag) (H:Hp) : V→NT→Prop
 | lf {x dx l:Addr}{cs:List (Str × Int)} : H x=some (.ins CL dx [("counted", .ref l)])→Cn K H l cs→ND CL CF K H (.ref x) (.lf cs)
 | fk {x dx l qa:Addr}{cs:List (Str × Int)}{q:Qs}{v1 v2:V}{y n:NT} : H x=some (.ins CF dx (ffs l qa v1 v2 ((y.lv + n.lv:Nat) : Int) ((1 + max y.dp n.dp:Nat) : Int)))→Cn K H l cs→H qa=some (.tup (qV q))→ND CL CF K H v1 y→ND CL CF K H v2 n→ND CL CF K H (.ref x) (.fk cs q y n)
theorem ND.same {CL CF:Addr}{K:PySem.W.Frag}{H H':Hp}{v:V}{t:NT}(h:ND CL CF K H v t)(s:Same H H') : ND CL CF K H' v t:=by
 induction h with
 | lf h1 h2=>exact .lf (s _ _ h1) (h2.same s)
 | fk h1 h2 h3 _ _ i1 i2=>exact .fk (s _ _ h1) (h2.same s) (s _ _ h3) i1 i2
theorem _root_.L2.SameB.ti {b C dx:Addr}{H H':Hp}{fs:List (Str × V)}(s:SameB b H H')(h:H b=some (.ins C dx fs)) : SameT H H':=fun a xs q=>s a _ (ne_of q h (by intro z; cases z)) q
theorem Cn.sbx {K:PySem.W.Frag}{H H':Hp}{x a C dx:Addr}{fs:List (Str × V)}{cs:List (Str × Int)}(h:Cn K H a cs)(s:SameB x H H')(hx:H x=some (.ins C dx fs)) : Cn K H' a cs:=by
 obtain ⟨xs,h1,h2⟩:=h
 exact ⟨xs,s _ _ (ne_of h1 hx (by intro z; cases z)) h1,h2.mono (s.ti hx)⟩
theorem ND.sbx {CL CF:Addr}{K:PySem.W.Frag}{H H':Hp}{x dx:Addr}{fs:List (Str × V)}{v:V}{t:NT}(h:ND CL CF K H v t)(s:SameB x H H')(hx:H x=some (.ins CF dx fs))(ne:CL ≠ CF)(lt:fs.length < 6) : ND CL CF K H' v t:=by
 induction h with
 | lf h1 h2 =>
  refine .lf (s _ _ (ne_of h1 hx ?_) h1) (h2.sbx s hx)
  intro z
  injection z with z _ _
  exact ne z
 | fk h1 h2 h3 _ _ i1 i2 =>
  refine .fk (s _ _ (ne_of h1 hx ?_) h1) (h2.sbx s hx) (s _ _ (ne_of h3 hx (by intro z; cases z)) h3) i1 i2
  intro z
  injection z with _ _ z
  rw [← z] at lt
  exact absurd lt (by show ¬ 6 < 6; decide)
def sp_init_node (CL CF:Addr) : Sp:=fun vs H Q _=>∃ (x a C dx:Addr) (xs:List V),vs = [.ref x,.ref a]∧H x=some (.ins C dx [])∧(C=CL∨C=CF)∧H a=some (.lst xs)∧∀ l,H l=none→Q .non (upd (upd H l (.lst xs)) x (.ins C dx [("counted", .ref l)]))
def sp_lleaves (CL:Addr)(n:Int) : Sp:=fun vs H Q _=>∃ (x dx:Addr) (fs:List (Str × V)),vs = [.ref x]∧H x=some (.ins CL dx fs)∧Q (.int n) H
def sp_ffield (CF:Addr)(f:Str) : Sp:=fun vs H Q _=>∃ (x dx:Addr) (fs:List (Str × V)) (v:V),vs = [.ref x]∧H x=some (.ins CF dx fs)∧fs.lookup f=some v∧Q v H
def sp_init_fork (CL CF:Addr)(K:PySem.W.Frag) : Sp:=fun vs H Q _=>∃ (x a qa dx:Addr) (v1 v2:V) (cs:List (Str × Int)) (q:Qs) (y n:NT),vs = [.ref x,.ref a,.ref qa,v1,v2]∧H x=some (.ins CF dx [])∧Cn K H a cs∧H qa=some (.tup (qV q))∧ND CL CF K H v1 y∧ND CL CF K H v2 n ∧
 ∀ H',SameB x H H'→ND CL CF K H' (.ref x) (.fk cs q y n)→Q .non H'
theorem lne {K:PySem.W.Frag}{CL CF:Addr}(h1:PySem.W.kitOne K (.ref CL) (.ref CF)=some false)(h2:PySem.W.kitOne K (.ref CF) (.ref CF)=some true) : CL ≠ CF:=fun z=>by
 rw [z,h2] at h1
 cases h1
section
variable {CL CF:Addr}{K:PySem.W.Frag}{H:Hp}{v:V}{t:NT}{Q:VK}{E:XK}{σ:St}
theorem nd_leaves (h:ND CL CF K H v t)(q:Q (.int (t.lv:Nat)) H) : (∃ a dx fs,v = .ref a∧H a=some (.ins CL dx fs)∧fs.lookup ("leaves" : Str)=none∧tNil σ H fun vs H2=>sp_lleaves CL 1 (v :: vs) H2 Q E)∨(∃ a dx fs,v = .ref a∧H a=some (.ins CF dx fs)∧fs.lookup ("leaves" : Str)=none∧tNil σ H fun vs H2=>sp_ffield CF "leaf_count" (v :: vs) H2 Q E):=by
 cases h with
 | lf h1 h2=>exact .inl ⟨_,_,_,rfl,h1,rfl,_,_,_,rfl,h1,q⟩
 | fk h1 h2 h3 h4 h5=>exact .inr ⟨_,_,_,rfl,h1,rfl,_,_,_,_,rfl,h1,rfl,q⟩
theorem nd_deep (h:ND CL CF K H v t)(q:Q (.int (t.dp:Nat)) H) : (∃ a dx fs,v = .ref a∧H a=some (.ins CL dx fs)∧fs.lookup ("deep" : Str)=none∧tNil σ H fun vs H2=>sp_lleaves CL 0 (v :: vs) H2 Q E)∨(∃ a dx fs,v = .ref a∧H a=some (.ins CF dx fs)∧fs.lookup ("deep" : Str)=none∧tNil σ H fun vs H2=>sp_ffield CF "depth" (v :: vs) H2 Q E):=by
 cases h with
 | lf h1 h2=>exact .inl ⟨_,_,_,rfl,h1,rfl,_,_,_,rfl,h1,q⟩
 | fk h1 h2 h3 h4 h5=>exact .inr ⟨_,_,_,rfl,h1,rfl,_,_,_,_,rfl,h1,rfl,q⟩
end
def Wc (c:Str × Int) : Prop:=isW c.1=true∧1≤c.2∧c.2≤9
def Q2 (q:Qs) : Prop:=(q.kd = "most" ∧ q.at'=0∧∃ n,q.c = .inl n)∨(q.kd = "is" ∧ q.at'=1∧∃ w,q.c = .inr w∧isW w=true)
inductive Wg:NT→Prop
 | lf {cs:List (Str × Int)} : (∀ c∈cs,Wc c)→cs.length≤3→Wg (.lf cs)
 | fk {cs:List (Str × Int)}{q:Qs}{y n:NT} : (∀ c∈cs,Wc c)→cs.length≤3→Q2 q→Wg y→Wg n→Wg (.fk cs q y n)
def del (H:Hp)(z:Addr) : Hp:=fun a=>if a=z then none else H a
theorem del_at {H:Hp}{z a:Addr}{o:HO}(h:H a=some o)(n:a ≠ z) : del H z a=some o:=by unfold del; rw [if_neg n]; exact h
theorem del_same (H:Hp)(z:Addr) : Same (del H z) H:=fun a o h=>by
 unfold del at h
 split at h
 ·cases h
 ·exact h
theorem del_ne {H:Hp}{z a:Addr}{o:HO}(h:del H z a=some o) : a ≠ z:=fun e=>by
 unfold del at h
 rw [if_pos e] at h
 cases h
theorem del_mono {H H':Hp}(z:Addr)(s:Same H H') : Same (del H z) (del H' z):=fun a o h=>del_at (s _ _ (del_same H z a o h)) (del_ne h)
theorem del_upd {H H':Hp}{z:Addr}(o:HO)(s:Same (del H z) (del H' z)) : Same (del H z) (del (upd H' z o) z):=fun a u h=>by
 have n:=del_ne h
 refine del_at ?_ n
 rw [upd_ne n]
 exact del_same H' z _ _ (s a u h)
theorem del_t {H:Hp}{z:Addr}{xs:List V}(h:H z=some (.lst xs)) : SameT H (del H z):=fun a ys e=>del_at e (ne_of e h (by intro z; cases z))
theorem Cn.del {K:PySem.W.Frag}{H:Hp}{z a:Addr}{xs:List V}{cs:List (Str × Int)}(h:Cn K H a cs)(hz:H z=some (.lst xs))(n:a ≠ z) : Cn K (del H z) a cs:=by
 obtain ⟨ys,h1,h2⟩:=h
 exact ⟨ys,del_at h1 n,h2.mono (del_t hz)⟩
def sp_words4:Sp:=fun vs H Q _=>∃ c:Int,vs = [.int c]∧0≤c∧c < 1000000000000000000000000000000∧∀ H' p (ws:List Str),Same H H'→H p=none→H' p=some (.lst (ws.map V.str))→ws.length=4→(∀ w∈ws,isW w=true)→Q (.ref p) H'
def sp_counted4 (K:PySem.W.Frag) : Sp:=fun vs H Q _=>∃ (c:Int) (sa:Addr) (ws:List Str),vs = [.int c,.ref sa]∧H sa=some (.lst (ws.map V.str))∧ws.length=4∧(∀ w∈ws,isW w=true)∧∀ H' p cs,Same H H'→H p=none→Cn K H' p cs→(∀ c∈cs,Wc c)→cs.length≤3→Q (.ref p) H'
def sp_question4:Sp:=fun vs H Q _=>∃ (c sc:Int) (sa:Addr) (ws:List Str),vs = [.int c,.ref sa,.int sc]∧(sc=1∨sc=10000000000000000000000000)∧H sa=some (.lst (ws.map V.str))∧ws.length=4∧(∀ w∈ws,isW w=true)∧∀ H' p q,Same H H'→H' p=some (.tup (qV q))→Q2 q→Q (.ref p) H'
def sp_pile (K:PySem.W.Frag) : Sp:=fun vs H Q _=>∃ (ce sa:Addr) (ns:List Int) (ws:List Str) (sc:Int),vs = [.ref ce,.ref sa,.int sc]∧H ce=some (.lst (ns.map V.int))∧ns.length≤16∧(sc=1∨sc=10000000000000000000000000)∧H sa=some (.lst (ws.map V.str))∧ws.length=4∧(∀ w∈ws,isW w=true)∧∀ H' v t,Same H H'→TD K H' v t→Wg t→t.sz≤32→Q v H'
inductive TDs (K:PySem.W.Frag) (H:Hp) : List V→List NT→Prop
 | nil:TDs K H [] []
 | cons {v:V}{t:NT}{vs:List V}{ts:List NT} : TD K H v t→TDs K H vs ts→TDs K H (v :: vs) (t :: ts)
section
variable {K:PySem.W.Frag}{H H':Hp}
theorem TDs.same {vs:List V}{ts:List NT}(h:TDs K H vs ts)(s:Same H H') : TDs K H' vs ts:=by
 induction h with
 | nil=>exact .nil
 | cons h _ ih=>exact .cons (h.same s) ih
theorem TDs.length {vs:List V}{ts:List NT}(h:TDs K H vs ts) : vs.length=ts.length:=by
 induction h with
 | nil=>rfl
 | cons h _ ih=>rw [List.length_cons,List.length_cons,ih]
theorem TDs.snoc {vs:List V}{ts:List NT}{v:V}{t:NT}(h:TDs K H vs ts)(g:TD K H v t) : TDs K H (vs ++ [v]) (ts ++ [t]):=by
 induction h with
 | nil=>exact .cons g .nil
 | cons h _ ih=>exact .cons h ih
theorem TDs.last {vs:List V}{ts:List NT}(h:TDs K H vs ts)(l:1≤vs.length) : ∃ ys us v t,vs=ys ++ [v]∧ts=us ++ [t]∧TDs K H ys us∧TD K H v t:=by
 induction h with
 | nil=>exact absurd l (by decide)
 | @cons v t vs ts g _ ih =>
  by_cases z:1≤vs.length
  ·obtain ⟨ys,us,w,r,rfl,rfl,a,b⟩:=ih z
   exact ⟨v :: ys,t :: us,w,r,rfl,rfl,.cons g a,b⟩
  ·obtain rfl:vs = []:=List.length_eq_zero_iff.mp (by omega)
   rename_i hh
   cases hh
   exact ⟨[],[],v,t,rfl,rfl,.nil,g⟩
theorem TDs.two {vs:List V}{ts:List NT}(h:TDs K H vs ts)(l:2≤vs.length) : ∃ ys us v1 v2 t1 t2,vs=ys ++ [v1] ++ [v2]∧ts=us ++ [t1] ++ [t2]∧TDs K H ys us∧TD K H v1 t1∧TD K H v2 t2:=by
 obtain ⟨y1,u1,v2,t2,rfl,rfl,a,b⟩:=h.last (by omega)
 obtain ⟨ys,us,v1,t1,rfl,rfl,c,d⟩:=a.last (by rw [List.length_append] at l; have : [v2].length=1:=rfl; omega)
 exact ⟨ys,us,v1,v2,t1,t2,rfl,rfl,c,d,b⟩
end
theorem at_m2 (ys:List V)(v1 v2:V) : atI (ys ++ [v1] ++ [v2]) (-2)=some v1:=by
 unfold atI ixN
 have l:(ys ++ [v1] ++ [v2]).length=ys.length + 2:=by simp
 rw [l,if_neg (by decide),if_pos (by omega)]
 show (ys ++ [v1] ++ [v2])[(((ys.length + 2:Nat) : Int) + -2).toNat]? = some v1
 rw [show (((ys.length + 2:Nat) : Int) + -2).toNat=ys.length by omega]
 simp
theorem cut_m2 (ys:List V)(v1 v2:V) : cutV (ys ++ [v1] ++ [v2]) none (some (-2))=ys:=by
 unfold cutV
 have l:(ys ++ [v1] ++ [v2]).length=ys.length + 2:=by simp
 have e1:HT.sIx (ys ++ [v1] ++ [v2]).length 0 none=0:=by simp [HT.sIx]
 have e2:HT.sIx (ys ++ [v1] ++ [v2]).length (ys ++ [v1] ++ [v2]).length (some (-2))=ys.length:=by
  rw [l]
  simp [HT.sIx]
  omega
 rw [e1,e2,List.drop_zero,Nat.sub_zero,List.append_assoc,List.take_left]
def szs (ts:List NT) : Nat:=(ts.map NT.sz).sum
theorem szs_snoc (ts:List NT)(t:NT) : szs (ts ++ [t])=szs ts + t.sz:=by
 unfold szs
 rw [List.map_append,List.sum_append]
 simp
theorem NT.sz_pos (t:NT) : 1≤t.sz:=by have:=t.dp_sz; omega
theorem szs_len:∀ ts:List NT,ts.length≤szs ts
 | []=>Nat.le_refl _
 | t :: ts=>by
  have:=szs_len ts
  have:=t.sz_pos
  show ts.length + 1≤((t :: ts).map NT.sz).sum
  rw [List.map_cons,List.sum_cons]
  show ts.length + 1≤t.sz + szs ts
  omega
def lsX (H:Hp)(a:Addr) : List V:=match H a with
 | some (.lst xs)=>xs
 | _=>[]
theorem lsX_at {H:Hp}{a:Addr}{xs:List V}(h:H a=some (.lst xs)) : lsX H a=xs:=by unfold lsX; rw [h]
structure Pil (K:PySem.W.Frag) (H0 H:Hp) (z:Addr) (xs:List V) (ts:List NT) : Prop where
 s:Same H0 H
 f:H0 z=none
 h:H z=some (.lst xs)
 t:TDs K (del H z) xs ts
 w:∀ t∈ts,Wg t
theorem Pil.len {K:PySem.W.Frag}{H0 H:Hp}{z:Addr}{xs:List V}{ts:List NT}(p:Pil K H0 H z xs ts) : xs.length=ts.length:=p.t.length
theorem Pil.put {K:PySem.W.Frag}{H0 H H':Hp}{z:Addr}{xs:List V}{ts:List NT}{v:V}{t:NT}(p:Pil K H0 H z xs ts)(s:Same H H')(tv:TD K (del H' z) v t)(w:Wg t) : Pil K H0 (upd H' z (.lst (xs ++ [v]))) z (xs ++ [v]) (ts ++ [t]):=by
 have e:Same (del H' z) (del (upd H' z (.lst (xs ++ [v]))) z):=del_upd _ (Same.refl _)
 refine ⟨(p.s.trans s).upd p.f _,p.f,upd_same,((p.t.same (del_mono z s)).same e).snoc (tv.same e),fun x hx=>?_⟩
 rcases List.mem_append.mp hx with hx | hx
 ·exact p.w x hx
 ·rw [List.mem_singleton.mp hx]; exact w
theorem Pil.join {K:PySem.W.Frag}{H0 H H':Hp}{z z2:Addr}{xs ys:List V}{ts us:List NT}{v1 v2 v:V}{t1 t2 t:NT}(p:Pil K H0 H z xs ts)(ex:xs=ys ++ [v1] ++ [v2])(et:ts=us ++ [t1] ++ [t2])(tt:TDs K (del H z) ys us)(s:Same H H')(hz2:H' z2=none)(tv:TD K H' v t)(w:Wg t) : Pil K H0 (upd H' z2 (.lst (ys ++ [v]))) z2 (ys ++ [v]) (us ++ [t]):=by
 have s2:=same_new hz2 (H:=H') (.lst (ys ++ [v]))
 have e:Same (del H z) (del (upd H' z2 (.lst (ys ++ [v]))) z2):=fun a o h=>by
  have h1:=s _ _ (del_same H z a o h)
  exact del_at (s2 _ _ h1) (ne_of_none h1 hz2)
 have e2:Same H' (del (upd H' z2 (.lst (ys ++ [v]))) z2):=fun a o h=>del_at (s2 _ _ h) (ne_of_none h hz2)
 refine ⟨(p.s.trans s).trans s2,(p.s.trans s).free hz2,upd_same,(tt.same e).snoc (tv.same e2),fun x hx=>?_⟩
 rcases List.mem_append.mp hx with hx | hx
 ·exact p.w x (by rw [et]; exact List.mem_append_left _ (List.mem_append_left _ hx))
 ·rw [List.mem_singleton.mp hx]; exact w
theorem wf_nil2 {sc:Int}{k:Nat}{y n:NT}(hs:sc=1∨sc=10000000000000000000000000)(hk:k≤100)(wy:Wg y)(wn:Wg n) : Wg (.fk [] ⟨"most", 0,.inl ((k:Int) * sc)⟩ y n):=.fk (fun c hc=>by cases hc) (Nat.zero_le _) (.inl ⟨rfl,rfl,_,rfl⟩) wy wn
structure Co (cs:List (Str × Str)) : Prop where
 nm:∀ w∈cs.map (·.1),isW w=true
 so:∀ c∈cs,c.2 = "number" ∨ c.2 = "word"
def sp_lbelow:Sp:=fun vs H Q _=>∃ (x:Addr) (w:Str),vs = [.ref x,.str w]∧Q .non H
def sp_fbelow (CL CF:Addr)(K:PySem.W.Frag) : Sp:=fun vs H Q _=>∃ (x:Addr) (w:Str) (dx l qa:Addr) (v1 v2:V) (a b:Int),vs = [.ref x,.str w]∧H x=some (.ins CF dx (ffs l qa v1 v2 a b))∧Q (if w = "y" then v1 else if w = "n" then v2 else .non) H
def NT.go:NT→List Nat→Option NT
 | t,[]=>some t
 | .lf _,_ :: _=>none
 | .fk _ _ y n,c :: cs=>if c=121 then y.go cs else if c=110 then n.go cs else none
def sp_at (CL CF:Addr)(K:PySem.W.Frag) : Sp:=fun vs H Q _=>∃ (v:V) (w:Str) (t u:NT),vs = [v,.str w]∧ND CL CF K H v t∧w.length≤1000∧t.go (cds w)=some u∧∀ v',ND CL CF K H v' u→Q v' H
def NT.fall (ks:List Key) : NT→Str
 | .lf _ => ""
 | .fk _ q y n=>if say q ks=true then "y" ++ y.fall ks else "n" ++ n.fall ks
inductive Asks (ks:List Key) : NT→Prop
 | lf {cs:List (Str × Int)} : Asks ks (.lf cs)
 | fk {cs:List (Str × Int)}{q:Qs}{y n:NT} : Ask q ks→Asks ks y→Asks ks n→Asks ks (.fk cs q y n)
theorem NT.fall_len (ks:List Key) : ∀ t:NT,(t.fall ks).length≤t.dp
 | .lf _=>Nat.le_refl _
 | .fk _ q y n=>by
  have h1:=y.fall_len ks
  have h2:=n.fall_len ks
  show (if say q ks=true then "y" ++ y.fall ks else "n" ++ n.fall ks).length≤1 + max y.dp n.dp
  have ly:("y" : Str).length=1:=by decide +kernel
  have ln:("n" : Str).length=1:=by decide +kernel
  split
  ·rw [lenA,ly]; omega
  ·rw [lenA,ln]; omega
def sp_lplace:Sp:=fun vs H Q _=>∃ (x va:Addr),vs = [.ref x,.ref va]∧Q (.str "") H
def sp_fplace (CL CF:Addr)(K:PySem.W.Frag)(d:Nat) : Sp:=fun vs H Q _=>∃ (x va dx l qa:Addr) (v1 v2:V) (cs:List (Str × Int)) (q:Qs) (y n:NT) (ks:List Key),vs = [.ref x,.ref va]∧H x=some (.ins CF dx (ffs l qa v1 v2 ((y.lv + n.lv:Nat) : Int) ((1 + max y.dp n.dp:Nat) : Int)))∧H qa=some (.tup (qV q))∧ND CL CF K H v1 y∧ND CL CF K H v2 n∧H va=some (.tup (ks.map kV))∧Asks ks (.fk cs q y n)∧1 + max y.dp n.dp≤d∧d≤900∧Q (.str ((NT.fk cs q y n).fall ks)) H
section
variable {CL CF:Addr}{K:PySem.W.Frag}{H:Hp}{v:V}{t:NT}{Q:VK}{E:XK}{σ:St}{ta:TA}
theorem nd_place {va:Addr}{ks:List Key}{d:Nat}(h:ND CL CF K H v t)(hv:H va=some (.tup (ks.map kV)))(ha:Asks ks t)(hd:t.dp≤d)(h9:d≤900)(ht:∀ k:List V→Hp→Prop,k [.ref va] H→ta σ H k)(q:Q (.str (t.fall ks)) H) : (∃ a dx fs,v = .ref a∧H a=some (.ins CL dx fs)∧fs.lookup ("place_of" : Str)=none∧ta σ H fun vs H2=>sp_lplace (v :: vs) H2 Q E)∨(∃ a dx fs,v = .ref a∧H a=some (.ins CF dx fs)∧fs.lookup ("place_of" : Str)=none∧ta σ H fun vs H2=>sp_fplace CL CF K d (v :: vs) H2 Q E):=by
 cases h with
 | lf h1 h2=>exact .inl ⟨_,_,_,rfl,h1,rfl,ht _ ⟨_,_,rfl,q⟩⟩
 | fk h1 h2 h3 h4 h5=>exact .inr ⟨_,_,_,rfl,h1,rfl,ht _ ⟨_,_,_,_,_,_,_,_,_,_,_,ks,rfl,h1,h3,h4,h5,hv,ha,hd,h9,q⟩⟩
end
theorem one_y (c:Nat) : (⟨#[c]⟩ : Str) = "y" ↔ c=121:=by
 constructor
 ·intro h
  have:=congrArg cds h
  have e:cds ("y" : Str) = [121]:=by decide +kernel
  rw [e] at this
  injection this
 ·rintro rfl
  exact str_ext (by decide +kernel)
theorem one_n (c:Nat) : (⟨#[c]⟩ : Str) = "n" ↔ c=110:=by
 constructor
 ·intro h
  have:=congrArg cds h
  have e:cds ("n" : Str) = [110]:=by decide +kernel
  rw [e] at this
  injection this
 ·rintro rfl
  exact str_ext (by decide +kernel)
theorem ND.ref {CL CF:Addr}{K:PySem.W.Frag}{H:Hp}{v:V}{t:NT}(h:ND CL CF K H v t) : ∃ a,v = .ref a:=by cases h <;> exact ⟨_,rfl⟩
section
variable {CL CF:Addr}{K:PySem.W.Frag}{H:Hp}{v:V}{t:NT}{Q:VK}{E:XK}{σ:St}{ta:TA}
theorem nd_below {c:Nat}{r:List Nat}{u:NT}(h:ND CL CF K H v t)(hg:t.go (c :: r)=some u)(ht:∀ k:List V→Hp→Prop,k [.str ⟨#[c]⟩] H→ta σ H k)(q:∀ v' t',ND CL CF K H v' t'→t'.go r=some u→Q v' H) : (∃ a dx fs,v = .ref a∧H a=some (.ins CL dx fs)∧fs.lookup ("below" : Str)=none∧ta σ H fun vs H2=>sp_lbelow (v :: vs) H2 Q E)∨(∃ a dx fs,v = .ref a∧H a=some (.ins CF dx fs)∧fs.lookup ("below" : Str)=none∧ta σ H fun vs H2=>sp_fbelow CL CF K (v :: vs) H2 Q E):=by
 cases h with
 | lf h1 h2=>cases hg
 | @fk x dx l qa cs qq v1 v2 y n h1 h2 h3 h4 h5 =>
  refine .inr ⟨_,_,_,rfl,h1,rfl,ht _ ⟨_,_,_,_,_,_,_,_,_,rfl,h1,?_⟩⟩
  have hg:(if c=121 then y.go r else if c=110 then n.go r else none)=some u:=hg
  by_cases e:c=121
  ·rw [if_pos e] at hg
   rw [if_pos ((one_y c).mpr e)]
   exact q _ _ h4 hg
  ·rw [if_neg e] at hg
   rw [if_neg fun z=>e ((one_y c).mp z)]
   by_cases e2:c=110
   ·rw [if_pos e2] at hg
    rw [if_pos ((one_n c).mpr e2)]
    exact q _ _ h5 hg
   ·rw [if_neg e2] at hg
    cases hg
end
inductive T4 (K:PySem.W.Frag) (H:Hp) : V→NT→Prop
 | lf {p l:Addr}{cs:List (Str × Int)} : H p=some (.tup [.ref l,.non,.non,.non])→Cn K H l cs→T4 K H (.ref p) (.lf cs)
 | fk {p l qa:Addr}{cs:List (Str × Int)}{q:Qs}{v1 v2:V}{y n:NT} : H p=some (.tup [.ref l,.ref qa,v1,v2])→Cn K H l cs→H qa=some (.tup (qV q))→T4 K H v1 y→T4 K H v2 n→T4 K H (.ref p) (.fk cs q y n)
inductive Wq (cs:List (Str × Str)) : NT→Prop
 | lf {ds:List (Str × Int)} : (∀ c∈ds,isW c.1=true)→ds.length≤60→Wq cs (.lf ds)
 | fk {ds:List (Str × Int)}{q:Qs}{y n:NT} : (∀ c∈ds,isW c.1=true)→ds.length≤60→QOk cs q→Wq cs y→Wq cs n→Wq cs (.fk ds q y n)
structure S19 (K:PySem.W.Frag) (H:Hp) (b ca pa sa:Addr) (xs:List V) (cs:List (Str × Str)) (ns:List Int) (ws:List Str) : Prop where
 hc:H ca=some (.lst xs)
 tv:TVs K H xs (cs.map colD)
 gc:GoodC cs
 hp:H pa=some (.lst (ns.map V.int))
 l7:ns.length=7
 hs:H sa=some (.lst (ws.map V.str))
 wd:Wds ws
 w4:4≤ws.length
 nc:b ≠ ca
 np:b ≠ pa
 ns':b ≠ sa
section
variable {CL CF:Addr}{K:PySem.W.Frag}{H:Hp}{v:V}{t:NT}{Q:VK}{E:XK}{σ:St}{ta:TA}
theorem nd_at {w:Str}{u:NT}(h:ND CL CF K H v t)(lw:w.length≤1000)(hg:t.go (cds w)=some u)(ht:∀ k:List V→Hp→Prop,k [.str w] H→ta σ H k)(q:∀ v',ND CL CF K H v' u→Q v' H) : (∃ a dx fs,v = .ref a∧H a=some (.ins CL dx fs)∧fs.lookup ("at" : Str)=none∧ta σ H fun vs H2=>sp_at CL CF K (v :: vs) H2 Q E)∨(∃ a dx fs,v = .ref a∧H a=some (.ins CF dx fs)∧fs.lookup ("at" : Str)=none∧ta σ H fun vs H2=>sp_at CL CF K (v :: vs) H2 Q E):=by
 cases id h with
 | lf h1 h2=>exact .inl ⟨_,_,_,rfl,h1,rfl,ht _ ⟨_,_,_,_,rfl,h,lw,hg,q⟩⟩
 | fk h1 h2 h3 h4 h5=>exact .inr ⟨_,_,_,rfl,h1,rfl,ht _ ⟨_,_,_,_,rfl,h,lw,hg,q⟩⟩
end
def NT.co (m:Str) : NT→CQ
 | .lf cs=>.en (messR cs m)
 | .fk cs _ y n=>.fk (messR cs m) (y.co m) (n.co m)
def NT.ct:NT→List (Str × Int)
 | .lf cs=>cs
 | .fk cs _ _ _=>cs
inductive Nz:NT→Prop
 | lf {cs:List (Str × Int)} : Ctz cs→Nz (.lf cs)
 | fk {cs:List (Str × Int)}{q:Qs}{y n:NT} : Ctz cs→Nz y→Nz n→Nz (.fk cs q y n)
theorem NT.dp_lv:∀ t:NT,t.dp < t.lv
 | .lf _=>Nat.lt_succ_self 0
 | .fk _ _ y n=>by
  have:=y.dp_lv
  have:=n.dp_lv
  show 1 + max y.dp n.dp < y.lv + n.lv
  omega
def sp_costed (CL CF:Addr)(K:PySem.W.Frag)(C:Addr)(d:Nat) : Sp:=fun vs H Q E=>∃ (v:V) (m:Str) (t:NT),vs = [v,.str m]∧ND CL CF K H v t∧Nz t∧Sh m∧t.dp≤d∧((isM m∧∀ H' u,Same H H'→CV K H' u (t.co m)→Q u H')∨(¬ isM m∧E (.ref C) none H))
theorem shM {m:Str}(h:isM m) : Sh m:=by
 rcases h with rfl | rfl
 ·exact ⟨by intro c hc; revert c hc; decide +kernel,by decide +kernel⟩
 ·exact ⟨by intro c hc; revert c hc; decide +kernel,by decide +kernel⟩
theorem cmn_or:∀ (cs:List (Str × Int)) (z:V × Int),(cs.foldl cmS z).1=z.1∨∃ c∈cs,(cs.foldl cmS z).1 = .str c.1
 | [],z=>.inl rfl
 | c :: cs,z=>by
  rw [List.foldl_cons]
  rcases cmn_or cs (cmS z c) with h | ⟨d,hd,h⟩
  ·rw [h]
   unfold cmS
   split
   ·exact .inr ⟨c,List.mem_cons_self,rfl⟩
   ·exact .inl rfl
  ·exact .inr ⟨d,List.mem_cons_of_mem _ hd,h⟩
def sp_node (CL CF:Addr)(K:PySem.W.Frag)(d:Nat) : Sp:=fun vs H Q _=>∃ (v:V) (t:NT),vs = [v]∧TD K H v t∧t.dp≤d∧∀ H' u,Same H H'→ND CL CF K H' u t→Q u H'
theorem wc_ctz {cs:List (Str × Int)}(h:∀ c∈cs,Wc c)(l:cs.length≤3) : Ctz cs:=⟨⟨by omega,fun c hc=>(h c hc).1,fun c hc=>(h c hc).2.1⟩,fun c hc=>by have:=(h c hc).2.2; omega⟩
theorem Wg.nz {t:NT}(h:Wg t) : Nz t:=by
 induction h with
 | lf h1 h2=>exact .lf (wc_ctz h1 h2)
 | fk h1 h2 _ _ _ i1 i2=>exact .fk (wc_ctz h1 h2) i1 i2
theorem Wg.asks {t:NT}(h:Wg t)(a:Int)(w:Str) : Asks [.inl a,.inr w] t:=by
 induction h with
 | lf _ _=>exact .lf
 | @fk cs q y n _ _ h3 _ _ i1 i2 =>
  refine .fk ?_ i1 i2
  rcases h3 with ⟨h1,h2,m,hm⟩ | ⟨h1,h2,m,hm,_⟩
  ·exact .inl ⟨h1,a,m,by rw [h2]; rfl,hm⟩
  ·exact .inr ⟨h1,w,m,by rw [h2]; rfl,hm⟩
theorem NT.lv_sz:∀ t:NT,2 * t.lv=t.sz + 1
 | .lf _=>rfl
 | .fk _ _ y n=>by have:=y.lv_sz; have:=n.lv_sz; show 2 * (y.lv + n.lv)=1 + y.sz + n.sz + 1; omega
def sp_ansp (CL CF:Addr)(K:PySem.W.Frag) : Sp:=fun vs H Q _=>∃ (v:V) (a va:Addr) (t u:NT) (ps:List Str) (ks:List Key) (p:Str),vs = [v,.ref a,.ref va]∧ND CL CF K H v t∧H a=some (.lst (ps.map V.str))∧ps.length≤64∧H va=some (.tup (ks.map kV))∧Asks ks t∧t.dp≤20∧bgs (t.fall ks) ps = [p]∧t.go (cds p)=some u∧p.length≤1000∧∀ H',Same H H'→Q (cmn u.ct).1 H'
theorem PI.shortN {t:Tr}{ps gs:List Str}(h:PI t "" ps gs) : ∀ x∈ps,x.length≤t.dp:=fun x hx=>by
 obtain ⟨u,hu,e⟩:=List.mem_map.mp (h.kn x hx)
 have:=plc_long hu
 rw [show ("" : Str).length=0 by decide +kernel,e] at this
 omega
theorem TD.hd {K:PySem.W.Frag}{H:Hp}{v:V}{t:NT}(h:TD K H v t) : ∃ p l r,v = .ref p∧H p=some (.tup (.ref l :: r))∧Cn K H l t.ct:=by
 cases h with
 | lf h1 h2=>exact ⟨_,_,_,rfl,h1,h2⟩
 | fk h1 h2 h3 h4 h5=>exact ⟨_,_,_,rfl,h1,h2⟩
theorem at_0h {x:V}{r:List V} : atI (x :: r) 0=some x:=atI_nat (xs:=x :: r) (j:=0) rfl
theorem fall_y {ks:List Key}{cs:List (Str × Int)}{q:Qs}{y n w:NT}{x:Nat}{xs:List Nat}(e:say q ks=true)(hp:x :: xs <+: cds ((NT.fk cs q y n).fall ks))(hg:(NT.fk cs q y n).go (x :: xs)=some w) : x=121∧xs <+: cds (y.fall ks)∧y.go xs=some w:=by
 have ef:(NT.fk cs q y n).fall ks = "y" ++ y.fall ks:=if_pos e
 rw [ef,cds_app,show cds ("y" : Str) = [121] by decide +kernel] at hp
 have h2:=List.cons_prefix_cons.mp hp
 obtain rfl:=h2.1
 exact ⟨rfl,h2.2,hg⟩
theorem fall_n {ks:List Key}{cs:List (Str × Int)}{q:Qs}{y n w:NT}{x:Nat}{xs:List Nat}(e:say q ks=false)(hp:x :: xs <+: cds ((NT.fk cs q y n).fall ks))(hg:(NT.fk cs q y n).go (x :: xs)=some w) : x=110∧xs <+: cds (n.fall ks)∧n.go xs=some w:=by
 have ef:(NT.fk cs q y n).fall ks = "n" ++ n.fall ks:=if_neg (by rw [e]; exact Bool.false_ne_true)
 rw [ef,cds_app,show cds ("n" : Str) = [110] by decide +kernel] at hp
 have h2:=List.cons_prefix_cons.mp hp
 obtain rfl:=h2.1
 exact ⟨rfl,h2.2,hg⟩
theorem str_of (xs:List Nat) : ∃ s:Str,cds s=xs:=⟨⟨xs.toArray⟩,rfl⟩
theorem cm_or (cs:List (Str × Int)) : (cmn cs).1 = .non∨∃ w,(cmn cs).1 = .str w:=by
 rcases cmn_or cs (.non,0) with h | ⟨c,hc,h⟩
 ·exact .inl h
 ·exact .inr ⟨_,h⟩
def Bc:Int:=80313433200
theorem bc_0:0 < Bc:=by decide
theorem bc_dv {n:Int}(h0:0 < n)(h:n≤27) : n * (Bc / n)=Bc:=by
 have k:∀ j:Nat,j < 28→j ≠ 0→(j:Int) * (80313433200 / (j:Int))=80313433200:=by decide
 have e:=k n.toNat (by omega) (by omega)
 rw [show ((n.toNat:Nat) : Int)=n by omega] at e
 exact e
def wtB (m:Str)(cs:List (Str × Int)) : Int:=if m = "misses" then (sumC cs - mxD 0 (cs.map (·.2))) * Bc else if sumC cs=0 then 0 else (sumC cs * sumC cs - sqC cs) * (Bc / sumC cs)
theorem wc_sums:∀ {cs:List (Str × Int)},(∀ c∈cs,Wc c)→0≤sumC cs∧sumC cs≤9 * (cs.length:Int)∧0≤sqC cs∧sqC cs≤81 * (cs.length:Int)
 | [],_=>⟨by decide,by decide,by decide,by decide⟩
 | c :: cs,h=>by
  obtain ⟨a1,a2,a3,a4⟩:=wc_sums (cs:=cs) fun x hx=>h x (List.mem_cons_of_mem _ hx)
  obtain ⟨_,c1,c2⟩:=h c List.mem_cons_self
  have k:sqC (c :: cs)=c.2 * c.2 + sqC cs:=by show ((c :: cs).map fun c=>c.2 * c.2).sum=_; rw [List.map_cons,List.sum_cons]
  have q0:0≤c.2 * c.2:=Int.mul_nonneg (by omega) (by omega)
  have q1:c.2 * c.2≤9 * 9:=Int.mul_le_mul c2 c2 (by omega) (by decide)
  rw [sumC_cons,k,List.length_cons]
  omega
theorem wc_mx {cs:List (Str × Int)}(h:∀ c∈cs,Wc c) : 0≤mxD 0 (cs.map (·.2))∧mxD 0 (cs.map (·.2))≤9:=by
 cases cs with
 | nil=>exact ⟨by decide,by decide⟩
 | cons c cs =>
  have key:∀ (ns:List Int) (m:Int),0≤m→m≤9→(∀ n∈ns,0≤n∧n≤9)→0≤mxF m ns∧mxF m ns≤9:=fun ns=>by
   induction ns with
   | nil=>exact fun m a b _=>⟨a,b⟩
   | cons n ns ih =>
    intro m a b hn
    have hn1:=hn n List.mem_cons_self
    show 0≤mxF (if m < n then n else m) ns∧mxF (if m < n then n else m) ns≤9
    exact ih _ (by split <;> omega) (by split <;> omega) fun x hx=>hn x (List.mem_cons_of_mem _ hx)
  have w:∀ x∈c :: cs,0≤x.2∧x.2≤9:=fun x hx=>by have:=(h x hx).2; omega
  have w0:=w c List.mem_cons_self
  exact key (cs.map (·.2)) c.2 w0.1 w0.2 fun n hn=>by
   obtain ⟨x,hx,rfl⟩:=List.mem_map.mp hn
   exact w x (List.mem_cons_of_mem _ hx)
theorem mess_wt {m:Str}{cs:List (Str × Int)}(h:∀ c∈cs,Wc c)(l:cs.length≤3) : messR cs m=Rat.divInt (wtB m cs) Bc:=by
 obtain ⟨a1,a2,_,_⟩:=wc_sums h
 unfold messR wtB
 by_cases e:m = "misses"
 ·rw [if_pos e,if_pos e]
  have k:=Rat.divInt_mul_right (n:=sumC cs - mxD 0 (cs.map (·.2))) (d:=1) (a:=Bc) (by decide)
  rw [Int.one_mul] at k
  exact k.symm
 ·rw [if_neg e,if_neg e]
  by_cases z:sumC cs=0
  ·rw [if_pos z,if_pos z,Rat.zero_divInt,Rat.zero_divInt]
  ·rw [if_neg z,if_neg z]
   have d:=bc_dv (n:=sumC cs) (by omega) (by omega)
   have k:=Rat.divInt_mul_right (n:=sumC cs * sumC cs - sqC cs) (d:=sumC cs) (a:=Bc / sumC cs) (fun y=>by rw [y,Int.mul_zero] at d; exact absurd d (by decide))
   rw [d] at k
   exact k.symm
theorem wt_B {m:Str}{cs:List (Str × Int)}(h:∀ c∈cs,Wc c)(l:cs.length≤3) : wB (wtB m cs):=by
 obtain ⟨a1,a2,a3,a4⟩:=wc_sums h
 obtain ⟨b1,b2⟩:=wc_mx h
 unfold wtB
 by_cases e:m = "misses"
 ·rw [if_pos e]
  unfold Bc
  constructor <;> omega
 ·rw [if_neg e]
  by_cases z:sumC cs=0
  ·rw [if_pos z]
   constructor <;> decide
  ·rw [if_neg z]
   have n2:sumC cs * sumC cs≤27 * 27:=Int.mul_le_mul (by omega) (by omega) a1 (by decide)
   have n0:0≤sumC cs * sumC cs:=Int.mul_nonneg a1 a1
   have k0:0≤Bc / sumC cs:=Int.ediv_nonneg (by decide) a1
   have k1:Bc / sumC cs≤Bc:=Int.ediv_le_self _ (by decide)
   generalize Bc / sumC cs=k at k0 k1
   generalize hx:sumC cs * sumC cs - sqC cs=x
   have u:x * k≤729 * Bc:=Int.mul_le_mul (by omega) k1 k0 (by decide)
   have v : -243 * k≤x * k:=Int.mul_le_mul_of_nonneg_right (by omega) k0
   unfold Bc at *
   constructor <;> omega
def NT.tb (m:Str) : NT→Tr
 | .lf cs=>.en (wtB m cs)
 | .fk cs _ y n=>.fk (wtB m cs) (y.tb m) (n.tb m)
theorem NT.tb_lv (m:Str) : ∀ t:NT,(t.tb m).lv=t.lv
 | .lf _=>rfl
 | .fk _ _ y n=>by show (y.tb m).lv + (n.tb m).lv=y.lv + n.lv; rw [y.tb_lv,n.tb_lv]
theorem NT.tb_dp (m:Str) : ∀ t:NT,(t.tb m).dp=t.dp
 | .lf _=>rfl
 | .fk _ _ y n=>by show max (y.tb m).dp (n.tb m).dp + 1=1 + max y.dp n.dp; rw [y.tb_dp,n.tb_dp]; omega
theorem Wg.tb {t:NT}(h:Wg t)(m:Str) : (t.tb m).B:=by
 induction h with
 | lf h1 h2=>exact wt_B h1 h2
 | fk h1 h2 _ _ _ i1 i2=>exact ⟨wt_B h1 h2,i1,i2⟩
theorem CV.tb {K:PySem.W.Frag}{H:Hp}{m:Str} : ∀ {t:NT}{v:V},Wg t→CV K H v (t.co m)→TV K H v (htD Bc (t.tb m))
 | .lf cs,_,w,h=>by
  cases w with
  | lf w1 w2 =>
   cases h with
   | en h1 h2 =>
    rw [mess_wt w1 w2] at h2
    exact TV.hen' bc_0 h1 h2
 | .fk cs q y n,_,w,h=>by
  cases w with
  | fk w1 w2 _ w4 w5 =>
   cases h with
   | fk h1 h2 h3 h4 =>
    rw [mess_wt w1 w2] at h2
    exact TV.hfk' bc_0 h1 h2 (CV.tb w4 h3) (CV.tb w5 h4)
theorem pi_fall {m:Str}(ks:List Key) : ∀ {t:NT}{q:Str}{ps gs:List Str},PI (t.tb m) q ps gs→∃ p r u,p∈ps∧p=q ++ r∧t.go (cds r)=some u∧cds r <+: cds (t.fall ks)∧bgs (q ++ t.fall ks) ps = [p]
 | t,q,ps,gs,h=>by
  have stop:ps = [q]→∃ p r u,p∈ps∧p=q ++ r∧t.go (cds r)=some u∧cds r <+: cds (t.fall ks)∧bgs (q ++ t.fall ks) ps = [p]:=by
   rintro rfl
   refine ⟨q, "", t,List.mem_singleton.mpr rfl,str_ext (by rw [cds_app]; show cds q=cds q ++ []; rw [List.append_nil]),(by cases t <;> rfl),List.nil_prefix,?_⟩
   exact List.filter_eq_self.mpr fun x hx=>by
    rw [List.mem_singleton.mp hx]
    exact (starts_iff _ q).mpr (pre_app _ _)
  cases t with
  | lf cs =>
   cases h with
   | stop=>exact stop rfl
  | fk cs qq y n =>
   cases h with
   | stop=>exact stop rfl
   | @go w _ _ _ ps1 ps2 fs1 fs2 p1 p2 =>
    by_cases e:say qq ks=true
    ·have ef:(NT.fk cs qq y n).fall ks = "y" ++ y.fall ks:=if_pos e
     obtain ⟨p,r,u,hp,ep,hg,hpre,hb⟩:=pi_fall ks p1
     have ea:q ++ ("y" ++ y.fall ks)=(q ++ "y") ++ y.fall ks:=str_ext (by simp only [cds_app,List.append_assoc])
     refine ⟨p, "y" ++ r,u,List.mem_append_right _ hp,by rw [ep]; exact str_ext (by simp only [cds_app,List.append_assoc]),?_,?_,?_⟩
     ·rw [cds_app,show cds ("y" : Str) = [121] by decide +kernel]
      exact hg
     ·rw [ef,cds_app,cds_app]
      exact (List.prefix_append_right_inj _).mpr hpre
     ·rw [ef,ea,bgs_app,hb,bgs_none (ps:=ps2) fun x hx z=>yn_apart (pre_app (q ++ "y") (y.fall ks)) ((p2.pre.1 x hx).trans z)]
      rfl
    ·have ef:(NT.fk cs qq y n).fall ks = "n" ++ n.fall ks:=if_neg e
     obtain ⟨p,r,u,hp,ep,hg,hpre,hb⟩:=pi_fall ks p2
     have ea:q ++ ("n" ++ n.fall ks)=(q ++ "n") ++ n.fall ks:=str_ext (by simp only [cds_app,List.append_assoc])
     refine ⟨p, "n" ++ r,u,List.mem_append_left _ hp,by rw [ep]; exact str_ext (by simp only [cds_app,List.append_assoc]),?_,?_,?_⟩
     ·rw [cds_app,show cds ("n" : Str) = [110] by decide +kernel]
      exact hg
     ·rw [ef,cds_app,cds_app]
      exact (List.prefix_append_right_inj _).mpr hpre
     ·rw [ef,ea,bgs_app,hb,bgs_none (ps:=ps1) fun x hx z=>yn_apart ((p1.pre.1 x hx).trans z) (pre_app (q ++ "n") (n.fall ks))]
      rfl
def ansV (t:NT)(ps:List Str)(ks:List Key) : V:=match bgs (t.fall ks) ps with
 | [p]=>match t.go (cds p) with
  | some u=>(cmn u.ct).1
  | none=>.non
 | _=>.non
theorem ansV_is {t u:NT}{ps:List Str}{ks:List Key}{p:Str}(hb:bgs (t.fall ks) ps = [p])(hg:t.go (cds p)=some u) : ansV t ps ks=(cmn u.ct).1:=by
 unfold ansV
 rw [hb]
 dsimp only
 rw [hg]
def mss (t:NT)(ps:List Str)(rs:List Row) : List Row:=rs.filter fun r => !decide (ansV t ps r.1 = .str r.2)
def msd (t:NT)(ps:List Str)(rs:List Row) : Int:=((mss t ps rs).length:Nat)
theorem msd_step {t:NT}{ps:List Str}{rs:List Row}{i:Nat}{r:Row}(hr:rs[i]? = some r) : msd t ps (rs.take (i + 1))=msd t ps (rs.take i) + (if (!decide (ansV t ps r.1 = .str r.2))=true then 1 else 0):=by
 unfold msd mss
 rw [filter_take _ hr,List.length_append]
 split <;> simp
theorem pi_ans {m:Str}{t:NT}{ps gs:List Str}(pi:PI (t.tb m) "" ps gs)(ks:List Key) : ∃ p u,p∈ps∧bgs (t.fall ks) ps = [p]∧t.go (cds p)=some u∧cds p <+: cds (t.fall ks)∧p.length≤t.dp∧ansV t ps ks=(cmn u.ct).1:=by
 obtain ⟨p,r,w,hp,ep,hg,hpre,hb⟩:=pi_fall ks pi
 have ep:p=r:=by rw [ep]; exact str_ext (by rw [cds_app]; rfl)
 subst ep
 have hb:bgs (t.fall ks) ps = [p]:=by
  have e:("" ++ t.fall ks:Str)=t.fall ks:=str_ext (by rw [cds_app]; rfl)
  rw [e] at hb
  exact hb
 have lp:=pi.shortN p hp
 rw [t.tb_dp] at lp
 exact ⟨p,w,hp,hb,hg,hpre,lp,ansV_is hb hg⟩
theorem Gl'.same {K:PySem.W.Frag}{H H':Hp}{a:Addr}{rs:List Row}(h:Gl' K H a rs)(s:Same H H') : Gl' K H' a rs:=let ⟨xs,h1,h2⟩:=h; ⟨xs,s _ _ h1,h2.mono s.t⟩
theorem Gl'.dv {K:PySem.W.Frag}{H:Hp}{a:Addr}{rs:List Row}(h:Gl' K H a rs) : DV K H (.ref a) (.list (rs.map rowD)):=let ⟨_,h1,h2⟩:=h; .lst (SqL.of h1) h2.dv
def Rw2 (r:Row) : Prop:=(∃ x w,r.1 = [.inl x,.inr w])∧RowOk r
theorem Rw2.asks {r:Row}{t:NT}(h:Rw2 r)(w:Wg t) : Asks r.1 t:=by
 obtain ⟨⟨x,u,e⟩,_⟩:=h
 rw [e]
 exact w.asks x u
def sp_missed (CL CF:Addr)(K:PySem.W.Frag) : Sp:=fun vs H Q _=>∃ (v:V) (a ga:Addr) (t:NT) (m:Str) (ps gs:List Str) (rs:List Row),vs = [v,.ref a,.ref ga]∧ND CL CF K H v t∧Wg t∧t.lv≤20∧H a=some (.lst (ps.map V.str))∧PI (t.tb m) "" ps gs∧Gl' K H ga rs∧rs.length≤60∧(∀ r∈rs,Rw2 r)∧∀ H',Same H H'→Q (.int (msd t ps rs)) H'
inductive T3s (H:Hp) : List V→List (Rat × Int × Int)→Prop
 | nil:T3s H [] []
 | cons {p r:Addr}{q:Rat}{a b:Int}{vs:List V}{ts:List (Rat × Int × Int)} : H p=some (.tup [.ref r,.int a,.int b])→H r=some (rt q)→T3s H vs ts→T3s H (.ref p :: vs) ((q,a,b) :: ts)
theorem T3s.same {H H':Hp}{vs:List V}{ts:List (Rat × Int × Int)}(h:T3s H vs ts)(s:Same H H') : T3s H' vs ts:=by
 induction h with
 | nil=>exact .nil
 | cons h1 h2 _ ih=>exact .cons (s _ _ h1) (s _ _ h2) ih
theorem T3s.snoc {H:Hp}{vs:List V}{ts:List (Rat × Int × Int)}{p r:Addr}{q:Rat}{a b:Int}(h:T3s H vs ts)(h1:H p=some (.tup [.ref r,.int a,.int b]))(h2:H r=some (rt q)) : T3s H (vs ++ [.ref p]) (ts ++ [(q,a,b)]):=by
 induction h with
 | nil=>exact .cons h1 h2 .nil
 | cons g1 g2 _ ih=>exact .cons g1 g2 ih
theorem T3s.len {H:Hp}{vs:List V}{ts:List (Rat × Int × Int)}(h:T3s H vs ts) : vs.length=ts.length:=by
 induction h with
 | nil=>rfl
 | cons _ _ _ ih=>rw [List.length_cons,List.length_cons,ih]
theorem T3s.at {H:Hp}{vs:List V}{ts:List (Rat × Int × Int)}(h:T3s H vs ts) : ∀ {i:Nat}{x:V},vs[i]? = some x→∃ p r q a b,x = .ref p∧ts[i]? = some (q,a,b)∧H p=some (.tup [.ref r,.int a,.int b])∧H r=some (rt q):=by
 induction h with
 | nil=>intro i x h; cases h
 | @cons p r q a b vs ts h1 h2 _ ih =>
  intro i x hx
  cases i with
  | zero=>exact ⟨p,r,q,a,b,(Option.some.inj hx).symm,rfl,h1,h2⟩
  | succ i=>exact ih hx
abbrev tri (t:NT) (rs:List Row) (sts:List (Rat × List Str)) : List (Rat × Int × Int):=sts.map fun s=>(s.1,((s.2.length:Nat) : Int),msd t s.2 rs)
def sp_trial (CL CF:Addr)(K:PySem.W.Frag)(C:Addr) : Sp:=fun vs H Q E=>∃ (v:V) (ga:Addr) (t:NT) (m:Str) (rs:List Row),vs = [v,.str m,.ref ga]∧ND CL CF K H v t∧Wg t∧t.lv≤20∧Sh m∧Gl' K H ga rs∧rs.length≤60∧(∀ r∈rs,Rw2 r) ∧
 ((isM m∧∀ H' p xs sts a b,Same H H'→H p=none→H' p=some (.lst xs)→T3s H' xs (tri t rs sts)→Pth (t.tb m) Bc sts a b []→sts.length≤21→Q (.ref p) H')∨(¬ isM m∧E (.ref C) none H))
def sp_lmiss (K:PySem.W.Frag) : Sp:=fun vs H Q _=>∃ (v:V) (a ga:Addr) (t:NT) (m:Str) (ps gs:List Str) (rs:List Row),vs = [v,.ref a,.ref ga]∧TD K H v t∧Wg t∧t.lv≤20∧H a=some (.lst (ps.map V.str))∧PI (t.tb m) "" ps gs∧Gl' K H ga rs∧rs.length≤60∧(∀ r∈rs,Rw2 r)∧∀ H',Same H H'→Q (.int (msd t ps rs)) H'
def sp_lgroup43 (K:PySem.W.Frag) : Sp:=fun vs H Q _=>∃ (ce wa:Addr) (ns:List Int) (ws:List Str),vs = [.ref ce,.ref wa]∧H ce=some (.lst (ns.map V.int))∧ns.length≤60∧H wa=some (.lst (ws.map V.str))∧ws.length=4∧(∀ w∈ws,isW w=true)∧∀ H' p rs,Same H H'→H p=none→Gl' K H' p rs→rs.length≤60→(∀ r∈rs,Rw2 r)→Q (.ref p) H'
def sp_ref43 (CL CF:Addr)(K:PySem.W.Frag) : Sp:=fun vs H Q _=>∃ (v:V) (ga:Addr) (t:NT) (m:Str) (rs:List Row),vs = [v,.str m,.ref ga]∧ND CL CF K H v t∧Wg t∧t.lv≤20∧Sh m∧Gl' K H ga rs∧rs.length≤60∧(∀ r∈rs,Rw2 r)∧¬ isM m∧∀ H',Same H H'→Q (.bl true) H'
def sp_right43 (K:PySem.W.Frag) : Sp:=fun vs H Q _=>∃ (fa sa ga:Addr) (v:V) (xs ys:List V) (t:NT) (m:Str) (sts:List (Rat × List Str)) (rs:List Row),vs = [.ref fa,.ref sa,v,.ref ga]∧H fa=some (.lst xs)∧T3s H xs (tri t rs sts)∧H sa=some (.lst ys)∧QVs H ys sts∧sts.length≤21∧(∀ s∈sts,∃ gs,PI (t.tb m) "" s.2 gs)∧TD K H v t∧Wg t∧t.lv≤20∧Gl' K H ga rs∧rs.length≤60∧(∀ r∈rs,Rw2 r)∧∀ H',Same H H'→Q (.bl true) H'
def ot43 (d:Int) : Str:=if d=0 then "" else if d=1 then "Shares" else if d=2 then "miss" else if d=3 then "sharesmisses" else "misses "
theorem ot43_at {d:Int}(h0:0≤d)(h1:d < 5) : atI [V.str "", .str "Shares", .str "miss", .str "sharesmisses", .str "misses "] d=some (.str (ot43 d)):=by
 rcases (by omega:d=0∨d=1∨d=2∨d=3∨d=4) with rfl | rfl | rfl | rfl | rfl <;> rfl
theorem ot43_no (d:Int) : Sh (ot43 d)∧¬ isM (ot43 d):=by
 have key:∀ s∈(["", "Shares", "miss", "sharesmisses", "misses "] : List Str),(∀ c∈s.cps.toList,c < 128)∧s.length≤1000∧¬ (s = "misses" ∨ s = "shares"):=by decide +kernel
 have mem:ot43 d∈(["", "Shares", "miss", "sharesmisses", "misses "] : List Str):=by
  unfold ot43
  split
  ·simp
  ·split
   ·simp
   ·split
    ·simp
    ·split
     ·simp
     ·simp
 obtain ⟨h1,h2,h3⟩:=key _ mem
 exact ⟨⟨fun c hc=>by have:=h1 c hc; omega,h2⟩,h3⟩
theorem cut4N (ns:List Int) : (∃ ms:List Int,cutV (ns.map V.int) (some 4) (some 18)=ms.map V.int∧ms.length≤16)∧∃ ms:List Int,cutV (ns.map V.int) (some 4) (some 44)=ms.map V.int∧ms.length≤60:=by
 have e1:HT.sIx ns.length 0 (some 4)=min 4 ns.length:=(by simp [HT.sIx])
 have e2:HT.sIx ns.length ns.length (some 18)=min 18 ns.length:=(by simp [HT.sIx])
 have e3:HT.sIx ns.length ns.length (some 44)=min 44 ns.length:=(by simp [HT.sIx])
 refine ⟨⟨(ns.drop (HT.sIx ns.length 0 (some 4))).take (HT.sIx ns.length ns.length (some 18) - HT.sIx ns.length 0 (some 4)),?_,?_⟩,⟨(ns.drop (HT.sIx ns.length 0 (some 4))).take (HT.sIx ns.length ns.length (some 44) - HT.sIx ns.length 0 (some 4)),?_,?_⟩⟩
 ·unfold cutV
  rw [List.length_map,List.map_take,List.map_drop]
 ·rw [List.length_take,List.length_drop,e1,e2]
  omega
 ·unfold cutV
  rw [List.length_map,List.map_take,List.map_drop]
 ·rw [List.length_take,List.length_drop,e1,e3]
  omega
theorem ms43 {j:Nat}{x:V}(h : [V.str "shares", .str "misses", .str "shares"][j]? = some x) : ∃ m:Str,x = .str m∧isM m:=by
 match j,h with
 | 0,h=>exact ⟨_,(Option.some.inj h).symm,.inr rfl⟩
 | 1,h=>exact ⟨_,(Option.some.inj h).symm,.inl rfl⟩
 | 2,h=>exact ⟨_,(Option.some.inj h).symm,.inr rfl⟩
theorem shRs {rs:List Row}(h:∀ r∈rs,Rw2 r) : Shp 64 (.list (rs.map rowD)):=Shp.mono (Shp.lst fun d hd=>by obtain ⟨r,hr,rfl⟩:=List.mem_map.mp hd; exact shpR (h r hr).2) (by decide)
local macro_rules | `(tactic| walk_at "o1") => `(tactic| first | exact Or.inl rfl | exact Or.inr rfl)
local macro_rules | `(tactic| walk_at "o2") => `(tactic| first | exact .inl rfl | exact .inr rfl | assumption)
local macro_rules | `(tactic| walk_at "ne") => `(tactic| first | assumption | exact Ne.symm (by assumption) | exact L2.ne_of (by assumption) (by assumption) (by intro z; cases z) | exact L2.ne_fresh (by assumption) (by walk_at "hp") | exact Ne.symm (L2.ne_fresh (by assumption) (by walk_at "hp")))
local macro_rules | `(tactic| walk_at "sf") => `(tactic| first | assumption | ((with_reducible refine L2.SqF.nw (by assumption) ?_); walk_at "sf") | ((with_reducible refine L2.SqF.lst (by walk_at "hp") ?_); walk_at "sf") | ((refine L2.SqF.sm (by assumption) ?_); walk_at "sf") | ((refine L2.SqF.sb (by assumption) (by walk_at "hp") ?_); walk_at "sf") | ((refine L2.SqF.sbi (by assumption) (by walk_at "hp") ?_); walk_at "sf"))
local macro_rules | `(tactic| walk_at "hp") => `(tactic| first | assumption | exact L2.upd_same | ((with_reducible refine L2.kp ?_ (by assumption)); walk_at "hp") | ((with_reducible refine L2.upd_at ?_ ?_); walk_at "ne"; walk_at "hp") | ((refine L2.Same.at' (by assumption) ?_); walk_at "hp") | ((refine L2.SameB.at' (by assumption) ?_ ?_); walk_at "hp"; walk_at "ne") | ((refine L2.SameT.at' (by assumption) ?_); walk_at "hp"))
local macro_rules | `(tactic| walk_at "ty") => `(tactic| first | exact .int _ | exact .bl _ | exact .str _ | exact .non | exact .tup (by walk_at "hp") | exact .lst (by walk_at "hp"))
local macro_rules | `(tactic| walk_at "b0") => `(tactic| first | assumption | exact Bz.w (by omega) (by omega) | exact Bz.mul (by walk_at "b0") (by walk_at "b0") | exact Bz.add' (by walk_at "b0") (by walk_at "b0") | exact Bz.sub' (by walk_at "b0") (by walk_at "b0") | exact Bz.neg (by walk_at "b0"))
local macro_rules | `(tactic| walk_at "bz") => `(tactic| first | walk_at "b0" | exact Bz.mono (by walk_at "b0") (by decide))
local macro_rules | `(tactic| walk_at "ss") => `(tactic| first | exact True.intro | (refine And.intro rfl ?_; walk_at "ss"))
local macro_rules | `(tactic| walk_at "sd") => `(tactic| first | assumption | ((with_reducible show @Eq _ _ _); first | (with_reducible exact rfl) | walk_at "hp" | exact L2.isi_same | exact L2.isi_ib | exact L2.isi_bi | exact L2.atI_mapD (PySem.Str.empty : PySem.Str) (by omega) (by omega) | exact L2.atI_mapD (0 : Int) (by omega) (by omega) | ((with_reducible show PySem.W.kitOne _ _ _ = some _); with_unfolding_all exact rfl) | omega) | ((with_reducible show L2.SqL _ _ _ _); first | (apply L2.SqL.of; walk_at "hp") | (apply L2.SqF.sq; walk_at "sf")) | ((with_reducible show L2.SqT _ _ _ _); exact L2.SqT.of (by walk_at "hp")) | ((with_reducible show L2.SqL _ _ _ _ ∨ L2.SqT _ _ _ _); first | exact Or.inl (L2.SqL.of (by walk_at "hp")) | exact Or.inr (L2.SqT.of (by walk_at "hp")) | exact Or.inl (by assumption) | exact Or.inr (by assumption)) | ((with_reducible show L2.TyOf _ _ _ _); walk_at "ty") | ((with_reducible show L2.tyV _ _ _ _); first | exact rfl | exact Or.inl ⟨rfl, _, L2.SqL.of (by walk_at "hp")⟩) | ((with_reducible show _ ≤ PySem.sizeLine); first | exact L2.sz | exact L2.szB (by omega) | omega) | ((with_reducible show _ < PySem.sizeLine); first | exact L2.small1000 (by omega) | omega) | ((with_reducible show L2.CPow _ _); exact ⟨by decide, by decide, by decide⟩) | ((with_reducible show L2.CDivB _ _); exact Lw.cN _ (by decide) (by decide)) | ((with_reducible show PySem.IntMulOk _ _); exact Bz.mulOk (by walk_at "b0") (by walk_at "b0")) | ((with_reducible show Bz _ _); walk_at "bz") | ((with_reducible show L2.SubS _ _); walk_at "ss") | ((with_reducible show L2.TVs _ _ _ _); exact L2.TVs.mono (L2.Same.t (by assumption)) (by assumption)) | ((with_reducible show @Ne L2.V _ _); walk_at "ne") | ((with_reducible show @Ne PySem.Addr _ _); walk_at "ne") | ((with_reducible show List.length _ < 1000); exact of_decide_eq_true rfl) | exact Exists.intro _ (L2.SqL.of (by walk_at "hp")) | exact Exists.intro _ (L2.SqT.of (by walk_at "hp")) | omega)
local macro_rules | `(tactic| walk_at "nw") => `(tactic| ((fail_if_success (apply Exists.intro (fun _ _ _ _ => True : Nat → Nat → L2.St → L2.Hp → Prop))); (fail_if_success (apply Exists.intro (fun _ _ _ => True : Nat → L2.St → L2.Hp → Prop))); (fail_if_success (apply Exists.intro (fun _ _ _ => True : Nat → List L2.V → L2.Hp → Prop))); (fail_if_success (apply Exists.intro (fun _ _ => True : L2.St → L2.Hp → Prop))); (fail_if_success (apply Exists.intro (PySem.PyData.none : PySem.PyData)))))
local macro_rules | `(tactic| walk_at "r1") => `(tactic| first | (with_reducible intro p hp) | (with_reducible intro p) | (apply And.intro; · ((with_reducible show @Eq _ _ _); exact rfl)) | (apply And.intro; · walk_at "sd") | (walk_at "nw"; apply Exists.intro) | refine L2.iteT ?_ | refine L2.iteF ?_ | refine L2.iteNotT ?_ | refine L2.iteNotF ?_ | refine L2.iteNN ?_ | (refine L2.iteY (by omega) ?_) | (refine L2.iteN (by omega) ?_) | (refine L2.iteYn (by omega) ?_) | (refine L2.iteNS (by omega) ?_) | (refine Or.inl (And.intro (L2.SqL.of (by walk_at "hp")) ?_)) | (intro p hp) | (intro p))
local macro_rules | `(tactic| walk_at "rd") => `(tactic| repeat ((fail_if_success (apply Exists.intro (fun _ _ => True : L2.St → L2.Hp → Prop))); walk_at "r1"))
local macro_rules | `(tactic| walk_at "cf") => `(tactic| (intro σ H Q q; repeat (first | exact q | (apply And.intro; · ((with_reducible show @Eq _ _ _); exact rfl)) | (apply And.intro; · first | ((with_reducible show L2.CPow _ _); exact ⟨by decide, by decide, by decide⟩) | ((with_reducible show PySem.IntMulOk _ _); exact Bz.mulOk (bzl (by decide)) (bzl (by decide)))) | apply Exists.intro)))
local macro_rules | `(tactic| walk_at "sm") => `(tactic| first | assumption | exact L2.Same.refl _ | exact L2.Same.new (by walk_at "sm") (by assumption) _ | exact L2.Same.trans (by assumption) (by walk_at "sm"))
local macro_rules | `(tactic| walk_at "kx") => `(tactic| try dsimp (config := { beta := false, proj := false, zeta := false, eta := false, iota := false }) only [L2.cxK, L2.lcK, L2.wishK])
section
variable {P:Program}{w:World}{K:PySem.W.Frag}{mg:Str→Option Value}{base:Heap}
theorem ok_is_whole (T:Tx K mg) : FnOk P w K mg base (CXe P w) 1 T.f_is_whole T.d_is_whole ["value"] sp_is_whole:=by
 have sc:=sc_is_whole
 refine T.F_is_whole.okx sc (fun vs H Q E h=>?_) (fun cdv A outer s H vs Q E hr h=>?_)
 ·obtain ⟨i,rfl,q⟩:=h
  rfl
 obtain ⟨i,rfl,q⟩:=h
 have hu:=hr.units0
 have hu2:=hr.units
 have hu1:=Nat.lt_of_le_of_lt (Nat.add_le_add_left (show 1≤64 by decide) _) hu2
 refine ⟨_,(@pss_one _ _ _ (@ps_ret _ _ _ _ (pe_and (pe_callB call_isi rfl T.z_isinstance bt_isinstance (pa_cons (pv 0) (pa_cons (pe_bltn (v:=.ty "int") rfl T.z_int bt_int rfl) pa_nil))) (pe_one (pe_not (pe_callB call_isi rfl T.z_isinstance bt_isinstance (pa_cons (pv 0) (pa_cons (pe_bltn (v:=.ty "bool") rfl T.z_bool bt_bool rfl) pa_nil)))))))),?_⟩
 walk_at "kx"
 walk_at "rd"
 exact q
theorem ok_greatest_divisor (T:Tx K mg) : FnOk P w K mg base (CXe P w) 1 T.f_greatest_divisor T.d_greatest_divisor ["one", "other"] sp_greatest_divisor:=by
 have sc:=sc_greatest_divisor
 refine T.F_greatest_divisor.okx sc (fun vs H Q E h=>?_) (fun cdv A outer s H vs Q E hr h=>?_)
 ·obtain ⟨a,b,rfl,hb,q⟩:=h
  rfl
 obtain ⟨a,b,rfl,hb,q⟩:=h
 have hu:=hr.units0
 have hu2:=hr.units
 have hu1:=Nat.lt_of_le_of_lt (Nat.add_le_add_left (show 1≤64 by decide) _) hu2
 refine ⟨_,(@pss_cons _ _ _ _ _ (@ps_set _ _ 2 _ _ _ _ sc.nd rfl (by walk_at "o1") (pe_callB call_abs rfl T.z_abs bt_abs (pa_cons (pv 0) pa_nil)) (by rfl) (by walk_at "o2"))
   (@pss_cons _ _ _ _ _ (@ps_set _ _ 3 _ _ _ _ sc.nd rfl (by walk_at "o1") (pe_callB call_abs rfl T.z_abs bt_abs (pa_cons (pv 1) pa_nil)) (by rfl) (by walk_at "o2"))
   (@pss_cons _ _ _ _ _ (ps_while powx (@pt_cmpR _ _ _ _ _ _ _ _ op_neI (pv 3) pe_int (nomark _)) (@pss_cons _ _ _ _ _ (@ps_set _ _ 4 _ _ _ _ sc.nd rfl (by walk_at "o1") (@pe_op _ _ _ _ _ _ _ _ op_mod (pv 2) (pv 3)) (by rfl) (by walk_at "o2"))
   (@pss_cons _ _ _ _ _ (@ps_set _ _ 2 _ _ _ _ sc.nd rfl (by walk_at "o1") (pv 3) (by rfl) (by walk_at "o2"))
   (@pss_one _ _ _ (@ps_set _ _ 3 _ _ _ _ sc.nd rfl (by walk_at "o1") (pv 4) (by rfl) (by walk_at "o2"))))))
   (@pss_one _ _ _ (@ps_ret _ _ _ _ (pv 2)))))),?_⟩
 walk_at "kx"
 walk_at "rd"
 refine while_by (fun σ H'=>H'=H∧∃ (x y:Int) (r:Option V),σ = [some (.int a),some (.int b),some (.int x),some (.int y),r]∧M.Inv a b x y)
  (fun σ _=>match σ with | [_,_,_,some (.int y),_]=>y.toNat | _=>0) ⟨rfl,_,_,_,rfl,M.Inv.start2 a b⟩ ?_ ?_
 ·rintro σ' H' ⟨rfl,x,y,r,rfl,iv⟩
  have h1:=iv.y0
  walk_at "rd"
  refine ite3n (fun c=>?_) (fun c=>?_)
  ·have hy:0 < y:=by omega
   walk_at "rd"
   exact ⟨⟨rfl,_,_,_,rfl,iv.turn hy⟩,M.less hy⟩
  ·walk_at "rd"
   rw [iv.out c hb]
   exact q
 ·rintro σ' H' Q1 Q2 hq ⟨v,e,i,j,ei,ej,k,ek,y⟩
  exact ⟨v,e,i,j,ei,ej,k,ek,hq _ _ y⟩
theorem ok_ratio (T:Tx K mg) : FnOk P w K mg base (CXe P w) 2 T.f_ratio T.d_ratio ["top", "bottom"] (sp_ratio T.c_NoRatio):=by
 have sc:=sc_ratio
 refine T.F_ratio.okx sc (fun vs H Q E h=>?_) (fun cdv A outer s H vs Q E hr h=>?_)
 ·obtain ⟨t,b,rfl,bz,q⟩:=h
  rfl
 obtain ⟨t,b,rfl,bz,q⟩:=h
 have hu:=hr.units0
 have hu2:=hr.units
 have hu1:=Nat.lt_of_le_of_lt (Nat.add_le_add_left (show 1≤64 by decide) _) hu2
 refine ⟨_,(@pss_cons _ _ _ _ _ (@ps_if _ _ _ _ _ _ _ _ (PW.pt (pw_or (pt_not (pt_val (pe_call (ok_is_whole T) (hr.mono (by decide)) rfl T.m_is_whole T.F_is_whole.kp T.b_is_whole .nil (pass_e fun _ _ z=>z) (pa_cons (pv 0) pa_nil)))) (pw_or1 (pt_not (pt_val (pe_call (ok_is_whole T) (hr.mono (by decide)) rfl T.m_is_whole T.F_is_whole.kp T.b_is_whole .nil (pass_e fun _ _ z=>z) (pa_cons (pv 1) pa_nil))))))) (@pss_one _ _ _ (ps_raise T.x_NoRatio rfl (pa_cons pe_str pa_nil se_c))) pss_nil)
   (@pss_cons _ _ _ _ _ (@ps_if _ _ _ _ _ _ _ _ (@pt_cmpR _ _ _ _ _ _ _ _ op_eqI (pv 1) pe_int (nomark _)) (@pss_one _ _ _ (ps_raise T.x_NoRatio rfl (pa_cons pe_str pa_nil se_c))) pss_nil)
   (@pss_cons _ _ _ _ _ (@ps_set _ _ 2 _ _ _ _ sc.nd rfl (by walk_at "o1") (pe_call (ok_greatest_divisor T) (hr.mono (by decide)) rfl T.m_greatest_divisor T.F_greatest_divisor.kp T.b_greatest_divisor .nil (pass_e fun _ _ z=>z) (pa_cons (pv 0) (pa_cons (pv 1) pa_nil))) (by rfl) (by walk_at "o2"))
   (@pss_cons _ _ _ _ _ (@ps_if _ _ _ _ _ _ _ _ (@pt_cmpR _ _ _ _ _ _ _ _ op_lt (pv 1) pe_int (nomark _)) (@pss_one _ _ _ (@ps_set _ _ 2 _ _ _ _ sc.nd rfl (by walk_at "o1") (pe_un un_neg (pv 2)) (by rfl) (by walk_at "o2"))) pss_nil)
   (@pss_one _ _ _ (@ps_ret _ _ _ _ (pe_tup (pa_cons (@pe_op _ _ _ _ _ _ _ _ op_fdivM (pv 0) (pv 2)) (pa_cons (@pe_op _ _ _ _ _ _ _ _ op_fdivM (pv 1) (pv 2)) pa_nil))))))))),?_⟩
 walk_at "kx"
 rcases q with ⟨hb,q⟩ | ⟨hb,q⟩
 ·subst hb
  walk_at "rd"
  exact q
 ·walk_at "rd"
  refine ite3 (fun c=>?_) (fun c=>?_)
  ·have cm:=cM' (t:=t) hb bz t
   have cm2:=cM' (t:=t) hb bz b
   walk_at "rd"
   exact q.neg c _ (by assumption)
  ·have cm:=cM (t:=t) hb bz t
   have cm2:=cM (t:=t) hb bz b
   walk_at "rd"
   exact q.pos (by omega) _ (by assumption)
theorem ok_check_measure (T:Tx K mg) : FnOk P w K mg base (CXe P w) 1 T.f_check_measure T.d_check_measure ["measure"] (sp_check_measure T.c_NoMeasure):=by
 have sc:=sc_check_measure
 refine T.F_check_measure.okx sc (fun vs H Q E h=>?_) (fun cdv A outer s H vs Q E hr h=>?_)
 ·obtain ⟨m,rfl,sh,q⟩:=h
  rfl
 obtain ⟨m,rfl,sh,q⟩:=h
 have hu:=hr.units0
 have hu2:=hr.units
 have hu1:=Nat.lt_of_le_of_lt (Nat.add_le_add_left (show 1≤64 by decide) _) hu2
 refine ⟨_,(@pss_one _ _ _ (@ps_if _ _ _ _ _ _ _ _ (@pt_cmpR _ _ _ _ _ _ _ _ op_notIn_seq (pv 0) (pe_glob (v:=.ref T.c_MEASURES) rfl T.m_MEASURES rfl) (by with_unfolding_all rfl)) (@pss_one _ _ _ (ps_raise T.x_NoMeasure rfl (pa_cons (pe_fstr (pfs_lit (k:=100) (by decide +kernel) (pfs_r (pv 0) pfs_nil))) pa_nil))) pss_nil)),?_⟩
 walk_at "kx"
 have s1:=sh.ok
 have s2:=sh.len
 rcases q with ⟨hm,q⟩ | ⟨hm,q⟩
 ·have e:=isM_in m hm
  walk_at "rd"
  refine ⟨.inr (T.q_MEASURES _),rfl,rfl,?_⟩
  walk_at "rd"
  rw [e]
  walk_at "rd"
  exact q
 ·have e:=isM_out m hm
  walk_at "rd"
  refine ⟨.inr (T.q_MEASURES _),rfl,rfl,?_⟩
  walk_at "rd"
  rw [e]
  walk_at "rd"
  exact q
theorem ok_commonest (T:Tx K mg) : FnOk P w K mg base (CXe P w) 1 T.f_commonest T.d_commonest ["counted"] (sp_commonest K):=by
 have sc:=sc_commonest
 refine T.F_commonest.okx sc (fun vs H Q E h=>?_) (fun cdv A outer s H vs Q E hr h=>?_)
 ·obtain ⟨a,cs,rfl,⟨xs,ha,ht⟩,q⟩:=h
  rfl
 obtain ⟨a,cs,rfl,⟨xs,ha,ht⟩,q⟩:=h
 have hu:=hr.units0
 have hu2:=hr.units
 have hu1:=Nat.lt_of_le_of_lt (Nat.add_le_add_left (show 1≤64 by decide) _) hu2
 refine ⟨_,(@pss_cons _ _ _ _ _ (@ps_set _ _ 1 _ _ _ _ sc.nd rfl (by walk_at "o1") pe_non (by rfl) (by walk_at "o2"))
   (@pss_cons _ _ _ _ _ (@ps_set _ _ 2 _ _ _ _ sc.nd rfl (by walk_at "o1") pe_int (by rfl) (by walk_at "o2"))
   (@pss_cons _ _ _ _ _ (ps_for powx rfl (pi_list (pv 0)) (pg_tup rfl (pgs_cons (pg_name (i:=3) sc.nd rfl (by walk_at "o1")) (pgs_cons (pg_name (i:=4) sc.nd rfl (by walk_at "o1")) pgs_nil)))
   (@pss_one _ _ _ (@ps_if _ _ _ _ _ _ _ _ (@pt_cmpR _ _ _ _ _ _ _ _ op_gt (pv 4) (pv 2) (nomark _)) (@pss_cons _ _ _ _ _ (@ps_set _ _ 1 _ _ _ _ sc.nd rfl (by walk_at "o1") (pv 3) (by rfl) (by walk_at "o2"))
   (@pss_one _ _ _ (@ps_set _ _ 2 _ _ _ _ sc.nd rfl (by walk_at "o1") (pv 4) (by rfl) (by walk_at "o2")))) pss_nil)))
   (@pss_one _ _ _ (@ps_ret _ _ _ _ (pv 1)))))),?_⟩
 walk_at "kx"
 have hlen:xs.length=cs.length:=by have:=ht.length; rw [List.length_map] at this; exact this
 walk_at "rd"
 refine for_list (K:=K) (a:=a) (xs:=xs) (fun i σ H'=>Iv (H'=H∧∃ o1 o2,σ = [some (.ref a),some ((cs.take i).foldl cmS (.non,0)).1,some (.int ((cs.take i).foldl cmS (.non,0)).2),o1,o2])) ⟨⟨rfl,_,_,rfl⟩⟩ (fun i σ H' _ z=>by rw [z.o.1]; exact SqL.of ha) ?_ ?_
 ·rintro i x σ H' hi ⟨⟨rfl,o1,o2,rfl⟩⟩
  have il:=(List.getElem?_eq_some_iff.mp hi).1
  obtain ⟨d,hd,tv⟩:=ht.get hi
  rw [List.getElem?_map] at hd
  obtain ⟨c,hc,rfl⟩:=Option.map_eq_some_iff.mp hd
  obtain ⟨p,u,v,rfl,hp,t1,t2⟩:=tv.pair
  obtain rfl:=t1.strs
  obtain rfl:=t2.ints
  walk_at "rd"
  have e:(cs.take (i + 1)).foldl cmS (.non,0)=cmS ((cs.take i).foldl cmS (.non,0)) c:=by rw [List.take_add_one,hc,List.foldl_append]; rfl
  rw [e]
  refine ite3 (fun h=>?_) (fun h=>?_)
  ·rw [cmS_t h]
   walk_at "rd"
   exact ⟨⟨rfl,_,_,rfl⟩⟩
  ·rw [cmS_f h]
   walk_at "rd"
   exact ⟨⟨rfl,_,_,rfl⟩⟩
 ·rintro σ H' ⟨⟨rfl,o1,o2,rfl⟩⟩
  walk_at "rd"
  rw [hlen,List.take_length]
  exact q
theorem ok_all_rows (T:Tx K mg) : FnOk P w K mg base (CXe P w) 1 T.f_all_rows T.d_all_rows ["counted"] (sp_all_rows K):=by
 have sc:=sc_all_rows
 refine T.F_all_rows.okx sc (fun vs H Q E h=>?_) (fun cdv A outer s H vs Q E hr h=>?_)
 ·obtain ⟨a,cs,rfl,⟨xs,ha,ht⟩,hn,q⟩:=h
  rfl
 obtain ⟨a,cs,rfl,⟨xs,ha,ht⟩,hn,q⟩:=h
 have hu:=hr.units0
 have hu2:=hr.units
 have hu1:=Nat.lt_of_le_of_lt (Nat.add_le_add_left (show 1≤64 by decide) _) hu2
 refine ⟨_,(@pss_one _ _ _ (@ps_ret _ _ _ _ (pe_callB (call_sum rfl) rfl T.z_sum bt_sum (pa_cons (pe_lc (ts:=["answer", "many"]) (js:=[]) (LcOk.of rfl) rfl (pi_list (pv 0)) (fun _ _ _ _=>(pg_tup rfl (pgs_cons (pg_name (i:=0) (nodup_of rfl) rfl (Or.inl rfl)) (pgs_cons (pg_name (i:=1) (nodup_of rfl) rfl (Or.inl rfl)) pgs_nil)))) (fun _ _ _ _=>pf_nil) (fun _ _ _ _=>(pv 1))) pa_nil)))),?_⟩
 walk_at "kx"
 have hlen:xs.length=cs.length:=by have:=ht.length; rw [List.length_map] at this; exact this
 walk_at "rd"
 refine lc_list (K:=K) (a:=a) (xs:=xs) (fun i ys H2=>Iv (H2=H∧ys=((cs.take i).map (·.2)).map V.int)) ⟨⟨rfl,rfl⟩⟩ (fun i ys H2 hi z=>⟨by rw [z.o.1]; exact SqL.of ha,by rw [z.o.2,List.length_map,List.length_map,List.length_take]; exact small1000 (by omega)⟩) ?_ ?_
 ·rintro i x ys H2 hi ⟨⟨rfl,rfl⟩⟩
  have il:=(List.getElem?_eq_some_iff.mp hi).1
  obtain ⟨d,hd,tv⟩:=ht.get hi
  rw [List.getElem?_map] at hd
  obtain ⟨c,hc,rfl⟩:=Option.map_eq_some_iff.mp hd
  obtain ⟨p,u,v,rfl,hp,t1,t2⟩:=tv.pair
  obtain rfl:=t1.strs
  obtain rfl:=t2.ints
  walk_at "rd"
  refine ⟨⟨rfl,?_⟩⟩
  rw [List.take_add_one,hc,List.map_append,List.map_append]
  rfl
 ·rintro ys H2 ⟨⟨rfl,rfl⟩⟩ p hp
  rw [hlen,List.take_length]
  walk_at "rd"
  exact q _ (by walk_at "sm")
theorem ok_misses (T:Tx K mg) : FnOk P w K mg base (CXe P w) 2 T.f_misses T.d_misses ["counted"] (sp_misses K):=by
 have sc:=sc_misses
 refine T.F_misses.okx sc (fun vs H Q E h=>?_) (fun cdv A outer s H vs Q E hr h=>?_)
 ·obtain ⟨a,cs,rfl,cn,hn,q⟩:=h
  rfl
 obtain ⟨a,cs,rfl,cn,hn,q⟩:=h
 have hu:=hr.units0
 have hu2:=hr.units
 have hu1:=Nat.lt_of_le_of_lt (Nat.add_le_add_left (show 1≤64 by decide) _) hu2
 refine ⟨_,(@pss_one _ _ _ (@ps_ret _ _ _ _ (@pe_op _ _ _ _ _ _ _ _ op_sub (pe_call (ok_all_rows T) (hr.mono (by decide)) rfl T.m_all_rows T.F_all_rows.kp T.b_all_rows .nil (pass_e fun _ _ z=>z) (pa_cons (pv 0) pa_nil)) (pe_callKw (call_max_dflt rfl) rfl T.z_max bt_max (pa_cons (pe_lc (ts:=["answer", "many"]) (js:=[]) (LcOk.of rfl) rfl (pi_list (pv 0)) (fun _ _ _ _=>(pg_tup rfl (pgs_cons (pg_name (i:=0) (nodup_of rfl) rfl (Or.inl rfl)) (pgs_cons (pg_name (i:=1) (nodup_of rfl) rfl (Or.inl rfl)) pgs_nil)))) (fun _ _ _ _=>pf_nil) (fun _ _ _ _=>(pv 1))) pa_nil) pe_int)))),?_⟩
 walk_at "kx"
 walk_at "rd"
 rename_i H1 S1
 obtain ⟨xs,ha,ht⟩:=cn.same S1
 have hlen:xs.length=cs.length:=by have:=ht.length; rw [List.length_map] at this; exact this
 walk_at "rd"
 refine lc_list (K:=K) (a:=a) (xs:=xs) (fun i ys H2=>Iv (H2=H1∧ys=((cs.take i).map (·.2)).map V.int)) ⟨⟨rfl,rfl⟩⟩ (fun i ys H2 hi z=>⟨by rw [z.o.1]; exact SqL.of ha,by rw [z.o.2,List.length_map,List.length_map,List.length_take]; exact small1000 (by omega)⟩) ?_ ?_
 ·rintro i x ys H2 hi ⟨⟨rfl,rfl⟩⟩
  have il:=(List.getElem?_eq_some_iff.mp hi).1
  obtain ⟨d,hd,tv⟩:=ht.get hi
  rw [List.getElem?_map] at hd
  obtain ⟨c,hc,rfl⟩:=Option.map_eq_some_iff.mp hd
  obtain ⟨p,u,v,rfl,hp,t1,t2⟩:=tv.pair
  obtain rfl:=t1.strs
  obtain rfl:=t2.ints
  walk_at "rd"
  refine ⟨⟨rfl,?_⟩⟩
  rw [List.take_add_one,hc,List.map_append,List.map_append]
  rfl
 ·rintro ys H2 ⟨⟨rfl,rfl⟩⟩ p hp
  rw [hlen,List.take_length]
  walk_at "rd"
  exact q _ (by walk_at "sm")
theorem ok_shares (T:Tx K mg) : FnOk P w K mg base (CXe P w) 3 T.f_shares T.d_shares ["counted"] (sp_shares K):=by
 have sc:=sc_shares
 refine T.F_shares.okx sc (fun vs H Q E h=>?_) (fun cdv A outer s H vs Q E hr h=>?_)
 ·obtain ⟨a,cs,rfl,cn,cz,q⟩:=h
  rfl
 obtain ⟨a,cs,rfl,cn,cz,q⟩:=h
 have hu:=hr.units0
 have hu2:=hr.units
 have hu1:=Nat.lt_of_le_of_lt (Nat.add_le_add_left (show 1≤64 by decide) _) hu2
 refine ⟨_,(@pss_cons _ _ _ _ _ (@ps_set _ _ 1 _ _ _ _ sc.nd rfl (by walk_at "o1") (pe_call (ok_all_rows T) (hr.mono (by decide)) rfl T.m_all_rows T.F_all_rows.kp T.b_all_rows .nil (pass_e fun _ _ z=>z) (pa_cons (pv 0) pa_nil)) (by rfl) (by walk_at "o2"))
   (@pss_cons _ _ _ _ _ (@ps_if _ _ _ _ _ _ _ _ (@pt_cmpR _ _ _ _ _ _ _ _ op_eqI (pv 1) pe_int (nomark _)) (@pss_one _ _ _ (@ps_ret _ _ _ _ (pe_call (ok_ratio T) (hr.mono (by decide)) rfl T.m_ratio T.F_ratio.kp T.b_ratio .nil (pass_e fun _ _ z=>z) (pa_cons pe_int (pa_cons pe_int pa_nil))))) pss_nil)
   (@pss_cons _ _ _ _ _ (@ps_set _ _ 2 _ _ _ _ sc.nd rfl (by walk_at "o1") (pe_callB (call_sum rfl) rfl T.z_sum bt_sum (pa_cons (pe_lc (ts:=["answer", "many"]) (js:=[]) (LcOk.of rfl) rfl (pi_list (pv 0)) (fun _ _ _ _=>(pg_tup rfl (pgs_cons (pg_name (i:=0) (nodup_of rfl) rfl (Or.inl rfl)) (pgs_cons (pg_name (i:=1) (nodup_of rfl) rfl (Or.inl rfl)) pgs_nil)))) (fun _ _ _ _=>pf_nil) (fun _ _ _ _=>(@pe_op _ _ _ _ _ _ _ _ op_mulB (pv 1) (pv 1)))) pa_nil)) (by rfl) (by walk_at "o2"))
   (@pss_one _ _ _ (@ps_ret _ _ _ _ (pe_call (ok_ratio T) (hr.mono (by decide)) rfl T.m_ratio T.F_ratio.kp T.b_ratio .nil (pass_e fun _ _ z=>z) (pa_cons (@pe_op _ _ _ _ _ _ _ _ op_sub (@pe_op _ _ _ _ _ _ _ _ op_mulB (pv 1) (pv 1)) (pv 2)) (pa_cons (pv 1) pa_nil)))))))),?_⟩
 walk_at "kx"
 have n60:=cz.len
 have sb:=cz.sum
 have u:messR cs "shares" = if sumC cs=0 then Rat.divInt 0 1 else Rat.divInt (sumC cs * sumC cs - sqC cs) (sumC cs):=if_neg (by decide +kernel)
 rw [u] at q
 have z1:Bz 8000 1:=(Bz.w (x:=1) (by decide) (by decide)).mono (by decide)
 have zs:Bz 128 (sumC cs):=Bz.w (by omega) (by omega)
 have z8:Bz 8000 (sumC cs):=zs.mono (by decide)
 walk_at "rd"
 rename_i H1 S1
 refine ite3 (fun h0=>?_) (fun h0=>?_)
 ·rw [if_pos h0] at q
  walk_at "rd"
  exact .inr ⟨by decide,(q.of S1).nw⟩
 ·rw [if_neg h0] at q
  obtain ⟨xs,ha,ht⟩:=cn.same S1
  have hlen:xs.length=cs.length:=by have:=ht.length; rw [List.length_map] at this; exact this
  walk_at "rd"
  refine lc_list (K:=K) (a:=a) (xs:=xs) (fun i ys H2=>Iv (H2=H1∧ys=((cs.take i).map fun c=>c.2 * c.2).map V.int)) ⟨⟨rfl,rfl⟩⟩ (fun i ys H2 hi z=>⟨by rw [z.o.1]; exact SqL.of ha,by rw [z.o.2,List.length_map,List.length_map,List.length_take]; exact small1000 (by omega)⟩) ?_ ?_
  ·rintro i x ys H2 hi ⟨⟨rfl,rfl⟩⟩
   have il:=(List.getElem?_eq_some_iff.mp hi).1
   obtain ⟨d,hd,tv⟩:=ht.get hi
   rw [List.getElem?_map] at hd
   obtain ⟨c,hc,rfl⟩:=Option.map_eq_some_iff.mp hd
   obtain ⟨p,u,v,rfl,hp,t1,t2⟩:=tv.pair
   obtain rfl:=t1.strs
   obtain rfl:=t2.ints
   have c1:=cz.one c (List.mem_of_getElem? hc)
   have c2:=cz.up c (List.mem_of_getElem? hc)
   have zc:Bz 128 c.2:=Bz.w (by omega) (by omega)
   walk_at "rd"
   refine ⟨⟨rfl,?_⟩⟩
   rw [List.take_add_one,hc,List.map_append,List.map_append]
   rfl
  ·rintro ys H2 ⟨⟨rfl,rfl⟩⟩ p hp
   rw [hlen,List.take_length]
   walk_at "rd"
   refine .inr ⟨h0,?_⟩
   exact ((q.of S1).of (same_new hp _)).nw
theorem ok_mess (T:Tx K mg) : FnOk P w K mg base (CXe P w) 4 T.f_mess T.d_mess ["counted", "measure"] (sp_mess K T.c_NoMeasure):=by
 have sc:=sc_mess
 refine T.F_mess.okx sc (fun vs H Q E h=>?_) (fun cdv A outer s H vs Q E hr h=>?_)
 ·obtain ⟨a,cs,m,rfl,cn,cz,sh,q⟩:=h
  rfl
 obtain ⟨a,cs,m,rfl,cn,cz,sh,q⟩:=h
 have hu:=hr.units0
 have hu2:=hr.units
 have hu1:=Nat.lt_of_le_of_lt (Nat.add_le_add_left (show 1≤64 by decide) _) hu2
 refine ⟨_,(@pss_cons _ _ _ _ _ (ps_expr (pe_call (ok_check_measure T) (hr.mono (by decide)) rfl T.m_check_measure T.F_check_measure.kp T.b_check_measure .nil (pass_e fun _ _ z=>z) (pa_cons (pv 1) pa_nil)))
   (@pss_cons _ _ _ _ _ (@ps_if _ _ _ _ _ _ _ _ (@pt_cmpR _ _ _ _ _ _ _ _ op_eqS (pv 1) pe_str (nomark _)) (@pss_one _ _ _ (@ps_ret _ _ _ _ (pe_call (ok_ratio T) (hr.mono (by decide)) rfl T.m_ratio T.F_ratio.kp T.b_ratio .nil (pass_e fun _ _ z=>z) (pa_cons (pe_call (ok_misses T) (hr.mono (by decide)) rfl T.m_misses T.F_misses.kp T.b_misses .nil (pass_e fun _ _ z=>z) (pa_cons (pv 0) pa_nil)) (pa_cons pe_int pa_nil))))) pss_nil)
   (@pss_one _ _ _ (@ps_ret _ _ _ _ (pe_call (ok_shares T) (hr.mono (by decide)) rfl T.m_shares T.F_shares.kp T.b_shares .nil (pass_e fun _ _ z=>z) (pa_cons (pv 0) pa_nil)))))),?_⟩
 walk_at "kx"
 have n60:=cz.len
 have z1:Bz 8000 1:=(Bz.w (x:=1) (by decide) (by decide)).mono (by decide)
 rcases q with ⟨hm,q⟩ | ⟨hm,q⟩
 ·walk_at "rd"
  refine .inl ⟨hm,?_⟩
  walk_at "rd"
  refine ite3 (fun h=>?_) (fun h=>?_)
  ·have u:messR cs m=Rat.divInt (sumC cs - mxD 0 (cs.map (·.2))) 1:=if_pos h
   rw [u] at q
   walk_at "rd"
   rename_i H1 S1
   exact .inr ⟨by decide,(q.of S1).nw⟩
  ·have e:m = "shares" := hm.resolve_left h
   subst e
   walk_at "rd"
   exact q _ _ (by assumption) (by assumption) (by assumption)
 ·walk_at "rd"
  refine .inr ⟨hm,?_⟩
  walk_at "rd"
  exact q
theorem ok_says (T:Tx K mg) : FnOk P w K mg base (CXe P w) 1 T.f_says T.d_says ["question", "values"] sp_says:=by
 have sc:=sc_says
 refine T.F_says.okx sc (fun vs H Q E h=>?_) (fun cdv A outer s H vs Q E hr h=>?_)
 ·obtain ⟨qa,va,q,ks,rfl,hq,hv,ak,k⟩:=h
  rfl
 obtain ⟨qa,va,q,ks,rfl,hq,hv,ak,k⟩:=h
 have hu:=hr.units0
 have hu2:=hr.units
 have hu1:=Nat.lt_of_le_of_lt (Nat.add_le_add_left (show 1≤64 by decide) _) hu2
 refine ⟨_,(@pss_cons _ _ _ _ _ (@ps_set _ _ 2 _ _ _ _ sc.nd rfl (by walk_at "o1") (@pe_ix _ _ _ _ _ _ _ ix_tup (pv 1) (@pe_ix _ _ _ _ _ _ _ ix_tup (pv 0) pe_int (fun _ _=>rfl)) (fun _ _=>rfl)) (by rfl) (by walk_at "o2"))
   (@pss_cons _ _ _ _ _ (@ps_if _ _ _ _ _ _ _ _ (@pt_cmpR _ _ _ _ _ _ _ _ op_eqS (@pe_ix _ _ _ _ _ _ _ ix_tup (pv 0) pe_int (fun _ _=>rfl)) pe_str (nomark _)) (@pss_one _ _ _ (@ps_ret _ _ _ _ (pe_cmpR op_le (pv 2) (@pe_ix _ _ _ _ _ _ _ ix_tup (pv 0) pe_int (fun _ _=>rfl)) (nomark _)))) pss_nil)
   (@pss_one _ _ _ (@ps_ret _ _ _ _ (pe_cmpR op_eq (pv 2) (@pe_ix _ _ _ _ _ _ _ ix_tup (pv 0) pe_int (fun _ _=>rfl)) (nomark _)))))),?_⟩
 walk_at "kx"
 have hq:H qa=some (.tup [.str q.kd,.int q.at',kV q.c]):=hq
 rcases ak with ⟨e,v,n,e1,e2⟩ | ⟨e,v,w',e1,e2⟩
 ·have ea:atI (ks.map kV) (q.at':Int)=some (.int v):=atI_nat (by rw [List.getElem?_map,e1]; rfl)
  have es:say q ks=decide (v≤n):=by unfold say; rw [e1,e2]
  rw [e,e2] at hq
  rw [es] at k
  walk_at "rd"
  exact k
 ·have ea:atI (ks.map kV) (q.at':Int)=some (.str v):=atI_nat (by rw [List.getElem?_map,e1]; rfl)
  have es:say q ks=decide (v=w'):=by unfold say; rw [e1,e2]
  rw [e,e2] at hq
  rw [es] at k
  walk_at "rd"
  show Q (V.bl (decide (V.str v=V.str w'))) H
  rw [str_eqV]
  exact k
theorem ok_Node___init__ (T:Tx K mg) : FnOk P w K mg base (CXe P w) 1 T.f_Node___init__ T.d_Node___init__ ["self", "counted"] (sp_init_node T.c_Leaf T.c_Fork):=by
 have sc:=sc_Node___init__
 refine T.F_Node___init__.okx sc (fun vs H Q E h=>?_) (fun cdv A outer s H vs Q E hr h=>?_)
 ·obtain ⟨x,a,C,dx,xs,rfl,hx,hC,ha,q⟩:=h
  rfl
 obtain ⟨x,a,C,dx,xs,rfl,hx,hC,ha,q⟩:=h
 have hu:=hr.units0
 have hu2:=hr.units
 have hu1:=Nat.lt_of_le_of_lt (Nat.add_le_add_left (show 1≤64 by decide) _) hu2
 refine ⟨_,(@pss_one _ _ _ (ps_fld (pv 0) (pe_callTy call_list_of rfl T.z_list bt_list (pa_cons (pv 1) pa_nil)) rfl)),?_⟩
 walk_at "kx"
 have C1:=T.C_Leaf
 have C2:=T.C_Fork
 have N0:NoAttr K T.c_Leaf "counted" := T.nLc
 have N1:NoAttr K T.c_Fork "counted" := T.nFcd
 have N2:NoAttr K T.c_Fork "question" := T.nFqn
 have N3:NoAttr K T.c_Fork "yes" := T.nFys
 have N4:NoAttr K T.c_Fork "no" := T.nFno
 have N5:NoAttr K T.c_Fork "leaf_count" := T.nFlt
 have N6:NoAttr K T.c_Fork "depth" := T.nFdh
 rcases hC with rfl | rfl
 ·walk_at "rd"
  rename_i l hl
  exact q l hl
 ·walk_at "rd"
  rename_i l hl
  exact q l hl
theorem ok_Leaf_below (T:Tx K mg) : FnOk P w K mg base (CXe P w) 1 T.f_Leaf_below T.d_Leaf_below ["self", "sign"] sp_lbelow:=by
 have sc:=sc_Leaf_below
 refine T.F_Leaf_below.okx sc (fun vs H Q E h=>?_) (fun cdv A outer s H vs Q E hr h=>?_)
 ·obtain ⟨x,w,rfl,q⟩:=h
  rfl
 obtain ⟨x,w,rfl,q⟩:=h
 have hu:=hr.units0
 have hu2:=hr.units
 have hu1:=Nat.lt_of_le_of_lt (Nat.add_le_add_left (show 1≤64 by decide) _) hu2
 refine ⟨_,(@pss_one _ _ _ (@ps_ret _ _ _ _ pe_non)),?_⟩
 walk_at "kx"
 walk_at "rd"
 exact q
theorem ok_Leaf_leaves (T:Tx K mg) : FnOk P w K mg base (CXe P w) 1 T.f_Leaf_leaves T.d_Leaf_leaves ["self"] (sp_lleaves T.c_Leaf 1):=by
 have sc:=sc_Leaf_leaves
 refine T.F_Leaf_leaves.okx sc (fun vs H Q E h=>?_) (fun cdv A outer s H vs Q E hr h=>?_)
 ·obtain ⟨x,dx,fs,rfl,hx,q⟩:=h
  rfl
 obtain ⟨x,dx,fs,rfl,hx,q⟩:=h
 have hu:=hr.units0
 have hu2:=hr.units
 have hu1:=Nat.lt_of_le_of_lt (Nat.add_le_add_left (show 1≤64 by decide) _) hu2
 refine ⟨_,(@pss_one _ _ _ (@ps_ret _ _ _ _ pe_int)),?_⟩
 walk_at "kx"
 walk_at "rd"
 exact q
theorem ok_Leaf_deep (T:Tx K mg) : FnOk P w K mg base (CXe P w) 1 T.f_Leaf_deep T.d_Leaf_deep ["self"] (sp_lleaves T.c_Leaf 0):=by
 have sc:=sc_Leaf_deep
 refine T.F_Leaf_deep.okx sc (fun vs H Q E h=>?_) (fun cdv A outer s H vs Q E hr h=>?_)
 ·obtain ⟨x,dx,fs,rfl,hx,q⟩:=h
  rfl
 obtain ⟨x,dx,fs,rfl,hx,q⟩:=h
 have hu:=hr.units0
 have hu2:=hr.units
 have hu1:=Nat.lt_of_le_of_lt (Nat.add_le_add_left (show 1≤64 by decide) _) hu2
 refine ⟨_,(@pss_one _ _ _ (@ps_ret _ _ _ _ pe_int)),?_⟩
 walk_at "kx"
 walk_at "rd"
 exact q
theorem ok_Leaf_place_of (T:Tx K mg) : FnOk P w K mg base (CXe P w) 1 T.f_Leaf_place_of T.d_Leaf_place_of ["self", "values"] sp_lplace:=by
 have sc:=sc_Leaf_place_of
 refine T.F_Leaf_place_of.okx sc (fun vs H Q E h=>?_) (fun cdv A outer s H vs Q E hr h=>?_)
 ·obtain ⟨x,va,rfl,q⟩:=h
  rfl
 obtain ⟨x,va,rfl,q⟩:=h
 have hu:=hr.units0
 have hu2:=hr.units
 have hu1:=Nat.lt_of_le_of_lt (Nat.add_le_add_left (show 1≤64 by decide) _) hu2
 refine ⟨_,(@pss_one _ _ _ (@ps_ret _ _ _ _ pe_str)),?_⟩
 walk_at "kx"
 walk_at "rd"
 exact q
theorem ok_Fork_below (T:Tx K mg) : FnOk P w K mg base (CXe P w) 1 T.f_Fork_below T.d_Fork_below ["self", "sign"] (sp_fbelow T.c_Leaf T.c_Fork K):=by
 have sc:=sc_Fork_below
 refine T.F_Fork_below.okx sc (fun vs H Q E h=>?_) (fun cdv A outer s H vs Q E hr h=>?_)
 ·obtain ⟨x,w,dx,l,qa,v1,v2,a,b,rfl,hx,q⟩:=h
  rfl
 obtain ⟨x,w,dx,l,qa,v1,v2,a,b,rfl,hx,q⟩:=h
 have hu:=hr.units0
 have hu2:=hr.units
 have hu1:=Nat.lt_of_le_of_lt (Nat.add_le_add_left (show 1≤64 by decide) _) hu2
 refine ⟨_,(@pss_cons _ _ _ _ _ (@ps_if _ _ _ _ _ _ _ _ (@pt_cmpR _ _ _ _ _ _ _ _ op_eqS (pv 1) pe_str (nomark _)) (@pss_one _ _ _ (@ps_ret _ _ _ _ (pe_fld (pv 0) rfl))) pss_nil)
   (@pss_cons _ _ _ _ _ (@ps_if _ _ _ _ _ _ _ _ (@pt_cmpR _ _ _ _ _ _ _ _ op_eqS (pv 1) pe_str (nomark _)) (@pss_one _ _ _ (@ps_ret _ _ _ _ (pe_fld (pv 0) rfl))) pss_nil)
   (@pss_one _ _ _ (@ps_ret _ _ _ _ pe_non)))),?_⟩
 walk_at "kx"
 have C1:=T.C_Leaf
 have C2:=T.C_Fork
 have N0:NoAttr K T.c_Leaf "counted" := T.nLc
 have N1:NoAttr K T.c_Fork "counted" := T.nFcd
 have N2:NoAttr K T.c_Fork "question" := T.nFqn
 have N3:NoAttr K T.c_Fork "yes" := T.nFys
 have N4:NoAttr K T.c_Fork "no" := T.nFno
 have N5:NoAttr K T.c_Fork "leaf_count" := T.nFlt
 have N6:NoAttr K T.c_Fork "depth" := T.nFdh
 walk_at "rd"
 refine ite3 (fun e=>?_) (fun e=>?_)
 ·rw [if_pos e] at q
  walk_at "rd"
  exact q
 ·rw [if_neg e] at q
  walk_at "rd"
  refine ite3 (fun e=>?_) (fun e=>?_)
  ·rw [if_pos e] at q
   walk_at "rd"
   exact q
  ·rw [if_neg e] at q
   walk_at "rd"
   exact q
theorem ok_Fork_leaves (T:Tx K mg) : FnOk P w K mg base (CXe P w) 1 T.f_Fork_leaves T.d_Fork_leaves ["self"] (sp_ffield T.c_Fork "leaf_count"):=by
 have sc:=sc_Fork_leaves
 refine T.F_Fork_leaves.okx sc (fun vs H Q E h=>?_) (fun cdv A outer s H vs Q E hr h=>?_)
 ·obtain ⟨x,dx,fs,v,rfl,hx,hv,q⟩:=h
  rfl
 obtain ⟨x,dx,fs,v,rfl,hx,hv,q⟩:=h
 have hu:=hr.units0
 have hu2:=hr.units
 have hu1:=Nat.lt_of_le_of_lt (Nat.add_le_add_left (show 1≤64 by decide) _) hu2
 refine ⟨_,(@pss_one _ _ _ (@ps_ret _ _ _ _ (pe_fld (pv 0) rfl))),?_⟩
 walk_at "kx"
 have C1:=T.C_Leaf
 have C2:=T.C_Fork
 have N0:NoAttr K T.c_Leaf "counted" := T.nLc
 have N1:NoAttr K T.c_Fork "counted" := T.nFcd
 have N2:NoAttr K T.c_Fork "question" := T.nFqn
 have N3:NoAttr K T.c_Fork "yes" := T.nFys
 have N4:NoAttr K T.c_Fork "no" := T.nFno
 have N5:NoAttr K T.c_Fork "leaf_count" := T.nFlt
 have N6:NoAttr K T.c_Fork "depth" := T.nFdh
 walk_at "rd"
 exact q
theorem ok_Fork_deep (T:Tx K mg) : FnOk P w K mg base (CXe P w) 1 T.f_Fork_deep T.d_Fork_deep ["self"] (sp_ffield T.c_Fork "depth"):=by
 have sc:=sc_Fork_deep
 refine T.F_Fork_deep.okx sc (fun vs H Q E h=>?_) (fun cdv A outer s H vs Q E hr h=>?_)
 ·obtain ⟨x,dx,fs,v,rfl,hx,hv,q⟩:=h
  rfl
 obtain ⟨x,dx,fs,v,rfl,hx,hv,q⟩:=h
 have hu:=hr.units0
 have hu2:=hr.units
 have hu1:=Nat.lt_of_le_of_lt (Nat.add_le_add_left (show 1≤64 by decide) _) hu2
 refine ⟨_,(@pss_one _ _ _ (@ps_ret _ _ _ _ (pe_fld (pv 0) rfl))),?_⟩
 walk_at "kx"
 have C1:=T.C_Leaf
 have C2:=T.C_Fork
 have N0:NoAttr K T.c_Leaf "counted" := T.nLc
 have N1:NoAttr K T.c_Fork "counted" := T.nFcd
 have N2:NoAttr K T.c_Fork "question" := T.nFqn
 have N3:NoAttr K T.c_Fork "yes" := T.nFys
 have N4:NoAttr K T.c_Fork "no" := T.nFno
 have N5:NoAttr K T.c_Fork "leaf_count" := T.nFlt
 have N6:NoAttr K T.c_Fork "depth" := T.nFdh
 walk_at "rd"
 exact q
theorem ok_Fork_place_of0 (T:Tx K mg) : FnOk P w K mg base (CXe P w) (0 + 2) T.f_Fork_place_of T.d_Fork_place_of ["self", "values"] (sp_fplace T.c_Leaf T.c_Fork K 0):=by
 have sc:=sc_Fork_place_of
 refine T.F_Fork_place_of.okx sc (fun vs H Q E h=>?_) (fun cdv A outer s H vs Q E hr h=>?_)
 ·obtain ⟨x,va,dx,l,qa,v1,v2,cs,qq,y,n,ks,rfl,hx,hq,n1,n2,hv,ha,hd,h9,q⟩:=h
  rfl
 obtain ⟨x,va,dx,l,qa,v1,v2,cs,qq,y,n,ks,rfl,hx,hq,n1,n2,hv,ha,hd,h9,q⟩:=h
 have hu:=hr.units0
 have hu2:=hr.units
 have hu1:=Nat.lt_of_le_of_lt (Nat.add_le_add_left (show 1≤64 by decide) _) hu2
 refine ⟨_,(@pss_cons _ _ _ _ _ (@ps_if _ _ _ _ _ _ _ _ (pt_val (pe_call (ok_says T) (hr.mono (by decide)) rfl T.m_says T.F_says.kp T.b_says .nil (pass_e fun _ _ z=>z) (pa_cons (pe_fld (pv 0) rfl) (pa_cons (pv 1) pa_nil)))) (@pss_one _ _ _ ps_never) pss_nil)
   (@pss_one _ _ _ ps_never)),?_⟩
 walk_at "kx"
 exact absurd hd (by omega)
theorem ok_Fork_place_ofS (T:Tx K mg)(d:Nat)(ih:FnOk P w K mg base (CXe P w) (d + 2) T.f_Fork_place_of T.d_Fork_place_of ["self", "values"] (sp_fplace T.c_Leaf T.c_Fork K d)) : FnOk P w K mg base (CXe P w) (d + 1 + 2) T.f_Fork_place_of T.d_Fork_place_of ["self", "values"] (sp_fplace T.c_Leaf T.c_Fork K (d + 1)):=by
 have sc:=sc_Fork_place_of
 refine T.F_Fork_place_of.okx sc (fun vs H Q E h=>?_) (fun cdv A outer s H vs Q E hr h=>?_)
 ·obtain ⟨x,va,dx,l,qa,v1,v2,cs,qq,y,n,ks,rfl,hx,hq,n1,n2,hv,ha,hd,h9,q⟩:=h
  rfl
 obtain ⟨x,va,dx,l,qa,v1,v2,cs,qq,y,n,ks,rfl,hx,hq,n1,n2,hv,ha,hd,h9,q⟩:=h
 have hu:=hr.units0
 have hu2:=hr.units
 have hu1:=Nat.lt_of_le_of_lt (Nat.add_le_add_left (show 1≤64 by decide) _) hu2
 refine ⟨_,(@pss_cons _ _ _ _ _ (@ps_if _ _ _ _ _ _ _ _ (pt_val (pe_call (ok_says T) (hr.mono (by omega)) rfl T.m_says T.F_says.kp T.b_says .nil (pass_e fun _ _ z=>z) (pa_cons (pe_fld (pv 0) rfl) (pa_cons (pv 1) pa_nil)))) (@pss_one _ _ _ (@ps_ret _ _ _ _ (@pe_op _ _ _ _ _ _ _ _ op_add_str pe_str (pe_meth2 (pe_fld (pv 0) rfl) T.C_Leaf T.M_Leaf_place_of (ok_Leaf_place_of T) (hr.mono (by omega)) T.b_Leaf_place_of T.C_Fork T.M_Fork_place_of ih (hr.mono (by omega)) T.b_Fork_place_of (pass_e fun _ _ z=>z) (pa_cons (pv 1) pa_nil))))) pss_nil)
   (@pss_one _ _ _ (@ps_ret _ _ _ _ (@pe_op _ _ _ _ _ _ _ _ op_add_str pe_str (pe_meth2 (pe_fld (pv 0) rfl) T.C_Leaf T.M_Leaf_place_of (ok_Leaf_place_of T) (hr.mono (by omega)) T.b_Leaf_place_of T.C_Fork T.M_Fork_place_of ih (hr.mono (by omega)) T.b_Fork_place_of (pass_e fun _ _ z=>z) (pa_cons (pv 1) pa_nil)))))),?_⟩
 walk_at "kx"
 have C1:=T.C_Leaf
 have C2:=T.C_Fork
 have N0:NoAttr K T.c_Leaf "counted" := T.nLc
 have N1:NoAttr K T.c_Fork "counted" := T.nFcd
 have N2:NoAttr K T.c_Fork "question" := T.nFqn
 have N3:NoAttr K T.c_Fork "yes" := T.nFys
 have N4:NoAttr K T.c_Fork "no" := T.nFno
 have N5:NoAttr K T.c_Fork "leaf_count" := T.nFlt
 have N6:NoAttr K T.c_Fork "depth" := T.nFdh
 cases ha with
 | fk ak ay an =>
  have ly:=y.fall_len ks
  have ln:=n.fall_len ks
  have l1:("y" : Str).length=1:=by decide +kernel
  have l2:("n" : Str).length=1:=by decide +kernel
  walk_at "rd"
  refine iteB (fun e=>?_) (fun e=>?_)
  ·have ef:(NT.fk cs qq y n).fall ks = "y" ++ y.fall ks:=if_pos e
   rw [ef] at q
   walk_at "rd"
   refine nd_place (d:=d) n1 hv ay (by omega) (by omega) (fun k hk=>by walk_at "rd"; exact hk) ?_
   walk_at "rd"
   exact q
  ·have ef:(NT.fk cs qq y n).fall ks = "n" ++ n.fall ks:=if_neg (by rw [e]; exact Bool.false_ne_true)
   rw [ef] at q
   walk_at "rd"
   refine nd_place (d:=d) n2 hv an (by omega) (by omega) (fun k hk=>by walk_at "rd"; exact hk) ?_
   walk_at "rd"
   exact q
theorem ok_Fork_place_ofA (T:Tx K mg) : ∀ d:Nat,FnOk P w K mg base (CXe P w) (d + 2) T.f_Fork_place_of T.d_Fork_place_of ["self", "values"] (sp_fplace T.c_Leaf T.c_Fork K d):=by
 intro d
 induction d with
 | zero=>exact ok_Fork_place_of0 T
 | succ d ih=>exact ok_Fork_place_ofS T d ih
theorem ok_Fork_place_of (T:Tx K mg) : FnOk P w K mg base (CXe P w) (24 + 2) T.f_Fork_place_of T.d_Fork_place_of ["self", "values"] (sp_fplace T.c_Leaf T.c_Fork K 24):=by exact ok_Fork_place_ofA T 24
theorem ok_Fork___init__ (T:Tx K mg) : FnOk P w K mg base (CXe P w) 3 T.f_Fork___init__ T.d_Fork___init__ ["self", "counted", "question", "yes", "no"] (sp_init_fork T.c_Leaf T.c_Fork K):=by
 have sc:=sc_Fork___init__
 refine T.F_Fork___init__.okx sc (fun vs H Q E h=>?_) (fun cdv A outer s H vs Q E hr h=>?_)
 ·obtain ⟨x,a,qa,dx,v1,v2,cs,qq,y,n,rfl,hx,⟨xs,ha,ht⟩,hq,n1,n2,q⟩:=h
  rfl
 obtain ⟨x,a,qa,dx,v1,v2,cs,qq,y,n,rfl,hx,⟨xs,ha,ht⟩,hq,n1,n2,q⟩:=h
 have hu:=hr.units0
 have hu2:=hr.units
 have hu1:=Nat.lt_of_le_of_lt (Nat.add_le_add_left (show 1≤64 by decide) _) hu2
 refine ⟨_,(@pss_cons _ _ _ _ _ (ps_expr (pe_clsc (pe_glob (v:=.ref T.c_Node) rfl T.m_Node rfl) T.cc_Node___init__ (ok_Node___init__ T) (hr.mono (by decide)) T.b_Node___init__ (pass_e fun _ _ z=>z) (pa_cons (pv 0) (pa_cons (pv 1) pa_nil))))
   (@pss_cons _ _ _ _ _ (ps_fld (pv 0) (pv 2) rfl)
   (@pss_cons _ _ _ _ _ (ps_fld (pv 0) (pv 3) rfl)
   (@pss_cons _ _ _ _ _ (@ps_mid _ _ _ (ps_fld (pv 0) (pv 4) rfl))
   (@pss_cons _ _ _ _ _ (ps_fld (pv 0) (@pe_op _ _ _ _ _ _ _ _ op_add (pe_meth20 (pv 3) T.C_Leaf T.M_Leaf_leaves (ok_Leaf_leaves T) (hr.mono (by decide)) T.b_Leaf_leaves T.C_Fork T.M_Fork_leaves (ok_Fork_leaves T) (hr.mono (by decide)) T.b_Fork_leaves (pass_e fun _ _ z=>z)) (pe_meth20 (pv 4) T.C_Leaf T.M_Leaf_leaves (ok_Leaf_leaves T) (hr.mono (by decide)) T.b_Leaf_leaves T.C_Fork T.M_Fork_leaves (ok_Fork_leaves T) (hr.mono (by decide)) T.b_Fork_leaves (pass_e fun _ _ z=>z))) rfl)
   (@pss_one _ _ _ (ps_fld (pv 0) (@pe_op _ _ _ _ _ _ _ _ op_add pe_int (pe_callB (call_max2 rfl) rfl T.z_max bt_max (pa_cons (pe_meth20 (pv 3) T.C_Leaf T.M_Leaf_deep (ok_Leaf_deep T) (hr.mono (by decide)) T.b_Leaf_deep T.C_Fork T.M_Fork_deep (ok_Fork_deep T) (hr.mono (by decide)) T.b_Fork_deep (pass_e fun _ _ z=>z)) (pa_cons (pe_meth20 (pv 4) T.C_Leaf T.M_Leaf_deep (ok_Leaf_deep T) (hr.mono (by decide)) T.b_Leaf_deep T.C_Fork T.M_Fork_deep (ok_Fork_deep T) (hr.mono (by decide)) T.b_Fork_deep (pass_e fun _ _ z=>z)) pa_nil)))) rfl))))))),?_⟩
 walk_at "kx"
 have C1:=T.C_Leaf
 have C2:=T.C_Fork
 have N0:NoAttr K T.c_Leaf "counted" := T.nLc
 have N1:NoAttr K T.c_Fork "counted" := T.nFcd
 have N2:NoAttr K T.c_Fork "question" := T.nFqn
 have N3:NoAttr K T.c_Fork "yes" := T.nFys
 have N4:NoAttr K T.c_Fork "no" := T.nFno
 have N5:NoAttr K T.c_Fork "leaf_count" := T.nFlt
 have N6:NoAttr K T.c_Fork "depth" := T.nFdh
 have cne:=lne T.kLF T.kFF
 walk_at "rd"
 refine ⟨.inr rfl,ha,fun l hl=>?_⟩
 have nlx:l ≠ x:=Ne.symm (ne_of_none hx hl)
 walk_at "rd"
 refine ⟨fun σ' H1=>Iv (σ' = [some (.ref x),some (.ref a),some (.ref qa),some v1,some v2]∧SameB x H H1∧H1 l=some (.lst xs)∧H1 x=some (.ins T.c_Fork dx [("counted", .ref l),("question", .ref qa),("yes", v1),("no", v2)])),?_,?_⟩
 ·walk_at "rd"
  refine ⟨⟨rfl,fun b o nb e=>?_,?_,?_⟩⟩
  ·rw [upd_ne nb,upd_ne nb,upd_ne nb,upd_ne nb]
   exact kp e hl
  ·rw [upd_ne nlx,upd_ne nlx,upd_ne nlx,upd_ne nlx]
   exact upd_same
  ·rw [upd_same]
   rfl
 rintro σ' H1 ⟨⟨rfl,S1,hl1,hx1⟩⟩
 have m1:=n1.sbx S1 hx cne (by decide)
 have m2:=n2.sbx S1 hx cne (by decide)
 have hq1:=S1 _ _ (ne_of hq hx (by intro z; cases z)) hq
 have ht1:=ht.mono (S1.ti hx)
 walk_at "rd"
 refine nd_leaves m1 ?_
 walk_at "rd"
 refine nd_leaves m2 ?_
 walk_at "rd"
 have S2:SameB x H1 (upd H1 x (.ins T.c_Fork dx [("counted", .ref l),("question", .ref qa),("yes", v1),("no", v2),("leaf_count", .int ((y.lv:Nat) + (n.lv:Nat)))])):=fun b o nb e=>by rw [upd_ne nb]; exact e
 have k1:=m1.sbx S2 hx1 cne (show 4 < 6 by decide)
 have k2:=m2.sbx S2 hx1 cne (show 4 < 6 by decide)
 refine nd_deep k1 ?_
 walk_at "rd"
 refine nd_deep k2 ?_
 walk_at "rd"
 have e1:((y.lv + n.lv:Nat) : Int)=(y.lv:Nat) + (n.lv:Nat):=by omega
 have e2:((1 + max y.dp n.dp:Nat) : Int)=1 + (if ((n.dp:Nat) : Int) > (y.dp:Nat) then ((n.dp:Nat) : Int) else (y.dp:Nat)):=by split <;> omega
 generalize hf:(HO.ins T.c_Fork dx (putF "depth" _ _))=fo
 generalize (HO.ins T.c_Fork dx (putF "leaf_count" _ _))=mo
 have S4:SameB x H1 (upd (upd H1 x mo) x fo):=fun b o nb e=>by rw [upd_ne nb,upd_ne nb]; exact e
 refine q _ (fun b o nb e=>S4 _ _ nb (S1 _ _ nb e)) (.fk (l:=l) (dx:=dx) ?_ ⟨xs,S4 _ _ nlx hl1,ht1.mono (S4.ti hx1)⟩ (S4 _ _ (ne_of hq1 hx1 (by intro z; cases z)) hq1) (m1.sbx S4 hx1 cne (show 4 < 6 by decide)) (m2.sbx S4 hx1 cne (show 4 < 6 by decide)))
 rw [upd_same,← hf,e1,e2]
 rfl
theorem ok_Node_at (T:Tx K mg) : FnOk P w K mg base (CXe P w) 2 T.f_Node_at T.d_Node_at ["self", "place"] (sp_at T.c_Leaf T.c_Fork K):=by
 have sc:=sc_Node_at
 refine T.F_Node_at.okx sc (fun vs H Q E h=>?_) (fun cdv A outer s H vs Q E hr h=>?_)
 ·obtain ⟨v,pw,t,u,rfl,nd,lw,hg,q⟩:=h
  rfl
 obtain ⟨v,pw,t,u,rfl,nd,lw,hg,q⟩:=h
 have hu:=hr.units0
 have hu2:=hr.units
 have hu1:=Nat.lt_of_le_of_lt (Nat.add_le_add_left (show 1≤64 by decide) _) hu2
 refine ⟨_,(@pss_cons _ _ _ _ _ (@ps_set _ _ 2 _ _ _ _ sc.nd rfl (by walk_at "o1") (pv 0) (by rfl) (by walk_at "o2"))
   (@pss_cons _ _ _ _ _ (ps_for powx rfl (pi_str (pv 1)) (pg_name (i:=3) sc.nd rfl (by walk_at "o1"))
   (@pss_cons _ _ _ _ _ (@ps_set _ _ 2 _ _ _ _ sc.nd rfl (by walk_at "o1") (pe_meth2 (pv 2) T.C_Leaf T.M_Leaf_below (ok_Leaf_below T) (hr.mono (by decide)) T.b_Leaf_below T.C_Fork T.M_Fork_below (ok_Fork_below T) (hr.mono (by decide)) T.b_Fork_below (pass_e fun _ _ z=>z) (pa_cons (pv 3) pa_nil)) (by rfl) (by walk_at "o2"))
   (@pss_one _ _ _ (@ps_if _ _ _ _ _ _ _ _ (@pt_cmpR _ _ _ _ _ _ _ _ op_isN (pv 2) pe_non (nomark _)) (@pss_one _ _ _ ps_never) pss_nil))))
   (@pss_one _ _ _ (@ps_ret _ _ _ _ (pv 2))))),?_⟩
 walk_at "kx"
 have hcl:(cds pw).length=pw.cps.size:=cds_len pw
 have hwz:pw.length≤sizeLine:=szB (by omega)
 walk_at "rd"
 refine for_str (fun i σ H'=>Iv (H'=H∧∃ (v':V) (t':NT) (o3:Option V),σ = [some v,some (.str pw),some v',o3]∧ND T.c_Leaf T.c_Fork K H v' t'∧t'.go ((cds pw).drop i)=some u)) ⟨⟨rfl,v,t,_,rfl,nd,hg⟩⟩ ?_ ?_
 ·rintro i c σ H' hi ⟨⟨rfl,v',t',o3,rfl,nd',hg'⟩⟩
  have e2:(cds pw)[i]? = some c:=by rw [show cds pw=pw.cps.toList from rfl,Array.getElem?_toList]; exact hi
  have ed:(cds pw).drop i=c :: (cds pw).drop (i + 1):=by
   have il:=(List.getElem?_eq_some_iff.mp e2)
   rw [List.drop_eq_getElem_cons il.1,il.2]
  rw [ed] at hg'
  walk_at "rd"
  refine nd_below nd' hg' (fun k hk=>by walk_at "rd"; exact hk) fun v2 t2 nd2 hg2=>?_
  obtain ⟨a2,rfl⟩:=nd2.ref
  walk_at "rd"
  exact ⟨⟨rfl,_,t2,_,rfl,nd2,hg2⟩⟩
 ·rintro σ H' ⟨⟨rfl,v',t',o3,rfl,nd',hg'⟩⟩
  rw [← hcl,List.drop_length] at hg'
  have hg2:some t'=some u:=by rw [← hg']; cases t' <;> rfl
  obtain rfl:t'=u:=Option.some.inj hg2
  walk_at "rd"
  exact q _ nd'
theorem ok_costed0 (T:Tx K mg) : FnOk P w K mg base (CXe P w) (0 + 5) T.f_costed T.d_costed ["node", "measure"] (sp_costed T.c_Leaf T.c_Fork K T.c_NoMeasure 0):=by
 have sc:=sc_costed
 refine T.F_costed.okx sc (fun vs H Q E h=>?_) (fun cdv A outer s H vs Q E hr h=>?_)
 ·obtain ⟨v,m,t,rfl,nd,nz,sh,td,q⟩:=h
  rfl
 obtain ⟨v,m,t,rfl,nd,nz,sh,td,q⟩:=h
 have hu:=hr.units0
 have hu2:=hr.units
 have hu1:=Nat.lt_of_le_of_lt (Nat.add_le_add_left (show 1≤64 by decide) _) hu2
 refine ⟨_,(@pss_cons _ _ _ _ _ (@ps_set _ _ 2 _ _ _ _ sc.nd rfl (by walk_at "o1") (pe_call (ok_mess T) (hr.mono (by decide)) rfl T.m_mess T.F_mess.kp T.b_mess .nil (pass_e fun _ _ z=>z) (pa_cons (pe_fld (pv 0) rfl) (pa_cons (pv 1) pa_nil))) (by rfl) (by walk_at "o2"))
   (@pss_cons _ _ _ _ _ (@ps_if _ _ _ _ _ _ _ _ (pt_val (pe_callB call_isiO rfl T.z_isinstance bt_isinstance (pa_cons (pv 0) (pa_cons (pe_glob (v:=.ref T.c_Fork) rfl T.m_Fork rfl) pa_nil)))) (@pss_one _ _ _ ps_never) pss_nil)
   (@pss_one _ _ _ (@ps_ret _ _ _ _ (pe_tup (pa_cons pe_str (pa_cons (pv 2) pa_nil) se_c)))))),?_⟩
 walk_at "kx"
 have C1:=T.C_Leaf
 have C2:=T.C_Fork
 have N0:NoAttr K T.c_Leaf "counted" := T.nLc
 have N1:NoAttr K T.c_Fork "counted" := T.nFcd
 have N2:NoAttr K T.c_Fork "question" := T.nFqn
 have N3:NoAttr K T.c_Fork "yes" := T.nFys
 have N4:NoAttr K T.c_Fork "no" := T.nFno
 have N5:NoAttr K T.c_Fork "leaf_count" := T.nFlt
 have N6:NoAttr K T.c_Fork "depth" := T.nFdh
 have t1:∀ {H:Hp} {a dx fs},H a=some (.ins T.c_Leaf dx fs)→TyOf K H (.ref a) (.ref T.c_Leaf):=fun h=>.ins h C1 T.clL T.ogt T.otk T.omL
 have t2:∀ {H:Hp} {a dx fs},H a=some (.ins T.c_Fork dx fs)→TyOf K H (.ref a) (.ref T.c_Fork):=fun h=>.ins h C2 T.clF T.ogt T.otk T.omF
 have k1:=T.kLF
 have k2:=T.kFF
 cases nd with
 | @lf x dx l cs hx cn =>
  cases nz with
  | lf cz =>
   walk_at "rd"
   rcases q with ⟨hm,q⟩ | ⟨hm,q⟩
   ·refine .inl ⟨hm,fun r H1 hr0 S1 hr=>?_⟩
    have ty:=t1 (S1 _ _ hx)
    walk_at "rd"
    rename_i pp hpp
    exact q _ _ (S1.new hpp _) (.en upd_same (kp hr hpp))
   ·exact .inr ⟨hm,q⟩
 | fk h1=>exact absurd td (by show ¬ 1 + max _ _≤0; omega)
theorem ok_costedS (T:Tx K mg)(d:Nat)(ih:FnOk P w K mg base (CXe P w) (d + 5) T.f_costed T.d_costed ["node", "measure"] (sp_costed T.c_Leaf T.c_Fork K T.c_NoMeasure d)) : FnOk P w K mg base (CXe P w) (d + 1 + 5) T.f_costed T.d_costed ["node", "measure"] (sp_costed T.c_Leaf T.c_Fork K T.c_NoMeasure (d + 1)):=by
 have sc:=sc_costed
 refine T.F_costed.okx sc (fun vs H Q E h=>?_) (fun cdv A outer s H vs Q E hr h=>?_)
 ·obtain ⟨v,m,t,rfl,nd,nz,sh,td,q⟩:=h
  rfl
 obtain ⟨v,m,t,rfl,nd,nz,sh,td,q⟩:=h
 have hu:=hr.units0
 have hu2:=hr.units
 have hu1:=Nat.lt_of_le_of_lt (Nat.add_le_add_left (show 1≤64 by decide) _) hu2
 refine ⟨_,(@pss_cons _ _ _ _ _ (@ps_set _ _ 2 _ _ _ _ sc.nd rfl (by walk_at "o1") (pe_call (ok_mess T) (hr.mono (by omega)) rfl T.m_mess T.F_mess.kp T.b_mess .nil (pass_e fun _ _ z=>z) (pa_cons (pe_fld (pv 0) rfl) (pa_cons (pv 1) pa_nil))) (by rfl) (by walk_at "o2"))
   (@pss_cons _ _ _ _ _ (@ps_if _ _ _ _ _ _ _ _ (pt_val (pe_callB call_isiO rfl T.z_isinstance bt_isinstance (pa_cons (pv 0) (pa_cons (pe_glob (v:=.ref T.c_Fork) rfl T.m_Fork rfl) pa_nil)))) (@pss_one _ _ _ (@ps_ret _ _ _ _ (pe_tup (pa_cons pe_str (pa_cons (pv 2) (pa_cons (pe_call ih (hr.mono (by omega)) rfl T.m_costed T.F_costed.kp T.b_costed .nil (pass_e fun _ _ z=>z) (pa_cons (pe_fld (pv 0) rfl) (pa_cons (pv 1) pa_nil))) (pa_cons (pe_call ih (hr.mono (by omega)) rfl T.m_costed T.F_costed.kp T.b_costed .nil (pass_e fun _ _ z=>z) (pa_cons (pe_fld (pv 0) rfl) (pa_cons (pv 1) pa_nil))) pa_nil))) se_c)))) pss_nil)
   (@pss_one _ _ _ (@ps_ret _ _ _ _ (pe_tup (pa_cons pe_str (pa_cons (pv 2) pa_nil) se_c)))))),?_⟩
 walk_at "kx"
 have C1:=T.C_Leaf
 have C2:=T.C_Fork
 have N0:NoAttr K T.c_Leaf "counted" := T.nLc
 have N1:NoAttr K T.c_Fork "counted" := T.nFcd
 have N2:NoAttr K T.c_Fork "question" := T.nFqn
 have N3:NoAttr K T.c_Fork "yes" := T.nFys
 have N4:NoAttr K T.c_Fork "no" := T.nFno
 have N5:NoAttr K T.c_Fork "leaf_count" := T.nFlt
 have N6:NoAttr K T.c_Fork "depth" := T.nFdh
 have t1:∀ {H:Hp} {a dx fs},H a=some (.ins T.c_Leaf dx fs)→TyOf K H (.ref a) (.ref T.c_Leaf):=fun h=>.ins h C1 T.clL T.ogt T.otk T.omL
 have t2:∀ {H:Hp} {a dx fs},H a=some (.ins T.c_Fork dx fs)→TyOf K H (.ref a) (.ref T.c_Fork):=fun h=>.ins h C2 T.clF T.ogt T.otk T.omF
 have k1:=T.kLF
 have k2:=T.kFF
 cases nd with
 | @lf x dx l cs hx cn =>
  cases nz with
  | lf cz =>
   walk_at "rd"
   rcases q with ⟨hm,q⟩ | ⟨hm,q⟩
   ·refine .inl ⟨hm,fun r H1 hr0 S1 hr=>?_⟩
    have ty:=t1 (S1 _ _ hx)
    walk_at "rd"
    rename_i pp hpp
    exact q _ _ (S1.new hpp _) (.en upd_same (kp hr hpp))
   ·exact .inr ⟨hm,q⟩
 | @fk x dx l qa cs qq v1 v2 y n hx cn hq n1 n2 =>
  cases nz with
  | fk cz zy zn =>
   have dd:1 + max y.dp n.dp≤d + 1:=td
   walk_at "rd"
   rcases q with ⟨hm,q⟩ | ⟨hm,q⟩
   ·refine .inl ⟨hm,fun r H1 hr0 S1 hr=>?_⟩
    have hx1:=S1 _ _ hx
    have ty:=t2 hx1
    walk_at "rd"
    refine ⟨n1.same S1,zy,sh,by omega,.inl ⟨hm,fun H2 u2 S2 c2=>?_⟩⟩
    have hx2:=S2 _ _ hx1
    walk_at "rd"
    refine ⟨(n2.same S1).same S2,zn,sh,by omega,.inl ⟨hm,fun H3 u3 S3 c3=>?_⟩⟩
    walk_at "rd"
    rename_i pp hpp
    have SN:=same_new hpp (H:=H3) (.tup [.str "fork", .ref r,u2,u3])
    exact q _ _ (((S1.trans S2).trans S3).trans SN) (.fk upd_same (SN _ _ (S3 _ _ (S2 _ _ hr))) ((c2.same S3).same SN) (c3.same SN))
   ·exact .inr ⟨hm,q⟩
theorem ok_costedA (T:Tx K mg) : ∀ d:Nat,FnOk P w K mg base (CXe P w) (d + 5) T.f_costed T.d_costed ["node", "measure"] (sp_costed T.c_Leaf T.c_Fork K T.c_NoMeasure d):=by
 intro d
 induction d with
 | zero=>exact ok_costed0 T
 | succ d ih=>exact ok_costedS T d ih
theorem ok_costed (T:Tx K mg) : FnOk P w K mg base (CXe P w) (32 + 5) T.f_costed T.d_costed ["node", "measure"] (sp_costed T.c_Leaf T.c_Fork K T.c_NoMeasure 32):=by exact ok_costedA T 32
theorem ok_plus (T:Tx K mg) : FnOk P w K mg base (CXe P w) 2 T.f_plus T.d_plus ["one", "other"] sp_plus:=by
 have sc:=sc_plus
 refine T.F_plus.okx sc (fun vs H Q E h=>?_) (fun cdv A outer s H vs Q E hr h=>?_)
 ·obtain ⟨p1,p2,r1,r2,rfl,h1,h2,L1,L2',q⟩:=h
  rfl
 obtain ⟨p1,p2,r1,r2,rfl,h1,h2,L1,L2',q⟩:=h
 have hu:=hr.units0
 have hu2:=hr.units
 have hu1:=Nat.lt_of_le_of_lt (Nat.add_le_add_left (show 1≤64 by decide) _) hu2
 refine ⟨_,(@pss_cons _ _ _ _ _ (@ps_set _ _ 2 _ _ _ _ sc.nd rfl (by walk_at "o1") (pe_call (ok_greatest_divisor T) (hr.mono (by decide)) rfl T.m_greatest_divisor T.F_greatest_divisor.kp T.b_greatest_divisor .nil (pass_e fun _ _ z=>z) (pa_cons (@pe_ix _ _ _ _ _ _ _ ix_tup (pv 0) pe_int (fun _ _=>rfl)) (pa_cons (@pe_ix _ _ _ _ _ _ _ ix_tup (pv 1) pe_int (fun _ _=>rfl)) pa_nil))) (by rfl) (by walk_at "o2"))
   (@pss_cons _ _ _ _ _ (@ps_set _ _ 3 _ _ _ _ sc.nd rfl (by walk_at "o1") (@pe_op _ _ _ _ _ _ _ _ op_fdivB (@pe_ix _ _ _ _ _ _ _ ix_tup (pv 1) pe_int (fun _ _=>rfl)) (pv 2)) (by rfl) (by walk_at "o2"))
   (@pss_cons _ _ _ _ _ (@ps_set _ _ 4 _ _ _ _ sc.nd rfl (by walk_at "o1") (@pe_op _ _ _ _ _ _ _ _ op_add (@pe_op _ _ _ _ _ _ _ _ op_mulB (@pe_ix _ _ _ _ _ _ _ ix_tup (pv 0) pe_int (fun _ _=>rfl)) (pv 3)) (@pe_op _ _ _ _ _ _ _ _ op_mulB (@pe_ix _ _ _ _ _ _ _ ix_tup (pv 1) pe_int (fun _ _=>rfl)) (@pe_op _ _ _ _ _ _ _ _ op_fdivB (@pe_ix _ _ _ _ _ _ _ ix_tup (pv 0) pe_int (fun _ _=>rfl)) (pv 2)))) (by rfl) (by walk_at "o2"))
   (@pss_cons _ _ _ _ _ (@ps_set _ _ 5 _ _ _ _ sc.nd rfl (by walk_at "o1") (pe_call (ok_greatest_divisor T) (hr.mono (by decide)) rfl T.m_greatest_divisor T.F_greatest_divisor.kp T.b_greatest_divisor .nil (pass_e fun _ _ z=>z) (pa_cons (pv 4) (pa_cons (pv 2) pa_nil))) (by rfl) (by walk_at "o2"))
   (@pss_one _ _ _ (@ps_ret _ _ _ _ (pe_tup (pa_cons (@pe_op _ _ _ _ _ _ _ _ op_fdivB (pv 4) (pv 5)) (pa_cons (@pe_op _ _ _ _ _ _ _ _ op_mulB (@pe_op _ _ _ _ _ _ _ _ op_fdivB (@pe_ix _ _ _ _ _ _ _ ix_tup (pv 0) pe_int (fun _ _=>rfl)) (pv 5)) (pv 3)) pa_nil))))))))),?_⟩
 walk_at "kx"
 have z1:=L1.zn
 have z2:=L1.zd
 have z3:=L2'.zn
 have z4:=L2'.zd
 have d1:=dp r1
 have d2:=dp r2
 have h1:H p1=some (rt r1):=h1
 have h2:H p2=some (rt r2):=h2
 have gp:=M.G_pos (r1.den:Int) (r2.den:Int)
 have gb:Bz 700 (M.G (r1.den:Int) (r2.den:Int)):=z4.le (M.G_le (by omega))
 have gz:Bz 8000 (M.G (r1.den:Int) (r2.den:Int)):=gb.mono (by decide)
 have w4:Bz 8000 (r2.den:Int):=z4.mono (by decide)
 have zl:Bz 700 ((r2.den:Int) / M.G (r1.den:Int) (r2.den:Int)):=z4.ediv (Int.le_of_lt gp)
 have zk:Bz 700 ((r1.den:Int) / M.G (r1.den:Int) (r2.den:Int)):=z2.ediv (Int.le_of_lt gp)
 have c1:=cGe (t:=(r1.den:Int)) d2 w4 (r2.den:Int)
 have c2:=cGe (t:=(r1.den:Int)) d2 w4 (r1.den:Int)
 have m1:=z1.mulOk zl
 have m2:=z3.mulOk zk
 have gq:=M.G_pos (r1.num * ((r2.den:Int) / M.G r1.den r2.den) + r2.num * ((r1.den:Int) / M.G r1.den r2.den)) (M.G (r1.den:Int) (r2.den:Int))
 have zd:=z2.ediv (Int.le_of_lt gq)
 have c3:=cGe (t:=r1.num * ((r2.den:Int) / M.G r1.den r2.den) + r2.num * ((r1.den:Int) / M.G r1.den r2.den)) gp gz (r1.num * ((r2.den:Int) / M.G r1.den r2.den) + r2.num * ((r1.den:Int) / M.G r1.den r2.den))
 have c4:=cGe (t:=r1.num * ((r2.den:Int) / M.G r1.den r2.den) + r2.num * ((r1.den:Int) / M.G r1.den r2.den)) gp gz (r1.den:Int)
 have m3:=zd.mulOk zl
 walk_at "rd"
 exact q.sum _ (by assumption)
theorem ok_minus (T:Tx K mg) : FnOk P w K mg base (CXe P w) 3 T.f_minus T.d_minus ["one", "other"] sp_minus:=by
 have sc:=sc_minus
 refine T.F_minus.okx sc (fun vs H Q E h=>?_) (fun cdv A outer s H vs Q E hr h=>?_)
 ·obtain ⟨p1,p2,r1,r2,rfl,h1,h2,L1,L2',q⟩:=h
  rfl
 obtain ⟨p1,p2,r1,r2,rfl,h1,h2,L1,L2',q⟩:=h
 have hu:=hr.units0
 have hu2:=hr.units
 have hu1:=Nat.lt_of_le_of_lt (Nat.add_le_add_left (show 1≤64 by decide) _) hu2
 refine ⟨_,(@pss_one _ _ _ (@ps_ret _ _ _ _ (pe_call (ok_plus T) (hr.mono (by decide)) rfl T.m_plus T.F_plus.kp T.b_plus .nil (pass_e fun _ _ z=>z) (pa_cons (pv 0) (pa_cons (pe_tup (pa_cons (pe_un un_neg (@pe_ix _ _ _ _ _ _ _ ix_tup (pv 1) pe_int (fun _ _=>rfl))) (pa_cons (@pe_ix _ _ _ _ _ _ _ ix_tup (pv 1) pe_int (fun _ _=>rfl)) pa_nil))) pa_nil))))),?_⟩
 walk_at "kx"
 have h1:H p1=some (rt r1):=h1
 have h2:H p2=some (rt r2):=h2
 walk_at "rd"
 rename_i pz hz
 have k1:=kp (u:=.tup [.int (-r2.num),.int (r2.den:Int)]) h1 hz
 refine ⟨(k1:Rt _ p1 r1),(upd_same:Rt _ pz (-r2)),L1,L2'.neg,fun r hr=>?_⟩
 exact q _ _ (upd_none hr).2 ((same_new hz _).trans (same_new hr _)) (by rw [upd_same,Rat.sub_eq_add_neg])
theorem ok_under (T:Tx K mg) : FnOk P w K mg base (CXe P w) 1 T.f_under T.d_under ["one", "other"] sp_under29:=by
 have sc:=sc_under
 refine T.F_under.okx sc (fun vs H Q E h=>?_) (fun cdv A outer s H vs Q E hr h=>?_)
 ·obtain ⟨a,b,t1,b1,t2,b2,rfl,h1,h2,z1,z2,z3,z4,q⟩:=h
  rfl
 obtain ⟨a,b,t1,b1,t2,b2,rfl,h1,h2,z1,z2,z3,z4,q⟩:=h
 have hu:=hr.units0
 have hu2:=hr.units
 have hu1:=Nat.lt_of_le_of_lt (Nat.add_le_add_left (show 1≤64 by decide) _) hu2
 refine ⟨_,(@pss_one _ _ _ (@ps_ret _ _ _ _ (pe_cmpR op_lt (@pe_op _ _ _ _ _ _ _ _ op_mulB (@pe_ix _ _ _ _ _ _ _ ix_tup (pv 0) pe_int (fun _ _=>rfl)) (@pe_ix _ _ _ _ _ _ _ ix_tup (pv 1) pe_int (fun _ _=>rfl))) (@pe_op _ _ _ _ _ _ _ _ op_mulB (@pe_ix _ _ _ _ _ _ _ ix_tup (pv 1) pe_int (fun _ _=>rfl)) (@pe_ix _ _ _ _ _ _ _ ix_tup (pv 0) pe_int (fun _ _=>rfl))) (nomark _)))),?_⟩
 walk_at "kx"
 walk_at "rd"
 exact q
theorem ok_trees_by_place (T:Tx K mg) : FnOk P w K mg base (CXe P w) 1 T.f_trees_by_place T.d_trees_by_place ["tree"] (sp_trees K):=by
 have sc:=sc_trees_by_place
 refine T.F_trees_by_place.okx sc (fun vs H Q E h=>?_) (fun cdv A outer s H vs Q E hr h=>?_)
 ·obtain ⟨v,t,B,rfl,tv,lt,q⟩:=h
  rfl
 obtain ⟨v,t,B,rfl,tv,lt,q⟩:=h
 have hu:=hr.units0
 have hu2:=hr.units
 have hu1:=Nat.lt_of_le_of_lt (Nat.add_le_add_left (show 1≤64 by decide) _) hu2
 refine ⟨_,(@pss_cons _ _ _ _ _ (@ps_set _ _ 1 _ _ _ _ sc.nd rfl (by walk_at "o1") pe_dnewK (by rfl) (by walk_at "o2"))
   (@pss_cons _ _ _ _ _ (@ps_set _ _ 2 _ _ _ _ sc.nd rfl (by walk_at "o1") (@pe_lst _ _ _ _ (pa_cons (pe_tup (pa_cons pe_str (pa_cons (pv 0) pa_nil) se_c)) pa_nil)) (by rfl) (by walk_at "o2"))
   (@pss_cons _ _ _ _ _ (ps_while powx (@pt_cmpR _ _ _ _ _ _ _ _ op_gt (pe_callB call_len_seq rfl T.z_len bt_len (pa_cons (pv 2) pa_nil)) pe_int (nomark _)) (@pss_cons _ _ _ _ _ (@ps_mid _ _ _ (@ps_set _ _ 3 _ _ _ _ sc.nd rfl (by walk_at "o1") (pe_bm0 PySem.F.plainAttrs_list PySem.F.slot_list_pop PySem.F.type_list_pop mt_pop (pv 2)) (by rfl) (by walk_at "o2")))
   (@pss_cons _ _ _ _ _ (@ps_set _ _ 4 _ _ _ _ sc.nd rfl (by walk_at "o1") (@pe_ix _ _ _ _ _ _ _ ix_tup (pv 3) pe_int (fun _ _=>rfl)) (by rfl) (by walk_at "o2"))
   (@pss_cons _ _ _ _ _ (@ps_set _ _ 5 _ _ _ _ sc.nd rfl (by walk_at "o1") (@pe_ix _ _ _ _ _ _ _ ix_tup (pv 3) pe_int (fun _ _=>rfl)) (by rfl) (by walk_at "o2"))
   (@pss_cons _ _ _ _ _ (@ps_mid _ _ _ (ps_dput hu1 (pv 1) (pv 4) (pv 5) rfl))
   (@pss_one _ _ _ (@ps_if _ _ _ _ _ _ _ _ (@pt_cmpR _ _ _ _ _ _ _ _ op_eqS (@pe_ix _ _ _ _ _ _ _ ix_tup (pv 5) pe_int (fun _ _=>rfl)) pe_str (nomark _)) (@pss_cons _ _ _ _ _ (ps_expr (pe_bm PySem.F.plainAttrs_list PySem.F.slot_list_append PySem.F.type_list_append mt_append (pv 2) (pa_cons (pe_tup (pa_cons (@pe_op _ _ _ _ _ _ _ _ op_add_str (pv 4) pe_str) (pa_cons (@pe_ix _ _ _ _ _ _ _ ix_tup (pv 5) pe_int (fun _ _=>rfl)) pa_nil))) pa_nil)))
   (@pss_one _ _ _ (ps_expr (pe_bm PySem.F.plainAttrs_list PySem.F.slot_list_append PySem.F.type_list_append mt_append (pv 2) (pa_cons (pe_tup (pa_cons (@pe_op _ _ _ _ _ _ _ _ op_add_str (pv 4) pe_str) (pa_cons (@pe_ix _ _ _ _ _ _ _ ix_tup (pv 5) pe_int (fun _ _=>rfl)) pa_nil))) pa_nil))))) pss_nil)))))))
   (@pss_one _ _ _ (@ps_ret _ _ _ _ (pv 1)))))),?_⟩
 walk_at "kx"
 walk_at "rd"
 rename_i z1 hz1 p1 hp1 z2 hz2
 have n12:z1 ≠ z2:=fun e=>by
  rw [← e,upd_ne (fun e2=>by rw [← e2,upd_same] at hp1; cases hp1),upd_same] at hz2
  cases hz2
 have fz2:H z2=none:=Same.free ((same_new hz1 _).new hp1 _) hz2
 have ld:=t.dp_lt
 have pl:=plt_len t ""
 have tv2:=tv.mono (((same_new hz1 (.dK [])).new hp1 (.tup [.str "", v])).new hz2 (.lst [.ref p1])).t
 have hx0:(upd (upd (upd H z1 (.dK [])) p1 (.tup [.str "", v])) z2 (.lst [.ref p1])) z1=some (.dK []):=kp (kp upd_same hp1) hz2
 have hy0:=upd_same (H:=upd (upd H z1 (.dK [])) p1 (.tup [.str "", v])) (a:=z2) (o:=.lst [.ref p1])
 have hp0:(upd (upd (upd H z1 (.dK [])) p1 (.tup [.str "", v])) z2 (.lst [.ref p1])) p1=some (.tup [.str "", v]):=kp upd_same hz2
 have S0:Same H (upd (upd (upd H z1 (.dK [])) p1 (.tup [.str "", v])) z2 (.lst [.ref p1])):=((same_new hz1 _).new hp1 _).new hz2 _
 generalize upd (upd (upd H z1 (.dK [])) p1 (.tup [.str "", v])) z2 (.lst [.ref p1])=H0 at tv2 hx0 hy0 hp0 S0 ⊢
 refine while_by (fun σ' H'=>Iv (Same H H'∧(∃ kvs es ys ts,H' z1=some (.dK kvs)∧DT K B H' kvs es∧H' z2=some (.lst ys)∧TVs K H' ys ((ts:List (Str × Tr)).map (thD B))∧(∀ e∈ts,e.1.length + e.2.dp≤60)∧(es ++ plts ts).Perm (plt t ""))∧∃ o3 o4 o5,σ' = [some v,some (.ref z1),some (.ref z2),o3,o4,o5])) (fun _ H=>match H z1 with | some (.dK kvs)=>100 - kvs.length | _=>0) ⟨⟨S0,⟨[],[],[.ref p1],[("", t)],hx0,.nil,hy0,.cons (.tup hp0 (.cons (.str _) (.cons tv2 .nil))) .nil,fun e he=>(by rw [List.mem_singleton.mp he]; show ("" : Str).length + t.dp≤60; rw [show ("" : Str).length=0 by decide +kernel]; omega),by rw [List.nil_append]; show (plt t "" ++ []).Perm _; rw [List.append_nil]⟩,_,_,_,rfl⟩⟩ ?_ ?_
 ·rintro σ' H' ⟨⟨S,⟨kvs,es,ys,ts,hx,dt,hy,ty,ht,pm⟩,o3,o4,o5,rfl⟩⟩
  have xl:=dt.length
  have ul:es.length + (plts ts).length≤60:=by have:=pm.length_eq; rw [List.length_append] at this; omega
  walk_at "rd"
  refine ite3 (fun c=>?_) (fun c=>?_)
  ·obtain ⟨zs,y,as,e,rfl,rfl,tz,te⟩:=TVs.lastH ty (by omega)
   have ea:=pop1_at zs y
   have eb:=pop1_rest zs y
   obtain ⟨q0,s0⟩:=e
   obtain ⟨pp,u1,u2,rfl,hpp,t1,t2⟩:=TV.pair te
   obtain rfl:=t1.strs
   have lb:=ht (q0,s0) (List.mem_append_right _ (List.mem_singleton.mpr rfl))
   have ht0:∀ e∈as,e.1.length + e.2.dp≤60:=fun e he=>ht e (List.mem_append_left _ he)
   rw [plts_app] at pm ul
   clear ht te ty t1
   have zl:zs.length=as.length:=by rw [tz.length,List.length_map]
   have al:as.length≤(plts as).length:=plts_len as
   rw [List.length_append] at ul
   have zz:zs.length < sizeLine:=small1000 (by omega)
   have kz:kvs.length < sizeLine:=small1000 (by omega)
   have nz2:z2 ≠ z1:=Ne.symm n12
   have hpp:H' pp=some (.tup [.str q0,u2]):=hpp
   have t2:TV K H' u2 (htD B s0):=t2
   have nq:q0 ∉ es.map (·.1):=fun z=>by
    have nd:=(pm.map (·.1)).nodup_iff.mpr (plt_nodup t "")
    rw [List.map_append,List.nodup_append] at nd
    refine nd.2.2 q0 z q0 ?_ rfl
    rw [List.map_append]
    refine List.mem_append_right _ ?_
    cases s0 with
    | en w=>exact List.mem_cons_self
    | fk w y n=>exact List.mem_cons_self
   refine ⟨fun σ' H1=>Iv (H1=upd H' z2 (.lst zs)∧σ' = [some v,some (.ref z1),some (.ref z2),some (.ref pp),o4,o5]),?_,?_⟩
   ·walk_at "rd"
    rw [eb]
    exact ⟨⟨rfl,rfl⟩⟩
   rintro σ' H1 ⟨⟨e1,rfl⟩⟩
   have st1:SameT H' H1:=by rw [e1]; exact (SameT.refl H').lst hy _
   have hx1:H1 z1=some (.dK kvs):=by rw [e1,upd_ne n12]; exact hx
   have hy1:H1 z2=some (.lst zs):=by rw [e1]; exact upd_same
   have S1:Same H H1:=by rw [e1]; exact Same.over S fz2 _
   have hpp1:=st1 _ _ hpp
   clear e1 ea eb
   have g3:DPut H1 z1 (.str q0) u2 (upd H1 z1 (.dK (putK kvs (.inr q0) u2))):=DPut.k (k:=.inr q0) hx1 kz
   rw [putK_new u2 (dt.vno nq)] at g3
   walk_at "rd"
   refine ⟨fun σ' H2=>Iv (Same H H2∧H2 z1=some (.dK (kvs ++ [(.inr q0,u2)]))∧H2 z2=some (.lst zs)∧SameT H' H2∧σ' = [some v,some (.ref z1),some (.ref z2),some (.ref pp),some (.str q0),some u2]),?_,?_⟩
   ·walk_at "rd"
    exact ⟨⟨Same.over S1 hz1 _,upd_same,by rw [upd_ne nz2]; exact hy1,st_dk st1 hx1 _,rfl⟩⟩
   rintro σ' H2 ⟨⟨S2,hx2,hy2,st2,rfl⟩⟩
   have ms:∀ H3:Hp,H3 z1=some (.dK (kvs ++ [(.inr q0,u2)]))→(match H3 z1 with | some (.dK kvs)=>100 - kvs.length | _=>0) < (match H' z1 with | some (.dK kvs)=>100 - kvs.length | _=>0):=fun H3 e=>by
    rw [e,hx]
    show 100 - (kvs ++ [(Sum.inr q0,u2)]).length < 100 - kvs.length
    rw [List.length_append,List.length_singleton]
    omega
   have tz2:=tz.mono st2
   cases s0 with
   | en w =>
    obtain ⟨p2,c2,rfl,hp2,hc2⟩:=TV.hen t2
    have hp3:=st2 _ _ hp2
    walk_at "rd"
    refine ⟨⟨S2,⟨_,es ++ [(q0,.en w)],zs,as,hx2,(dt.mono st2).snoc (e:=(q0,.en w)) (t2.mono st2),hy2,tz2,ht0,?_⟩,_,_,_,rfl⟩,ms _ hx2⟩
    refine .trans ?_ pm
    have:=plt_step (us:=es) (A:=plts as) (B:=[]) (q0,Tr.en w)
    rw [List.append_nil] at this
    exact this
   | fk w y n =>
    obtain ⟨p2,c2,a2,a3,rfl,hp2,hc2,ty,tn⟩:=TV.hfk t2
    have lb:q0.length + (max y.dp n.dp + 1)≤60:=lb
    have k1:q0.length + ("y" : Str).length≤sizeLine:=szB (by rw [ynl.1]; omega)
    have k2:q0.length + ("n" : Str).length≤sizeLine:=szB (by rw [ynl.2]; omega)
    have hp3:=st2 _ _ hp2
    have ly:∀ z:V,(zs ++ [z]).length < sizeLine:=fun z=>small1000 (by rw [List.length_append,List.length_singleton]; omega)
    have ty2:=ty.mono st2
    have tn2:=tn.mono st2
    have td2:=(dt.mono st2).snoc (e:=(q0,.fk w y n)) (t2.mono st2)
    walk_at "rd"
    rename_i r1 hr1 r2 hr2
    have v1:=(SameT.refl H2).new hr1 (.tup [.str (q0 ++ "y"),a2])
    have S3:=S2.new hr1 (.tup [.str (q0 ++ "y"),a2])
    have hx3:=kp hx2 hr1 (u:=.tup [.str (q0 ++ "y"),a2])
    have hy3:=kp hy2 hr1 (u:=.tup [.str (q0 ++ "y"),a2])
    have hr3:=upd_same (H:=H2) (a:=r1) (o:=.tup [.str (q0 ++ "y"),a2])
    generalize upd H2 r1 (.tup [.str (q0 ++ "y"),a2])=H3 at v1 S3 hx3 hy3 hr3 hr2 ⊢
    have v2:=v1.lst hy3 (.lst (zs ++ [.ref r1]))
    have w2:=(SameT.refl H3).lst hy3 (.lst (zs ++ [.ref r1]))
    have S4:=Same.over S3 fz2 (.lst (zs ++ [.ref r1]))
    have hx4:upd H3 z2 (.lst (zs ++ [.ref r1])) z1=some (.dK (kvs ++ [(.inr q0,.ref p2)])):=by rw [upd_ne n12]; exact hx3
    have hy4:=upd_same (H:=H3) (a:=z2) (o:=.lst (zs ++ [.ref r1]))
    have hr4:=w2 _ _ hr3
    generalize upd H3 z2 (.lst (zs ++ [.ref r1]))=H4 at v2 w2 S4 hx4 hy4 hr4 hr2 ⊢
    have v5:=v2.new hr2 (.tup [.str (q0 ++ "n"),a3])
    have S5:=S4.new hr2 (.tup [.str (q0 ++ "n"),a3])
    have hx5:=kp hx4 hr2 (u:=.tup [.str (q0 ++ "n"),a3])
    have hy5:=kp hy4 hr2 (u:=.tup [.str (q0 ++ "n"),a3])
    have hr5:=kp hr4 hr2 (u:=.tup [.str (q0 ++ "n"),a3])
    have hs5:=upd_same (H:=H4) (a:=r2) (o:=.tup [.str (q0 ++ "n"),a3])
    generalize upd H4 r2 (.tup [.str (q0 ++ "n"),a3])=H5 at v5 S5 hx5 hy5 hr5 hs5 ⊢
    have v6:=v5.lst hy5 (.lst (zs ++ [.ref r1] ++ [.ref r2]))
    have w6:=(SameT.refl H5).lst hy5 (.lst (zs ++ [.ref r1] ++ [.ref r2]))
    have S6:=Same.over S5 fz2 (.lst (zs ++ [.ref r1] ++ [.ref r2]))
    have hx6:upd H5 z2 (.lst (zs ++ [.ref r1] ++ [.ref r2])) z1=some (.dK (kvs ++ [(.inr q0,.ref p2)])):=by rw [upd_ne n12]; exact hx5
    refine ⟨ly _,?_⟩
    walk_at "rd"
    refine ⟨⟨S6,⟨_,es ++ [(q0,.fk w y n)],_,as ++ [(q0 ++ "y", y)] ++ [(q0 ++ "n", n)],hx6,td2.mono v6,upd_same,?_,?_,?_⟩,_,_,_,rfl⟩,ms _ hx6⟩
    ·rw [List.map_append,List.map_append]
     exact TVs.snoc (TVs.snoc (tz2.mono v6) (.tup (w6 _ _ hr5) (.cons (.str _) (.cons (ty2.mono v6) .nil)))) (.tup (w6 _ _ hs5) (.cons (.str _) (.cons (tn2.mono v6) .nil)))
    ·refine snocT (snocT ht0 ?_) ?_
     ·show (q0 ++ "y" : Str).length + y.dp≤60
      rw [len_app,ynl.1]
      omega
     ·show (q0 ++ "n" : Str).length + n.dp≤60
      rw [len_app,ynl.2]
      omega
    ·refine .trans ?_ pm
     have:=plt_step (us:=es) (A:=plts as) (B:=plt y (q0 ++ "y") ++ plt n (q0 ++ "n")) (q0,Tr.fk w y n)
     rw [plts_app,plts_app,List.append_assoc (plts as)]
     show (es ++ [(q0,Tr.fk w y n)] ++ (plts as ++ ((plt y (q0 ++ "y") ++ []) ++ (plt n (q0 ++ "n") ++ [])))).Perm (es ++ (plts as ++ (((q0,Tr.fk w y n) :: (plt y (q0 ++ "y") ++ plt n (q0 ++ "n"))) ++ [])))
     rw [List.append_nil,List.append_nil,List.append_nil]
     exact this
  ·have e0:ys.length=0:=by omega
   obtain rfl:=List.length_eq_zero_iff.mp e0
   have ets:ts = []:=by
    have:=ty.length
    rw [List.length_map] at this
    exact List.length_eq_zero_iff.mp this.symm
   subst ets
   have pm0:es.Perm (plt t ""):=by
    have:=pm
    rw [show plts [] = [] from rfl,List.append_nil] at this
    exact this
   walk_at "rd"
   exact q _ z1 kvs es S hz1 hx dt pm0
 ·rintro σ' H' Q1 Q2 hq ⟨v,e,p,ys,ev,hs,i,j,ei,ej,k,ek,y⟩
  exact ⟨v,e,p,ys,ev,hs,i,j,ei,ej,k,ek,hq _ _ y⟩
theorem ok_places_of (T:Tx K mg) : FnOk P w K mg base (CXe P w) 2 T.f_places_of T.d_places_of ["tree", "sort"] (sp_places_of K):=by
 have sc:=sc_places_of
 refine T.F_places_of.okx sc (fun vs H Q E h=>?_) (fun cdv A outer s H vs Q E hr h=>?_)
 ·obtain ⟨v,t,B,so,rfl,tv,lt,q⟩:=h
  rfl
 obtain ⟨v,t,B,so,rfl,tv,lt,q⟩:=h
 have hu:=hr.units0
 have hu2:=hr.units
 have hu1:=Nat.lt_of_le_of_lt (Nat.add_le_add_left (show 1≤64 by decide) _) hu2
 refine ⟨_,(@pss_one _ _ _ (@ps_ret _ _ _ _ (pe_callB call_sortedS rfl T.z_sorted bt_sorted (pa_cons (pe_lc (ts:=["place", "part"]) (js:=[1]) (LcOk.of rfl) rfl (pi_items (pe_call (ok_trees_by_place T) (hr.mono (by decide)) rfl T.m_trees_by_place T.F_trees_by_place.kp T.b_trees_by_place .nil (pass_e fun _ _ z=>z) (pa_cons (pv 0) pa_nil)) rfl rfl) (fun _ _ _ _=>(pg_tup rfl (pgs_cons (pg_name (i:=0) (nodup_of rfl) rfl (Or.inl rfl)) (pgs_cons (pg_name (i:=1) (nodup_of rfl) rfl (Or.inl rfl)) pgs_nil)))) (fun _ _ _ _=>(pf_one (@pt_cmpR _ _ _ _ _ _ _ _ op_eqS (@pe_ix _ _ _ _ _ _ _ ix_tup (pv 1) pe_int (fun _ _=>rfl)) (pv 2) (nomark _)))) (fun _ _ _ _=>(pv 0))) pa_nil)))),?_⟩
 walk_at "kx"
 walk_at "rd"
 rename_i H1 d kvs es S1 fd hd dt pm
 refine .inl ⟨hd,fun ep=>?_⟩
 intro C s2 H2 fp
 have pl:=plt_len t ""
 have el:=pm.length_eq
 have kl:=dt.length
 have ml:∀ i,((((es.take i).filter fun e=>decide (knd e.2=so)).map (·.1)).map V.str).length < 100:=fun i=>by
  rw [List.length_map,List.length_map]
  have z1:=List.length_filter_le (fun e=>decide (knd e.2=so)) (es.take i)
  have z2:(es.take i).length≤es.length:=by rw [List.length_take]; omega
  omega
 refine lc_items (P:=P) (w:=w) (a:=d) (kvs:=kvs) (ep:=ep) (fun i ys H'=>Iv (Same H H'∧SameT H1 H'∧H' d=some (FzD P w d kvs ep)∧ys=((((es.take i).filter fun e=>decide (knd e.2=so)).map (·.1)).map V.str))) ?_ ?_ ?_ ?_
 ·exact ⟨⟨Same.over S1 fd _,st_dk (SameT.refl _) hd _,upd_same,by rw [List.take_zero]; rfl⟩⟩
 ·rintro i ys H3 hi ⟨⟨_,_,e1,e2⟩⟩
  refine ⟨e1,?_⟩
  rw [e2]
  have:=ml i
  exact small1000 (by omega)
 ·rintro i k x T0 ys H3 hk ⟨⟨S3,st3,hf,rfl⟩⟩ hT
  obtain ⟨⟨q0,s0⟩,he,rfl,te⟩:=dt.get hk
  have te:TV K H1 x (htD B s0):=te
  have S4:=S3.new hT (.tup [kV (.inr q0),x])
  have st4:=st3.new hT (.tup [kV (.inr q0),x])
  have hf4:=kp hf hT (u:=.tup [kV (.inr q0),x])
  have hT4:upd H3 T0 (.tup [kV (.inr q0),x]) T0=some (.tup [.str q0,x]):=upd_same
  have te4:=te.mono st4
  generalize upd H3 T0 (.tup [kV (.inr q0),x])=H4 at S4 st4 hf4 hT4 te4 ⊢
  have hlt:i < es.length:=(List.getElem?_eq_some_iff.mp he).1
  have tk:es.take (i + 1)=es.take i ++ [(q0,s0)]:=by rw [List.take_add_one,he]; rfl
  have kn:∃ p2 xs2,x = .ref p2∧H4 p2=some (.tup (.str (knd s0) :: xs2)):=by
   cases s0 with
   | en w0 =>
    obtain ⟨p2,c2,rfl,hp2,hc2⟩:=TV.hen te4
    exact ⟨_,_,rfl,hp2⟩
   | fk w0 y n =>
    obtain ⟨p2,c2,a2,a3,rfl,hp2,hc2,ty,tn⟩:=TV.hfk te4
    exact ⟨_,_,rfl,hp2⟩
  obtain ⟨p2,xs2,rfl,hp2⟩:=kn
  walk_at "rd"
  refine ⟨atI_nat (xs:=V.str (knd s0) :: xs2) (j:=0) rfl,?_⟩
  walk_at "rd"
  show if _ then _ else _
  by_cases c:knd s0=so
  ·rw [if_pos (decide_eq_true c)]
   walk_at "rd"
   refine ⟨S4,st4,hf4,?_⟩
   rw [tk,List.filter_append,show List.filter (fun e:Str × Tr=>decide (knd e.2=so)) [(q0,s0)] = [(q0,s0)] from List.filter_cons_of_pos (decide_eq_true c),List.map_append,List.map_append]
   rfl
  ·rw [if_neg (by rw [decide_eq_false c]; exact Bool.false_ne_true)]
   refine ⟨by omega,⟨⟨S4,st4,hf4,?_⟩⟩⟩
   rw [tk,List.filter_append,show List.filter (fun e:Str × Tr=>decide (knd e.2=so)) [(q0,s0)] = [] from List.filter_cons_of_neg (by show ¬ decide (knd s0=so)=true; rw [decide_eq_false c]; exact Bool.false_ne_true),List.append_nil]
 ·rintro ys H3 ⟨⟨S3,st3,hf,rfl⟩⟩ p hp
  walk_at "rd"
  have eT:es.take kvs.length=es:=by rw [kl,List.take_length]
  have m0:=ml kvs.length
  rw [List.length_map,List.length_map] at m0
  rw [List.length_map]
  have lf:=List.length_filter_le (fun e=>decide (knd e.2=so)) (es.take kvs.length)
  rw [eT] at lf ⊢
  refine ⟨by omega,fun q1 ws' f1 p1 s1=>q _ q1 ws' ((S3.new hp _).new f1 _) (Same.free (S3.new hp _) f1) upd_same (p1.trans ?_) s1⟩
  have pk:(plK t so)=(((plt t "").filter fun e=>decide (knd e.2=so)).map (·.1)):=by
   unfold plK
   rw [plt_plc,List.filter_map,List.map_map]
   rfl
  rw [pk]
  exact (pm.filter _).map _
theorem ok_forks (T:Tx K mg) : FnOk P w K mg base (CXe P w) 3 T.f_forks T.d_forks ["tree"] (sp_forks K):=by
 have sc:=sc_forks
 refine T.F_forks.okx sc (fun vs H Q E h=>?_) (fun cdv A outer s H vs Q E hr h=>?_)
 ·obtain ⟨v,t,B,rfl,tv,lt,q⟩:=h
  rfl
 obtain ⟨v,t,B,rfl,tv,lt,q⟩:=h
 have hu:=hr.units0
 have hu2:=hr.units
 have hu1:=Nat.lt_of_le_of_lt (Nat.add_le_add_left (show 1≤64 by decide) _) hu2
 refine ⟨_,(@pss_one _ _ _ (@ps_ret _ _ _ _ (pe_call (ok_places_of T) (hr.mono (by decide)) rfl T.m_places_of T.F_places_of.kp T.b_places_of .nil (pass_e fun _ _ z=>z) (pa_cons (pv 0) (pa_cons pe_str pa_nil se_c))))),?_⟩
 walk_at "kx"
 walk_at "rd"
 rename_i h1 p1 ws s1 f1 e1 m1 o1
 exact q _ _ _ s1 f1 e1 m1 o1
theorem ok_common_bottom (T:Tx K mg) : FnOk P w K mg base (CXe P w) 2 T.f_common_bottom T.d_common_bottom ["tree"] (sp_cbottom K):=by
 have sc:=sc_common_bottom
 refine T.F_common_bottom.okx sc (fun vs H Q E h=>?_) (fun cdv A outer s H vs Q E hr h=>?_)
 ·obtain ⟨v,t,B,rfl,tv,lt,b0,bz,q⟩:=h
  rfl
 obtain ⟨v,t,B,rfl,tv,lt,b0,bz,q⟩:=h
 have hu:=hr.units0
 have hu2:=hr.units
 have hu1:=Nat.lt_of_le_of_lt (Nat.add_le_add_left (show 1≤64 by decide) _) hu2
 refine ⟨_,(@pss_cons _ _ _ _ _ (@ps_set _ _ 1 _ _ _ _ sc.nd rfl (by walk_at "o1") pe_int (by rfl) (by walk_at "o2"))
   (@pss_cons _ _ _ _ _ (ps_for powx rfl (pi_values (pe_call (ok_trees_by_place T) (hr.mono (by decide)) rfl T.m_trees_by_place T.F_trees_by_place.kp T.b_trees_by_place .nil (pass_e fun _ _ z=>z) (pa_cons (pv 0) pa_nil)) rfl rfl) (pg_name (i:=2) sc.nd rfl (by walk_at "o1"))
   (@pss_cons _ _ _ _ _ (@ps_mid _ _ _ (@ps_set _ _ 3 _ _ _ _ sc.nd rfl (by walk_at "o1") (@pe_ix _ _ _ _ _ _ _ ix_tup (@pe_ix _ _ _ _ _ _ _ ix_tup (pv 2) pe_int (fun _ _=>rfl)) pe_int (fun _ _=>rfl)) (by rfl) (by walk_at "o2")))
   (@pss_one _ _ _ (@ps_set _ _ 1 _ _ _ _ sc.nd rfl (by walk_at "o1") (@pe_op _ _ _ _ _ _ _ _ op_mulB (pv 1) (@pe_op _ _ _ _ _ _ _ _ op_fdivB (pv 3) (pe_call (ok_greatest_divisor T) (hr.mono (by decide)) rfl T.m_greatest_divisor T.F_greatest_divisor.kp T.b_greatest_divisor .nil (pass_e fun _ _ z=>z) (pa_cons (pv 1) (pa_cons (pv 3) pa_nil))))) (by rfl) (by walk_at "o2")))))
   (@pss_one _ _ _ (@ps_ret _ _ _ _ (pv 1))))),?_⟩
 walk_at "kx"
 walk_at "rd"
 rename_i H1 d kvs es S1 fd hd dt pm
 refine .inl ⟨hd,fun ep=>?_⟩
 have kl:=dt.length
 refine for_values (P:=P) (w:=w) (a:=d) (kvs:=kvs) (ep:=ep) (fun i σ' H'=>Iv (∃ (C:Int) (o2 o3:Option V),Same H H'∧SameT H1 H'∧H' d=some (FzD P w d kvs ep)∧0 < C∧C ∣ B∧(∀ e∈es.take i,((Rat.divInt e.2.wt B).den:Int) ∣ C)∧σ' = [some v,some (.int C),o2,o3])) ?_ ?_ ?_ ?_
 ·exact ⟨⟨1,_,_,Same.over S1 fd _,st_dk (SameT.refl _) hd _,upd_same,by decide,Int.one_dvd _,fun e he=>(by rw [List.take_zero] at he; cases he),rfl⟩⟩
 ·rintro i σ' H3 hi ⟨⟨C,o2,o3,S3,st3,hf,_⟩⟩
  exact hf
 ·rintro i k x σ' H3 hk ⟨⟨C,o2,o3,S3,st3,hf,c0,cb,al,rfl⟩⟩
  obtain ⟨⟨q0,s0⟩,he,rfl,te⟩:=dt.get hk
  have te:TV K H1 x (htD B s0):=te
  obtain ⟨p,k,c,r,rfl,hp,hc⟩:=(te.mono st3).hw b0
  have hc:H3 c=some (.tup [.int (Rat.divInt s0.wt B).num,.int ((Rat.divInt s0.wt B).den:Int)]):=hc
  have a1:=at_1 (k:=k) (c:=c) (r:=r)
  have d0:=low_p (t:=s0.wt) (b:=B)
  have db:=den_dvd (w:=s0.wt) b0
  have lo:=lcm_ok c0 d0 b0 cb db
  have zd:Bz 128 ((Rat.divInt s0.wt B).den:Int):=dvd_bz b0 bz db
  have zc:Bz 128 C:=dvd_bz b0 bz cb
  refine ⟨fun σ' H4=>Iv (H4=H3∧σ' = [some v,some (.int C),some (.ref p),some (.int ((Rat.divInt s0.wt B).den:Int))]),?_,?_⟩
  ·walk_at "rd"
   exact ⟨⟨rfl,rfl⟩⟩
  rintro σ' H4 ⟨⟨rfl,rfl⟩⟩
  generalize eD:((Rat.divInt s0.wt B).den:Int)=D at d0 db lo zd
  have zd8:Bz 8000 D:=zd.mono (by decide)
  have cg:=cGe (t:=C) d0 zd8 D
  have nz:D ≠ 0:=by omega
  have zk:Bz 128 (D / M.G C D):=zd.ediv (by have:=M.G_pos C D; omega)
  have mo:=zc.mulOk zk
  walk_at "rd"
  refine ⟨⟨_,_,_,S3,st3,hf,lo.1,lo.2.1,fun e he2=>?_,rfl⟩⟩
  rw [List.take_add_one,he] at he2
  rcases List.mem_append.mp he2 with z | z
  ·exact Int.dvd_trans (al e z) lo.2.2.1
  ·have z:e∈[(q0,s0)]:=z
   rw [List.mem_singleton.mp z]
   show ((Rat.divInt s0.wt B).den:Int) ∣ _
   rw [eD]
   exact lo.2.2.2
 ·rintro σ' H3 ⟨⟨C,o2,o3,S3,st3,hf,c0,cb,al,rfl⟩⟩
  walk_at "rd"
  refine q _ C S3 c0 cb fun e he=>al e ?_
  rw [kl,List.take_length]
  exact pm.mem_iff.mpr he
theorem ok_lifted0 (T:Tx K mg) : FnOk P w K mg base (CXe P w) (0 + 1) T.f_lifted T.d_lifted ["tree", "bottom"] (sp_lifted K 0):=by
 have sc:=sc_lifted
 refine T.F_lifted.okx sc (fun vs H Q E h=>?_) (fun cdv A outer s H vs Q E hr h=>?_)
 ·obtain ⟨v,t,B,C,rfl,tv,td,b0,bz,tb,c0,cz,dn,q⟩:=h
  rfl
 obtain ⟨v,t,B,C,rfl,tv,td,b0,bz,tb,c0,cz,dn,q⟩:=h
 have hu:=hr.units0
 have hu2:=hr.units
 have hu1:=Nat.lt_of_le_of_lt (Nat.add_le_add_left (show 1≤64 by decide) _) hu2
 refine ⟨_,(@pss_cons _ _ _ _ _ (@ps_set _ _ 2 _ _ _ _ sc.nd rfl (by walk_at "o1") (@pe_op _ _ _ _ _ _ _ _ op_fdivB (pv 1) (@pe_ix _ _ _ _ _ _ _ ix_tup (@pe_ix _ _ _ _ _ _ _ ix_tup (pv 0) pe_int (fun _ _=>rfl)) pe_int (fun _ _=>rfl))) (by rfl) (by walk_at "o2"))
   (@pss_cons _ _ _ _ _ (@ps_if _ _ _ _ _ _ _ _ (@pt_cmpR _ _ _ _ _ _ _ _ op_eqS (@pe_ix _ _ _ _ _ _ _ ix_tup (pv 0) pe_int (fun _ _=>rfl)) pe_str (nomark _)) (@pss_one _ _ _ ps_never) pss_nil)
   (@pss_one _ _ _ (@ps_ret _ _ _ _ (pe_tup (pa_cons pe_str (pa_cons (@pe_op _ _ _ _ _ _ _ _ op_mulB (@pe_ix _ _ _ _ _ _ _ ix_tup (@pe_ix _ _ _ _ _ _ _ ix_tup (pv 0) pe_int (fun _ _=>rfl)) pe_int (fun _ _=>rfl)) (pv 2)) pa_nil) se_c)))))),?_⟩
 walk_at "kx"
 have wb:=tb.w
 rw [← Tr.wt_w] at wb
 have dn1:=dn.w
 have d0:=low_p (t:=t.wt) (b:=B)
 have zd:Bz 128 ((Rat.divInt t.wt B).den:Int):=dvd_bz b0 bz (den_dvd b0)
 have zn:Bz 128 (Rat.divInt t.wt B).num:=low_n b0 ((bz109 wb.1 wb.2).mono (by decide))
 have cd:CDivB C ((Rat.divInt t.wt B).den:Int):=⟨d0,zd.log2⟩
 have zk:Bz 128 (C / ((Rat.divInt t.wt B).den:Int)):=cz.ediv (Int.le_of_lt d0)
 have mo:=zn.mulOk zk
 have lw:=lift_w b0 dn1
 cases t with
 | en w =>
  obtain ⟨p,c,rfl,hp,hc⟩:=TV.hen tv
  obtain ⟨c,rfl,hc2⟩:=TV.rD b0 hc
  have hc:H c=some (.tup [.int (Rat.divInt (Tr.en w).wt B).num,.int ((Rat.divInt (Tr.en w).wt B).den:Int)]):=hc2
  walk_at "rd"
  rename_i p1 h1
  exact q _ _ (.en _) (same_new h1 _) (TV.en' upd_same) (.en lw)
 | fk w y n=>exact absurd td (by show ¬ max _ _ + 1≤0; omega)
theorem ok_liftedS (T:Tx K mg)(d:Nat)(ih:FnOk P w K mg base (CXe P w) (d + 1) T.f_lifted T.d_lifted ["tree", "bottom"] (sp_lifted K d)) : FnOk P w K mg base (CXe P w) (d + 1 + 1) T.f_lifted T.d_lifted ["tree", "bottom"] (sp_lifted K (d + 1)):=by
 have sc:=sc_lifted
 refine T.F_lifted.okx sc (fun vs H Q E h=>?_) (fun cdv A outer s H vs Q E hr h=>?_)
 ·obtain ⟨v,t,B,C,rfl,tv,td,b0,bz,tb,c0,cz,dn,q⟩:=h
  rfl
 obtain ⟨v,t,B,C,rfl,tv,td,b0,bz,tb,c0,cz,dn,q⟩:=h
 have hu:=hr.units0
 have hu2:=hr.units
 have hu1:=Nat.lt_of_le_of_lt (Nat.add_le_add_left (show 1≤64 by decide) _) hu2
 refine ⟨_,(@pss_cons _ _ _ _ _ (@ps_set _ _ 2 _ _ _ _ sc.nd rfl (by walk_at "o1") (@pe_op _ _ _ _ _ _ _ _ op_fdivB (pv 1) (@pe_ix _ _ _ _ _ _ _ ix_tup (@pe_ix _ _ _ _ _ _ _ ix_tup (pv 0) pe_int (fun _ _=>rfl)) pe_int (fun _ _=>rfl))) (by rfl) (by walk_at "o2"))
   (@pss_cons _ _ _ _ _ (@ps_if _ _ _ _ _ _ _ _ (@pt_cmpR _ _ _ _ _ _ _ _ op_eqS (@pe_ix _ _ _ _ _ _ _ ix_tup (pv 0) pe_int (fun _ _=>rfl)) pe_str (nomark _)) (@pss_one _ _ _ (@ps_ret _ _ _ _ (pe_tup (pa_cons pe_str (pa_cons (@pe_op _ _ _ _ _ _ _ _ op_mulB (@pe_ix _ _ _ _ _ _ _ ix_tup (@pe_ix _ _ _ _ _ _ _ ix_tup (pv 0) pe_int (fun _ _=>rfl)) pe_int (fun _ _=>rfl)) (pv 2)) (pa_cons (pe_call ih (hr.mono (by omega)) rfl T.m_lifted T.F_lifted.kp T.b_lifted .nil (pass_e fun _ _ z=>z) (pa_cons (@pe_ix _ _ _ _ _ _ _ ix_tup (pv 0) pe_int (fun _ _=>rfl)) (pa_cons (pv 1) pa_nil))) (pa_cons (pe_call ih (hr.mono (by omega)) rfl T.m_lifted T.F_lifted.kp T.b_lifted .nil (pass_e fun _ _ z=>z) (pa_cons (@pe_ix _ _ _ _ _ _ _ ix_tup (pv 0) pe_int (fun _ _=>rfl)) (pa_cons (pv 1) pa_nil))) pa_nil))) se_c)))) pss_nil)
   (@pss_one _ _ _ (@ps_ret _ _ _ _ (pe_tup (pa_cons pe_str (pa_cons (@pe_op _ _ _ _ _ _ _ _ op_mulB (@pe_ix _ _ _ _ _ _ _ ix_tup (@pe_ix _ _ _ _ _ _ _ ix_tup (pv 0) pe_int (fun _ _=>rfl)) pe_int (fun _ _=>rfl)) (pv 2)) pa_nil) se_c)))))),?_⟩
 walk_at "kx"
 have wb:=tb.w
 rw [← Tr.wt_w] at wb
 have dn1:=dn.w
 have d0:=low_p (t:=t.wt) (b:=B)
 have zd:Bz 128 ((Rat.divInt t.wt B).den:Int):=dvd_bz b0 bz (den_dvd b0)
 have zn:Bz 128 (Rat.divInt t.wt B).num:=low_n b0 ((bz109 wb.1 wb.2).mono (by decide))
 have cd:CDivB C ((Rat.divInt t.wt B).den:Int):=⟨d0,zd.log2⟩
 have zk:Bz 128 (C / ((Rat.divInt t.wt B).den:Int)):=cz.ediv (Int.le_of_lt d0)
 have mo:=zn.mulOk zk
 have lw:=lift_w b0 dn1
 cases t with
 | en w =>
  obtain ⟨p,c,rfl,hp,hc⟩:=TV.hen tv
  obtain ⟨c,rfl,hc2⟩:=TV.rD b0 hc
  have hc:H c=some (.tup [.int (Rat.divInt (Tr.en w).wt B).num,.int ((Rat.divInt (Tr.en w).wt B).den:Int)]):=hc2
  walk_at "rd"
  rename_i p1 h1
  exact q _ _ (.en _) (same_new h1 _) (TV.en' upd_same) (.en lw)
 | fk w y n =>
  obtain ⟨p,c,u1,u2,rfl,hp,hc,t1,t2⟩:=TV.hfk tv
  obtain ⟨c,rfl,hc2⟩:=TV.rD b0 hc
  have hc:H c=some (.tup [.int (Rat.divInt (Tr.fk w y n).wt B).num,.int ((Rat.divInt (Tr.fk w y n).wt B).den:Int)]):=hc2
  have td:max y.dp n.dp + 1≤d + 1:=td
  have dy:y.dp≤d:=by omega
  have dn2:n.dp≤d:=by omega
  have by_:=tb.2.1
  have bn:=tb.2.2
  have ny:=dn.2.1
  have nn:=dn.2.2
  walk_at "rd"
  rename_i H1 x1 t1' S1 tx1 sc1
  have t21:=t2.mono S1.t
  have hp1:=S1 _ _ hp
  walk_at "rd"
  rename_i H2 x2 t2' S2 tx2 sc2 p1 h1
  exact q _ _ (.fk _ t1' t2') ((S1.trans S2).new h1 _) (TV.fk' upd_same ((tx1.mono S2.t).mono (same_new h1 _).t) (tx2.mono (same_new h1 _).t)) (.fk lw sc1 sc2)
theorem ok_liftedA (T:Tx K mg) : ∀ d:Nat,FnOk P w K mg base (CXe P w) (d + 1) T.f_lifted T.d_lifted ["tree", "bottom"] (sp_lifted K d):=by
 intro d
 induction d with
 | zero=>exact ok_lifted0 T
 | succ d ih=>exact ok_liftedS T d ih
theorem ok_lifted (T:Tx K mg) : FnOk P w K mg base (CXe P w) (20 + 1) T.f_lifted T.d_lifted ["tree", "bottom"] (sp_lifted K 20):=by exact ok_liftedA T 20
theorem ok_in_whole_costs (T:Tx K mg) : FnOk P w K mg base (CXe P w) 22 T.f_in_whole_costs T.d_in_whole_costs ["tree"] (sp_inwhole K):=by
 have sc:=sc_in_whole_costs
 refine T.F_in_whole_costs.okx sc (fun vs H Q E h=>?_) (fun cdv A outer s H vs Q E hr h=>?_)
 ·obtain ⟨v,t,B,rfl,tv,lt,b0,bz,tb,q⟩:=h
  rfl
 obtain ⟨v,t,B,rfl,tv,lt,b0,bz,tb,q⟩:=h
 have hu:=hr.units0
 have hu2:=hr.units
 have hu1:=Nat.lt_of_le_of_lt (Nat.add_le_add_left (show 1≤64 by decide) _) hu2
 refine ⟨_,(@pss_one _ _ _ (@ps_ret _ _ _ _ (pe_call (ok_lifted T) (hr.mono (by decide)) rfl T.m_lifted T.F_lifted.kp T.b_lifted .nil (pass_e fun _ _ z=>z) (pa_cons (pv 0) (pa_cons (pe_call (ok_common_bottom T) (hr.mono (by decide)) rfl T.m_common_bottom T.F_common_bottom.kp T.b_common_bottom .nil (pass_e fun _ _ z=>z) (pa_cons (pv 0) pa_nil)) pa_nil))))),?_⟩
 walk_at "kx"
 have lt30:t.lv≤30:=by omega
 have td:t.dp≤20:=by have:=t.dp_lt; omega
 walk_at "rd"
 rename_i H1 C S1 c0 cb al
 have tv1:=tv.mono S1.t
 have cz:=dvd_bz b0 bz cb
 have dn:=Dn.of al
 have le:C≤B:=Int.le_of_dvd b0 cb
 walk_at "rd"
 rename_i H2 x t' S2 tx sc
 exact q _ _ t' C (S1.trans S2) tx sc c0 le (sc.B c0 le tb)
theorem ok_beginnings (T:Tx K mg) : FnOk P w K mg base (CXe P w) 1 T.f_beginnings T.d_beginnings ["place", "places"] (sp_beginnings K):=by
 have sc:=sc_beginnings
 refine T.F_beginnings.okx sc (fun vs H Q E h=>?_) (fun cdv A outer s H vs Q E hr h=>?_)
 ·obtain ⟨x,a,ps,rfl,ha,hl,q⟩:=h
  rfl
 obtain ⟨x,a,ps,rfl,ha,hl,q⟩:=h
 have hu:=hr.units0
 have hu2:=hr.units
 have hu1:=Nat.lt_of_le_of_lt (Nat.add_le_add_left (show 1≤64 by decide) _) hu2
 refine ⟨_,(@pss_one _ _ _ (@ps_ret _ _ _ _ (pe_lc (ts:=["one"]) (js:=[0]) (LcOk.of rfl) rfl (pi_list (pv 1)) (fun _ _ _ _=>(pg_name (i:=0) (nodup_of rfl) rfl (Or.inl rfl))) (fun _ _ _ _=>(pf_one (pt_val (pe_bm PySem.F.plainAttrs_str PySem.F.slot_str_startswith PySem.F.type_str_startswith mt_startswith (pv 1) (pa_cons (pv 0) pa_nil))))) (fun _ _ _ _=>(pv 0))))),?_⟩
 walk_at "kx"
 have hl2:(ps.map V.str).length=ps.length:=List.length_map _
 walk_at "rd"
 refine lc_list (K:=K) (a:=a) (xs:=ps.map V.str) (fun i ys H'=>Iv (H'=H∧ys=(bgs x (ps.take i)).map V.str)) ⟨⟨rfl,rfl⟩⟩ (fun i ys H' hi z=>⟨SqL.of (by rw [z.o.1]; exact ha),?_⟩) ?_ ?_
 ·rw [z.o.2,List.length_map]
  refine small1000 (Nat.le_trans (List.length_filter_le _ _) ?_)
  rw [List.length_take]
  omega
 ·rintro i v ys H' hi ⟨⟨rfl,rfl⟩⟩
  rw [List.getElem?_map] at hi
  obtain ⟨o,ho,rfl⟩:=Option.map_eq_some_iff.mp hi
  have il:=(List.getElem?_eq_some_iff.mp ho).1
  have ft:=filter_takeS (p:=fun o=>Txt.startswith x o) ho
  walk_at "rd"
  refine iteB (fun c=>?_) (fun c=>?_)
  ·walk_at "rd"
   refine ⟨⟨rfl,?_⟩⟩
   unfold bgs
   rw [ft,if_pos c,List.map_append]
   rfl
  ·walk_at "rd"
   refine ⟨⟨rfl,?_⟩⟩
   unfold bgs
   rw [ft,if_neg (by rw [c]; decide),List.append_nil]
 ·rintro ys H' ⟨⟨rfl,rfl⟩⟩ p hp
  rw [hl2,List.take_length]
  exact q p hp
theorem ok_check_price (T:Tx K mg) : FnOk P w K mg base (CXe P w) 2 T.f_check_price T.d_check_price ["price"] sp_check_price:=by
 have sc:=sc_check_price
 refine T.F_check_price.okx sc (fun vs H Q E h=>?_) (fun cdv A outer s H vs Q E hr h=>?_)
 ·obtain ⟨a,t,b,rfl,h1,h0,z1,z2,q⟩:=h
  rfl
 obtain ⟨a,t,b,rfl,h1,h0,z1,z2,q⟩:=h
 have hu:=hr.units0
 have hu2:=hr.units
 have hu1:=Nat.lt_of_le_of_lt (Nat.add_le_add_left (show 1≤64 by decide) _) hu2
 refine ⟨_,(@pss_one _ _ _ (@ps_if _ _ _ _ _ _ _ _ (pt_val (pe_call (ok_under T) (hr.mono (by decide)) rfl T.m_under T.F_under.kp T.b_under .nil (pass_e fun _ _ z=>z) (pa_cons (pv 0) (pa_cons (pe_tup (pa_cons pe_int (pa_cons pe_int pa_nil))) pa_nil)))) (@pss_one _ _ _ ps_never) pss_nil)),?_⟩
 walk_at "kx"
 have y0:Bz 8000 0:=by show (0:Int).natAbs < 2 ^ 8000; exact Nat.two_pow_pos _
 have y1:Bz 8000 1:=(Bz.w (x:=1) (by decide) (by decide)).mono (by decide)
 walk_at "rd"
 rename_i p hp
 exact q _ (same_new hp _)
theorem ok_unreduced_sum (T:Tx K mg) : FnOk P w K mg base (CXe P w) 1 T.f_unreduced_sum T.d_unreduced_sum ["one", "other"] sp_usum:=by
 have sc:=sc_unreduced_sum
 refine T.F_unreduced_sum.okx sc (fun vs H Q E h=>?_) (fun cdv A outer s H vs Q E hr h=>?_)
 ·obtain ⟨a,b,t1,b1,t2,b2,rfl,h1,h2,z1,z2,z3,z4,q⟩:=h
  rfl
 obtain ⟨a,b,t1,b1,t2,b2,rfl,h1,h2,z1,z2,z3,z4,q⟩:=h
 have hu:=hr.units0
 have hu2:=hr.units
 have hu1:=Nat.lt_of_le_of_lt (Nat.add_le_add_left (show 1≤64 by decide) _) hu2
 refine ⟨_,(@pss_one _ _ _ (@ps_ret _ _ _ _ (pe_tup (pa_cons (@pe_op _ _ _ _ _ _ _ _ op_add (@pe_op _ _ _ _ _ _ _ _ op_mulB (@pe_ix _ _ _ _ _ _ _ ix_tup (pv 0) pe_int (fun _ _=>rfl)) (@pe_ix _ _ _ _ _ _ _ ix_tup (pv 1) pe_int (fun _ _=>rfl))) (@pe_op _ _ _ _ _ _ _ _ op_mulB (@pe_ix _ _ _ _ _ _ _ ix_tup (pv 1) pe_int (fun _ _=>rfl)) (@pe_ix _ _ _ _ _ _ _ ix_tup (pv 0) pe_int (fun _ _=>rfl)))) (pa_cons (@pe_op _ _ _ _ _ _ _ _ op_mulB (@pe_ix _ _ _ _ _ _ _ ix_tup (pv 0) pe_int (fun _ _=>rfl)) (@pe_ix _ _ _ _ _ _ _ ix_tup (pv 1) pe_int (fun _ _=>rfl))) pa_nil))))),?_⟩
 walk_at "kx"
 walk_at "rd"
 rename_i p hp
 exact q p hp
theorem ok_cheapest_with_cost0 (T:Tx K mg) : FnOk P w K mg base (CXe P w) (0 + 2) T.f_cheapest_with_cost T.d_cheapest_with_cost ["tree", "price"] (sp_cwc K 0):=by
 have sc:=sc_cheapest_with_cost
 refine T.F_cheapest_with_cost.okx sc (fun vs H Q E h=>?_) (fun cdv A outer s H vs Q E hr h=>?_)
 ·obtain ⟨v,t,a,top,low,b,rfl,cv,td,tl,tb,pr,ha,q⟩:=h
  rfl
 obtain ⟨v,t,a,top,low,b,rfl,cv,td,tl,tb,pr,ha,q⟩:=h
 have hu:=hr.units0
 have hu2:=hr.units
 have hu1:=Nat.lt_of_le_of_lt (Nat.add_le_add_left (show 1≤64 by decide) _) hu2
 refine ⟨_,(@pss_cons _ _ _ _ _ (@ps_if _ _ _ _ _ _ _ _ (@pt_cmpR _ _ _ _ _ _ _ _ op_eqS (@pe_ix _ _ _ _ _ _ _ ix_tup (pv 0) pe_int (fun _ _=>rfl)) pe_str (nomark _)) (@pss_one _ _ _ (@ps_ret _ _ _ _ (pe_tup (pa_cons (@pe_lst _ _ _ _ (pa_cons pe_str pa_nil se_c)) (pa_cons (@pe_ix _ _ _ _ _ _ _ ix_tup (pv 0) pe_int (fun _ _=>rfl)) pa_nil))))) pss_nil)
   (@pss_cons _ _ _ _ _ ps_never
   (@pss_cons _ _ _ _ _ ps_never
   (@pss_cons _ _ _ _ _ (@ps_set _ _ 4 _ _ _ _ sc.nd rfl (by walk_at "o1") (@pe_op _ _ _ _ _ _ _ _ op_cat (pe_lc (ts:=["place"]) (js:=[]) (LcOk.of rfl) rfl (pi_list (@pe_ix _ _ _ _ _ _ _ ix_tup (pv 3) pe_int (fun _ _=>rfl))) (fun _ _ _ _=>(pg_name (i:=0) (nodup_of rfl) rfl (Or.inl rfl))) (fun _ _ _ _=>pf_nil) (fun _ _ _ _=>(@pe_op _ _ _ _ _ _ _ _ op_add_str pe_str (pv 0)))) (pe_lc (ts:=["place"]) (js:=[]) (LcOk.of rfl) rfl (pi_list (@pe_ix _ _ _ _ _ _ _ ix_tup (pv 2) pe_int (fun _ _=>rfl))) (fun _ _ _ _=>(pg_name (i:=0) (nodup_of rfl) rfl (Or.inl rfl))) (fun _ _ _ _=>pf_nil) (fun _ _ _ _=>(@pe_op _ _ _ _ _ _ _ _ op_add_str pe_str (pv 0))))) (by rfl) (by walk_at "o2"))
   (@pss_cons _ _ _ _ _ (@ps_set _ _ 5 _ _ _ _ sc.nd rfl (by walk_at "o1") (pe_call (ok_unreduced_sum T) (hr.mono (by decide)) rfl T.m_unreduced_sum T.F_unreduced_sum.kp T.b_unreduced_sum .nil (pass_e fun _ _ z=>z) (pa_cons (@pe_ix _ _ _ _ _ _ _ ix_tup (pv 2) pe_int (fun _ _=>rfl)) (pa_cons (@pe_ix _ _ _ _ _ _ _ ix_tup (pv 3) pe_int (fun _ _=>rfl)) pa_nil))) (by rfl) (by walk_at "o2"))
   (@pss_cons _ _ _ _ _ (@ps_set _ _ 6 _ _ _ _ sc.nd rfl (by walk_at "o1") (pe_tup (pa_cons (@pe_op _ _ _ _ _ _ _ _ op_mulB (@pe_ix _ _ _ _ _ _ _ ix_tup (pv 1) pe_int (fun _ _=>rfl)) (@pe_op _ _ _ _ _ _ _ _ op_sub (pe_callB call_len_seq rfl T.z_len bt_len (pa_cons (pv 4) pa_nil)) pe_int)) (pa_cons (@pe_ix _ _ _ _ _ _ _ ix_tup (pv 1) pe_int (fun _ _=>rfl)) pa_nil))) (by rfl) (by walk_at "o2"))
   (@pss_cons _ _ _ _ _ (@ps_if _ _ _ _ _ _ _ _ (pt_val (pe_call (ok_under T) (hr.mono (by decide)) rfl T.m_under T.F_under.kp T.b_under .nil (pass_e fun _ _ z=>z) (pa_cons (pe_call (ok_unreduced_sum T) (hr.mono (by decide)) rfl T.m_unreduced_sum T.F_unreduced_sum.kp T.b_unreduced_sum .nil (pass_e fun _ _ z=>z) (pa_cons (pv 5) (pa_cons (pv 6) pa_nil))) (pa_cons (@pe_ix _ _ _ _ _ _ _ ix_tup (pv 0) pe_int (fun _ _=>rfl)) pa_nil)))) (@pss_one _ _ _ (@ps_ret _ _ _ _ (pe_tup (pa_cons (pv 4) (pa_cons (pv 5) pa_nil))))) pss_nil)
   (@pss_one _ _ _ (@ps_ret _ _ _ _ (pe_tup (pa_cons (@pe_lst _ _ _ _ (pa_cons pe_str pa_nil se_c)) (pa_cons (@pe_ix _ _ _ _ _ _ _ ix_tup (pv 0) pe_int (fun _ _=>rfl)) pa_nil)))))))))))),?_⟩
 walk_at "kx"
 cases t with
 | en w =>
  cases cv with
  | en h1 h2 =>
   walk_at "rd"
   rename_i l hl p hp
   exact q _ _ _ _ _ _ ((same_new hl _).new hp _) upd_same (kp upd_same hp) (kp (kp h2 hl) hp) (Cost29.stop pr.b0 pr.b1 tb rfl)
 | fk w y n=>exact absurd td (by show ¬ max _ _ + 1≤0; omega)
theorem ok_cheapest_with_costS (T:Tx K mg)(d:Nat)(ih:FnOk P w K mg base (CXe P w) (d + 2) T.f_cheapest_with_cost T.d_cheapest_with_cost ["tree", "price"] (sp_cwc K d)) : FnOk P w K mg base (CXe P w) (d + 1 + 2) T.f_cheapest_with_cost T.d_cheapest_with_cost ["tree", "price"] (sp_cwc K (d + 1)):=by
 have sc:=sc_cheapest_with_cost
 refine T.F_cheapest_with_cost.okx sc (fun vs H Q E h=>?_) (fun cdv A outer s H vs Q E hr h=>?_)
 ·obtain ⟨v,t,a,top,low,b,rfl,cv,td,tl,tb,pr,ha,q⟩:=h
  rfl
 obtain ⟨v,t,a,top,low,b,rfl,cv,td,tl,tb,pr,ha,q⟩:=h
 have hu:=hr.units0
 have hu2:=hr.units
 have hu1:=Nat.lt_of_le_of_lt (Nat.add_le_add_left (show 1≤64 by decide) _) hu2
 refine ⟨_,(@pss_cons _ _ _ _ _ (@ps_if _ _ _ _ _ _ _ _ (@pt_cmpR _ _ _ _ _ _ _ _ op_eqS (@pe_ix _ _ _ _ _ _ _ ix_tup (pv 0) pe_int (fun _ _=>rfl)) pe_str (nomark _)) (@pss_one _ _ _ (@ps_ret _ _ _ _ (pe_tup (pa_cons (@pe_lst _ _ _ _ (pa_cons pe_str pa_nil se_c)) (pa_cons (@pe_ix _ _ _ _ _ _ _ ix_tup (pv 0) pe_int (fun _ _=>rfl)) pa_nil))))) pss_nil)
   (@pss_cons _ _ _ _ _ (@ps_set _ _ 2 _ _ _ _ sc.nd rfl (by walk_at "o1") (pe_call ih (hr.mono (by omega)) rfl T.m_cheapest_with_cost T.F_cheapest_with_cost.kp T.b_cheapest_with_cost .nil (pass_e fun _ _ z=>z) (pa_cons (@pe_ix _ _ _ _ _ _ _ ix_tup (pv 0) pe_int (fun _ _=>rfl)) (pa_cons (pv 1) pa_nil))) (by rfl) (by walk_at "o2"))
   (@pss_cons _ _ _ _ _ (@ps_set _ _ 3 _ _ _ _ sc.nd rfl (by walk_at "o1") (pe_call ih (hr.mono (by omega)) rfl T.m_cheapest_with_cost T.F_cheapest_with_cost.kp T.b_cheapest_with_cost .nil (pass_e fun _ _ z=>z) (pa_cons (@pe_ix _ _ _ _ _ _ _ ix_tup (pv 0) pe_int (fun _ _=>rfl)) (pa_cons (pv 1) pa_nil))) (by rfl) (by walk_at "o2"))
   (@pss_cons _ _ _ _ _ (@ps_set _ _ 4 _ _ _ _ sc.nd rfl (by walk_at "o1") (@pe_op _ _ _ _ _ _ _ _ op_cat (pe_lc (ts:=["place"]) (js:=[]) (LcOk.of rfl) rfl (pi_list (@pe_ix _ _ _ _ _ _ _ ix_tup (pv 3) pe_int (fun _ _=>rfl))) (fun _ _ _ _=>(pg_name (i:=0) (nodup_of rfl) rfl (Or.inl rfl))) (fun _ _ _ _=>pf_nil) (fun _ _ _ _=>(@pe_op _ _ _ _ _ _ _ _ op_add_str pe_str (pv 0)))) (pe_lc (ts:=["place"]) (js:=[]) (LcOk.of rfl) rfl (pi_list (@pe_ix _ _ _ _ _ _ _ ix_tup (pv 2) pe_int (fun _ _=>rfl))) (fun _ _ _ _=>(pg_name (i:=0) (nodup_of rfl) rfl (Or.inl rfl))) (fun _ _ _ _=>pf_nil) (fun _ _ _ _=>(@pe_op _ _ _ _ _ _ _ _ op_add_str pe_str (pv 0))))) (by rfl) (by walk_at "o2"))
   (@pss_cons _ _ _ _ _ (@ps_set _ _ 5 _ _ _ _ sc.nd rfl (by walk_at "o1") (pe_call (ok_unreduced_sum T) (hr.mono (by omega)) rfl T.m_unreduced_sum T.F_unreduced_sum.kp T.b_unreduced_sum .nil (pass_e fun _ _ z=>z) (pa_cons (@pe_ix _ _ _ _ _ _ _ ix_tup (pv 2) pe_int (fun _ _=>rfl)) (pa_cons (@pe_ix _ _ _ _ _ _ _ ix_tup (pv 3) pe_int (fun _ _=>rfl)) pa_nil))) (by rfl) (by walk_at "o2"))
   (@pss_cons _ _ _ _ _ (@ps_set _ _ 6 _ _ _ _ sc.nd rfl (by walk_at "o1") (pe_tup (pa_cons (@pe_op _ _ _ _ _ _ _ _ op_mulB (@pe_ix _ _ _ _ _ _ _ ix_tup (pv 1) pe_int (fun _ _=>rfl)) (@pe_op _ _ _ _ _ _ _ _ op_sub (pe_callB call_len_seq rfl T.z_len bt_len (pa_cons (pv 4) pa_nil)) pe_int)) (pa_cons (@pe_ix _ _ _ _ _ _ _ ix_tup (pv 1) pe_int (fun _ _=>rfl)) pa_nil))) (by rfl) (by walk_at "o2"))
   (@pss_cons _ _ _ _ _ (@ps_if _ _ _ _ _ _ _ _ (pt_val (pe_call (ok_under T) (hr.mono (by omega)) rfl T.m_under T.F_under.kp T.b_under .nil (pass_e fun _ _ z=>z) (pa_cons (pe_call (ok_unreduced_sum T) (hr.mono (by omega)) rfl T.m_unreduced_sum T.F_unreduced_sum.kp T.b_unreduced_sum .nil (pass_e fun _ _ z=>z) (pa_cons (pv 5) (pa_cons (pv 6) pa_nil))) (pa_cons (@pe_ix _ _ _ _ _ _ _ ix_tup (pv 0) pe_int (fun _ _=>rfl)) pa_nil)))) (@pss_one _ _ _ (@ps_ret _ _ _ _ (pe_tup (pa_cons (pv 4) (pa_cons (pv 5) pa_nil))))) pss_nil)
   (@pss_one _ _ _ (@ps_ret _ _ _ _ (pe_tup (pa_cons (@pe_lst _ _ _ _ (pa_cons pe_str pa_nil se_c)) (pa_cons (@pe_ix _ _ _ _ _ _ _ ix_tup (pv 0) pe_int (fun _ _=>rfl)) pa_nil)))))))))))),?_⟩
 walk_at "kx"
 cases t with
 | en w =>
  cases cv with
  | en h1 h2 =>
   walk_at "rd"
   rename_i l hl p hp
   exact q _ _ _ _ _ _ ((same_new hl _).new hp _) upd_same (kp upd_same hp) (kp (kp h2 hl) hp) (Cost29.stop pr.b0 pr.b1 tb rfl)
 | fk w y n =>
  cases cv with
  | fk h1 h2 c1 c2 =>
   rename_i p0 r0 v1 v2
   have dd:max y.dp n.dp + 1≤d + 1:=td
   have ll:y.lv + n.lv≤21:=tl
   obtain ⟨wb,by_,bn⟩:=tb
   have ey:("y" : Str).length=1:=by decide +kernel
   have en:("n" : Str).length=1:=by decide +kernel
   have bl1:=best_len low (top * b) y ""
   have bl2:=best_len low (top * b) n ""
   have dy:=y.dp_lt
   have dn:=n.dp_lt
   walk_at "rd"
   rename_i H1 p1 l1 r1 t1 b1 S1 hp1 hl1 hr1 k1
   have c21:=c2.same S1
   have ha1:=S1 _ _ ha
   walk_at "rd"
   rename_i H2 p2 l2 r2 t2 b2 S2 hp2 hl2 hr2 k2 cA sA hA fA
   have ha2:=S2 _ _ ha1
   have hl12:=S2 _ _ hl1
   have hp12:=S2 _ _ hp1
   have hr12:=S2 _ _ hr1
   have h12:=S2 _ _ (S1 _ _ h1)
   have h22:=S2 _ _ (S1 _ _ h2)
   have S12:=S1.trans S2
   refine lc_list (K:=K) (a:=l2) (xs:=(best low (top * b) n "").1.map V.str) (fun i ys H'=>Iv (H'=H2∧ys=(((best low (top * b) n "").1.take i).map fun x=>("n" : Str) ++ x).map V.str)) ⟨⟨rfl,rfl⟩⟩ (fun j ys H' hj z=>⟨by rw [z.o.1]; exact SqL.of hl2,by rw [z.o.2,List.length_map,List.length_map,List.length_take]; exact small1000 (by omega)⟩) ?_ ?_
   ·rintro i x ys H' hi ⟨⟨rfl,rfl⟩⟩
    have il:i + 1≤((best low (top * b) n "").1.map V.str).length:=(List.getElem?_eq_some_iff.mp hi).1
    rw [List.getElem?_map] at hi
    obtain ⟨o,ho,rfl⟩:=Option.map_eq_some_iff.mp hi
    have lo:=best_wd low (top * b) n o (List.mem_of_getElem? ho)
    have lz:("n" : Str).length + o.length≤sizeLine:=szB (by omega)
    walk_at "rd"
    refine ⟨⟨rfl,?_⟩⟩
    rw [List.take_add_one,ho,List.map_append,List.map_append]
    rfl
   rintro ys H' ⟨⟨rfl,rfl⟩⟩ q1 hq1
   rw [List.length_map,List.take_length]
   obtain ⟨H3,eH⟩ : ∃ H3,H3=upd H' q1 (.lst ((((best low (top * b) n "").1).map fun x=>("n" : Str) ++ x).map V.str)):=⟨_,rfl⟩
   rw [← eH]
   have S3:Same H' H3:=by rw [eH]; exact same_new hq1 _
   have hq1':H3 q1=some (.lst ((((best low (top * b) n "").1).map fun x=>("n" : Str) ++ x).map V.str)):=by rw [eH]; exact upd_same
   clear eH
   have hl13:=S3 _ _ hl12
   have ha3:=S3 _ _ ha2
   have hp13:=S3 _ _ hp12
   have hr13:=S3 _ _ hr12
   have hr23:=S3 _ _ hr2
   have hp23:=S3 _ _ hp2
   have h13:=S3 _ _ h12
   have h23:=S3 _ _ h22
   have S13:=S12.trans S3
   clear ha1 ha2 hl12 hp12 hr12 h12 h22 hp2 hr2 c21 hl2 S12 S1 S2 hp1 hl1 hr1 h1 h2 c1 c2 hq1
   walk_at "rd"
   rename_i cB sB hB fB
   refine lc_list (K:=K) (a:=l1) (xs:=(best low (top * b) y "").1.map V.str) (fun i ys H'=>Iv (H'=H3∧ys=(((best low (top * b) y "").1.take i).map fun x=>("y" : Str) ++ x).map V.str)) ⟨⟨rfl,rfl⟩⟩ (fun j ys H' hj z=>⟨by rw [z.o.1]; exact SqL.of hl13,by rw [z.o.2,List.length_map,List.length_map,List.length_take]; exact small1000 (by omega)⟩) ?_ ?_
   ·rintro i x ys H' hi ⟨⟨rfl,rfl⟩⟩
    have il:i + 1≤((best low (top * b) y "").1.map V.str).length:=(List.getElem?_eq_some_iff.mp hi).1
    rw [List.getElem?_map] at hi
    obtain ⟨o,ho,rfl⟩:=Option.map_eq_some_iff.mp hi
    have lo:=best_wd low (top * b) y o (List.mem_of_getElem? ho)
    have lz:("y" : Str).length + o.length≤sizeLine:=szB (by omega)
    walk_at "rd"
    refine ⟨⟨rfl,?_⟩⟩
    rw [List.take_add_one,ho,List.map_append,List.map_append]
    rfl
   rintro ys H' ⟨⟨rfl,rfl⟩⟩ q2 hq2
   rw [List.length_map,List.take_length]
   obtain ⟨H4,eH⟩ : ∃ H4,H4=upd H' q2 (.lst ((((best low (top * b) y "").1).map fun x=>("y" : Str) ++ x).map V.str)):=⟨_,rfl⟩
   rw [← eH]
   have S4:Same H' H4:=by rw [eH]; exact same_new hq2 _
   have hq2':H4 q2=some (.lst ((((best low (top * b) y "").1).map fun x=>("y" : Str) ++ x).map V.str)):=by rw [eH]; exact upd_same
   clear eH
   have hq1':=S4 _ _ hq1'
   have ha3:=S4 _ _ ha3
   have hp13:=S4 _ _ hp13
   have hr13:=S4 _ _ hr13
   have hr23:=S4 _ _ hr23
   have hp23:=S4 _ _ hp23
   have h13:=S4 _ _ h13
   have h23:=S4 _ _ h23
   have S14:=S13.trans S4
   have zt1:Bz 8000 t1:=k1.zt.mono (by omega)
   have zb1:Bz 8000 b1:=k1.zb.mono (by omega)
   have zt2:Bz 8000 t2:=k2.zt.mono (by omega)
   have zb2:Bz 8000 b2:=k2.zb.mono (by omega)
   clear S4 S13 S3 hq2
   have bf:=best_fk low (top * b) w y n
   have zpn:Bz 109 (Rat.divInt top low).num:=low_n (by have:=pr.l0; omega) (bz109 (by have:=pr.t0; omega) (by have:=pr.t1; omega))
   have zpd:Bz 109 ((Rat.divInt top low).den:Int):=low_d (by have:=pr.l0; omega) (bz109 (by have:=pr.l0; omega) (by have:=pr.l1; omega))
   have zwn:Bz 8000 (Rat.divInt w b).num:=(low_n (by have:=pr.b0; omega) (bz109 wb.1 wb.2)).mono (by decide)
   have zwd:Bz 8000 ((Rat.divInt w b).den:Int):=(low_d (by have:=pr.b0; omega) (bz109 (by have:=pr.b0; omega) (by have:=pr.b1; omega))).mono (by decide)
   have zpd8:Bz 8000 ((Rat.divInt top low).den:Int):=zpd.mono (by decide)
   have zs1:Bz 4700 (t1 * b2 + t2 * b1):=((k1.zt.mul k2.zb).add' (k2.zt.mul k1.zb)).mono (by omega)
   have zs2:Bz 4700 (b1 * b2):=(k1.zb.mul k2.zb).mono (by omega)
   have zs18:Bz 8000 (t1 * b2 + t2 * b1):=zs1.mono (by decide)
   have zs28:Bz 8000 (b1 * b2):=zs2.mono (by decide)
   refine ⟨_,_,_,_,rfl,rfl,hq1',hq2',szB (by rw [List.length_map,List.length_map,List.length_map,List.length_map]; omega),?_⟩
   intro q3 hq3
   rw [← List.map_append]
   have lP:((best low (top * b) n "").1.map (fun x=>("n" : Str) ++ x) ++ (best low (top * b) y "").1.map (fun x=>("y" : Str) ++ x)).length=(best low (top * b) n "").1.length + (best low (top * b) y "").1.length:=by rw [List.length_append,List.length_map,List.length_map]
   clear hq1' hq2'
   generalize (best low (top * b) n "").1.map (fun x=>("n" : Str) ++ x) ++ (best low (top * b) y "").1.map (fun x=>("y" : Str) ++ x)=pl at *
   have lm:(pl.map V.str).length=pl.length:=List.length_map _
   have lq:pl.length≤21:=by omega
   have zl:Bz 109 ((((pl.map V.str).length:Nat) : Int) - 1):=bz109 (by omega) (by omega)
   have zsp:Bz 218 ((Rat.divInt top low).num * ((((pl.map V.str).length:Nat) : Int) - 1)):=zpn.mul zl
   have zsp8:Bz 8000 ((Rat.divInt top low).num * ((((pl.map V.str).length:Nat) : Int) - 1)):=zsp.mono (by decide)
   have msp:IntMulOk (Rat.divInt top low).num ((((pl.map V.str).length:Nat) : Int) - 1):=zpn.mulOk zl
   have zu1:Bz 8000 ((t1 * b2 + t2 * b1) * ((Rat.divInt top low).den:Int) + (Rat.divInt top low).num * ((((pl.map V.str).length:Nat) : Int) - 1) * (b1 * b2)):=((zs1.mul zpd).add' (zsp.mul zs2)).mono (by decide)
   have zu2:Bz 8000 (b1 * b2 * ((Rat.divInt top low).den:Int)):=(zs2.mul zpd).mono (by decide)
   walk_at "rd"
   rename_i q4 hq4 q5 hq5 q6 hq6
   have l0:0 < low:=by have:=pr.l0; omega
   have b0:0 < b:=by have:=pr.b0; omega
   have lt:=cost_lt (l:=(((pl.map V.str).length:Nat) : Int)) (cost_sum k1.e k2.e) (low_eq (t:=top) l0) (low_eq (t:=w) b0) (Int.mul_pos k1.p k2.p) low_p low_p b0 l0
   have el:(((pl.map V.str).length:Nat) : Int)=((best low (top * b) n "").1.length:Int) + ((best low (top * b) y "").1.length:Int):=by omega
   rw [el] at lt
   rw [← el] at lt
   rw [← el] at bf
   clear zu1 zu2 msp zsp8 zsp zl zs28 zs18 zs1 zs2 zpn zpd zwn zwd zpd8 zt1 zt2 zb1 zb2
   refine ite3 (fun c=>?_) (fun c=>?_)
   ·have e:=bf.trans (if_pos (lt.mp c))
    have kc:=Cost29.go (w:=w) k1 k2 (by rw [e])
    rw [e] at q
    walk_at "rd"
    rename_i q7 hq7
    exact q _ _ _ _ _ _ (((((S14.new hq3 _).new hq4 _).new hq5 _).new hq6 _).new hq7 _) upd_same (kp (kp (kp (kp upd_same hq4) hq5) hq6) hq7) (kp (kp (kp upd_same hq5) hq6) hq7) kc
   ·have e:=bf.trans (if_neg (fun z=>c (lt.mpr z)))
    have kc:=Cost29.stop (low:=low) (c:=top * b) (b:=b) (t:=.fk w y n) pr.b0 pr.b1 ⟨wb,by_,bn⟩ (by rw [e]; rfl)
    rw [e] at q
    walk_at "rd"
    rename_i q7 hq7 q8 hq8
    exact q _ _ _ _ _ _ ((((((S14.new hq3 _).new hq4 _).new hq5 _).new hq6 _).new hq7 _).new hq8 _) upd_same (kp upd_same hq8) (kp (kp (kp (kp (kp (kp h23 hq3) hq4) hq5) hq6) hq7) hq8) kc
theorem ok_cheapest_with_costA (T:Tx K mg) : ∀ d:Nat,FnOk P w K mg base (CXe P w) (d + 2) T.f_cheapest_with_cost T.d_cheapest_with_cost ["tree", "price"] (sp_cwc K d):=by
 intro d
 induction d with
 | zero=>exact ok_cheapest_with_cost0 T
 | succ d ih=>exact ok_cheapest_with_costS T d ih
theorem ok_cheapest_with_cost (T:Tx K mg) : FnOk P w K mg base (CXe P w) (20 + 2) T.f_cheapest_with_cost T.d_cheapest_with_cost ["tree", "price"] (sp_cwc K 20):=by exact ok_cheapest_with_costA T 20
theorem ok_cheapest (T:Tx K mg) : FnOk P w K mg base (CXe P w) 23 T.f_cheapest T.d_cheapest ["tree", "price"] (sp_cheap29 K):=by
 have sc:=sc_cheapest
 refine T.F_cheapest.okx sc (fun vs H Q E h=>?_) (fun cdv A outer s H vs Q E hr h=>?_)
 ·obtain ⟨v,t,a,top,low,b,rfl,cv,td,tl,tb,pr,ha,q⟩:=h
  rfl
 obtain ⟨v,t,a,top,low,b,rfl,cv,td,tl,tb,pr,ha,q⟩:=h
 have hu:=hr.units0
 have hu2:=hr.units
 have hu1:=Nat.lt_of_le_of_lt (Nat.add_le_add_left (show 1≤64 by decide) _) hu2
 refine ⟨_,(@pss_cons _ _ _ _ _ (ps_expr (pe_call (ok_check_price T) (hr.mono (by decide)) rfl T.m_check_price T.F_check_price.kp T.b_check_price .nil (pass_e fun _ _ z=>z) (pa_cons (pv 1) pa_nil)))
   (@pss_one _ _ _ (@ps_ret _ _ _ _ (@pe_ix _ _ _ _ _ _ _ ix_tup (pe_call (ok_cheapest_with_cost T) (hr.mono (by decide)) rfl T.m_cheapest_with_cost T.F_cheapest_with_cost.kp T.b_cheapest_with_cost .nil (pass_e fun _ _ z=>z) (pa_cons (pv 0) (pa_cons (pv 1) pa_nil))) pe_int (fun _ _=>rfl))))),?_⟩
 walk_at "kx"
 have l0:0 < low:=by have:=pr.l0; omega
 have p0:=low_0 l0 pr.t0
 have z1:Bz 8000 (Rat.divInt top low).num:=(low_n l0 (bz109 (by have:=pr.t0; omega) (by have:=pr.t1; omega))).mono (by decide)
 have z2:Bz 8000 ((Rat.divInt top low).den:Int):=(low_d l0 (bz109 (by have:=pr.l0; omega) (by have:=pr.l1; omega))).mono (by decide)
 walk_at "rd"
 rename_i H1 S1
 have cv1:=cv.same S1
 have ha1:=S1 _ _ ha
 walk_at "rd"
 rename_i H2 p l r ct cb S2 hp hl hr k
 exact q _ _ (S1.trans S2) hl
theorem ok_forks_inside (T:Tx K mg) : FnOk P w K mg base (CXe P w) 4 T.f_forks_inside T.d_forks_inside ["tree", "places"] (sp_finside K):=by
 have sc:=sc_forks_inside
 refine T.F_forks_inside.okx sc (fun vs H Q E h=>?_) (fun cdv A outer s H vs Q E hr h=>?_)
 ·obtain ⟨v,t,B,a,ps,rfl,tv,lt,ha,pl,q⟩:=h
  rfl
 obtain ⟨v,t,B,a,ps,rfl,tv,lt,ha,pl,q⟩:=h
 have hu:=hr.units0
 have hu2:=hr.units
 have hu1:=Nat.lt_of_le_of_lt (Nat.add_le_add_left (show 1≤64 by decide) _) hu2
 refine ⟨_,(@pss_one _ _ _ (@ps_ret _ _ _ _ (pe_lc (ts:=["place"]) (js:=[1]) (LcOk.of rfl) rfl (pi_list (pe_call (ok_forks T) (hr.mono (by decide)) rfl T.m_forks T.F_forks.kp T.b_forks .nil (pass_e fun _ _ z=>z) (pa_cons (pv 0) pa_nil))) (fun _ _ _ _=>(pg_name (i:=0) (nodup_of rfl) rfl (Or.inl rfl))) (fun _ _ _ _=>(pf_one (@pt_cmpR _ _ _ _ _ _ _ _ op_eqI (pe_callB call_len_seq rfl T.z_len bt_len (pa_cons (pe_call (ok_beginnings T) (hr.mono (by decide)) rfl T.m_beginnings T.F_beginnings.kp T.b_beginnings .nil passN (pa_cons (pv 0) (pa_cons (pv 1) pa_nil))) pa_nil)) pe_int (nomark _)))) (fun _ _ _ _=>(pv 0))))),?_⟩
 walk_at "kx"
 have pl2:ps.length≤100:=by omega
 walk_at "rd"
 rename_i H1 p1 ws S1 fp hp1 pm so cA sA hA fA
 have ha1:=S1 _ _ ha
 have wl:ws.length≤60:=by
  have:=pm.length_eq
  unfold plK at this
  rw [List.length_map] at this
  have z2:=List.length_filter_le (fun u:Str × Str=>decide (u.2=Str.ofString "fork")) (plc t "")
  have z3:=plc_len t ""
  omega
 refine lc_list (K:=K) (a:=p1) (xs:=ws.map V.str) (fun i ys H'=>Iv (Same H1 H'∧ys=((ws.take i).filter fun x=>decide ((bgs x ps).length=0)).map V.str)) ⟨⟨Same.refl _,rfl⟩⟩ (fun i ys H' hi z=>⟨SqL.of (z.o.1 _ _ hp1),?_⟩) ?_ ?_
 ·rw [z.o.2,List.length_map]
  refine small1000 (Nat.le_trans (List.length_filter_le _ _) ?_)
  rw [List.length_take]
  omega
 ·rintro i x ys H' hi ⟨⟨S2,rfl⟩⟩
  have il:=(List.getElem?_eq_some_iff.mp hi).1
  rw [List.getElem?_map] at hi
  obtain ⟨x,hx,rfl⟩:=Option.map_eq_some_iff.mp hi
  have ft:=filter_takeS (p:=fun x:Str=>decide ((bgs x ps).length=0)) hx
  have ha2:=S2 _ _ ha1
  walk_at "rd"
  rename_i p5 hp5
  have el:(((bgs x ps).map V.str).length:Int)=((bgs x ps).length:Int):=by rw [List.length_map]
  rw [el]
  refine ite3 (fun e=>?_) (fun e=>?_)
  ·walk_at "rd"
   refine ⟨⟨S2.new hp5 _,?_⟩⟩
   rw [ft,if_pos (decide_eq_true (by omega)),List.map_append]
   rfl
  ·walk_at "rd"
   refine ⟨⟨S2.new hp5 _,?_⟩⟩
   rw [ft,if_neg (by rw [decide_eq_false (by omega)]; exact Bool.false_ne_true),List.append_nil]
 ·rintro ys H' ⟨⟨S2,rfl⟩⟩ z hz
  rw [List.length_map,List.take_length]
  refine q _ _ _ ((S1.trans S2).new hz _) ((S1.trans S2).free hz) upd_same ?_ ?_
  ·exact pm.filter _
  ·exact pw_sorted_le (sorted_pw so)
theorem ok_shared_out (T:Tx K mg) : FnOk P w K mg base (CXe P w) 2 T.f_shared_out T.d_shared_out ["one", "many"] sp_shared:=by
 have sc:=sc_shared_out
 refine T.F_shared_out.okx sc (fun vs H Q E h=>?_) (fun cdv A outer s H vs Q E hr h=>?_)
 ·obtain ⟨a,r,m,rfl,ha,m0,m1,rz,q⟩:=h
  rfl
 obtain ⟨a,r,m,rfl,ha,m0,m1,rz,q⟩:=h
 have hu:=hr.units0
 have hu2:=hr.units
 have hu1:=Nat.lt_of_le_of_lt (Nat.add_le_add_left (show 1≤64 by decide) _) hu2
 refine ⟨_,(@pss_cons _ _ _ _ _ (@ps_set _ _ 2 _ _ _ _ sc.nd rfl (by walk_at "o1") (pe_call (ok_greatest_divisor T) (hr.mono (by decide)) rfl T.m_greatest_divisor T.F_greatest_divisor.kp T.b_greatest_divisor .nil (pass_e fun _ _ z=>z) (pa_cons (@pe_ix _ _ _ _ _ _ _ ix_tup (pv 0) pe_int (fun _ _=>rfl)) (pa_cons (pv 1) pa_nil))) (by rfl) (by walk_at "o2"))
   (@pss_one _ _ _ (@ps_ret _ _ _ _ (pe_tup (pa_cons (@pe_op _ _ _ _ _ _ _ _ op_fdivB (@pe_ix _ _ _ _ _ _ _ ix_tup (pv 0) pe_int (fun _ _=>rfl)) (pv 2)) (pa_cons (@pe_op _ _ _ _ _ _ _ _ op_mulB (@pe_ix _ _ _ _ _ _ _ ix_tup (pv 0) pe_int (fun _ _=>rfl)) (@pe_op _ _ _ _ _ _ _ _ op_fdivB (pv 1) (pv 2))) pa_nil)))))),?_⟩
 walk_at "kx"
 have z1:=rz.zn
 have z2:=rz.zd
 have h1:H a=some (.tup [.int r.num,.int (r.den:Int)]):=ha
 have mz:Bz 8000 m:=Bz.mono (m:=128) (Bz.w (by omega) (by omega)) (by decide)
 have c1:=cGe (t:=r.num) m0 mz r.num
 have c2:=cGe (t:=r.num) m0 mz m
 have gp:=M.G_pos r.num m
 have zk:Bz 128 (m / M.G r.num m):=(Bz.w (by omega) (by omega) : Bz 128 m).ediv (Int.le_of_lt gp)
 have m3:=z2.mulOk zk
 have lo:=shared_low (r:=r) m0
 walk_at "rd"
 rename_i p hp
 show Q (.ref p) (upd H p (.tup [.int (r.num / M.G r.num m),.int ((r.den:Int) * (m / M.G r.num m))]))
 rw [lo.1,lo.2]
 exact q _ hp
theorem ok_link_inside (T:Tx K mg) : FnOk P w K mg base (CXe P w) 4 T.f_link_inside T.d_link_inside ["tree", "places", "fork"] (sp_linki K):=by
 have sc:=sc_link_inside
 refine T.F_link_inside.okx sc (fun vs H Q E h=>?_) (fun cdv A outer s H vs Q E hr h=>?_)
 ·obtain ⟨v,t,B,a,ps,f,rfl,tv,lt,ha,pl,pk,fk,b0,bz,tb,u2,q⟩:=h
  rfl
 obtain ⟨v,t,B,a,ps,f,rfl,tv,lt,ha,pl,pk,fk,b0,bz,tb,u2,q⟩:=h
 have hu:=hr.units0
 have hu2:=hr.units
 have hu1:=Nat.lt_of_le_of_lt (Nat.add_le_add_left (show 1≤64 by decide) _) hu2
 refine ⟨_,(@pss_cons _ _ _ _ _ (@ps_mid _ _ _ (@ps_set _ _ 3 _ _ _ _ sc.nd rfl (by walk_at "o1") (pe_call (ok_trees_by_place T) (hr.mono (by decide)) rfl T.m_trees_by_place T.F_trees_by_place.kp T.b_trees_by_place .nil (pass_e fun _ _ z=>z) (pa_cons (pv 0) pa_nil)) (by rfl) (by walk_at "o2")))
   (@pss_cons _ _ _ _ _ (@ps_mid _ _ _ (by first | exact ps_setLC (i:=4) sc.nd rfl (by walk_at "o1") (ts:=["place"]) (js:=[2]) (LcOk.of rfl) rfl (pi_list (pv 1)) (fun _ _ _ _=>(pg_name (i:=0) (nodup_of rfl) rfl (Or.inl rfl))) (fun _ _ _ _=>(pf_one (pt_val (pe_bm PySem.F.plainAttrs_str PySem.F.slot_str_startswith PySem.F.type_str_startswith mt_startswith (pv 0) (pa_cons (pv 1) pa_nil))))) (fun _ _ _ _=>(pv 0)) | exact ps_set (i:=4) sc.nd rfl (by walk_at "o1") (pe_lc (ts:=["place"]) (js:=[2]) (LcOk.of rfl) rfl (pi_list (pv 1)) (fun _ _ _ _=>(pg_name (i:=0) (nodup_of rfl) rfl (Or.inl rfl))) (fun _ _ _ _=>(pf_one (pt_val (pe_bm PySem.F.plainAttrs_str PySem.F.slot_str_startswith PySem.F.type_str_startswith mt_startswith (pv 0) (pa_cons (pv 1) pa_nil))))) (fun _ _ _ _=>(pv 0)))))
   (@pss_cons _ _ _ _ _ (@ps_mid _ _ _ (@ps_set _ _ 5 _ _ _ _ sc.nd rfl (by walk_at "o1") (@pe_ix _ _ _ _ _ _ _ ix_tup (pe_dget hu1 (pv 3) (pv 2) (fun _ _=>rfl)) pe_int (fun _ _=>rfl)) (by rfl) (by walk_at "o2")))
   (@pss_cons _ _ _ _ _ (@ps_mid _ _ _ (ps_for powx rfl (pi_list (pv 4)) (pg_name (i:=6) sc.nd rfl (by walk_at "o1"))
   (@pss_one _ _ _ (@ps_set _ _ 5 _ _ _ _ sc.nd rfl (by walk_at "o1") (pe_call (ok_minus T) (hr.mono (by decide)) rfl T.m_minus T.F_minus.kp T.b_minus .nil (pass_e fun _ _ z=>z) (pa_cons (pv 5) (pa_cons (@pe_ix _ _ _ _ _ _ _ ix_tup (pe_dget hu1 (pv 3) (pv 6) (fun _ _=>rfl)) pe_int (fun _ _=>rfl)) pa_nil))) (by rfl) (by walk_at "o2")))))
   (@pss_one _ _ _ (@ps_ret _ _ _ _ (pe_call (ok_shared_out T) (hr.mono (by decide)) rfl T.m_shared_out T.F_shared_out.kp T.b_shared_out .nil (pass_e fun _ _ z=>z) (pa_cons (pv 5) (pa_cons (@pe_op _ _ _ _ _ _ _ _ op_sub (pe_callB call_len_seq rfl T.z_len bt_len (pa_cons (pv 4) pa_nil)) pe_int) pa_nil))))))))),?_⟩
 walk_at "kx"
 refine ⟨fun σ' H1=>Iv (∃ (d:Addr) (kvs:List (Key × V)) (es:List (Str × Tr)),Same H H1∧H1 d=some (.dK kvs)∧DT K B H1 kvs es∧es.Perm (plt t "")∧σ' = [some v,some (.ref a),some (.str f),some (.ref d),none,none,none]),?_,?_⟩
 ·walk_at "rd"
  rename_i H1 d kvs es S1 fd hd dt pm
  exact ⟨⟨d,kvs,es,S1,hd,dt,pm,rfl⟩⟩
 rintro σ' H1 ⟨⟨d,kvs,es,S1,hd,dt,pm,rfl⟩⟩
 have ha1:=S1 _ _ ha
 have lu:(und ps f).length≤ps.length:=List.length_filter_le _ _
 refine ⟨fun σ' H2=>Iv (∃ (l:Addr),Same H1 H2∧H2 l=some (.lst ((und ps f).map V.str))∧σ' = [some v,some (.ref a),some (.str f),some (.ref d),some (.ref l),none,none]),?_,?_⟩
 ·walk_at "rd"
  refine lc_list (K:=K) (a:=a) (xs:=ps.map V.str) (fun i ys H'=>Iv (H'=H1∧ys=(und (ps.take i) f).map V.str)) ⟨⟨rfl,rfl⟩⟩ (fun i ys H' hi z=>⟨SqL.of (by rw [z.o.1]; exact ha1),?_⟩) ?_ ?_
  ·rw [z.o.2,List.length_map]
   refine small1000 (Nat.le_trans (List.length_filter_le _ _) ?_)
   rw [List.length_take]
   omega
  ·rintro i x ys H' hi ⟨⟨rfl,rfl⟩⟩
   have il:=(List.getElem?_eq_some_iff.mp hi).1
   rw [List.getElem?_map] at hi
   obtain ⟨x,hx,rfl⟩:=Option.map_eq_some_iff.mp hi
   have ft:und (ps.take (i + 1)) f=und (ps.take i) f ++ (if Txt.startswith x f=true then [x] else []):=filter_takeS (p:=fun x:Str=>Txt.startswith x f) hx
   walk_at "rd"
   refine iteB (fun e=>?_) (fun e=>?_)
   ·walk_at "rd"
    refine ⟨⟨rfl,?_⟩⟩
    rw [ft,if_pos e,List.map_append]
    rfl
   ·walk_at "rd"
    refine ⟨⟨rfl,?_⟩⟩
    rw [ft,if_neg (by rw [e]; exact Bool.false_ne_true),List.append_nil]
  ·rintro ys H' ⟨⟨rfl,rfl⟩⟩ z hz
   rw [List.length_map,List.take_length]
   exact ⟨⟨z,same_new hz _,upd_same,rfl⟩⟩
 rintro σ' H2 ⟨⟨l,S2,hl,rfl⟩⟩
 have hd2:=S2 _ _ hd
 have dt2:=dt.mono S2.t
 clear hd dt
 have a1 := @at_1
 refine ⟨fun σ' H3=>Iv (∃ (c:Addr),H3=H2∧H2 c=some (rt (Rat.divInt (wA t f) B))∧σ' = [some v,some (.ref a),some (.str f),some (.ref d),some (.ref l),some (.ref c),none]),?_,?_⟩
 ·obtain ⟨p,k,c,r,g,hp,hc⟩:=dt_at b0 hd2 dt2 pm fk
  have a1:=at_1 (k:=k) (c:=c) (r:=r)
  walk_at "rd"
  exact ⟨⟨c,rfl,hc,rfl⟩⟩
 rintro σ' H3 ⟨⟨c,rfl,hc,rfl⟩⟩
 have wf:=wA_B tb fk
 have um:∀ x∈und ps f,x∈(plc t "").map (·.1):=fun x hx=>pk x (List.mem_filter.mp hx).1
 have bd:∀ i,-10000000000000000000000000000000000≤wA t f - (((und ps f).take i).map (wA t)).sum∧wA t f - (((und ps f).take i).map (wA t)).sum≤10000000000000000000000000000000000:=fun i=>by
  have h1:=sumB (W:=wA t) (l:=(und ps f).take i) fun x hx=>wA_B tb (um x (List.mem_of_mem_take hx))
  have h2:((und ps f).take i).length≤63:=by rw [List.length_take]; omega
  omega
 have rzi:∀ i,Rz 700 (Rat.divInt (wA t f - (((und ps f).take i).map (wA t)).sum) B):=fun i=>(rzd (by omega) (bz128 (bd i).1 (bd i).2) bz).mono (by decide)
 have rzx:∀ x∈und ps f,Rz 700 (Rat.divInt (wA t x) B):=fun x hx=>by
  have:=wA_B tb (um x hx)
  exact (rzd (by omega) (bz128 (by omega) (by omega)) bz).mono (by decide)
 refine ⟨fun σ' H4=>Iv (∃ (c:Addr) (o6:Option V),Same H3 H4∧H4 c=some (rt (Rat.divInt (wA t f - ((und ps f).map (wA t)).sum) B))∧σ' = [some v,some (.ref a),some (.str f),some (.ref d),some (.ref l),some (.ref c),o6]),?_,?_⟩
 ·walk_at "rd"
  refine for_list (K:=K) (a:=l) (xs:=(und ps f).map V.str) (fun i σ' H'=>Iv (∃ (c:Addr) (o6:Option V),Same H3 H'∧H' c=some (rt (Rat.divInt (wA t f - (((und ps f).take i).map (wA t)).sum) B))∧σ' = [some v,some (.ref a),some (.str f),some (.ref d),some (.ref l),some (.ref c),o6])) ⟨⟨c,_,Same.refl _,by rw [List.take_zero,List.map_nil,List.sum_nil,Int.sub_zero]; exact hc,rfl⟩⟩ (fun i σ' H' _ y=>by obtain ⟨⟨_,_,s,_⟩⟩:=y; exact SqL.of (s _ _ hl)) ?_ ?_
  ·rintro i x σ' H4 hx ⟨⟨c,o6,S4,hc,rfl⟩⟩
   rw [List.getElem?_map] at hx
   obtain ⟨x,hx2,rfl⟩:=Option.map_eq_some_iff.mp hx
   have xm:=List.mem_of_getElem? hx2
   obtain ⟨p,k,c2,r,g,hp,hc2⟩:=dt_at b0 (S4 _ _ hd2) (dt2.mono S4.t) pm (um x xm)
   have a1:=at_1 (k:=k) (c:=c2) (r:=r)
   walk_at "rd"
   refine ⟨rzi i,rzx x xm,fun p2 H5 fp S5 hp2=>?_⟩
   refine ⟨⟨p2,_,S4.trans S5,?_,rfl⟩⟩
   rw [hp2,divInt_sub b0,List.take_add_one,hx2,List.map_append,List.sum_append]
   show some (rt (Rat.divInt (wA t f - (((und ps f).take i).map (wA t)).sum - wA t x) B))=some (rt (Rat.divInt (wA t f - ((((und ps f).take i).map (wA t)).sum + (wA t x + 0))) B))
   rw [show wA t f - (((und ps f).take i).map (wA t)).sum - wA t x=wA t f - ((((und ps f).take i).map (wA t)).sum + (wA t x + 0)) by omega]
  ·rintro σ' H4 ⟨⟨c,o6,S4,hc,rfl⟩⟩
   rw [List.length_map,List.take_length] at hc
   exact ⟨⟨c,o6,S4,hc,rfl⟩⟩
 rintro σ' H4 ⟨⟨c,o6,S4,hc4,rfl⟩⟩
 have hl4:=S4 _ _ hl
 have rze:=rzi (und ps f).length
 rw [List.take_length] at rze
 walk_at "rd"
 have el:(((und ps f).map V.str).length:Int)=((und ps f).length:Int):=by rw [List.length_map]
 rw [el]
 refine ⟨by omega,by omega,rze,fun p hp=>?_⟩
 refine q _ p (((S1.trans S2).trans S4).new hp _) ?_
 rw [upd_same,shared_at]
theorem ok_cut (T:Tx K mg) : FnOk P w K mg base (CXe P w) 2 T.f_cut T.d_cut ["places", "places_of_forks"] (sp_cut K):=by
 have sc:=sc_cut
 refine T.F_cut.okx sc (fun vs H Q E h=>?_) (fun cdv A outer s H vs Q E hr h=>?_)
 ·obtain ⟨a,b,ps,fs,rfl,ha,hb,hl,q⟩:=h
  rfl
 obtain ⟨a,b,ps,fs,rfl,ha,hb,hl,q⟩:=h
 have hu:=hr.units0
 have hu2:=hr.units
 have hu1:=Nat.lt_of_le_of_lt (Nat.add_le_add_left (show 1≤64 by decide) _) hu2
 refine ⟨_,(@pss_cons _ _ _ _ _ (@ps_mid _ _ _ (by first | exact ps_setLC (i:=2) sc.nd rfl (by walk_at "o1") (ts:=["place"]) (js:=[1]) (LcOk.of rfl) rfl (pi_list (pv 0)) (fun _ _ _ _=>(pg_name (i:=0) (nodup_of rfl) rfl (Or.inl rfl))) (fun _ _ _ _=>(pf_one (@pt_cmpR _ _ _ _ _ _ _ _ op_eqI (pe_callB call_len_seq rfl T.z_len bt_len (pa_cons (pe_call (ok_beginnings T) (hr.mono (by decide)) rfl T.m_beginnings T.F_beginnings.kp T.b_beginnings .nil passN (pa_cons (pv 0) (pa_cons (pv 1) pa_nil))) pa_nil)) pe_int (nomark _)))) (fun _ _ _ _=>(pv 0)) | exact ps_set (i:=2) sc.nd rfl (by walk_at "o1") (pe_lc (ts:=["place"]) (js:=[1]) (LcOk.of rfl) rfl (pi_list (pv 0)) (fun _ _ _ _=>(pg_name (i:=0) (nodup_of rfl) rfl (Or.inl rfl))) (fun _ _ _ _=>(pf_one (@pt_cmpR _ _ _ _ _ _ _ _ op_eqI (pe_callB call_len_seq rfl T.z_len bt_len (pa_cons (pe_call (ok_beginnings T) (hr.mono (by decide)) rfl T.m_beginnings T.F_beginnings.kp T.b_beginnings .nil passN (pa_cons (pv 0) (pa_cons (pv 1) pa_nil))) pa_nil)) pe_int (nomark _)))) (fun _ _ _ _=>(pv 0)))))
   (@pss_cons _ _ _ _ _ (@ps_mid _ _ _ (by first | exact ps_setLC (i:=3) sc.nd rfl (by walk_at "o1") (ts:=["place"]) (js:=[1]) (LcOk.of rfl) rfl (pi_list (pv 1)) (fun _ _ _ _=>(pg_name (i:=0) (nodup_of rfl) rfl (Or.inl rfl))) (fun _ _ _ _=>(pf_one (@pt_cmpR _ _ _ _ _ _ _ _ op_eqI (pe_callB call_len_seq rfl T.z_len bt_len (pa_cons (pe_call (ok_beginnings T) (hr.mono (by decide)) rfl T.m_beginnings T.F_beginnings.kp T.b_beginnings .nil passN (pa_cons (pv 0) (pa_cons (pv 1) pa_nil))) pa_nil)) pe_int (nomark _)))) (fun _ _ _ _=>(pv 0)) | exact ps_set (i:=3) sc.nd rfl (by walk_at "o1") (pe_lc (ts:=["place"]) (js:=[1]) (LcOk.of rfl) rfl (pi_list (pv 1)) (fun _ _ _ _=>(pg_name (i:=0) (nodup_of rfl) rfl (Or.inl rfl))) (fun _ _ _ _=>(pf_one (@pt_cmpR _ _ _ _ _ _ _ _ op_eqI (pe_callB call_len_seq rfl T.z_len bt_len (pa_cons (pe_call (ok_beginnings T) (hr.mono (by decide)) rfl T.m_beginnings T.F_beginnings.kp T.b_beginnings .nil passN (pa_cons (pv 0) (pa_cons (pv 1) pa_nil))) pa_nil)) pe_int (nomark _)))) (fun _ _ _ _=>(pv 0)))))
   (@pss_one _ _ _ (@ps_ret _ _ _ _ (pe_callB call_sortedS rfl T.z_sorted bt_sorted (pa_cons (@pe_op _ _ _ _ _ _ _ _ op_cat (pv 2) (pv 3)) pa_nil)))))),?_⟩
 walk_at "kx"
 have hl1:(ps.map V.str).length=ps.length:=List.length_map _
 have hl2:(fs.map V.str).length=fs.length:=List.length_map _
 have f100:fs.length≤100:=by omega
 refine ⟨fun σ' H'=>Iv (∃ p,Same H H'∧H' p=some (.lst ((kept ps fs).map V.str))∧σ' = [some (.ref a),some (.ref b),some (.ref p),none]),?_,?_⟩
 ·have hb0:=hb
  have ha0:=ha
  generalize hH:H=H0 at hb0 ha0 ⊢
  walk_at "rd"
  refine lc_list (K:=K) (a:=a) (xs:=ps.map V.str) (fun i ys H'=>Iv (Same H0 H'∧ys=((ps.take i).filter fun x=>decide ((bgs x fs).length=0)).map V.str)) ⟨⟨Same.refl _,rfl⟩⟩ (fun i ys H' hi z=>⟨SqL.of (z.o.1 _ _ ha0),?_⟩) ?_ ?_
  ·rw [z.o.2,List.length_map]
   refine small1000 (Nat.le_trans (List.length_filter_le _ _) ?_)
   rw [List.length_take]
   omega
  ·rintro i v ys H' hi ⟨⟨S,rfl⟩⟩
   rw [List.getElem?_map] at hi
   obtain ⟨x,hx,rfl⟩:=Option.map_eq_some_iff.mp hi
   have il:=(List.getElem?_eq_some_iff.mp hx).1
   have ft:=filter_takeS (p:=fun x=>decide ((bgs x fs).length=0)) hx
   have hb1:=S _ _ hb0
   walk_at "rd"
   rename_i p hp
   have S1:=S.new hp (.lst ((bgs x fs).map V.str))
   refine ite3 (fun c=>?_) (fun c=>?_)
   ·rw [List.length_map] at c
    walk_at "rd"
    refine ⟨⟨S1,?_⟩⟩
    rw [ft,if_pos (decide_eq_true (by omega)),List.map_append]
    rfl
   ·rw [List.length_map] at c
    walk_at "rd"
    refine ⟨⟨S1,?_⟩⟩
    rw [ft,if_neg (by rw [decide_eq_false (by omega)]; decide),List.append_nil]
  ·rintro ys H' ⟨⟨S,rfl⟩⟩ p hp
   rw [hl1,List.take_length]
   walk_at "rd"
   exact ⟨⟨p,S.new hp _,upd_same,rfl⟩⟩
 rintro σ' H0 ⟨⟨p1,S1,hp1,rfl⟩⟩
 have ha0:=S1 _ _ ha
 have hb0:=S1 _ _ hb
 refine ⟨fun σ' H'=>Iv (∃ p,Same H0 H'∧H' p=some (.lst ((tops fs).map V.str))∧σ' = [some (.ref a),some (.ref b),some (.ref p1),some (.ref p)]),?_,?_⟩
 ·walk_at "rd"
  refine lc_list (K:=K) (a:=b) (xs:=fs.map V.str) (fun i ys H'=>Iv (Same H0 H'∧ys=((fs.take i).filter fun x=>decide ((bgs x fs).length=1)).map V.str)) ⟨⟨Same.refl _,rfl⟩⟩ (fun i ys H' hi z=>⟨SqL.of (z.o.1 _ _ hb0),?_⟩) ?_ ?_
  ·rw [z.o.2,List.length_map]
   refine small1000 (Nat.le_trans (List.length_filter_le _ _) ?_)
   rw [List.length_take]
   omega
  ·rintro i v ys H' hi ⟨⟨S,rfl⟩⟩
   rw [List.getElem?_map] at hi
   obtain ⟨x,hx,rfl⟩:=Option.map_eq_some_iff.mp hi
   have il:=(List.getElem?_eq_some_iff.mp hx).1
   have ft:=filter_takeS (p:=fun x=>decide ((bgs x fs).length=1)) hx
   have hb1:=S _ _ hb0
   walk_at "rd"
   rename_i p hp
   have S1:=S.new hp (.lst ((bgs x fs).map V.str))
   refine ite3 (fun c=>?_) (fun c=>?_)
   ·rw [List.length_map] at c
    walk_at "rd"
    refine ⟨⟨S1,?_⟩⟩
    rw [ft,if_pos (decide_eq_true (by omega)),List.map_append]
    rfl
   ·rw [List.length_map] at c
    walk_at "rd"
    refine ⟨⟨S1,?_⟩⟩
    rw [ft,if_neg (by rw [decide_eq_false (by omega)]; decide),List.append_nil]
  ·rintro ys H' ⟨⟨S,rfl⟩⟩ p hp
   rw [hl2,List.take_length]
   walk_at "rd"
   exact ⟨⟨p,S.new hp _,upd_same,rfl⟩⟩
 rintro σ' H2 ⟨⟨p2,S2,hp2,rfl⟩⟩
 have hp3:=S2 _ _ hp1
 have k1:(kept ps fs).length≤ps.length:=List.length_filter_le _ _
 have k2:(tops fs).length≤fs.length:=List.length_filter_le _ _
 have k3:((kept ps fs).map V.str).length + ((tops fs).map V.str).length≤sizeLine:=szB (by rw [List.length_map,List.length_map]; omega)
 walk_at "rd"
 rename_i p3 hp4
 refine ⟨(SqL.of (show _=some (HO.lst ((kept ps fs ++ tops fs).map V.str)) by rw [List.map_append]; exact upd_same) : SqL _ _ _ ((kept ps fs ++ tops fs).map V.str)),by rw [List.length_append]; omega,fun p5 ws hp5 pm so=>?_⟩
 have S3:=((S1.trans S2).new hp4 (.lst ((kept ps fs).map V.str ++ (tops fs).map V.str)))
 exact q _ _ ws (S3.new hp5 _) (Same.free S3 hp5) upd_same pm so
theorem ok_sums_and_leaves (T:Tx K mg) : FnOk P w K mg base (CXe P w) 5 T.f_sums_and_leaves T.d_sums_and_leaves ["whole", "places"] (sp_sums K):=by
 have sc:=sc_sums_and_leaves
 refine T.F_sums_and_leaves.okx sc (fun vs H Q E h=>?_) (fun cdv A outer s H vs Q E hr h=>?_)
 ·obtain ⟨v,t,a,ps,gs,rfl,tv,lt,tb,ha,pi,q⟩:=h
  rfl
 obtain ⟨v,t,a,ps,gs,rfl,tv,lt,tb,ha,pi,q⟩:=h
 have hu:=hr.units0
 have hu2:=hr.units
 have hu1:=Nat.lt_of_le_of_lt (Nat.add_le_add_left (show 1≤64 by decide) _) hu2
 refine ⟨_,(@pss_cons _ _ _ _ _ (@ps_mid _ _ _ (@ps_set _ _ 2 _ _ _ _ sc.nd rfl (by walk_at "o1") (pe_call (ok_trees_by_place T) (hr.mono (by decide)) rfl T.m_trees_by_place T.F_trees_by_place.kp T.b_trees_by_place .nil (pass_e fun _ _ z=>z) (pa_cons (pv 0) pa_nil)) (by rfl) (by walk_at "o2")))
   (@pss_cons _ _ _ _ _ (@ps_mid _ _ _ (@ps_set _ _ 3 _ _ _ _ sc.nd rfl (by walk_at "o1") pe_dnewK (by rfl) (by walk_at "o2")))
   (@pss_cons _ _ _ _ _ (@ps_mid _ _ _ (ps_for powx rfl (pi_list (pv 1)) (pg_name (i:=4) sc.nd rfl (by walk_at "o1"))
   (@pss_one _ _ _ (ps_dput hu1 (pv 3) (pv 4) (pe_tup (pa_cons (@pe_ix _ _ _ _ _ _ _ ix_tup (pe_dget hu1 (pv 2) (pv 4) (fun _ _=>rfl)) pe_int (fun _ _=>rfl)) (pa_cons pe_int pa_nil))) rfl))))
   (@pss_cons _ _ _ _ _ (@ps_mid _ _ _ (ps_for powx rfl (pi_rev rfl T.z_reversed (pa_cons (pe_call (ok_forks_inside T) (hr.mono (by decide)) rfl T.m_forks_inside T.F_forks_inside.kp T.b_forks_inside .nil (pass_e fun _ _ z=>z) (pa_cons (pv 0) (pa_cons (pv 1) pa_nil))) pa_nil)) (pg_name (i:=4) sc.nd rfl (by walk_at "o1"))
   (@pss_cons _ _ _ _ _ (@ps_mid _ _ _ (@ps_set _ _ 5 _ _ _ _ sc.nd rfl (by walk_at "o1") (pe_dget hu1 (pv 3) (@pe_op _ _ _ _ _ _ _ _ op_add_str (pv 4) pe_str) (fun _ _=>rfl)) (by rfl) (by walk_at "o2")))
   (@pss_cons _ _ _ _ _ (@ps_mid _ _ _ (@ps_set _ _ 6 _ _ _ _ sc.nd rfl (by walk_at "o1") (pe_dget hu1 (pv 3) (@pe_op _ _ _ _ _ _ _ _ op_add_str (pv 4) pe_str) (fun _ _=>rfl)) (by rfl) (by walk_at "o2")))
   (@pss_one _ _ _ (ps_dput hu1 (pv 3) (pv 4) (pe_tup (pa_cons (@pe_op _ _ _ _ _ _ _ _ op_add (@pe_ix _ _ _ _ _ _ _ ix_tup (pv 5) pe_int (fun _ _=>rfl)) (@pe_ix _ _ _ _ _ _ _ ix_tup (pv 6) pe_int (fun _ _=>rfl))) (pa_cons (@pe_op _ _ _ _ _ _ _ _ op_add (@pe_ix _ _ _ _ _ _ _ ix_tup (pv 5) pe_int (fun _ _=>rfl)) (@pe_ix _ _ _ _ _ _ _ ix_tup (pv 6) pe_int (fun _ _=>rfl))) pa_nil))) rfl))))))
   (@pss_one _ _ _ (@ps_ret _ _ _ _ (pv 3))))))),?_⟩
 walk_at "kx"
 have lt30:t.lv≤30:=by omega
 have tv0:TV K H v (htD 0 t):=by rw [htD_0]; exact tv
 have pl:=pi.len
 have pk:=pi.kn
 have fa:=pi.facts
 have psl:ps.length < 64:=by omega
 have wsm:∀ x∈ps,-100000000000000000000000000000000 < wA t x∧wA t x < 100000000000000000000000000000000:=fun x hx=>wA_B tb (pk x hx)
 have esm:∀ x,Bz 128 (ent (wA t) ps x).2.1∧Bz 128 (ent (wA t) ps x).2.2:=fun x=>by
  have h1:=sumB (W:=wA t) (l:=und ps x) fun y hy=>wsm y (List.mem_filter.mp hy).1
  have h2:(und ps x).length≤ps.length:=List.length_filter_le _ _
  exact ⟨bz128 (by show _≤((und ps x).map (wA t)).sum; omega) (by show ((und ps x).map (wA t)).sum≤_; omega),bz128 (by show _≤((und ps x).length:Int); omega) (by show ((und ps x).length:Int)≤_; omega)⟩
 refine ⟨fun σ' H1=>Iv (∃ (d:Addr) (kvs:List (Key × V)) (es:List (Str × Tr)),Same H H1∧H1 d=some (.dK kvs)∧DT K 0 H1 kvs es∧es.Perm (plt t "")∧σ' = [some v,some (.ref a),some (.ref d),none,none,none,none]),?_,?_⟩
 ·walk_at "rd"
  rename_i H1 d kvs es S1 fd hd dt pm
  exact ⟨⟨d,kvs,es,S1,hd,dt,pm,rfl⟩⟩
 rintro σ' H1 ⟨⟨d,kvs,es,S1,hd,dt,pm,rfl⟩⟩
 have ha1:=S1 _ _ ha
 refine ⟨fun σ' H2=>Iv (∃ (z:Addr),H1 z=none∧H2=upd H1 z (.dK [])∧σ' = [some v,some (.ref a),some (.ref d),some (.ref z),none,none,none]),?_,?_⟩
 ·walk_at "rd"
  rename_i z hz
  exact ⟨⟨z,hz,rfl,rfl⟩⟩
 rintro σ' H2 ⟨⟨z,hz,e2,rfl⟩⟩
 have S2:Same H1 H2:=by rw [e2]; exact same_new hz _
 have hz2:H2 z=some (.dK []):=by rw [e2]; exact upd_same
 have zd:z ≠ d:=fun e=>by rw [e,hd] at hz; cases hz
 have za:z ≠ a:=fun e=>by rw [e,ha1] at hz; cases hz
 have Hz:H z=none:=S1.free hz
 clear e2
 have hd2:=S2 _ _ hd
 have dt2:=dt.mono S2.t
 have ha2:=S2 _ _ ha1
 refine ⟨fun σ' H3=>Iv (∃ (kv:List (Key × V)) (o4:Option V),Same H1 H3∧SameT H2 H3∧H3 z=some (.dK kv)∧DR H3 kv (ps.map (ent (wA t) ps))∧σ' = [some v,some (.ref a),some (.ref d),some (.ref z),o4,none,none]),?_,?_⟩
 ·walk_at "rd"
  refine for_list (K:=K) (a:=a) (xs:=ps.map V.str) (fun i σ' H'=>Iv (∃ (kv:List (Key × V)) (o4:Option V),Same H1 H'∧SameT H2 H'∧H' d=some (.dK kvs)∧H' z=some (.dK kv)∧DR H' kv ((ps.take i).map (ent (wA t) ps))∧σ' = [some v,some (.ref a),some (.ref d),some (.ref z),o4,none,none])) ⟨⟨[],_,S2,SameT.refl _,hd2,hz2,.nil,rfl⟩⟩ (fun i σ' H' _ y=>by obtain ⟨⟨_,_,s,_⟩⟩:=y; exact SqL.of (s _ _ ha1)) ?_ ?_
  ·rintro i x σ' H3 hx ⟨⟨kv,o4,S3,st3,hd3,hz3,dr,rfl⟩⟩
   rw [List.getElem?_map] at hx
   obtain ⟨x,hx2,rfl⟩:=Option.map_eq_some_iff.mp hx
   have xm:=List.mem_of_getElem? hx2
   obtain ⟨p0,k0,r0,g0,hp0⟩:=dt_at0 hd3 (dt2.mono st3) pm (pk x xm)
   have a1:=at1' (k:=k0) (w:=wA t x) (r:=r0)
   have kz:kv.length < sizeLine:=small1000 (by rw [dr.length,List.length_map,List.length_take]; omega)
   walk_at "rd"
   rename_i p hp
   have nx:x ∉ ((ps.take i).map (ent (wA t) ps)).map (·.1):=by rw [ent_key]; exact nd_take fa.n1 hx2
   refine ⟨DPut.k (k:=.inr x) (kp hz3 hp) kz,?_⟩
   rw [putK_new _ (dr.vno nx)]
   obtain ⟨p1,p2,p3,p4⟩:=put_pair (x:=x) (a:=wA t x) (b:=1) hp hz3 dr
   refine ⟨⟨_,_,Same.over (S3.new hp _) hz _,fun c o e=>p1 c o (st3 c o e),p4 _ _ (Ne.symm zd) hd3,p2,?_,rfl⟩⟩
   rw [List.take_add_one,hx2,List.map_append]
   have e1:ent (wA t) ps x=(x,wA t x,1):=by
    unfold ent
    rw [pi.leaf xm]
    show (x,wA t x + 0,((1:Nat) : Int))=_
    rw [Int.add_zero]
    rfl
   show DR _ _ (_ ++ [ent (wA t) ps x])
   rw [e1]
   exact p3
  ·rintro σ' H3 ⟨⟨kv,o4,S3,st3,hd3,hz3,dr,rfl⟩⟩
   rw [List.length_map,List.take_length] at dr
   exact ⟨⟨kv,o4,S3,st3,hz3,dr,rfl⟩⟩
 rintro σ' H3 ⟨⟨kv,o4,S3,st3,hz3,dr3,rfl⟩⟩
 have ha3:=S3 _ _ ha1
 have tv3:TV K H3 v (htD 0 t):=tv0.mono (S1.trans S3).t
 refine ⟨fun σ' H4=>Iv (∃ (kv:List (Key × V)) (fs:List Str) (o4 o5 o6:Option V),Same H1 H4∧H4 z=some (.dK kv)∧fs.Perm gs∧DR H4 kv ((ps ++ fs).map (ent (wA t) ps))∧σ' = [some v,some (.ref a),some (.ref d),some (.ref z),o4,o5,o6]),?_,?_⟩
 ·walk_at "rd"
  rename_i H4 p rs S4 fp hp pm2 so
  have pm3:rs.Perm gs:=pm2.trans (insF_perm pi)
  have hz4:=S4 _ _ hz3
  have zp:p ≠ z:=fun e=>by rw [e,hz3] at fp; cases fp
  have dr4:=dr3.mono S4.t
  have rl:rs.length + 1=ps.length:=by rw [pm3.length_eq]; exact pl.2
  have spw:=sorted_pw so
  have ndk:∀ i,(ps ++ rs.reverse.take i).Nodup:=fun i=>by
   rw [List.nodup_append]
   refine ⟨fa.n1,List.Nodup.sublist (List.take_sublist _ _) ((List.reverse_perm _).nodup_iff.mpr (pm3.nodup_iff.mpr fa.n2)),fun x hx y hy e=>?_⟩
   subst e
   exact fa.ap x hx x (pm3.mem_iff.mp (List.mem_reverse.mp (List.mem_of_mem_take hy))) (List.prefix_refl _)
  refine for_rev (K:=K) (a:=p) (xs:=rs.map V.str) (fun i σ' H'=>Iv (∃ (kv:List (Key × V)) (o4 o5 o6:Option V),Same H1 H'∧H' p=some (.lst (rs.map V.str))∧H' z=some (.dK kv)∧DR H' kv ((ps ++ rs.reverse.take i).map (ent (wA t) ps))∧σ' = [some v,some (.ref a),some (.ref d),some (.ref z),o4,o5,o6])) ⟨⟨kv,_,_,_,S3.trans S4,hp,hz4,by rw [List.take_zero,List.append_nil]; exact dr4,rfl⟩⟩ (fun i σ' H' _ y=>by obtain ⟨⟨_,_,_,_,_,s,_⟩⟩:=y; exact SqL.of s) ?_ ?_
  ·rintro i x σ' H5 hx ⟨⟨kv,o4,o5,o6,S5,hp5,hz5,dr5,rfl⟩⟩
   rw [← List.map_reverse,List.getElem?_map] at hx
   obtain ⟨f,hf2,rfl⟩:=Option.map_eq_some_iff.mp hx
   have il:i < rs.length:=by have:=(List.getElem?_eq_some_iff.mp hf2).1; rw [List.length_reverse] at this; exact this
   have fg:f∈gs:=pm3.mem_iff.mp (List.mem_reverse.mp (List.mem_of_getElem? hf2))
   have kd:=pi.kids f fg
   have lt1:∀ (s:Str) (c:Nat),cds s = [c]→cds f < cds (f ++ s):=fun s c e=>by
    rw [cds_app,e]
    have:=lt_pre (l:=cds f) (a:=[]) (b:=[c]) (List.nil_lt_cons _ _)
    rw [List.append_nil] at this
    exact this
   have mem:∀ g,(g∈ps∨g∈gs)→cds f < cds g→g∈ps ++ rs.reverse.take i:=fun g hg l=>hg.elim (fun z=>List.mem_append_left _ z) fun z=>List.mem_append_right _ (rev_before spw hf2 (pm3.mem_iff.mpr z) l)
   have my:=mem _ kd.1 (lt1 "y" 121 cd_yn.1)
   have mn:=mem _ kd.2 (lt1 "n" 110 cd_yn.2)
   have nk:(((ps ++ rs.reverse.take i).map (ent (wA t) ps)).map (·.1)).Nodup:=by rw [ent_key]; exact ndk i
   obtain ⟨py,vy,hy⟩:=dr5.val (e:=ent (wA t) ps (f ++ "y")) nk (List.mem_map.mpr ⟨_,my,rfl⟩)
   obtain ⟨pn,vn,hn⟩:=dr5.val (e:=ent (wA t) ps (f ++ "n")) nk (List.mem_map.mpr ⟨_,mn,rfl⟩)
   have gy:DGet H5 z (.str (f ++ "y")) (some (.ref py)):=by rw [← vy]; exact DGet.k (k:=.inr (f ++ "y")) hz5
   have gn:DGet H5 z (.str (f ++ "n")) (some (.ref pn)):=by rw [← vn]; exact DGet.k (k:=.inr (f ++ "n")) hz5
   have fl:f.length≤60:=by
    have h1:=(pi.short).2 f fg
    have h2:=t.dp_lt
    rw [show ("" : Str).length=0 by decide +kernel] at h1
    omega
   have k1:f.length + ("y" : Str).length≤sizeLine:=szB (by rw [ynl.1]; omega)
   have k2:f.length + ("n" : Str).length≤sizeLine:=szB (by rw [ynl.2]; omega)
   have kz:kv.length < sizeLine:=small1000 (by rw [dr5.length,List.length_map,List.length_append,List.length_take,List.length_reverse]; omega)
   have ef:=ent_fork (W:=wA t) pi fg
   walk_at "rd"
   refine ⟨fun σ' H6=>Iv (H6=H5∧σ' = [some v,some (.ref a),some (.ref d),some (.ref z),some (.str f),some (.ref py),o6]),?_,?_⟩
   ·walk_at "rd"
    exact ⟨⟨rfl,rfl⟩⟩
   rintro σ' H6 ⟨⟨rfl,rfl⟩⟩
   refine ⟨fun σ' H7=>Iv (H7=H6∧σ' = [some v,some (.ref a),some (.ref d),some (.ref z),some (.str f),some (.ref py),some (.ref pn)]),?_,?_⟩
   ·walk_at "rd"
    exact ⟨⟨rfl,rfl⟩⟩
   rintro σ' H7 ⟨⟨rfl,rfl⟩⟩
   walk_at "rd"
   rename_i p7 hp7
   have nx:f ∉ ((ps ++ rs.reverse.take i).map (ent (wA t) ps)).map (·.1):=by
    rw [ent_key]
    intro z
    rcases List.mem_append.mp z with z | z
    ·exact fa.ap f z f fg (List.prefix_refl _)
    ·exact nd_take ((List.reverse_perm _).nodup_iff.mpr (pm3.nodup_iff.mpr fa.n2)) hf2 z
   refine ⟨DPut.k (k:=.inr f) (kp hz5 hp7) kz,?_⟩
   rw [putK_new _ (dr5.vno nx)]
   obtain ⟨p1,p2,p3,p4⟩:=put_pair (x:=f) (a:=(ent (wA t) ps (f ++ "y")).2.1 + (ent (wA t) ps (f ++ "n")).2.1) (b:=(ent (wA t) ps (f ++ "y")).2.2 + (ent (wA t) ps (f ++ "n")).2.2) hp7 hz5 dr5
   refine ⟨⟨_,_,_,_,Same.over (S5.new hp7 _) hz _,p4 _ _ zp hp5,p2,?_,rfl⟩⟩
   rw [List.take_add_one,hf2,← List.append_assoc,List.map_append]
   show DR _ _ (_ ++ [ent (wA t) ps f])
   rw [ef]
   exact p3
  ·rintro σ' H5 ⟨⟨kv,o4,o5,o6,S5,hp5,hz5,dr5,rfl⟩⟩
   rw [List.length_map,← List.length_reverse,List.take_length] at dr5
   exact ⟨⟨kv,rs.reverse,o4,o5,o6,S5,hz5,(List.reverse_perm _).trans pm3,dr5,rfl⟩⟩
 rintro σ' H4 ⟨⟨kv,fs,o4,o5,o6,S4,hz4,pmf,dr4,rfl⟩⟩
 walk_at "rd"
 exact q _ z kv fs (S1.trans S4) Hz hz4 pmf dr4
theorem ok_whole_links (T:Tx K mg) : FnOk P w K mg base (CXe P w) 6 T.f_whole_links T.d_whole_links ["whole", "places"] (sp_wlinks K):=by
 have sc:=sc_whole_links
 refine T.F_whole_links.okx sc (fun vs H Q E h=>?_) (fun cdv A outer s H vs Q E hr h=>?_)
 ·obtain ⟨v,t,a,ps,gs,rfl,tv,lt,tb,ha,pi,q⟩:=h
  rfl
 obtain ⟨v,t,a,ps,gs,rfl,tv,lt,tb,ha,pi,q⟩:=h
 have hu:=hr.units0
 have hu2:=hr.units
 have hu1:=Nat.lt_of_le_of_lt (Nat.add_le_add_left (show 1≤64 by decide) _) hu2
 refine ⟨_,(@pss_cons _ _ _ _ _ (@ps_mid _ _ _ (@ps_set _ _ 2 _ _ _ _ sc.nd rfl (by walk_at "o1") (pe_call (ok_trees_by_place T) (hr.mono (by decide)) rfl T.m_trees_by_place T.F_trees_by_place.kp T.b_trees_by_place .nil (pass_e fun _ _ z=>z) (pa_cons (pv 0) pa_nil)) (by rfl) (by walk_at "o2")))
   (@pss_cons _ _ _ _ _ (@ps_mid _ _ _ (@ps_set _ _ 3 _ _ _ _ sc.nd rfl (by walk_at "o1") pe_dnewK (by rfl) (by walk_at "o2")))
   (@pss_cons _ _ _ _ _ (@ps_mid _ _ _ (ps_for powx rfl (pi_items (pe_call (ok_sums_and_leaves T) (hr.mono (by decide)) rfl T.m_sums_and_leaves T.F_sums_and_leaves.kp T.b_sums_and_leaves .nil (pass_e fun _ _ z=>z) (pa_cons (pv 0) (pa_cons (pv 1) pa_nil))) rfl rfl) (pg_tup rfl (pgs_cons (pg_name (i:=4) sc.nd rfl (by walk_at "o1")) (pgs_cons (pg_name (i:=5) sc.nd rfl (by walk_at "o1")) pgs_nil)))
   (@pss_one _ _ _ (@ps_if _ _ _ _ _ _ _ _ (@pt_cmpR _ _ _ _ _ _ _ _ op_gt (@pe_ix _ _ _ _ _ _ _ ix_tup (pv 5) pe_int (fun _ _=>rfl)) pe_int (nomark _)) (@pss_one _ _ _ (ps_dput hu1 (pv 3) (pv 4) (pe_tup (pa_cons (@pe_op _ _ _ _ _ _ _ _ op_sub (@pe_ix _ _ _ _ _ _ _ ix_tup (pe_dget hu1 (pv 2) (pv 4) (fun _ _=>rfl)) pe_int (fun _ _=>rfl)) (@pe_ix _ _ _ _ _ _ _ ix_tup (pv 5) pe_int (fun _ _=>rfl))) (pa_cons (@pe_op _ _ _ _ _ _ _ _ op_sub (@pe_ix _ _ _ _ _ _ _ ix_tup (pv 5) pe_int (fun _ _=>rfl)) pe_int) pa_nil))) rfl)) pss_nil))))
   (@pss_one _ _ _ (@ps_ret _ _ _ _ (pv 3)))))),?_⟩
 walk_at "kx"
 have lt30:t.lv≤30:=by omega
 have tv0:TV K H v (htD 0 t):=by rw [htD_0]; exact tv
 have pl:=pi.len
 have pk:=pi.kn
 have fa:=pi.facts
 have psl:ps.length < 64:=by omega
 obtain ⟨us,s0,m0,lk,eus⟩:=pi.lk
 have vals:=(lk.vals (wA t) wA_at).2.2
 have two:∀ f∈gs,2≤(und ps f).length:=fun f hf=>by
  rw [← eus] at hf
  obtain ⟨u,hu,rfl⟩:=List.mem_map.mp hf
  exact (vals u hu).2.2
 refine ⟨fun σ' H1=>Iv (∃ (d:Addr) (kvs:List (Key × V)) (es:List (Str × Tr)),Same H H1∧H1 d=some (.dK kvs)∧DT K 0 H1 kvs es∧es.Perm (plt t "")∧σ' = [some v,some (.ref a),some (.ref d),none,none,none]),?_,?_⟩
 ·walk_at "rd"
  rename_i H1 d kvs es S1 fd hd dt pm
  exact ⟨⟨d,kvs,es,S1,hd,dt,pm,rfl⟩⟩
 rintro σ' H1 ⟨⟨d,kvs,es,S1,hd,dt,pm,rfl⟩⟩
 have ha1:=S1 _ _ ha
 have tv1:=tv.mono S1.t
 refine ⟨fun σ' H2=>Iv (∃ (z:Addr),H1 z=none∧H2=upd H1 z (.dK [])∧σ' = [some v,some (.ref a),some (.ref d),some (.ref z),none,none]),?_,?_⟩
 ·walk_at "rd"
  rename_i z hz
  exact ⟨⟨z,hz,rfl,rfl⟩⟩
 rintro σ' H2 ⟨⟨z,hz,e2,rfl⟩⟩
 have S2:Same H1 H2:=by rw [e2]; exact same_new hz _
 have hz2:H2 z=some (.dK []):=by rw [e2]; exact upd_same
 have zd:z ≠ d:=fun e=>by rw [e,hd] at hz; cases hz
 have Hz:H z=none:=S1.free hz
 clear e2
 have hd2:=S2 _ _ hd
 have dt2:=dt.mono S2.t
 have ha2:=S2 _ _ ha1
 have tv2:=tv1.mono S2.t
 refine ⟨fun σ' H3=>Iv (∃ (kv:List (Key × V)) (fs:List Str) (o4 o5:Option V),Same H1 H3∧H3 z=some (.dK kv)∧fs.Perm gs∧DR H3 kv (fs.map (lnk (wA t) ps))∧σ' = [some v,some (.ref a),some (.ref d),some (.ref z),o4,o5]),?_,?_⟩
 ·walk_at "rd"
  rename_i H3 d3 kvs3 fs S3 fd3 hd3 pmf dr3
  have hz3:=S3 _ _ hz2
  have hdd3:=S3 _ _ hd2
  have dt3:=dt2.mono S3.t
  have zd3:z ≠ d3:=fun e=>by rw [← e,hz2] at fd3; cases fd3
  have dd3:d ≠ d3:=fun e=>by rw [← e,hd2] at fd3; cases fd3
  have fd1:H1 d3=none:=S2.free fd3
  have fl:=pmf.length_eq
  have kl:kvs3.length=(ps ++ fs).length:=by rw [dr3.length,List.length_map]
  have nda:(ps ++ fs).Nodup:=by
   rw [List.nodup_append]
   refine ⟨fa.n1,pmf.nodup_iff.mpr fa.n2,fun x hx y hy e=>?_⟩
   subst e
   exact fa.ap x hx x (pmf.mem_iff.mp hy) (List.prefix_refl _)
  refine .inl ⟨hd3,fun ep=>?_⟩
  refine for_items (P:=P) (w:=w) (a:=d3) (kvs:=kvs3) (ep:=ep) (fun i σ' H'=>Iv (∃ (kv:List (Key × V)) (o4 o5:Option V),Same H1 H'∧SameT H3 H'∧H' d3=some (FzD P w d3 kvs3 ep)∧H' d=some (.dK kvs)∧H' z=some (.dK kv)∧DR H' kv ((((ps ++ fs).take i).filter fun x=>decide (1 < (und ps x).length)).map (lnk (wA t) ps))∧σ' = [some v,some (.ref a),some (.ref d),some (.ref z),o4,o5])) ?_ ?_ ?_ ?_
  ·exact ⟨⟨[],_,_,Same.over (S2.trans S3) fd1 _,st_dk (SameT.refl _) hd3 _,upd_same,by rw [upd_ne dd3]; exact hdd3,by rw [upd_ne zd3]; exact hz3,.nil,rfl⟩⟩
  ·rintro i σ' H4 hi ⟨⟨kv,o4,o5,S4,st4,hf,_⟩⟩
   exact hf
  ·rintro i k x T0 σ' H4 hk ⟨⟨kv,o4,o5,S4,st4,hf,hd4,hz4,dr4,rfl⟩⟩ hT
   obtain ⟨e,pp,he,rfl,rfl,hpp⟩:=dr3.get hk
   rw [List.getElem?_map] at he
   obtain ⟨f,hf2,rfl⟩:=Option.map_eq_some_iff.mp he
   have fm:=List.mem_of_getElem? hf2
   have fk:f∈(plc t "").map (·.1):=by
    rcases List.mem_append.mp fm with z | z
    ·exact pk f z
    ·exact List.mem_map.mpr ⟨_,pi.forks.1 f (pmf.mem_iff.mp z),rfl⟩
   have S5:=S4.new hT (.tup [kV (.inr (ent (wA t) ps f).1),.ref pp])
   have st5:=st4.new hT (.tup [kV (.inr (ent (wA t) ps f).1),.ref pp])
   have hf5:=kp hf hT (u:=.tup [kV (.inr (ent (wA t) ps f).1),.ref pp])
   have hd5:=kp hd4 hT (u:=.tup [kV (.inr (ent (wA t) ps f).1),.ref pp])
   have hz5:=kp hz4 hT (u:=.tup [kV (.inr (ent (wA t) ps f).1),.ref pp])
   have dr5:=dr4.mono ((SameT.refl H4).new hT (.tup [kV (.inr (ent (wA t) ps f).1),.ref pp]))
   have hT5:upd H4 T0 (.tup [kV (.inr (ent (wA t) ps f).1),.ref pp]) T0=some (.tup [.str f,.ref pp]):=upd_same
   generalize upd H4 T0 (.tup [kV (.inr (ent (wA t) ps f).1),.ref pp])=H5 at S5 st5 hf5 hd5 hz5 dr5 hT5 ⊢
   have hpp5:H5 pp=some (.tup [.int ((und ps f).map (wA t)).sum,.int ((und ps f).length:Int)]):=st5 _ _ hpp
   obtain ⟨p0,k0,r0,g0,hp0⟩:=dt_at0 hd5 (dt3.mono st5) pm fk
   have a1:=at1' (k:=k0) (w:=wA t f) (r:=r0)
   have kz:kv.length < sizeLine:=small1000 (by
    rw [dr5.length,List.length_map]
    have z1:=List.length_filter_le (fun x=>decide (1 < (und ps x).length)) ((ps ++ fs).take i)
    have z2:((ps ++ fs).take i).length≤(ps ++ fs).length:=by rw [List.length_take]; omega
    rw [List.length_append] at z2
    omega)
   have ft:=filter_takeS (p:=fun x:Str=>decide (1 < (und ps x).length)) hf2
   have nx:f ∉ ((((ps ++ fs).take i).filter fun x=>decide (1 < (und ps x).length)).map (lnk (wA t) ps)).map (·.1):=by
    rw [lnk_key]
    exact fun z=>nd_take nda hf2 (List.mem_filter.mp z).1
   walk_at "rd"
   refine ite3 (fun c=>?_) (fun c=>?_)
   ·have c2:1 < (und ps f).length:=by omega
    rw [if_pos (decide_eq_true c2)] at ft
    walk_at "rd"
    rename_i p7 hp7
    refine ⟨DPut.k (k:=.inr f) (kp hz5 hp7) kz,?_⟩
    rw [putK_new _ (dr5.vno nx)]
    obtain ⟨p1,p2,p3,p4⟩:=put_pair (x:=f) (a:=wA t f - ((und ps f).map (wA t)).sum) (b:=((und ps f).length:Int) - 1) hp7 hz5 dr5
    refine ⟨⟨_,_,_,Same.over (S5.new hp7 _) hz _,fun c o e=>p1 c o (st5 c o e),p4 _ _ (Ne.symm zd3) hf5,p4 _ _ (Ne.symm zd) hd5,p2,?_,rfl⟩⟩
    rw [ft,List.map_append]
    exact p3
   ·have c2:¬ 1 < (und ps f).length:=by omega
    rw [if_neg (by rw [decide_eq_false c2]; exact Bool.false_ne_true),List.append_nil] at ft
    walk_at "rd"
    refine ⟨⟨_,_,_,S5,st5,hf5,hd5,hz5,?_,rfl⟩⟩
    rw [ft]
    exact dr5
  ·rintro σ' H4 ⟨⟨kv,o4,o5,S4,st4,hf,hd4,hz4,dr4,rfl⟩⟩
   have e1:((ps ++ fs).filter fun x=>decide (1 < (und ps x).length))=fs:=by
    rw [List.filter_append,List.filter_eq_nil_iff.mpr,List.nil_append,List.filter_eq_self.mpr]
    ·exact fun x hx=>decide_eq_true (two x (pmf.mem_iff.mp hx))
    ·intro x hx
     rw [pi.leaf hx]
     exact Bool.false_ne_true
   rw [kl,List.take_length,e1] at dr4
   exact ⟨⟨kv,fs,o4,o5,S4,hz4,pmf,dr4,rfl⟩⟩
 rintro σ' H3 ⟨⟨kv,fs,o4,o5,S3,hz3,pmf,dr3,rfl⟩⟩
 walk_at "rd"
 exact q _ z kv fs (S1.trans S3) Hz hz3 pmf dr3
theorem ok_least_linked (T:Tx K mg) : FnOk P w K mg base (CXe P w) 7 T.f_least_linked T.d_least_linked ["whole", "places"] (sp_least K):=by
 have sc:=sc_least_linked
 refine T.F_least_linked.okx sc (fun vs H Q E h=>?_) (fun cdv A outer s H vs Q E hr h=>?_)
 ·obtain ⟨v,t,a,ps,us,s0,m0,rfl,tv,lt,tb,ha,lk,une,q⟩:=h
  rfl
 obtain ⟨v,t,a,ps,us,s0,m0,rfl,tv,lt,tb,ha,lk,une,q⟩:=h
 have hu:=hr.units0
 have hu2:=hr.units
 have hu1:=Nat.lt_of_le_of_lt (Nat.add_le_add_left (show 1≤64 by decide) _) hu2
 refine ⟨_,(@pss_cons _ _ _ _ _ (@ps_mid _ _ _ (@ps_set _ _ 2 _ _ _ _ sc.nd rfl (by walk_at "o1") (pe_call (ok_whole_links T) (hr.mono (by decide)) rfl T.m_whole_links T.F_whole_links.kp T.b_whole_links .nil (pass_e fun _ _ z=>z) (pa_cons (pv 0) (pa_cons (pv 1) pa_nil))) (by rfl) (by walk_at "o2")))
   (@pss_cons _ _ _ _ _ (@ps_mid _ _ _ (@ps_set _ _ 3 _ _ _ _ sc.nd rfl (by walk_at "o1") (pe_dget hu1 (pv 2) pe_str (fun _ _=>rfl)) (by rfl) (by walk_at "o2")))
   (@pss_cons _ _ _ _ _ (@ps_mid _ _ _ (ps_for powx rfl (pi_values (pv 2) rfl rfl) (pg_name (i:=4) sc.nd rfl (by walk_at "o1"))
   (@pss_one _ _ _ (@ps_if _ _ _ _ _ _ _ _ (pt_val (pe_call (ok_under T) (hr.mono (by decide)) rfl T.m_under T.F_under.kp T.b_under .nil (pass_e fun _ _ z=>z) (pa_cons (pv 4) (pa_cons (pv 3) pa_nil)))) (@pss_one _ _ _ (@ps_set _ _ 3 _ _ _ _ sc.nd rfl (by walk_at "o1") (pv 4) (by rfl) (by walk_at "o2"))) pss_nil))))
   (@pss_one _ _ _ (@ps_ret _ _ _ _ (pe_lc (ts:=["place", "one"]) (js:=[3]) (LcOk.of rfl) rfl (pi_items (pv 2) rfl rfl) (fun _ _ _ _=>(pg_tup rfl (pgs_cons (pg_name (i:=0) (nodup_of rfl) rfl (Or.inl rfl)) (pgs_cons (pg_name (i:=1) (nodup_of rfl) rfl (Or.inl rfl)) pgs_nil)))) (fun _ _ _ _=>(pf_one (pt_not (pt_val (pe_call (ok_under T) (hr.mono (by decide)) rfl T.m_under T.F_under.kp T.b_under .nil passN (pa_cons (pv 2) (pa_cons (pv 1) pa_nil))))))) (fun _ _ _ _=>(pv 0)))))))),?_⟩
 walk_at "kx"
 have pi:=lk.pi
 have pk:=pi.kn
 have pl:=pi.len
 have lo:=lk.one
 have vals:=(lk.vals (wA t) wA_at).2.2
 have euv:∀ u∈us,lnk (wA t) ps u.1=u:=fun u hu=>by
  have:=vals u hu
  unfold lnk
  rw [← this.1,← this.2.1]
 have fgk:∀ f∈us.map (·.1),f∈(plc t "").map (·.1):=fun f hf=>List.mem_map.mpr ⟨_,pi.forks.1 f hf,rfl⟩
 refine ⟨fun σ' H1=>Iv (∃ (d:Addr) (kvs:List (Key × V)) (fs:List Str),Same H H1∧H d=none∧H1 d=some (.dK kvs)∧fs.Perm (us.map (·.1))∧DR H1 kvs (fs.map (lnk (wA t) ps))∧σ' = [some v,some (.ref a),some (.ref d),none,none]),?_,?_⟩
 ·walk_at "rd"
  rename_i H1 d kvs fs S1 fd hd pmf dr
  exact ⟨⟨d,kvs,fs,S1,fd,hd,pmf,dr,rfl⟩⟩
 rintro σ' H1 ⟨⟨d,kvs,fs,S1,fd,hd,pmf,dr,rfl⟩⟩
 have ndf:fs.Nodup:=pmf.nodup_iff.mpr pi.facts.n2
 have iE:∀ g,g∈fs.map (lnk (wA t) ps)↔g∈us:=fun g=>by
  constructor
  ·intro hg
   obtain ⟨f,hf,rfl⟩:=List.mem_map.mp hg
   obtain ⟨u,hu,rfl⟩:=List.mem_map.mp (pmf.mem_iff.mp hf)
   rw [euv u hu]
   exact hu
  ·intro hg
   exact List.mem_map.mpr ⟨g.1,pmf.mem_iff.mpr (List.mem_map.mpr ⟨g,hg,rfl⟩),euv g hg⟩
 have dpos:∀ g∈fs.map (lnk (wA t) ps),0 < g.2.2:=fun g hg=>by have:=lo.2.2.1 g ((iE g).mp hg); omega
 have wsm:∀ x∈ps,-100000000000000000000000000000000 < wA t x∧wA t x < 100000000000000000000000000000000:=fun x hx=>wA_B tb (pk x hx)
 have bzs:∀ g∈fs.map (lnk (wA t) ps),Bz 8000 g.2.1∧Bz 8000 g.2.2:=fun g hg=>by
  obtain ⟨f,hf,rfl⟩:=List.mem_map.mp hg
  have h1:=sumB (W:=wA t) (l:=und ps f) fun y hy=>wsm y (List.mem_filter.mp hy).1
  have h2:(und ps f).length≤ps.length:=List.length_filter_le _ _
  have h3:=wA_B tb (fgk f (pmf.mem_iff.mp hf))
  exact ⟨(bz128 (by show _≤wA t f - ((und ps f).map (wA t)).sum; omega) (by show wA t f - ((und ps f).map (wA t)).sum≤_; omega)).mono (by decide),(bz128 (by show _≤((und ps f).length:Int) - 1; omega) (by show ((und ps f).length:Int) - 1≤_; omega)).mono (by decide)⟩
 have ndk:((fs.map (lnk (wA t) ps)).map (·.1)).Nodup:=by rw [lnk_key]; exact ndf
 have rootg:Str.ofString "" ∈ us.map (·.1):=by
  cases lk with
  | stop=>exact absurd rfl une
  | go=>exact List.mem_cons_self
 generalize hE:fs.map (lnk (wA t) ps)=E at dr iE dpos bzs ndk
 have kl:=dr.length
 have el:E.length≤60:=by
  have h1:=pmf.length_eq
  have h2:=pl.2
  rw [← hE,List.length_map]
  omega
 have r0E:∃ g∈E,g.1=Str.ofString "" := by
  obtain ⟨u,hu,e⟩:=List.mem_map.mp rootg
  exact ⟨u,(iE u).mpr hu,e⟩
 obtain ⟨g0,g0E,g0e⟩:=r0E
 refine ⟨fun σ' H2=>Iv (∃ (p0:Addr),H2=H1∧H1 p0=some (.tup [.int g0.2.1,.int g0.2.2])∧σ' = [some v,some (.ref a),some (.ref d),some (.ref p0),none]),?_,?_⟩
 ·obtain ⟨p0,v0,hp0⟩:=dr.val ndk g0E
  rw [g0e] at v0
  have gg:DGet H1 d (.str "") (some (.ref p0)):=by rw [← v0]; exact DGet.k (k:=.inr "") hd
  walk_at "rd"
  exact ⟨⟨p0,rfl,hp0,rfl⟩⟩
 rintro σ' H2 ⟨⟨p0,rfl,hp0,rfl⟩⟩
 refine ⟨fun σ' H3=>Iv (∃ (ep:Nat) (p1:Addr) (g1:Str × Int × Int) (o4:Option V),Same H H3∧SameT H2 H3∧H3 d=some (FzD P w d kvs ep)∧g1∈E∧H3 p1=some (.tup [.int g1.2.1,.int g1.2.2])∧(∀ g∈E,g1.2.1 * g.2.2≤g.2.1 * g1.2.2)∧σ' = [some v,some (.ref a),some (.ref d),some (.ref p1),o4]),?_,?_⟩
 ·walk_at "rd"
  refine .inl ⟨hd,fun ep=>?_⟩
  refine for_values (P:=P) (w:=w) (a:=d) (kvs:=kvs) (ep:=ep) (fun i σ' H'=>Iv (∃ (p1:Addr) (g1:Str × Int × Int) (o4:Option V),Same H H'∧SameT H2 H'∧H' d=some (FzD P w d kvs ep)∧g1∈E∧H' p1=some (.tup [.int g1.2.1,.int g1.2.2])∧(∀ g∈E.take i,g1.2.1 * g.2.2≤g.2.1 * g1.2.2)∧σ' = [some v,some (.ref a),some (.ref d),some (.ref p1),o4])) ?_ ?_ ?_ ?_
  ·exact ⟨⟨p0,g0,_,Same.over S1 fd _,st_dk (SameT.refl _) hd _,upd_same,g0E,st_dk (SameT.refl _) hd _ _ _ hp0,fun g hg=>(by rw [List.take_zero] at hg; cases hg),rfl⟩⟩
  ·rintro i σ' H3 hi ⟨⟨p1,g1,o4,S3,st3,hf,_⟩⟩
   exact hf
  ·rintro i k x σ' H3 hk ⟨⟨p1,g1,o4,S3,st3,hf,g1E,hp1,le,rfl⟩⟩
   obtain ⟨g2,p2,he,rfl,rfl,hpp⟩:=dr.get hk
   have g2E:=List.mem_of_getElem? he
   have hp2:=st3 _ _ hpp
   have b1:=bzs g1 g1E
   have b2:=bzs g2 g2E
   have d1:=dpos g1 g1E
   have d2:=dpos g2 g2E
   have z1:=b1.1
   have z2:=b1.2
   have z3:=b2.1
   have z4:=b2.2
   walk_at "rd"
   refine ite3 (fun c=>?_) (fun c=>?_)
   ·walk_at "rd"
    refine ⟨⟨p2,g2,_,S3,st3,hf,g2E,hp2,fun g hg=>?_,rfl⟩⟩
    rw [List.take_add_one,he] at hg
    rcases List.mem_append.mp hg with z | z
    ·have gE:=List.mem_of_mem_take z
     exact frac_tr d2 d1 (dpos g gE) (Int.le_of_lt c) (le g z)
    ·have z:g∈[g2]:=z
     rw [List.mem_singleton.mp z]
     exact Int.le_refl _
   ·walk_at "rd"
    refine ⟨⟨p1,g1,_,S3,st3,hf,g1E,hp1,fun g hg=>?_,rfl⟩⟩
    rw [List.take_add_one,he] at hg
    rcases List.mem_append.mp hg with z | z
    ·exact le g z
    ·have z:g∈[g2]:=z
     rw [List.mem_singleton.mp z]
     omega
  ·rintro σ' H3 ⟨⟨p1,g1,o4,S3,st3,hf,g1E,hp1,le,rfl⟩⟩
   rw [kl,List.take_length] at le
   exact ⟨⟨ep,p1,g1,o4,S3,st3,hf,g1E,hp1,le,rfl⟩⟩
 rintro σ' H3 ⟨⟨ep,p1,g1,o4,S3,st3,hf,g1E,hp1,le,rfl⟩⟩
 have b1:=bzs g1 g1E
 have d1:=dpos g1 g1E
 walk_at "rd"
 refine .inr ⟨ep,hf,?_⟩
 intro C s2 H2' fp
 refine lc_items (P:=P) (w:=w) (a:=d) (kvs:=kvs) (ep:=ep) (fun i ys H'=>Iv (Same H H'∧SameT H3 H'∧H' d=some (FzD P w d kvs ep)∧ys=((((E.take i).filter fun g => !decide (g1.2.1 * g.2.2 < g.2.1 * g1.2.2)).map (·.1)).map V.str))) ?_ ?_ ?_ ?_
 ·exact ⟨⟨S3,SameT.refl _,hf,by rw [List.take_zero]; rfl⟩⟩
 ·rintro i ys H4 hi ⟨⟨_,_,e1,e2⟩⟩
  refine ⟨e1,?_⟩
  rw [e2,List.length_map,List.length_map]
  have z1:=List.length_filter_le (fun g:Str × Int × Int => !decide (g1.2.1 * g.2.2 < g.2.1 * g1.2.2)) (E.take i)
  have z2:(E.take i).length≤E.length:=by rw [List.length_take]; omega
  exact small1000 (by omega)
 ·rintro i k x T0 ys H4 hk ⟨⟨S4,st4,hf4,rfl⟩⟩ hT
  obtain ⟨g2,p2,he,rfl,rfl,hpp⟩:=dr.get hk
  have g2E:=List.mem_of_getElem? he
  have b2:=bzs g2 g2E
  have z1:=b1.1
  have z2:=b1.2
  have z3:=b2.1
  have z4:=b2.2
  have S5:=S4.new hT (.tup [kV (.inr g2.1),.ref p2])
  have st5:=st4.new hT (.tup [kV (.inr g2.1),.ref p2])
  have hf5:=kp hf4 hT (u:=.tup [kV (.inr g2.1),.ref p2])
  have hT5:upd H4 T0 (.tup [kV (.inr g2.1),.ref p2]) T0=some (.tup [.str g2.1,.ref p2]):=upd_same
  have ft:=filter_takeS (p:=fun g:Str × Int × Int => !decide (g1.2.1 * g.2.2 < g.2.1 * g1.2.2)) he
  have hlt:i < E.length:=(List.getElem?_eq_some_iff.mp he).1
  generalize upd H4 T0 (.tup [kV (.inr g2.1),.ref p2])=H5 at S5 st5 hf5 hT5 ⊢
  have hp2:=st5 _ _ (st3 _ _ hpp)
  have hp1':=st5 _ _ hp1
  walk_at "rd"
  show if (!decide (g1.2.1 * g2.2.2 < g2.2.1 * g1.2.2))=true then _ else _
  by_cases c:(!decide (g1.2.1 * g2.2.2 < g2.2.1 * g1.2.2))=true
  ·rw [if_pos c] at ft ⊢
   walk_at "rd"
   refine ⟨S5,st5,hf5,?_⟩
   rw [ft,List.map_append,List.map_append]
   rfl
  ·rw [if_neg c] at ft ⊢
   refine ⟨by omega,⟨⟨S5,st5,hf5,?_⟩⟩⟩
   rw [ft,List.append_nil]
 ·rintro ys H4 ⟨⟨S4,st4,hf4,rfl⟩⟩ p hp
  rw [kl,List.take_length]
  refine q _ p _ (S4.new hp _) upd_same (List.Nodup.sublist (List.Sublist.map _ List.filter_sublist) ndk) ?_ fun x=>?_
  ·have mg:g1.1∈(E.filter fun g => !decide (g1.2.1 * g.2.2 < g.2.1 * g1.2.2)).map (·.1):=List.mem_map.mpr ⟨g1,List.mem_filter.mpr ⟨g1E,by rw [decide_eq_false (by omega)]; rfl⟩,rfl⟩
   exact List.ne_nil_of_mem mg
  ·rw [List.mem_map]
   constructor
   ·rintro ⟨g,hg,rfl⟩
    obtain ⟨gE,c⟩:=List.mem_filter.mp hg
    rw [Bool.not_eq_true',decide_eq_false_iff_not] at c
    refine ⟨g,⟨(iE g).mp gE,fun u hu=>?_⟩,rfl⟩
    have uE:=(iE u).mpr hu
    exact frac_tr (dpos g gE) d1 (dpos u uE) (by omega) (le u uE)
   ·rintro ⟨u,⟨hu,lu⟩,rfl⟩
    have uE:=(iE u).mpr hu
    refine ⟨u,List.mem_filter.mpr ⟨uE,?_⟩,rfl⟩
    rw [Bool.not_eq_true',decide_eq_false_iff_not]
    have:=lu g1 ((iE g1).mp g1E)
    omega
theorem ok_path (T:Tx K mg) : FnOk P w K mg base (CXe P w) 24 T.f_path T.d_path ["tree"] (sp_path K):=by
 have sc:=sc_path
 refine T.F_path.okx sc (fun vs H Q E h=>?_) (fun cdv A outer s H vs Q E hr h=>?_)
 ·obtain ⟨v,t,B,rfl,tv,lt,b1,b2,tb,q⟩:=h
  rfl
 obtain ⟨v,t,B,rfl,tv,lt,b1,b2,tb,q⟩:=h
 have hu:=hr.units0
 have hu2:=hr.units
 have hu1:=Nat.lt_of_le_of_lt (Nat.add_le_add_left (show 1≤64 by decide) _) hu2
 refine ⟨_,(@pss_cons _ _ _ _ _ (@ps_mid _ _ _ (@ps_set _ _ 1 _ _ _ _ sc.nd rfl (by walk_at "o1") (pe_call (ok_in_whole_costs T) (hr.mono (by decide)) rfl T.m_in_whole_costs T.F_in_whole_costs.kp T.b_in_whole_costs .nil (pass_e fun _ _ z=>z) (pa_cons (pv 0) pa_nil)) (by rfl) (by walk_at "o2")))
   (@pss_cons _ _ _ _ _ (@ps_mid _ _ _ (@ps_set _ _ 2 _ _ _ _ sc.nd rfl (by walk_at "o1") (pe_call (ok_cheapest T) (hr.mono (by decide)) rfl T.m_cheapest T.F_cheapest.kp T.b_cheapest .nil (pass_e fun _ _ z=>z) (pa_cons (pv 0) (pa_cons (pe_tup (pa_cons pe_int (pa_cons pe_int pa_nil))) pa_nil))) (by rfl) (by walk_at "o2")))
   (@pss_cons _ _ _ _ _ (@ps_mid _ _ _ (@ps_set _ _ 3 _ _ _ _ sc.nd rfl (by walk_at "o1") (@pe_lst _ _ _ _ (pa_cons (pe_tup (pa_cons (pe_tup (pa_cons pe_int (pa_cons pe_int pa_nil))) (pa_cons (pv 2) pa_nil))) pa_nil)) (by rfl) (by walk_at "o2")))
   (@pss_cons _ _ _ _ _ (ps_while powx (@pt_cmpR _ _ _ _ _ _ _ _ (op_neD hu2) (pv 2) (@pe_lst _ _ _ _ (pa_cons pe_str pa_nil se_c)) (nomark _)) (@pss_cons _ _ _ _ _ (@ps_mid _ _ _ (@ps_set _ _ 4 _ _ _ _ sc.nd rfl (by walk_at "o1") (pe_call (ok_least_linked T) (hr.mono (by decide)) rfl T.m_least_linked T.F_least_linked.kp T.b_least_linked .nil (pass_e fun _ _ z=>z) (pa_cons (pv 1) (pa_cons (pv 2) pa_nil))) (by rfl) (by walk_at "o2")))
   (@pss_cons _ _ _ _ _ (@ps_mid _ _ _ (@ps_set _ _ 5 _ _ _ _ sc.nd rfl (by walk_at "o1") (pe_call (ok_link_inside T) (hr.mono (by decide)) rfl T.m_link_inside T.F_link_inside.kp T.b_link_inside .nil (pass_e fun _ _ z=>z) (pa_cons (pv 0) (pa_cons (pv 2) (pa_cons (@pe_ix _ _ _ _ _ _ _ ix_list (pv 4) pe_int (fun _ _=>rfl)) pa_nil)))) (by rfl) (by walk_at "o2")))
   (@pss_cons _ _ _ _ _ (@ps_mid _ _ _ (@ps_set _ _ 2 _ _ _ _ sc.nd rfl (by walk_at "o1") (pe_call (ok_cut T) (hr.mono (by decide)) rfl T.m_cut T.F_cut.kp T.b_cut .nil (pass_e fun _ _ z=>z) (pa_cons (pv 2) (pa_cons (pv 4) pa_nil))) (by rfl) (by walk_at "o2")))
   (@pss_one _ _ _ (ps_expr (pe_bm PySem.F.plainAttrs_list PySem.F.slot_list_append PySem.F.type_list_append mt_append (pv 3) (pa_cons (pe_tup (pa_cons (pv 5) (pa_cons (pv 2) pa_nil))) pa_nil))))))))
   (@pss_one _ _ _ (@ps_ret _ _ _ _ (pv 3))))))),?_⟩
 walk_at "kx"
 have b0:0 < B:=by omega
 have bz:Bz 128 B:=Bz.w (by omega) (by omega)
 have td:t.dp≤20:=by have:=t.dp_lt; omega
 have lt30:t.lv≤30:=by omega
 refine ⟨fun σ' H1=>Iv (∃ (x:V) (t':Tr) (C:Int),Same H H1∧TV K H1 x (trD t')∧Sc B C t t'∧0 < C∧t'.B∧σ' = [some v,some x,none,none,none,none]),?_,?_⟩
 ·walk_at "rd"
  rename_i H1 x t' C S1 tx sc c0 cb tb'
  exact ⟨⟨x,t',C,S1,tx,sc,c0,tb',rfl⟩⟩
 rintro σ' H1 ⟨⟨x,t',C,S1,tx,sc,c0,tb',rfl⟩⟩
 have tv1:=tv.mono S1.t
 have cv1:=TV.cv b0 tv1
 have pr:Pr29 0 1 B:=⟨Int.le_refl _,by decide,Int.le_refl _,by decide,b1,b2⟩
 refine ⟨fun σ' H2=>Iv (∃ (pa:Addr),Same H1 H2∧H2 pa=some (.lst ((best 1 0 t "").1.map V.str))∧σ' = [some v,some x,some (.ref pa),none,none,none]),?_,?_⟩
 ·walk_at "rd"
  rename_i p0 hp0
  have cv2:=cv1.same (same_new hp0 (.tup [.int 0,.int 1]))
  have e01:rt (Rat.divInt 0 1) = .tup [.int 0,.int 1]:=by
   rw [Rat.zero_divInt]
   rfl
  refine ⟨cv2,td,lt,tb,pr,(by rw [e01]; exact upd_same:_=some (rt (Rat.divInt 0 1))),fun H2 l S2 hl=>?_⟩
  rw [Int.zero_mul] at hl
  exact ⟨⟨l,(same_new hp0 _).trans S2,hl,rfl⟩⟩
 rintro σ' H2 ⟨⟨pa,S2,hpa,rfl⟩⟩
 obtain ⟨us0,m0,lk0,up0⟩:=best_lk (b:=1) (by decide) t ""
 have P0:Pth t B [(0,(best 1 0 t "").1)] 0 1 us0:=.one lk0 up0
 have tx2:=tx.mono S2.t
 have tv2:=tv1.mono S2.t
 have S02:=S1.trans S2
 refine ⟨fun σ' H3=>Iv (∃ (z p0:Addr),Same H2 H3∧H2 z=none∧H3 z=some (.lst [.ref p0])∧QVs H3 [.ref p0] [(0,(best 1 0 t "").1)]∧σ' = [some v,some x,some (.ref pa),some (.ref z),none,none]),?_,?_⟩
 ·walk_at "rd"
  rename_i r hr p0 hp0 z hz
  have S3:=((same_new hr (H:=H2) (.tup [.int 0,.int 1])).new hp0 (.tup [.ref r,.ref pa])).new hz (.lst [.ref p0])
  exact ⟨⟨z,p0,S3,Same.free ((same_new hr _).new hp0 _) hz,upd_same,.cons (kp upd_same hz) (kp (kp upd_same hp0) hz:_=some (rt 0)) (S3 _ _ hpa) .nil,rfl⟩⟩
 rintro σ' H3 ⟨⟨z,p0,S3,fz,hz3,qv3,rfl⟩⟩
 have Hz:H z=none:=S02.free fz
 have hpa3:=S3 _ _ hpa
 refine while_by (fun σ' H'=>Iv (∃ (pa:Addr) (xs:List V) (sts l:List (Rat × List Str)) (y:Rat × List Str) (a b:Int) (us:List (Str × Int × Int)) (s m:Int) (o4 o5:Option V),Same H2 H'∧H' z=some (.lst (.ref p0 :: xs))∧QVs H' (.ref p0 :: xs) sts∧sts=l ++ [y]∧Pth t B sts a b us∧LK t "" y.2 us s m∧H' pa=some (.lst (y.2.map V.str))∧sts.length + y.2.length≤22∧σ' = [some v,some x,some (.ref pa),some (.ref z),o4,o5])) (fun σ H=>match σ.getD 2 none with | some (.ref a)=>(match H a with | some (.lst xs)=>xs.length | _=>0) | _=>0) ⟨⟨pa,[],_,[],_,0,1,us0,_,m0,_,_,S3,hz3,qv3,rfl,P0,lk0,hpa3,by have:=best_len 1 0 t ""; show 1 + (best 1 0 t "").1.length≤22; omega,rfl⟩⟩ ?_ ?_
 ·rintro σ' H4 ⟨⟨pa,xs,sts,l,y,a,b,us,s,m,o4,o5,S4,hz4,qv4,est,pth,lk,hpa4,sl,rfl⟩⟩
  have pi:=lk.pi
  have asc:=(pi.asc (fun c hc=>by cases hc)).1
  have lo:=lk.one
  walk_at "rd"
  rename_i n hn
  refine ⟨.list (y.2.map PyData.str),.list ([Str.ofString ""].map PyData.str),dvS (kp hpa4 hn),dvS upd_same,((shS (n:=62) asc).mono (by decide)).shaped,((shS (n:=62) (ps:=[Str.ofString ""]) (fun u hu=>by rw [List.mem_singleton.mp hu]; exact fun c hc=>by cases hc)).mono (by decide)).shaped,?_⟩
  rw [strs_eqv]
  refine ⟨_,rfl,?_⟩
  have S45:=same_new hn (H:=H4) (.lst [.str (Str.ofString "")])
  generalize upd H4 n (.lst [.str (Str.ofString "")])=H5 at S45 ⊢
  have S5:=S4.trans S45
  have hz5:=S45 _ _ hz4
  have qv5:=qv4.same S45
  have hpa5:=S45 _ _ hpa4
  by_cases c:y.2 = [Str.ofString ""]
  ·rw [decide_eq_true c]
   have ue:us = []:=by
    cases us with
    | nil=>rfl
    | cons u us =>
     have h1:=lo.2.2.2 (by simp)
     have h2:=lo.2.1
     rw [c] at h2
     have h3:m=1:=h2
     omega
   subst ue
   walk_at "rd"
   exact q _ z _ sts a b (S02.trans S5) Hz hz5 qv5 pth (by have h1:1≤y.2.length:=(by rw [c]; exact Nat.le_refl 1); omega)
  ·rw [decide_eq_false c]
   have une:us ≠ []:=fun e=>by
    subst e
    generalize hps:y.2=ps at lk c
    cases lk
    exact c rfl
   obtain ⟨us',s',lk',_,h1,h2⟩:=Sc.lk lk sc
   have une':us' ≠ []:=fun e=>by
    obtain ⟨u,hu⟩:=List.exists_mem_of_ne_nil us une
    obtain ⟨v',hv,_⟩:=h1 u hu
    rw [e] at hv
    cases hv
   have lt':t'.lv≤21:=by rw [sc.lv]; exact lt
   have tx5:=tx2.mono S5.t
   have tv5:=tv2.mono S5.t
   have wsc:=Weak.sc b0 c0 h1 h2
   walk_at "rd"
   refine ⟨fun σ' H6=>Iv (∃ (wk:Addr) (rs:List Str),Same H5 H6∧H6 wk=some (.lst (rs.map V.str))∧rs.Nodup∧rs ≠ []∧(∀ x,x∈rs↔∃ u,Weak us u∧u.1=x)∧σ' = [some v,some x,some (.ref pa),some (.ref z),some (.ref wk),o5]),?_,?_⟩
   ·walk_at "rd"
    rename_i H6 wk rs S6 hwk ndr rne me
    exact ⟨⟨wk,rs,S6,hwk,ndr,rne,fun z=>(me z).trans (wsc z),rfl⟩⟩
   rintro σ' H6 ⟨⟨wk,rs,S6,hwk,ndr,rne,me,rfl⟩⟩
   obtain ⟨f,rs',rfl⟩:=List.exists_cons_of_ne_nil rne
   obtain ⟨u,wu,eu⟩:=(me f).mp List.mem_cons_self
   have vl:=(lk.vals (wA t) wA_at).2.2 u wu.1
   have at0:atI ((f :: rs').map V.str) 0=some (.str f):=atI_nat (j:=0) rfl
   have sub:∀ g∈f :: rs',g∈us.map (·.1):=fun g hg=>by
    obtain ⟨v',wv,ev⟩:=(me g).mp hg
    exact List.mem_map.mpr ⟨v',wv.1,ev⟩
   have fgk:∀ g∈us.map (·.1),g∈(plc t "").map (·.1):=fun g hg=>List.mem_map.mpr ⟨_,pi.forks.1 g hg,rfl⟩
   have fk:=fgk f (sub f List.mem_cons_self)
   have pk:=pi.kn
   have pl:=pi.len
   have rl:(f :: rs').length≤(us.map (·.1)).length:=nd_len ndr sub
   have y64:y.2.length < 64:=by omega
   rw [eu] at vl
   have u2:=vl.2.2
   have tv6:=tv5.mono S6.t
   have hpa6:=S6 _ _ hpa5
   have hz6:=S6 _ _ hz5
   have qv6:=qv5.same S6
   refine ⟨fun σ' H7=>Iv (∃ (r:Addr),Same H6 H7∧H7 r=some (rt (Rat.divInt u.2.1 (u.2.2 * B)))∧σ' = [some v,some x,some (.ref pa),some (.ref z),some (.ref wk),some (.ref r)]),?_,?_⟩
   ·walk_at "rd"
    rename_i H7 r S7 hr
    refine ⟨⟨r,S7,?_,rfl⟩⟩
    rw [hr,vl.1,vl.2.1]
   rintro σ' H7 ⟨⟨r,S7,hr7,rfl⟩⟩
   obtain ⟨ps',us2,s2,m2,ct⟩:=lk.cutc (weak_cut pi.facts.n2 lo.2.2.1 me wu) (weak_f ndr me)
   have ml:=ct.lt ⟨u,wu.1,decide_eq_true (by rw [eu]; exact List.mem_cons_self)⟩
   have lo2:=ct.lk.one
   have sm:y.2.length + (f :: rs').length < 64:=by omega
   have hpa7:=S7 _ _ hpa6
   have hwk7:=S7 _ _ hwk
   have hz7:=S7 _ _ hz6
   have qv7:=qv6.same S7
   refine ⟨fun σ' H8=>Iv (∃ (pb:Addr),Same H7 H8∧H8 pb=some (.lst (ps'.map V.str))∧σ' = [some v,some x,some (.ref pb),some (.ref z),some (.ref wk),some (.ref r)]),?_,?_⟩
   ·walk_at "rd"
    rename_i H8 pb qs S8 fb hb pmq soq
    obtain rfl:=cut_is lk ct ndr sub pmq soq
    exact ⟨⟨pb,S8,hb,rfl⟩⟩
   rintro σ' H8 ⟨⟨pb,S8,hb8,rfl⟩⟩
   have hr8:=S8 _ _ hr7
   have hz8:=S8 _ _ hz7
   have qv8:=qv7.same S8
   have S28:=((S5.trans S6).trans S7).trans S8
   have xl:(V.ref p0 :: xs).length < sizeLine:=small1000 (by rw [qv8.len]; omega)
   walk_at "rd"
   rename_i p9 hp9
   subst est
   have S9:=same_new hp9 (H:=H8) (.tup [.ref r,.ref pb])
   have hz9:=kp hz8 hp9 (u:=.tup [.ref r,.ref pb])
   have qv9:=((qv8.same S9).snoc upd_same (S9 _ _ hr8) (S9 _ _ hb8)).put hz9 (.lst ((.ref p0 :: xs) ++ [.ref p9]))
   have nbz:pb ≠ z:=ne_of hb8 hz8 (by intro e; cases ps' <;> cases e)
   have hb9:upd (upd H8 p9 (.tup [.ref r,.ref pb])) z (.lst ((.ref p0 :: xs) ++ [.ref p9])) pb=some (.lst (ps'.map V.str)):=by
    rw [upd_ne nbz]
    exact S9 _ _ hb8
   have qv10:QVs (upd (upd H8 p9 (.tup [.ref r,.ref pb])) z (.lst ((.ref p0 :: xs) ++ [.ref p9]))) (V.ref p0 :: (xs ++ [V.ref p9])) (l ++ [y] ++ [(Rat.divInt u.2.1 (u.2.2 * B),ps')]):=qv9
   refine ⟨⟨⟨pb,xs ++ [V.ref p9],_,l ++ [y],(Rat.divInt u.2.1 (u.2.2 * B),ps'),u.2.1,u.2.2,us2,s2,m2,_,_,Same.over (S28.trans S9) fz _,upd_same,qv10,rfl,.step pth lk wu me (weak_cut pi.facts.n2 lo.2.2.1 me wu) (weak_f ndr me) ct ml,ct.lk,hb9,?_,rfl⟩⟩,?_⟩
   ·have h1:=lo.2.1
    have h2:=lo2.2.1
    show (l ++ [y] ++ [(Rat.divInt u.2.1 (u.2.2 * B),ps')]).length + ps'.length≤22
    rw [List.length_append,List.length_singleton]
    omega
   ·show (match upd (upd H8 p9 (.tup [.ref r,.ref pb])) z (.lst ((.ref p0 :: xs) ++ [.ref p9])) pb with | some (.lst xs)=>xs.length | _=>0) < (match H4 pa with | some (.lst xs)=>xs.length | _=>0)
    rw [hb9,hpa4]
    show (ps'.map V.str).length < (y.2.map V.str).length
    rw [List.length_map,List.length_map]
    have h1:=lo.2.1
    have h2:=lo2.2.1
    omega
 ·rintro σ' H' Q1 Q2 hq ⟨v,e,ln,f⟩
  exact ⟨v,e,ln,fun p hp=>by
   obtain ⟨dx,dy,d1,d2,s1,s2,k,ek,y⟩:=f p hp
   exact ⟨dx,dy,d1,d2,s1,s2,k,ek,hq _ _ y⟩⟩
theorem ok_answer_pruned (T:Tx K mg) : FnOk P w K mg base (CXe P w) 27 T.f_answer_pruned T.d_answer_pruned ["node", "places", "values"] (sp_ansp T.c_Leaf T.c_Fork K):=by
 have sc:=sc_answer_pruned
 refine T.F_answer_pruned.okx sc (fun vs H Q E h=>?_) (fun cdv A outer s H vs Q E hr h=>?_)
 ·obtain ⟨v,a,va,t,u,ps,ks,p,rfl,nd,ha,lp,hv,ak,td,hb,hg,l1,q⟩:=h
  rfl
 obtain ⟨v,a,va,t,u,ps,ks,p,rfl,nd,ha,lp,hv,ak,td,hb,hg,l1,q⟩:=h
 have hu:=hr.units0
 have hu2:=hr.units
 have hu1:=Nat.lt_of_le_of_lt (Nat.add_le_add_left (show 1≤64 by decide) _) hu2
 refine ⟨_,(@pss_cons _ _ _ _ _ (@ps_set _ _ 3 _ _ _ _ sc.nd rfl (by walk_at "o1") (@pe_ix _ _ _ _ _ _ _ ix_list (pe_call (ok_beginnings T) (hr.mono (by decide)) rfl T.m_beginnings T.F_beginnings.kp T.b_beginnings .nil (pass_e fun _ _ z=>z) (pa_cons (pe_meth2 (pv 0) T.C_Leaf T.M_Leaf_place_of (ok_Leaf_place_of T) (hr.mono (by decide)) T.b_Leaf_place_of T.C_Fork T.M_Fork_place_of (ok_Fork_place_of T) (hr.mono (by decide)) T.b_Fork_place_of (pass_e fun _ _ z=>z) (pa_cons (pv 2) pa_nil)) (pa_cons (pv 1) pa_nil))) pe_int (fun _ _=>rfl)) (by rfl) (by walk_at "o2"))
   (@pss_one _ _ _ (@ps_ret _ _ _ _ (pe_call (ok_commonest T) (hr.mono (by decide)) rfl T.m_commonest T.F_commonest.kp T.b_commonest .nil (pass_e fun _ _ z=>z) (pa_cons (pe_fld (pe_meth2 (pv 0) T.C_Leaf T.M_Leaf_at (ok_Node_at T) (hr.mono (by decide)) T.b_Node_at T.C_Fork T.M_Fork_at (ok_Node_at T) (hr.mono (by decide)) T.b_Node_at (pass_e fun _ _ z=>z) (pa_cons (pv 3) pa_nil)) rfl) pa_nil))))),?_⟩
 walk_at "kx"
 have C1:=T.C_Leaf
 have C2:=T.C_Fork
 have N0:NoAttr K T.c_Leaf "counted" := T.nLc
 have N1:NoAttr K T.c_Fork "counted" := T.nFcd
 have N2:NoAttr K T.c_Fork "question" := T.nFqn
 have N3:NoAttr K T.c_Fork "yes" := T.nFys
 have N4:NoAttr K T.c_Fork "no" := T.nFno
 have N5:NoAttr K T.c_Fork "leaf_count" := T.nFlt
 have N6:NoAttr K T.c_Fork "depth" := T.nFdh
 walk_at "rd"
 refine nd_place (d:=24) nd hv ak (by omega) (by decide) (fun k hk=>by walk_at "rd"; exact hk) ?_
 walk_at "rd"
 rename_i b hb0
 rw [hb]
 walk_at "rd"
 have S:=same_new hb0 (H:=H) (.lst ([p].map V.str))
 refine nd_at (nd.same S) l1 hg (fun k hk=>by walk_at "rd"; exact hk) fun v' nd'=>?_
 cases nd' with
 | lf h1 cn =>
  walk_at "rd"
  exact q _ S
 | fk h1 cn h3 h4 h5 =>
  walk_at "rd"
  exact q _ S
theorem ok_missed (T:Tx K mg) : FnOk P w K mg base (CXe P w) 28 T.f_missed T.d_missed ["node", "places", "group"] (sp_missed T.c_Leaf T.c_Fork K):=by
 have sc:=sc_missed
 refine T.F_missed.okx sc (fun vs H Q E h=>?_) (fun cdv A outer s H vs Q E hr h=>?_)
 ·obtain ⟨v,a,ga,t,m,ps,gs,rs,rfl,nd,wg,lv,ha,pi,⟨gx,hga,tgx⟩,n60,rw2,q⟩:=h
  rfl
 obtain ⟨v,a,ga,t,m,ps,gs,rs,rfl,nd,wg,lv,ha,pi,⟨gx,hga,tgx⟩,n60,rw2,q⟩:=h
 have hu:=hr.units0
 have hu2:=hr.units
 have hu1:=Nat.lt_of_le_of_lt (Nat.add_le_add_left (show 1≤64 by decide) _) hu2
 refine ⟨_,(@pss_one _ _ _ (@ps_ret _ _ _ _ (pe_callB call_len_seq rfl T.z_len bt_len (pa_cons (pe_lc (ts:=["row"]) (js:=[0,1]) (LcOk.of rfl) rfl (pi_list (pv 2)) (fun _ _ _ _=>(pg_name (i:=0) (nodup_of rfl) rfl (Or.inl rfl))) (fun _ _ _ _=>(pf_one (@pt_cmpR _ _ _ _ _ _ _ _ op_ne (pe_call (ok_answer_pruned T) (hr.mono (by decide)) rfl T.m_answer_pruned T.F_answer_pruned.kp T.b_answer_pruned .nil passN (pa_cons (pv 1) (pa_cons (pv 2) (pa_cons (@pe_ix _ _ _ _ _ _ _ ix_tup (pv 0) pe_int (fun _ _=>rfl)) pa_nil)))) (@pe_ix _ _ _ _ _ _ _ ix_tup (pv 0) pe_int (fun _ _=>rfl)) (nomark _)))) (fun _ _ _ _=>(pv 0))) pa_nil)))),?_⟩
 walk_at "kx"
 have dpz:=t.dp_lv
 have lps:=pi.len
 have lm:=t.tb_lv m
 have lgx:gx.length=rs.length:=by have:=tgx.length; rw [List.length_map] at this; exact this
 walk_at "rd"
 refine lc_list (K:=K) (a:=ga) (xs:=gx) (fun i ys H'=>Iv (Same H H'∧ys.length=(mss t ps (rs.take i)).length)) ⟨⟨Same.refl _,rfl⟩⟩ (fun i ys H' hi z=>⟨SqL.of (z.o.1 _ _ hga),by
  have h2:(mss t ps (rs.take i)).length≤(rs.take i).length:=List.length_filter_le _ _
  rw [List.length_take] at h2
  rw [z.o.2]
  exact small1000 (by omega)⟩) ?_ ?_
 ·rintro i x ys H' hi ⟨⟨S,ly⟩⟩
  have il:=(List.getElem?_eq_some_iff.mp hi).1
  obtain ⟨r,rp,u,hr,rfl,hrp,hu,tv⟩:=TVs.row tgx hi
  have hrp':=S _ _ hrp
  have hu':=S _ _ hu
  have nd':=nd.same S
  have ha':=S _ _ ha
  have ak:=(rw2 r (List.mem_of_getElem? hr)).asks wg
  obtain ⟨p,w,hp,hb,hg,hpre,lp,ea⟩:=pi_ans pi r.1
  have tk:mss t ps (rs.take (i + 1))=mss t ps (rs.take i) ++ (if (!decide (ansV t ps r.1 = .str r.2))=true then [r] else []):=filter_take _ hr
  walk_at "rd"
  rename_i H2 S2
  rcases cm_or w.ct with e | ⟨w3,e⟩
  ·rw [e]
   have c:¬ V.non=V.str r.2:=by intro z; cases z
   walk_at "rd"
   exact ⟨⟨S.trans S2,by rw [tk,if_pos (by rw [ea,e,decide_eq_false c]; rfl),List.length_append,List.length_append,ly]; rfl⟩⟩
  ·rw [e]
   walk_at "rd"
   refine ite3n (fun c=>?_) (fun c=>?_)
   ·walk_at "rd"
    exact ⟨⟨S.trans S2,by rw [tk,if_pos (by rw [ea,e,decide_eq_false c]; rfl),List.length_append,List.length_append,ly]; rfl⟩⟩
   ·walk_at "rd"
    exact ⟨⟨S.trans S2,by rw [tk,if_neg (by rw [ea,e,decide_eq_true c]; exact Bool.false_ne_true),List.append_nil]; exact ly⟩⟩
 ·rintro ys H' ⟨⟨S,ly⟩⟩ p hp
  rw [lgx,List.take_length] at ly
  have e:((ys.length:Nat) : Int)=msd t ps rs:=by rw [ly]; rfl
  walk_at "rd"
  rw [e]
  exact q _ (S.new hp _)
theorem ok_trial (T:Tx K mg) : FnOk P w K mg base (CXe P w) 38 T.f_trial T.d_trial ["node", "measure", "group"] (sp_trial T.c_Leaf T.c_Fork K T.c_NoMeasure):=by
 have sc:=sc_trial
 refine T.F_trial.okx sc (fun vs H Q E h=>?_) (fun cdv A outer s H vs Q E hr h=>?_)
 ·obtain ⟨v,ga,t,m,rs,rfl,nd,wg,lv,sh,gl,n60,rw2,q⟩:=h
  rfl
 obtain ⟨v,ga,t,m,rs,rfl,nd,wg,lv,sh,gl,n60,rw2,q⟩:=h
 have hu:=hr.units0
 have hu2:=hr.units
 have hu1:=Nat.lt_of_le_of_lt (Nat.add_le_add_left (show 1≤64 by decide) _) hu2
 refine ⟨_,(@pss_cons _ _ _ _ _ (@ps_mid _ _ _ (@ps_set _ _ 3 _ _ _ _ sc.nd rfl (by walk_at "o1") (pe_call (ok_path T) (hr.mono (by decide)) rfl T.m_path T.F_path.kp T.b_path .nil (pass_e fun _ _ z=>z) (pa_cons (pe_call (ok_costed T) (hr.mono (by decide)) rfl T.m_costed T.F_costed.kp T.b_costed .nil (pass_e fun _ _ z=>z) (pa_cons (pv 0) (pa_cons (pv 1) pa_nil))) pa_nil)) (by rfl) (by walk_at "o2")))
   (@pss_one _ _ _ (@ps_ret _ _ _ _ (pe_lc (ts:=["price", "places"]) (js:=[0,2]) (LcOk.of rfl) rfl (pi_list (pv 3)) (fun _ _ _ _=>(pg_tup rfl (pgs_cons (pg_name (i:=0) (nodup_of rfl) rfl (Or.inl rfl)) (pgs_cons (pg_name (i:=1) (nodup_of rfl) rfl (Or.inl rfl)) pgs_nil)))) (fun _ _ _ _=>pf_nil) (fun _ _ _ _=>(pe_tup (pa_cons (pv 0) (pa_cons (pe_callB call_len_seq rfl T.z_len bt_len (pa_cons (pv 1) pa_nil)) (pa_cons (pe_call (ok_missed T) (hr.mono (by decide)) rfl T.m_missed T.F_missed.kp T.b_missed .nil passN (pa_cons (pv 2) (pa_cons (pv 1) (pa_cons (pv 3) pa_nil)))) pa_nil))))))))),?_⟩
 walk_at "kx"
 have nz:=wg.nz
 have dpz:=t.dp_lv
 have lm:=t.tb_lv m
 rcases q with ⟨hm,q⟩ | ⟨hm,q⟩
 ·refine ⟨fun σ' H1=>Iv (∃ (sp:Addr) (xs:List V) (sts:List (Rat × List Str)) (a b:Int),σ' = [some v,some (.str m),some (.ref ga),some (.ref sp)]∧Same H H1∧H1 sp=some (.lst xs)∧QVs H1 xs sts∧Pth (t.tb m) Bc sts a b []∧sts.length≤21),?_,?_⟩
  ·walk_at "rd"
   refine .inl ⟨hm,fun H1 u S1 cv=>?_⟩
   have tv:=CV.tb wg cv
   have tb:=wg.tb m
   have lt:(t.tb m).lv≤21:=by omega
   have b1:1≤Bc:=by decide
   have b2:Bc≤1000000000000000000000000000000:=by decide
   walk_at "rd"
   rename_i H2 p xs sts a b S2 hp0 hp qv pth sl
   exact ⟨⟨p,xs,sts,a,b,rfl,S1.trans S2,hp,qv,pth,sl⟩⟩
  rintro σ' H1 ⟨⟨sp,xs,sts,a,b,rfl,S1,hsp,qv,pth,sl⟩⟩
  have all:=(pth.all bc_0).2
  have nd1:=nd.same S1
  have gl1:=gl.same S1
  have lq:=qv.len
  walk_at "rd"
  refine lc_list (K:=K) (a:=sp) (xs:=xs) (fun i ys H'=>Iv (Same H1 H'∧T3s H' ys (tri t rs (sts.take i)))) ⟨⟨Same.refl _,.nil⟩⟩ (fun i ys H' hi z=>⟨SqL.of (z.o.1 _ _ hsp),by rw [z.o.2.len,List.length_map,List.length_take]; exact small1000 (by omega)⟩) ?_ ?_
  ·rintro i x ys H' hi ⟨⟨S,t3⟩⟩
   have il:=(List.getElem?_eq_some_iff.mp hi).1
   obtain ⟨p,r,l,q1,ps,rfl,hp,hr,hl,hs⟩:=qv.at hi
   obtain ⟨gs,pi⟩:=(all _ (List.mem_of_getElem? hs)).1
   have lps:=pi.len
   have hp':=S _ _ hp
   have hr':=S _ _ hr
   have hl':=S _ _ hl
   have nd':=nd1.same S
   have gl':=gl1.same S
   walk_at "rd"
   rename_i H2 S2 pp hpp
   exact ⟨⟨(S.trans S2).trans (same_new hpp _),by rw [tri,List.take_add_one,hs,List.map_append]; exact ((t3.same S2).same (same_new hpp _)).snoc (by rw [upd_same,List.length_map]) (kp (S2 _ _ hr') hpp)⟩⟩
  ·rintro ys H' ⟨⟨S,t3⟩⟩ p hp
   rw [lq,List.take_length] at t3
   have SP:=same_new hp (H:=H') (.lst ys)
   exact q _ p ys sts a b ((S1.trans S).trans SP) ((S1.trans S).free hp) upd_same (t3.same SP) pth sl
 ·refine ⟨fun _ _=>Iv False,?_,fun _ _ z=>z.o.elim⟩
  walk_at "rd"
  exact .inr ⟨hm,q⟩
theorem ok_law_cell (T:Tx K mg) : FnOk P w K mg base (CXe P w) 1 T.f_law_cell T.d_law_cell ["_law_script", "_law_k"] (sp_law_cell K):=by
 have sc:=sc_law_cell
 refine T.F_law_cell.okx sc (fun vs H Q E h=>?_) (fun cdv A outer s H vs Q E hr h=>?_)
 ·obtain ⟨a,ns,k,rfl,hS,hk,q⟩:=h
  rfl
 obtain ⟨a,ns,k,rfl,hS,hk,q⟩:=h
 have hu:=hr.units0
 have hu2:=hr.units
 have hu1:=Nat.lt_of_le_of_lt (Nat.add_le_add_left (show 1≤64 by decide) _) hu2
 refine ⟨_,(@pss_cons _ _ _ _ _ (@ps_if _ _ _ _ _ _ _ _ (@pt_cmpR _ _ _ _ _ _ _ _ op_lt (pv 1) (pe_callB call_len_seq rfl T.z_len bt_len (pa_cons (pv 0) pa_nil)) (nomark _)) (@pss_one _ _ _ (@ps_ret _ _ _ _ (@pe_ix _ _ _ _ _ _ _ ix_list (pv 0) (pv 1) (fun _ _=>rfl)))) pss_nil)
   (@pss_one _ _ _ (@ps_ret _ _ _ _ pe_int))),?_⟩
 walk_at "kx"
 have hl2:(ns.map V.int).length=ns.length:=List.length_map _
 walk_at "rd"
 refine ite3 (fun h=>?_) (fun h=>?_)
 ·obtain ⟨v,hv⟩:=at_ints (ns:=ns) (k:=k) hk (by omega)
  walk_at "rd"
  exact q v
 ·exact q 0
theorem ok_law_next (T:Tx K mg) : FnOk P w K mg base (CXe P w) 1 T.f_law_next T.d_law_next ["_law_cell_here", "_law_k"] sp_law_next:=by
 have sc:=sc_law_next
 refine T.F_law_next.okx sc (fun vs H Q E h=>?_) (fun cdv A outer s H vs Q E hr h=>?_)
 ·obtain ⟨c,k,rfl,k0,k3,q⟩:=h
  rfl
 obtain ⟨c,k,rfl,k0,k3,q⟩:=h
 have hu:=hr.units0
 have hu2:=hr.units
 have hu1:=Nat.lt_of_le_of_lt (Nat.add_le_add_left (show 1≤64 by decide) _) hu2
 refine ⟨_,(@pss_one _ _ _ (@ps_ret _ _ _ _ (@pe_op _ _ _ _ _ _ _ _ op_mod (@pe_op _ _ _ _ _ _ _ _ op_add (@pe_op _ _ _ _ _ _ _ _ op_add (@pe_op _ _ _ _ _ _ _ _ op_mulB (pv 0) (@pe_op _ _ _ _ _ _ _ _ op_add pe_int (@pe_op _ _ _ _ _ _ _ _ op_mulB pe_int (pv 1)))) pe_int) (pv 1)) pe_int))),?_⟩
 walk_at "kx"
 have m1:=mulN c k0 k3
 walk_at "rd"
 exact q _ (Int.emod_nonneg _ (by decide)) (Int.emod_lt_of_pos _ (by decide))
theorem ok_law_words (T:Tx K mg) : FnOk P w K mg base (CXe P w) 1 T.f_law_words T.d_law_words ["_law_cell_here"] sp_words4:=by
 have sc:=sc_law_words
 refine T.F_law_words.okx sc (fun vs H Q E h=>?_) (fun cdv A outer s H vs Q E hr h=>?_)
 ·obtain ⟨c,rfl,c0,c30,q⟩:=h
  rfl
 obtain ⟨c,rfl,c0,c30,q⟩:=h
 have hu:=hr.units0
 have hu2:=hr.units
 have hu1:=Nat.lt_of_le_of_lt (Nat.add_le_add_left (show 1≤64 by decide) _) hu2
 refine ⟨_,(@pss_cons _ _ _ _ _ (@ps_set _ _ 1 _ _ _ _ sc.nd rfl (by walk_at "o1") pe_str (by rfl) (by walk_at "o2"))
   (@pss_cons _ _ _ _ _ (@ps_set _ _ 2 _ _ _ _ sc.nd rfl (by walk_at "o1") pe_str (by rfl) (by walk_at "o2"))
   (@pss_cons _ _ _ _ _ (ps_for powx rfl (pi_range1 rfl T.z_range (pa_cons (@pe_op _ _ _ _ _ _ _ _ op_add pe_int (@pe_op _ _ _ _ _ _ _ _ op_mod (pv 0) pe_int)) pa_nil)) (pg_name (i:=3) sc.nd rfl (by walk_at "o1"))
   (@pss_one _ _ _ (@ps_set _ _ 2 _ _ _ _ sc.nd rfl (by walk_at "o1") (@pe_op _ _ _ _ _ _ _ _ op_add_str (pv 2) (@pe_ix _ _ _ _ _ _ _ ix_str (pv 1) (@pe_op _ _ _ _ _ _ _ _ op_mod (@pe_op _ _ _ _ _ _ _ _ op_add (@pe_op _ _ _ _ _ _ _ _ op_fdivB (pv 0) pe_int) (@pe_op _ _ _ _ _ _ _ _ op_mulB (pv 3) (@pe_op _ _ _ _ _ _ _ _ op_fdivB (pv 0) pe_int))) pe_int) (fun _ _=>rfl))) (by rfl) (by walk_at "o2"))))
   (@pss_one _ _ _ (@ps_ret _ _ _ _ (pe_lc (ts:=["_law_k"]) (js:=[2,1,0]) (LcOk.of rfl) rfl (pi_range1 rfl T.z_range (pa_cons pe_int pa_nil)) (fun _ _ _ _=>(pg_name (i:=0) (nodup_of rfl) rfl (Or.inl rfl))) (fun _ _ _ _=>pf_nil) (fun _ _ _ _=>(@pe_op _ _ _ _ _ _ _ _ op_add_str (pv 1) (@pe_ix _ _ _ _ _ _ _ ix_str (pv 2) (@pe_op _ _ _ _ _ _ _ _ op_mod (@pe_op _ _ _ _ _ _ _ _ op_add (@pe_op _ _ _ _ _ _ _ _ op_fdivB (pv 3) pe_int) (pv 0)) pe_int) (fun _ _=>rfl)))))))))),?_⟩
 walk_at "kx"
 have lz:("abcdefghijklmnopqrstuvwxyz" : Str).length≤sizeLine:=by rw [let_len]; exact sz
 have zc:Bz 110 (c / 286):=by
  show (c / 286).natAbs < 2 ^ 110
  have:(1000000000000000000000000000000:Nat) < 2 ^ 110:=by decide
  omega
 walk_at "rd"
 refine for_range (n:=(1 + c % 11).toNat) (fun i σ H'=>Iv (H'=H∧∃ (w:Str) (o3:Option V),σ = [some (.int c),some (.str "abcdefghijklmnopqrstuvwxyz"),some (.str w),o3]∧w.length=i∧∀ x∈cds w,97≤x∧x≤122))
  ⟨⟨rfl,_,_,rfl,rfl,fun x hx=>by cases hx⟩⟩ ?_ ?_
 ·rintro i σ H' hi ⟨⟨rfl,w,o3,rfl,lw,aw⟩⟩
  have zi:Bz 10 (0 + (i:Int)):=by
   show (0 + (i:Int)).natAbs < 2 ^ 10
   omega
  have la:=let_at (d:=(c / 11 + (0 + (i:Int)) * (c / 286)) % 26) (by omega) (by omega)
  have l1:=len1 (97 + ((c / 11 + (0 + (i:Int)) * (c / 286)) % 26).toNat)
  walk_at "rd"
  exact ⟨⟨rfl,_,_,rfl,by rw [lenA,len1,lw],grow_w aw ⟨by omega,by omega⟩⟩⟩
 ·rintro σ H' ⟨⟨rfl,w,o3,rfl,lw,aw⟩⟩
  walk_at "rd"
  refine lc_range (n:=Int.toNat 4) (fun i ys H2=>Iv (H2=H'∧∃ ws:List Str,ys=ws.map V.str∧ws.length=i∧∀ w∈ws,isW w=true)) ⟨⟨rfl,[],rfl,rfl,fun w hw=>by cases hw⟩⟩ (fun i ys H2 hi z=>?_) ?_ ?_
  ·obtain ⟨_,ws,e,l,_⟩:=z.o
   rw [e,List.length_map,l]
   have:Int.toNat 4=4:=rfl
   exact small1000 (by omega)
  ·rintro i ys H2 hi ⟨⟨rfl,ws,rfl,ls,aw2⟩⟩
   have la:=let_at (d:=(c / 11 + (0 + (i:Int))) % 26) (by omega) (by omega)
   have l1:=len1 (97 + ((c / 11 + (0 + (i:Int))) % 26).toNat)
   walk_at "rd"
   refine ⟨⟨rfl,ws ++ [_],by rw [List.map_append]; rfl,by rw [List.length_append,ls]; rfl,fun x hx=>?_⟩⟩
   rcases List.mem_append.mp hx with hx | hx
   ·exact aw2 x hx
   ·rw [List.mem_singleton.mp hx]
    exact isW_of (grow_w aw ⟨by omega,by omega⟩) (by rw [lenA,len1]; omega) (by rw [lenA,len1]; omega)
  ·rintro ys H2 ⟨⟨rfl,ws,rfl,ls,aw2⟩⟩ p hp
   exact q _ p ws (same_new hp _) hp upd_same ls aw2
theorem ok_law_counted (T:Tx K mg) : FnOk P w K mg base (CXe P w) 2 T.f_law_counted T.d_law_counted ["_law_cell_here", "_law_words_here"] (sp_counted4 K):=by
 have sc:=sc_law_counted
 refine T.F_law_counted.okx sc (fun vs H Q E h=>?_) (fun cdv A outer s H vs Q E hr h=>?_)
 ·obtain ⟨c,sa,ws,rfl,hsa,l4,hw,q⟩:=h
  rfl
 obtain ⟨c,sa,ws,rfl,hsa,l4,hw,q⟩:=h
 have hu:=hr.units0
 have hu2:=hr.units
 have hu1:=Nat.lt_of_le_of_lt (Nat.add_le_add_left (show 1≤64 by decide) _) hu2
 refine ⟨_,(@pss_cons _ _ _ _ _ (@ps_set _ _ 2 _ _ _ _ sc.nd rfl (by walk_at "o1") (@pe_lst _ _ _ _ pa_nil) (by rfl) (by walk_at "o2"))
   (@pss_cons _ _ _ _ _ (@ps_if _ _ _ _ _ _ _ _ (@pt_cmpR _ _ _ _ _ _ _ _ op_eqI (@pe_op _ _ _ _ _ _ _ _ op_mod (pv 0) pe_int) pe_int (nomark _)) (@pss_one _ _ _ (@ps_ret _ _ _ _ (pv 2))) pss_nil)
   (@pss_cons _ _ _ _ _ (ps_for powx rfl (pi_enum rfl T.z_enumerate (pa_cons (pe_callB call_sortedS rfl T.z_sorted bt_sorted (pa_cons (pe_slice sl_list (pv 1) po_none (po_some pe_int)) pa_nil)) pa_nil)) (pg_tup rfl (pgs_cons (pg_name (i:=3) sc.nd rfl (by walk_at "o1")) (pgs_cons (pg_name (i:=4) sc.nd rfl (by walk_at "o1")) pgs_nil)))
   (@pss_one _ _ _ (@ps_if _ _ _ _ _ _ _ _ (PW.pt (pw_or (@pt_cmpR _ _ _ _ _ _ _ _ op_gt (@pe_op _ _ _ _ _ _ _ _ op_mod (pe_call (ok_law_next T) (hr.mono (by decide)) rfl T.m_law_next T.F_law_next.kp T.b_law_next .nil (pass_e fun _ _ z=>z) (pa_cons (pv 0) (pa_cons (pv 3) pa_nil))) pe_int) pe_int (nomark _)) (pw_or1 (PW.pt (pw_and (@pt_cmpR _ _ _ _ _ _ _ _ op_eqI (pe_callB call_len_seq rfl T.z_len bt_len (pa_cons (pv 2) pa_nil)) pe_int (nomark _)) (pw_and1 (@pt_cmpR _ _ _ _ _ _ _ _ op_eqI (pv 3) pe_int (nomark _)))))))) (@pss_one _ _ _ (ps_expr (pe_bm PySem.F.plainAttrs_list PySem.F.slot_list_append PySem.F.type_list_append mt_append (pv 2) (pa_cons (pe_tup (pa_cons (pv 4) (pa_cons (@pe_op _ _ _ _ _ _ _ _ op_add pe_int (@pe_op _ _ _ _ _ _ _ _ op_mod (@pe_op _ _ _ _ _ _ _ _ op_fdivB (pe_call (ok_law_next T) (hr.mono (by decide)) rfl T.m_law_next T.F_law_next.kp T.b_law_next .nil (pass_e fun _ _ z=>z) (pa_cons (pv 0) (pa_cons pe_int pa_nil))) (@pe_op _ _ _ _ _ _ _ _ op_add (pv 3) pe_int)) pe_int)) pa_nil))) pa_nil)))) pss_nil)))
   (@pss_one _ _ _ (@ps_ret _ _ _ _ (pv 2)))))),?_⟩
 walk_at "kx"
 have wl:(ws.map V.str).length=ws.length:=List.length_map _
 walk_at "rd"
 rename_i z hz
 refine ite3 (fun e=>?_) (fun e=>?_)
 ·walk_at "rd"
  exact q _ z [] (same_new hz _) hz ⟨[],upd_same,.nil⟩ (fun c hc=>by cases hc) (by decide)
 ·walk_at "rd"
  rename_i p1 hp1
  rw [cut_strs (by decide)]
  have lt3:(ws.take (Int.toNat 3)).length=3:=by rw [List.length_take]; have:Int.toNat 3=3:=rfl; omega
  refine ⟨SqL.of upd_same,by omega,fun q1 ws' hq1 pm so=>?_⟩
  have lw':ws'.length=3:=by rw [pm.length_eq]; exact lt3
  have wlm:(ws'.map V.str).length=ws'.length:=List.length_map _
  have hw':∀ w∈ws',isW w=true:=fun w hm=>hw w (List.mem_of_mem_take (pm.mem_iff.mp hm))
  have S1:=((same_new hz (H:=H) (.lst [])).new hp1 (.lst ((ws.take (Int.toNat 3)).map V.str))).new hq1 (.lst (ws'.map V.str))
  have hz1:=kp (u:=.lst (ws'.map V.str)) (kp (u:=.lst ((ws.take (Int.toNat 3)).map V.str)) (upd_same (H:=H) (a:=z) (o:=.lst [])) hp1) hq1
  have hq2:=upd_same (H:=upd (upd H z (.lst [])) p1 (.lst ((ws.take (Int.toNat 3)).map V.str))) (a:=q1) (o:=.lst (ws'.map V.str))
  have nzq:z ≠ q1:=ne_of_none (kp (u:=.lst ((ws.take (Int.toNat 3)).map V.str)) (upd_same (H:=H) (a:=z) (o:=.lst [])) hp1) hq1
  generalize upd (upd (upd H z (.lst [])) p1 (.lst ((ws.take (Int.toNat 3)).map V.str))) q1 (.lst (ws'.map V.str))=H1 at S1 hz1 hq2 ⊢
  walk_at "rd"
  refine for_enum (K:=K) (a:=q1) (xs:=ws'.map V.str) (fun i σ' H'=>Iv (∃ (cs:List (Str × Int)) (zs:List V) (o3 o4:Option V),σ' = [some (.int c),some (.ref sa),some (.ref z),o3,o4]∧Same H H'∧H' z=some (.lst zs)∧TVs K H' zs (cs.map cD)∧(∀ c∈cs,Wc c)∧cs.length≤i∧H' q1=some (.lst (ws'.map V.str)))) ⟨⟨[],[],_,_,rfl,S1,hz1,.nil,(fun c hc=>by cases hc),Nat.le_refl _,hq2⟩⟩ (fun i σ' H' _ y=>by obtain ⟨_,_,_,_,_,_,_,_,_,_,h⟩:=y.o; exact SqL.of h) ?_ ?_
  ·rintro i v σ' H' TT hi ⟨⟨cs,zs,o3,o4,rfl,S,hzs,tz,ok,lc,hq3⟩⟩ hT
   rw [List.getElem?_map] at hi
   obtain ⟨w',hw2,rfl⟩:=Option.map_eq_some_iff.mp hi
   have il:=(List.getElem?_eq_some_iff.mp hw2).1
   have ww:=hw' w' (List.mem_of_getElem? hw2)
   have lzs:zs.length=cs.length:=by have:=tz.length; rw [List.length_map] at this; exact this
   have ST:=same_new hT (H:=H') (.tup [.int (i:Int),.str w'])
   have S2:=S.trans ST
   have hzs2:=ST _ _ hzs
   have tz2:=tz.mono ST.t
   have hq4:=ST _ _ hq3
   have hT2:=upd_same (H:=H') (a:=TT) (o:=.tup [.int (i:Int),.str w'])
   generalize upd H' TT (.tup [.int (i:Int),.str w'])=H2 at S2 hzs2 tz2 hq4 hT2 ⊢
   have cd:∀ x,CDivB x ((i:Int) + 1):=fun x=>cN x (by omega) (by omega)
   have skip:Iv (∃ (cs:List (Str × Int)) (zs:List V) (o3 o4:Option V),[some (.int c),some (.ref sa),some (.ref z),some (.int (i:Int)),some (.str w')] = [some (.int c),some (.ref sa),some (.ref z),o3,o4]∧Same H H2∧H2 z=some (.lst zs)∧TVs K H2 zs (cs.map cD)∧(∀ c∈cs,Wc c)∧cs.length≤i + 1∧H2 q1=some (.lst (ws'.map V.str))):=⟨⟨cs,zs,_,_,rfl,S2,hzs2,tz2,ok,by omega,hq4⟩⟩
   have put:∀ (pp:Addr) (n:Int),(1≤n∧n≤9)→H2 pp=none→Iv (∃ (cs:List (Str × Int)) (zs':List V) (o3 o4:Option V),[some (.int c),some (.ref sa),some (.ref z),some (.int (i:Int)),some (.str w')] = [some (.int c),some (.ref sa),some (.ref z),o3,o4]∧Same H (upd (upd H2 pp (.tup [.str w',.int n])) z (.lst (zs ++ [.ref pp])))∧upd (upd H2 pp (.tup [.str w',.int n])) z (.lst (zs ++ [.ref pp])) z=some (.lst zs')∧TVs K (upd (upd H2 pp (.tup [.str w',.int n])) z (.lst (zs ++ [.ref pp]))) zs' (cs.map cD)∧(∀ c∈cs,Wc c)∧cs.length≤i + 1∧upd (upd H2 pp (.tup [.str w',.int n])) z (.lst (zs ++ [.ref pp])) q1=some (.lst (ws'.map V.str))):=fun pp n hn hpp=>by
    have npz:pp ≠ z:=Ne.symm (ne_of_none hzs2 hpp)
    have SP:=same_new hpp (H:=H2) (.tup [.str w',.int n])
    have st:=(SameT.refl (upd H2 pp (.tup [.str w',.int n]))).lst (SP _ _ hzs2) (.lst (zs ++ [.ref pp]))
    refine ⟨⟨cs ++ [(w',n)],_,_,_,rfl,(S2.trans SP).upd hz _,upd_same,?_,fun x hx=>?_,by rw [List.length_append]; show _ + 1≤_; omega,by rw [upd_ne (Ne.symm nzq)]; exact SP _ _ hq4⟩⟩
    ·rw [List.map_append]
     exact ((tz2.mono SP.t).mono st).append (.cons (.tup (xs:=[.str w',.int n]) (by rw [upd_ne npz]; exact upd_same) (.cons (.str _) (.cons (.int _) .nil))) .nil)
    ·rcases List.mem_append.mp hx with hx | hx
     ·exact ok x hx
     ·rw [List.mem_singleton.mp hx]; exact ⟨ww,hn⟩
   have lz3:zs.length < 1000:=by omega
   walk_at "rd"
   rename_i v1 hv1 hv2
   refine ite3 (fun e1=>?_) (fun e1=>?_)
   ·walk_at "rd"
    refine ⟨cd _,?_⟩
    walk_at "rd"
    rename_i pp hpp
    exact put pp _ ⟨by omega,by omega⟩ hpp
   ·walk_at "rd"
    refine ite3 (fun e2=>?_) (fun e2=>?_)
    ·walk_at "rd"
     refine ite3 (fun e3=>?_) (fun e3=>?_)
     ·walk_at "rd"
      refine ⟨cd _,?_⟩
      walk_at "rd"
      rename_i pp hpp
      exact put pp _ ⟨by omega,by omega⟩ hpp
     ·walk_at "rd"
      exact skip
    ·walk_at "rd"
     exact skip
  ·rintro σ' H' ⟨⟨cs,zs,o3,o4,rfl,S,hzs,tz,ok,lc,hq3⟩⟩
   walk_at "rd"
   exact q _ z cs S hz ⟨zs,hzs,tz⟩ ok (by omega)
theorem ok_law_question (T:Tx K mg) : FnOk P w K mg base (CXe P w) 1 T.f_law_question T.d_law_question ["_law_cell_here", "_law_words_here", "_law_scale"] sp_question4:=by
 have sc:=sc_law_question
 refine T.F_law_question.okx sc (fun vs H Q E h=>?_) (fun cdv A outer s H vs Q E hr h=>?_)
 ·obtain ⟨c,sc,sa,ws,rfl,hsc,hsa,l4,hw,q⟩:=h
  rfl
 obtain ⟨c,sc,sa,ws,rfl,hsc,hsa,l4,hw,q⟩:=h
 have hu:=hr.units0
 have hu2:=hr.units
 have hu1:=Nat.lt_of_le_of_lt (Nat.add_le_add_left (show 1≤64 by decide) _) hu2
 refine ⟨_,(@pss_cons _ _ _ _ _ (@ps_if _ _ _ _ _ _ _ _ (@pt_cmpR _ _ _ _ _ _ _ _ op_eqI (@pe_op _ _ _ _ _ _ _ _ op_mod (pv 0) pe_int) pe_int (nomark _)) (@pss_one _ _ _ (@ps_ret _ _ _ _ (pe_tup (pa_cons pe_str (pa_cons pe_int (pa_cons (@pe_ix _ _ _ _ _ _ _ ix_list (pv 1) (@pe_op _ _ _ _ _ _ _ _ op_mod (@pe_op _ _ _ _ _ _ _ _ op_fdivB (pv 0) pe_int) pe_int) (fun _ _=>rfl)) pa_nil)) se_c)))) pss_nil)
   (@pss_one _ _ _ (@ps_ret _ _ _ _ (pe_tup (pa_cons pe_str (pa_cons pe_int (pa_cons (@pe_op _ _ _ _ _ _ _ _ op_mulB (@pe_op _ _ _ _ _ _ _ _ op_sub (@pe_op _ _ _ _ _ _ _ _ op_mod (@pe_op _ _ _ _ _ _ _ _ op_fdivB (pv 0) pe_int) pe_int) pe_int) (pv 2)) pa_nil)) se_c))))),?_⟩
 walk_at "kx"
 have wl:(ws.map V.str).length=ws.length:=List.length_map _
 have zs:Bz 100 sc:=by
  show sc.natAbs < 2 ^ 100
  have:(10000000000000000000000000:Nat) < 2 ^ 100:=by decide
  rcases hsc with rfl | rfl <;> omega
 have zq:Bz 10 (c / 3 % 37 - 6):=by
  show (c / 3 % 37 - 6).natAbs < 2 ^ 10
  omega
 walk_at "rd"
 refine ite3 (fun e=>?_) (fun e=>?_)
 ·walk_at "rd"
  rename_i p hp
  refine q _ p ⟨"is", 1,.inr (ws.getD (c / 3 % 3).toNat Str.empty)⟩ (same_new hp _) upd_same (.inr ⟨rfl,rfl,_,rfl,hw _ (getD_mem (Str.empty:Str) (by omega))⟩)
 ·walk_at "rd"
  rename_i p hp
  refine q _ p ⟨"most", 0,.inl ((c / 3 % 37 - 6) * sc)⟩ (same_new hp _) upd_same (.inl ⟨rfl,rfl,_,rfl⟩)
theorem ok_law_pile (T:Tx K mg) : FnOk P w K mg base (CXe P w) 3 T.f_law_pile T.d_law_pile ["_law_cells", "_law_words_here", "_law_scale"] (sp_pile K):=by
 have sc:=sc_law_pile
 refine T.F_law_pile.okx sc (fun vs H Q E h=>?_) (fun cdv A outer s H vs Q E hr h=>?_)
 ·obtain ⟨ce,sa,ns,ws,sl,rfl,hce,l16,hsc,hsa,l4,hw,q⟩:=h
  rfl
 obtain ⟨ce,sa,ns,ws,sl,rfl,hce,l16,hsc,hsa,l4,hw,q⟩:=h
 have hu:=hr.units0
 have hu2:=hr.units
 have hu1:=Nat.lt_of_le_of_lt (Nat.add_le_add_left (show 1≤64 by decide) _) hu2
 refine ⟨_,(@pss_cons _ _ _ _ _ (@ps_set _ _ 3 _ _ _ _ sc.nd rfl (by walk_at "o1") (@pe_lst _ _ _ _ pa_nil) (by rfl) (by walk_at "o2"))
   (@pss_cons _ _ _ _ _ (@ps_mid _ _ _ (ps_for powx rfl (pi_list (pv 0)) (pg_name (i:=4) sc.nd rfl (by walk_at "o1"))
   (@pss_cons _ _ _ _ _ (@ps_mid _ _ _ (@ps_set _ _ 5 _ _ _ _ sc.nd rfl (by walk_at "o1") (pe_call (ok_law_counted T) (hr.mono (by decide)) rfl T.m_law_counted T.F_law_counted.kp T.b_law_counted .nil (pass_e fun _ _ z=>z) (pa_cons (pe_call (ok_law_next T) (hr.mono (by decide)) rfl T.m_law_next T.F_law_next.kp T.b_law_next .nil (pass_e fun _ _ z=>z) (pa_cons (pv 4) (pa_cons pe_int pa_nil))) (pa_cons (pv 1) pa_nil))) (by rfl) (by walk_at "o2")))
   (@pss_one _ _ _ (@ps_if _ _ _ _ _ _ _ _ (PW.pt (pw_or (@pt_cmpR _ _ _ _ _ _ _ _ op_lt (@pe_op _ _ _ _ _ _ _ _ op_mod (pv 4) pe_int) pe_int (nomark _)) (pw_or1 (@pt_cmpR _ _ _ _ _ _ _ _ op_lt (pe_callB call_len_seq rfl T.z_len bt_len (pa_cons (pv 3) pa_nil)) pe_int (nomark _))))) (@pss_one _ _ _ (ps_expr (pe_bm PySem.F.plainAttrs_list PySem.F.slot_list_append PySem.F.type_list_append mt_append (pv 3) (pa_cons (pe_tup (pa_cons (pv 5) (pa_cons pe_non pa_nil))) pa_nil)))) (@pss_one _ _ _ (@ps_set _ _ 3 _ _ _ _ sc.nd rfl (by walk_at "o1") (@pe_op _ _ _ _ _ _ _ _ op_cat (pe_slice sl_list (pv 3) po_none (po_some (pe_un un_neg pe_int))) (@pe_lst _ _ _ _ (pa_cons (pe_tup (pa_cons (pv 5) (pa_cons (pe_call (ok_law_question T) (hr.mono (by decide)) rfl T.m_law_question T.F_law_question.kp T.b_law_question .nil (pass_e fun _ _ z=>z) (pa_cons (@pe_op _ _ _ _ _ _ _ _ op_fdivB (pv 4) pe_int) (pa_cons (pv 1) (pa_cons (pv 2) pa_nil)))) (pa_cons (@pe_ix _ _ _ _ _ _ _ ix_list (pv 3) (pe_un un_neg pe_int) (fun _ _=>rfl)) (pa_cons (@pe_ix _ _ _ _ _ _ _ ix_list (pv 3) (pe_un un_neg pe_int) (fun _ _=>rfl)) pa_nil))))) pa_nil))) (by rfl) (by walk_at "o2"))))))))
   (@pss_cons _ _ _ _ _ (@ps_mid _ _ _ (@ps_if _ _ _ _ _ _ _ _ (@pt_cmpR _ _ _ _ _ _ _ _ op_eqI (pe_callB call_len_seq rfl T.z_len bt_len (pa_cons (pv 3) pa_nil)) pe_int (nomark _)) (@pss_one _ _ _ (ps_expr (pe_bm PySem.F.plainAttrs_list PySem.F.slot_list_append PySem.F.type_list_append mt_append (pv 3) (pa_cons (pe_tup (pa_cons (@pe_lst _ _ _ _ (pa_cons (pe_tup (pa_cons (@pe_ix _ _ _ _ _ _ _ ix_list (pv 1) pe_int (fun _ _=>rfl)) (pa_cons pe_int pa_nil))) pa_nil)) (pa_cons pe_non pa_nil))) pa_nil)))) pss_nil))
   (@pss_cons _ _ _ _ _ (ps_while powx (@pt_cmpR _ _ _ _ _ _ _ _ op_gt (pe_callB call_len_seq rfl T.z_len bt_len (pa_cons (pv 3) pa_nil)) pe_int (nomark _)) (@pss_one _ _ _ (@ps_set _ _ 3 _ _ _ _ sc.nd rfl (by walk_at "o1") (@pe_op _ _ _ _ _ _ _ _ op_cat (pe_slice sl_list (pv 3) po_none (po_some (pe_un un_neg pe_int))) (@pe_lst _ _ _ _ (pa_cons (pe_tup (pa_cons (@pe_lst _ _ _ _ pa_nil) (pa_cons (pe_tup (pa_cons pe_str (pa_cons pe_int (pa_cons (@pe_op _ _ _ _ _ _ _ _ op_mulB (pe_callB call_len_seq rfl T.z_len bt_len (pa_cons (pv 3) pa_nil)) (pv 2)) pa_nil)) se_c)) (pa_cons (@pe_ix _ _ _ _ _ _ _ ix_list (pv 3) (pe_un un_neg pe_int) (fun _ _=>rfl)) (pa_cons (@pe_ix _ _ _ _ _ _ _ ix_list (pv 3) (pe_un un_neg pe_int) (fun _ _=>rfl)) pa_nil))))) pa_nil))) (by rfl) (by walk_at "o2"))))
   (@pss_one _ _ _ (@ps_ret _ _ _ _ (@pe_ix _ _ _ _ _ _ _ ix_list (pv 3) pe_int (fun _ _=>rfl)))))))),?_⟩
 walk_at "kx"
 have nl:(ns.map V.int).length=ns.length:=List.length_map _
 have wl:(ws.map V.str).length=ws.length:=List.length_map _
 have zs:Bz 100 sl:=by
  show sl.natAbs < 2 ^ 100
  have:(10000000000000000000000000:Nat) < 2 ^ 100:=by decide
  rcases hsc with rfl | rfl <;> omega
 walk_at "rd"
 rename_i z0 hz0
 refine ⟨fun σ' H1=>Iv (∃ (z:Addr) (xs:List V) (ts:List NT) (o4 o5:Option V),σ' = [some (.ref ce),some (.ref sa),some (.int sl),some (.ref z),o4,o5]∧Pil K H H1 z xs ts∧szs ts≤16),?_,?_⟩
 ·walk_at "rd"
  refine for_list (K:=K) (a:=ce) (xs:=ns.map V.int) (fun i σ H'=>Iv (∃ (z:Addr) (xs:List V) (ts:List NT) (o4 o5:Option V),σ = [some (.ref ce),some (.ref sa),some (.int sl),some (.ref z),o4,o5]∧Pil K H H' z xs ts∧szs ts≤i)) ⟨⟨z0,[],[],_,_,rfl,⟨same_new hz0 _,hz0,upd_same,.nil,(fun t ht=>by cases ht)⟩,Nat.le_refl _⟩⟩ (fun i σ H' _ y=>by obtain ⟨_,_,_,_,_,_,p,_⟩:=y.o; exact SqL.of (p.s _ _ hce)) ?_ ?_
  ·rintro i v σ H' hi ⟨⟨z,xs,ts,o4,o5,rfl,pl,ls⟩⟩
   have il:=(List.getElem?_eq_some_iff.mp hi).1
   rw [List.getElem?_map] at hi
   obtain ⟨n,hn,rfl⟩:=Option.map_eq_some_iff.mp hi
   have hsa':=pl.s _ _ hsa
   have hzx:=pl.h
   have lx:=pl.len
   have l2:=szs_len ts
   walk_at "rd"
   refine ⟨fun σ' H1=>Iv (∃ (tl:Addr) (cs:List (Str × Int)),σ' = [some (.ref ce),some (.ref sa),some (.int sl),some (.ref z),some (.int n),some (.ref tl)]∧Same H' H1∧H' tl=none∧Cn K H1 tl cs∧(∀ c∈cs,Wc c)∧cs.length≤3),?_,?_⟩
   ·walk_at "rd"
    rename_i H1 tl cs S1 htl cn wc lc
    exact ⟨⟨tl,cs,rfl,S1,htl,cn,wc,lc⟩⟩
   rintro σ' H1 ⟨⟨tl,cs,rfl,S1,htl,cn,wc,lc⟩⟩
   have hsa1:=S1 _ _ hsa'
   have hz1:=S1 _ _ hzx
   have ntz:tl ≠ z:=Ne.symm (ne_of_none hzx htl)
   have lx3:xs.length < 1000:=by omega
   have put:∀ pp,H1 pp=none→Iv (∃ (z':Addr) (xs':List V) (ts:List NT) (o4 o5:Option V),[some (.ref ce),some (.ref sa),some (.int sl),some (.ref z),some (.int n),some (.ref tl)] = [some (.ref ce),some (.ref sa),some (.int sl),some (.ref z'),o4,o5]∧Pil K H (upd (upd H1 pp (.tup [.ref tl,.non])) z (.lst (xs ++ [.ref pp]))) z' xs' ts∧szs ts≤i + 1):=fun pp hpp=>by
    have SP:=same_new hpp (H:=H1) (.tup [.ref tl,.non])
    have npz:pp ≠ z:=Ne.symm (ne_of_none hz1 hpp)
    refine ⟨⟨z,_,ts ++ [.lf cs],_,_,rfl,pl.put (S1.trans SP) (.lf (del_at upd_same npz) ((cn.same SP).del (SP _ _ hz1) ntz)) (.lf wc lc),?_⟩⟩
    rw [szs_snoc]
    show szs ts + 1≤i + 1
    omega
   walk_at "rd"
   refine ite3 (fun e1=>?_) (fun e1=>?_)
   ·walk_at "rd"
    rename_i pp hpp
    exact put pp hpp
   ·walk_at "rd"
    refine ite3 (fun e2=>?_) (fun e2=>?_)
    ·walk_at "rd"
     rename_i pp hpp
     exact put pp hpp
    ·obtain ⟨ys,us,v1,v2,t1,t2,ex,et,tt,d1,d2⟩:=pl.t.two (by omega)
     have a1:atI xs (-1)=some v2:=by rw [ex]; exact atI_last _ _
     have a2:atI xs (-2)=some v1:=by rw [ex]; exact at_m2 ys v1 v2
     have ec:cutV xs none (some (-2))=ys:=by rw [ex]; exact cut_m2 ys v1 v2
     have lys:ys.length + 2=xs.length:=by rw [ex]; simp
     walk_at "rd"
     rename_i l1 hl1 H3 qa qq S3 hqa qw pp hpp lp hlp
     rw [ec]
     refine ⟨by show ys.length + 1≤sizeLine; exact szB (by omega),fun z2 hz2=>?_⟩
     have S13:=(same_new hl1 (H:=H1) (.lst (cutV xs none (some (-2))))).trans S3
     have SP:=(same_new hpp (H:=H3) (.tup [.ref tl,.ref qa,v1,v2])).new hlp (.lst [.ref pp])
     have SA:=S1.trans (S13.trans SP)
     have wt:∀ t,t=t1∨t=t2→Wg t:=fun t ht=>pl.w t (by
      rw [et]
      rcases ht with rfl | rfl
      ·exact List.mem_append_left _ (List.mem_append_right _ (List.mem_singleton.mpr rfl))
      ·exact List.mem_append_right _ (List.mem_singleton.mpr rfl))
     have es:szs ts=szs us + t1.sz + t2.sz:=by rw [et,szs_snoc,szs_snoc]
     refine ⟨⟨z2,_,us ++ [.fk cs qq t1 t2],_,_,rfl,pl.join ex et tt SA hz2 (.fk (kp upd_same hlp) ((cn.same S13).same SP) (SP _ _ hqa) ((d1.same (del_same _ _)).same SA) ((d2.same (del_same _ _)).same SA)) (.fk wc lc qw (wt t1 (.inl rfl)) (wt t2 (.inr rfl))),?_⟩⟩
     rw [szs_snoc]
     show szs us + (1 + t1.sz + t2.sz)≤i + 1
     omega
  ·rintro σ H' ⟨⟨z,xs,ts,o4,o5,rfl,pl,ls⟩⟩
   exact ⟨⟨z,xs,ts,_,_,rfl,pl,by omega⟩⟩
 rintro σ' H1 ⟨⟨z,xs,ts,o4,o5,rfl,pl,ls⟩⟩
 have hzx:=pl.h
 have lx:=pl.len
 have l2:=szs_len ts
 have hsa1:=pl.s _ _ hsa
 refine ⟨fun σ' H2=>Iv (∃ (z:Addr) (xs:List V) (ts:List NT),σ' = [some (.ref ce),some (.ref sa),some (.int sl),some (.ref z),o4,o5]∧Pil K H H2 z xs ts∧1≤ts.length∧szs ts≤16),?_,?_⟩
 ·walk_at "rd"
  refine ite3 (fun e=>?_) (fun e=>?_)
  ·have ws0:=hw _ (getD_mem (Str.empty:Str) (show Int.toNat 0 < ws.length by show 0 < ws.length; omega))
   obtain rfl:ts = []:=List.length_eq_zero_iff.mp (by omega)
   obtain rfl:xs = []:=List.length_eq_zero_iff.mp (by omega)
   walk_at "rd"
   rename_i p1 hp1 l1 hl1 p2 hp2
   have SA:=((same_new hp1 (H:=H1) (.tup [.str (ws.getD (Int.toNat 0) Str.empty),.int 1])).new hl1 (.lst [.ref p1])).new hp2 (.tup [.ref l1,.non])
   have hzA:=SA _ _ hzx
   have n2:p2 ≠ z:=fun e=>by rw [e] at hp2; have:=((same_new hp1 (H:=H1) (.tup [.str (ws.getD (Int.toNat 0) Str.empty),.int 1])).new hl1 (.lst [.ref p1])) _ _ hzx; rw [this] at hp2; cases hp2
   have n1:l1 ≠ z:=fun e=>by rw [e] at hl1; have:=(same_new hp1 (H:=H1) (.tup [.str (ws.getD (Int.toNat 0) Str.empty),.int 1])) _ _ hzx; rw [this] at hl1; cases hl1
   have wl1:Wg (.lf [(ws.getD (Int.toNat 0) Str.empty,(1:Int))]):=.lf (fun c hc=>by rw [List.mem_singleton.mp hc]; exact ⟨ws0,by show 1≤(1:Int); decide,by show (1:Int)≤9; decide⟩) (show 1≤3 by decide)
   have cn1:Cn K (upd (upd (upd H1 p1 (.tup [.str (ws.getD (Int.toNat 0) Str.empty),.int 1])) l1 (.lst [.ref p1])) p2 (.tup [.ref l1,.non])) l1 [(ws.getD (Int.toNat 0) Str.empty,(1:Int))]:=⟨[.ref p1],kp upd_same hp2,.cons (.tup (xs:=[.str (ws.getD (Int.toNat 0) Str.empty),.int 1]) (kp (kp upd_same hl1) hp2) (.cons (.str _) (.cons (.int _) .nil))) .nil⟩
   have pp1:=pl.put SA (.lf (del_at upd_same n2) (cn1.del hzA n1)) wl1
   exact ⟨⟨z,_,_,rfl,pp1,(show 1≤1 by decide),(show 1≤16 by decide)⟩⟩
  ·walk_at "rd"
   exact ⟨⟨z,xs,ts,rfl,pl,by omega,ls⟩⟩
 clear pl hzx lx l2 hsa1 ls
 rintro σ' H2 ⟨⟨z,xs,ts,rfl,pl,l1,ls⟩⟩
 have l2:=szs_len ts
 refine while_by (fun σ' H'=>Iv (∃ (z:Addr) (xs:List V) (ts:List NT),σ' = [some (.ref ce),some (.ref sa),some (.int sl),some (.ref z),o4,o5]∧Pil K H H' z xs ts∧1≤ts.length∧szs ts + ts.length≤32))
  (fun σ H=>match σ with | [_,_,_,some (.ref z),_,_]=>(lsX H z).length | _=>0) ⟨⟨z,xs,ts,rfl,pl,l1,by omega⟩⟩ ?_ ?_
 ·clear pl l1 ls l2
  rintro σ' H' ⟨⟨z,xs,ts,rfl,pl,l1,ls⟩⟩
  have hzx:=pl.h
  have lx:=pl.len
  have zl:Bz 10 ((xs.length:Nat) : Int):=by
   show ((xs.length:Nat) : Int).natAbs < 2 ^ 10
   omega
  walk_at "rd"
  refine ite3 (fun c2=>?_) (fun c2=>?_)
  ·obtain ⟨ys,us,v1,v2,t1,t2,ex,et,tt,d1,d2⟩:=pl.t.two (by omega)
   have a1:atI xs (-1)=some v2:=by rw [ex]; exact atI_last _ _
   have a2:atI xs (-2)=some v1:=by rw [ex]; exact at_m2 ys v1 v2
   have ec:cutV xs none (some (-2))=ys:=by rw [ex]; exact cut_m2 ys v1 v2
   have lys:ys.length + 2=xs.length:=by rw [ex]; simp
   have wt:∀ t,t=t1∨t=t2→Wg t:=fun t ht=>pl.w t (by
    rw [et]
    rcases ht with rfl | rfl
    ·exact List.mem_append_left _ (List.mem_append_right _ (List.mem_singleton.mpr rfl))
    ·exact List.mem_append_right _ (List.mem_singleton.mpr rfl))
   have es:szs ts=szs us + t1.sz + t2.sz:=by rw [et,szs_snoc,szs_snoc]
   have lu:us.length + 2=ts.length:=by rw [et]; simp
   walk_at "rd"
   rename_i la hla le hle qa hqa pp hpp lp hlp
   rw [ec] at hle hqa hpp hlp ⊢
   refine ⟨by show ys.length + 1≤sizeLine; exact szB (by omega),fun z2 hz2=>?_⟩
   have SA:=((((same_new hla (H:=H') (.lst ys)).new hle (.lst [])).new hqa (.tup [.str "most", .int 0,.int ((xs.length:Nat) * sl)])).new hpp (.tup [.ref le,.ref qa,v1,v2])).new hlp (.lst [.ref pp])
   have wf:=wf_nil2 (sc:=sl) (k:=xs.length) hsc (by omega) (wt t1 (.inl rfl)) (wt t2 (.inr rfl))
   have pj:=pl.join ex et tt SA hz2 (.fk (kp upd_same hlp) ⟨[],kp (kp (kp upd_same hqa) hpp) hlp,.nil⟩ (kp (kp upd_same hpp) hlp) ((d1.same (del_same _ _)).same SA) ((d2.same (del_same _ _)).same SA)) wf
   refine ⟨⟨z2,_,_,rfl,pj,by rw [List.length_append]; show 1≤_ + 1; omega,?_⟩,?_⟩
   ·rw [szs_snoc,List.length_append]
    show szs us + (1 + t1.sz + t2.sz) + (us.length + 1)≤32
    omega
   ·show (lsX _ z2).length < (lsX H' z).length
    rw [lsX_at upd_same,lsX_at hzx,List.length_append]
    show ys.length + 1 < xs.length
    omega
  ·obtain ⟨ys,us,v,tt,ex,et,ty,dv⟩:=pl.t.last (by omega)
   have ly:ys = []:=List.length_eq_zero_iff.mp (by rw [ex,List.length_append] at lx c2; have : [v].length=1:=rfl; have:=ty.length; rw [et,List.length_append] at lx; have : [tt].length=1:=rfl; omega)
   subst ly
   obtain rfl:us = []:=List.length_eq_zero_iff.mp ty.length.symm
   have a0:atI xs 0=some v:=by rw [ex]; rfl
   have es:szs ts=tt.sz:=by rw [et]; rfl
   walk_at "rd"
   exact q _ v tt pl.s (dv.same (del_same _ _)) (pl.w tt (by rw [et]; exact List.mem_append_right _ (List.mem_singleton.mpr rfl))) (by omega)
 ·rintro σ' H' Q1 Q2 hq ⟨v,e,p,ys,ev,hs,i,j,ei,ej,k,ek,y⟩
  exact ⟨v,e,p,ys,ev,hs,i,j,ei,ej,k,ek,hq _ _ y⟩
theorem ok_law_node0 (T:Tx K mg) : FnOk P w K mg base (CXe P w) (0 + 4) T.f_law_node T.d_law_node ["_law_tree"] (sp_node T.c_Leaf T.c_Fork K 0):=by
 have sc:=sc_law_node
 refine T.F_law_node.okx sc (fun vs H Q E h=>?_) (fun cdv A outer s H vs Q E hr h=>?_)
 ·obtain ⟨v,t,rfl,td,dd,q⟩:=h
  rfl
 obtain ⟨v,t,rfl,td,dd,q⟩:=h
 have hu:=hr.units0
 have hu2:=hr.units
 have hu1:=Nat.lt_of_le_of_lt (Nat.add_le_add_left (show 1≤64 by decide) _) hu2
 refine ⟨_,(@pss_cons _ _ _ _ _ (@ps_if _ _ _ _ _ _ _ _ (@pt_cmpR _ _ _ _ _ _ _ _ op_isN (@pe_ix _ _ _ _ _ _ _ ix_tup (pv 0) pe_int (fun _ _=>rfl)) pe_non (nomark _)) (@pss_one _ _ _ (@ps_ret _ _ _ _ (pe_make T.M_Leaf (ok_Node___init__ T) (hr.mono (by decide)) rfl T.m_Leaf T.b_Node___init__ .nil (pass_e fun _ _ z=>z) (pa_cons (pe_callTy call_list_of rfl T.z_list bt_list (pa_cons (@pe_ix _ _ _ _ _ _ _ ix_tup (pv 0) pe_int (fun _ _=>rfl)) pa_nil)) pa_nil)))) pss_nil)
   (@pss_one _ _ _ ps_never)),?_⟩
 walk_at "kx"
 have C1:=T.C_Leaf
 have C2:=T.C_Fork
 have N0:NoAttr K T.c_Leaf "counted" := T.nLc
 have N1:NoAttr K T.c_Fork "counted" := T.nFcd
 have N2:NoAttr K T.c_Fork "question" := T.nFqn
 have N3:NoAttr K T.c_Fork "yes" := T.nFys
 have N4:NoAttr K T.c_Fork "no" := T.nFno
 have N5:NoAttr K T.c_Fork "leaf_count" := T.nFlt
 have N6:NoAttr K T.c_Fork "depth" := T.nFdh
 cases t with
 | lf cs =>
  cases td with
  | lf h1 cn =>
   obtain ⟨xs,hl,tl⟩:=id cn
   walk_at "rd"
   rename_i l1 hl1 x dx hx hdx ndx
   have hx0:=(upd_none hx).2
   have hx':upd (upd H l1 (.lst xs)) dx (.own x) x=none:=by rw [upd_ne (Ne.symm ndx)]; exact hx
   refine ⟨.inl rfl,kp (kp upd_same hdx) hx',fun l hl2=>?_⟩
   have nlx:l ≠ x:=Ne.symm (ne_of_none upd_same hl2)
   have S:=((((same_new hl1 (H:=H) (.lst xs)).new hdx (.own x)).new hx' (.ins T.c_Leaf dx [])).new hl2 (.lst xs)).upd hx0 (.ins T.c_Leaf dx [("counted", .ref l)])
   exact ⟨rfl,q _ _ S (.lf upd_same ⟨xs,by rw [upd_ne nlx]; exact upd_same,tl.mono S.t⟩)⟩
 | fk cs qq y n=>exact absurd dd (by show ¬ 1 + max y.dp n.dp≤0; omega)
theorem ok_law_nodeS (T:Tx K mg)(d:Nat)(ih:FnOk P w K mg base (CXe P w) (d + 4) T.f_law_node T.d_law_node ["_law_tree"] (sp_node T.c_Leaf T.c_Fork K d)) : FnOk P w K mg base (CXe P w) (d + 1 + 4) T.f_law_node T.d_law_node ["_law_tree"] (sp_node T.c_Leaf T.c_Fork K (d + 1)):=by
 have sc:=sc_law_node
 refine T.F_law_node.okx sc (fun vs H Q E h=>?_) (fun cdv A outer s H vs Q E hr h=>?_)
 ·obtain ⟨v,t,rfl,td,dd,q⟩:=h
  rfl
 obtain ⟨v,t,rfl,td,dd,q⟩:=h
 have hu:=hr.units0
 have hu2:=hr.units
 have hu1:=Nat.lt_of_le_of_lt (Nat.add_le_add_left (show 1≤64 by decide) _) hu2
 refine ⟨_,(@pss_cons _ _ _ _ _ (@ps_if _ _ _ _ _ _ _ _ (@pt_cmpR _ _ _ _ _ _ _ _ op_isN (@pe_ix _ _ _ _ _ _ _ ix_tup (pv 0) pe_int (fun _ _=>rfl)) pe_non (nomark _)) (@pss_one _ _ _ (@ps_ret _ _ _ _ (pe_make T.M_Leaf (ok_Node___init__ T) (hr.mono (by omega)) rfl T.m_Leaf T.b_Node___init__ .nil (pass_e fun _ _ z=>z) (pa_cons (pe_callTy call_list_of rfl T.z_list bt_list (pa_cons (@pe_ix _ _ _ _ _ _ _ ix_tup (pv 0) pe_int (fun _ _=>rfl)) pa_nil)) pa_nil)))) pss_nil)
   (@pss_one _ _ _ (@ps_ret _ _ _ _ (pe_make T.M_Fork (ok_Fork___init__ T) (hr.mono (by omega)) rfl T.m_Fork T.b_Fork___init__ .nil (pass_e fun _ _ z=>z) (pa_cons (pe_callTy call_list_of rfl T.z_list bt_list (pa_cons (@pe_ix _ _ _ _ _ _ _ ix_tup (pv 0) pe_int (fun _ _=>rfl)) pa_nil)) (pa_cons (@pe_ix _ _ _ _ _ _ _ ix_tup (pv 0) pe_int (fun _ _=>rfl)) (pa_cons (pe_call ih (hr.mono (by omega)) rfl T.m_law_node T.F_law_node.kp T.b_law_node .nil (pass_e fun _ _ z=>z) (pa_cons (@pe_ix _ _ _ _ _ _ _ ix_tup (pv 0) pe_int (fun _ _=>rfl)) pa_nil)) (pa_cons (pe_call ih (hr.mono (by omega)) rfl T.m_law_node T.F_law_node.kp T.b_law_node .nil (pass_e fun _ _ z=>z) (pa_cons (@pe_ix _ _ _ _ _ _ _ ix_tup (pv 0) pe_int (fun _ _=>rfl)) pa_nil)) pa_nil)))))))),?_⟩
 walk_at "kx"
 have C1:=T.C_Leaf
 have C2:=T.C_Fork
 have N0:NoAttr K T.c_Leaf "counted" := T.nLc
 have N1:NoAttr K T.c_Fork "counted" := T.nFcd
 have N2:NoAttr K T.c_Fork "question" := T.nFqn
 have N3:NoAttr K T.c_Fork "yes" := T.nFys
 have N4:NoAttr K T.c_Fork "no" := T.nFno
 have N5:NoAttr K T.c_Fork "leaf_count" := T.nFlt
 have N6:NoAttr K T.c_Fork "depth" := T.nFdh
 cases t with
 | lf cs =>
  cases td with
  | lf h1 cn =>
   obtain ⟨xs,hl,tl⟩:=id cn
   walk_at "rd"
   rename_i l1 hl1 x dx hx hdx ndx
   have hx0:=(upd_none hx).2
   have hx':upd (upd H l1 (.lst xs)) dx (.own x) x=none:=by rw [upd_ne (Ne.symm ndx)]; exact hx
   refine ⟨.inl rfl,kp (kp upd_same hdx) hx',fun l hl2=>?_⟩
   have nlx:l ≠ x:=Ne.symm (ne_of_none upd_same hl2)
   have S:=((((same_new hl1 (H:=H) (.lst xs)).new hdx (.own x)).new hx' (.ins T.c_Leaf dx [])).new hl2 (.lst xs)).upd hx0 (.ins T.c_Leaf dx [("counted", .ref l)])
   exact ⟨rfl,q _ _ S (.lf upd_same ⟨xs,by rw [upd_ne nlx]; exact upd_same,tl.mono S.t⟩)⟩
 | fk cs qq y n =>
  cases td with
  | @fk pp l qa _ _ v1 v2 _ _ h1 cn hq ty tn =>
   obtain ⟨xs,hl,tl⟩:=id cn
   have dy:y.dp≤d:=by have:1 + max y.dp n.dp≤d + 1:=dd; omega
   have dn:n.dp≤d:=by have:1 + max y.dp n.dp≤d + 1:=dd; omega
   walk_at "rd"
   rename_i l1 hl1
   have S1:=same_new hl1 (H:=H) (.lst xs)
   refine ⟨ty.same S1,dy,fun H2 u1 S2 n1=>?_⟩
   have S12:=S1.trans S2
   have h2:=S12 _ _ h1
   walk_at "rd"
   refine ⟨tn.same S12,dn,fun H3 u3 S3 n3=>?_⟩
   walk_at "rd"
   rename_i x dx hx hdx ndx
   have S13:=S12.trans S3
   have hx':upd H3 dx (.own x) x=none:=by rw [upd_ne (Ne.symm ndx)]; exact hx
   have S4:=(same_new hdx (H:=H3) (.own x)).new hx' (.ins T.c_Fork dx [])
   refine ⟨⟨xs,S4 _ _ (S3 _ _ (S2 _ _ upd_same)),(tl.mono S13.t).mono S4.t⟩,S4 _ _ (S13 _ _ hq),(n1.same S3).same S4,n3.same S4,fun H5 S5 n5=>⟨rfl,q _ _ (fun b o e=>S5 _ _ (ne_of_none (S13 _ _ e) hx) (S4 _ _ (S13 _ _ e))) n5⟩⟩
theorem ok_law_nodeA (T:Tx K mg) : ∀ d:Nat,FnOk P w K mg base (CXe P w) (d + 4) T.f_law_node T.d_law_node ["_law_tree"] (sp_node T.c_Leaf T.c_Fork K d):=by
 intro d
 induction d with
 | zero=>exact ok_law_node0 T
 | succ d ih=>exact ok_law_nodeS T d ih
theorem ok_law_node (T:Tx K mg) : FnOk P w K mg base (CXe P w) (32 + 4) T.f_law_node T.d_law_node ["_law_tree"] (sp_node T.c_Leaf T.c_Fork K 32):=by exact ok_law_nodeA T 32
theorem ok_law_yes (T:Tx K mg) : FnOk P w K mg base (CXe P w) 1 T.f_law_yes T.d_law_yes ["_law_question_here", "_law_values"] sp_says:=by
 have sc:=sc_law_yes
 refine T.F_law_yes.okx sc (fun vs H Q E h=>?_) (fun cdv A outer s H vs Q E hr h=>?_)
 ·obtain ⟨qa,va,q,ks,rfl,hq,hv,ak,k⟩:=h
  rfl
 obtain ⟨qa,va,q,ks,rfl,hq,hv,ak,k⟩:=h
 have hu:=hr.units0
 have hu2:=hr.units
 have hu1:=Nat.lt_of_le_of_lt (Nat.add_le_add_left (show 1≤64 by decide) _) hu2
 refine ⟨_,(@pss_cons _ _ _ _ _ (@ps_if _ _ _ _ _ _ _ _ (@pt_cmpR _ _ _ _ _ _ _ _ op_eqS (@pe_ix _ _ _ _ _ _ _ ix_tup (pv 0) pe_int (fun _ _=>rfl)) pe_str (nomark _)) (@pss_one _ _ _ (@ps_ret _ _ _ _ (pe_cmpR op_le (@pe_ix _ _ _ _ _ _ _ ix_tup (pv 1) (@pe_ix _ _ _ _ _ _ _ ix_tup (pv 0) pe_int (fun _ _=>rfl)) (fun _ _=>rfl)) (@pe_ix _ _ _ _ _ _ _ ix_tup (pv 0) pe_int (fun _ _=>rfl)) (nomark _)))) pss_nil)
   (@pss_one _ _ _ (@ps_ret _ _ _ _ (pe_cmpR op_eq (@pe_ix _ _ _ _ _ _ _ ix_tup (pv 1) (@pe_ix _ _ _ _ _ _ _ ix_tup (pv 0) pe_int (fun _ _=>rfl)) (fun _ _=>rfl)) (@pe_ix _ _ _ _ _ _ _ ix_tup (pv 0) pe_int (fun _ _=>rfl)) (nomark _))))),?_⟩
 walk_at "kx"
 have hq:H qa=some (.tup [.str q.kd,.int q.at',kV q.c]):=hq
 rcases ak with ⟨e,v,n,e1,e2⟩ | ⟨e,v,w',e1,e2⟩
 ·have ea:atI (ks.map kV) (q.at':Int)=some (.int v):=atI_nat (by rw [List.getElem?_map,e1]; rfl)
  have es:say q ks=decide (v≤n):=by unfold say; rw [e1,e2]
  rw [e,e2] at hq
  rw [es] at k
  walk_at "rd"
  exact k
 ·have ea:atI (ks.map kV) (q.at':Int)=some (.str v):=atI_nat (by rw [List.getElem?_map,e1]; rfl)
  have es:say q ks=decide (v=w'):=by unfold say; rw [e1,e2]
  rw [e,e2] at hq
  rw [es] at k
  walk_at "rd"
  show Q (V.bl (decide (V.str v=V.str w'))) H
  rw [str_eqV]
  exact k
theorem ok_law_commonest (T:Tx K mg) : FnOk P w K mg base (CXe P w) 1 T.f_law_commonest T.d_law_commonest ["_law_told"] (sp_commonest K):=by
 have sc:=sc_law_commonest
 refine T.F_law_commonest.okx sc (fun vs H Q E h=>?_) (fun cdv A outer s H vs Q E hr h=>?_)
 ·obtain ⟨a,cs,rfl,⟨xs,ha,ht⟩,q⟩:=h
  rfl
 obtain ⟨a,cs,rfl,⟨xs,ha,ht⟩,q⟩:=h
 have hu:=hr.units0
 have hu2:=hr.units
 have hu1:=Nat.lt_of_le_of_lt (Nat.add_le_add_left (show 1≤64 by decide) _) hu2
 refine ⟨_,(@pss_cons _ _ _ _ _ (@ps_set _ _ 1 _ _ _ _ sc.nd rfl (by walk_at "o1") pe_non (by rfl) (by walk_at "o2"))
   (@pss_cons _ _ _ _ _ (@ps_set _ _ 2 _ _ _ _ sc.nd rfl (by walk_at "o1") pe_int (by rfl) (by walk_at "o2"))
   (@pss_cons _ _ _ _ _ (ps_for powx rfl (pi_list (pv 0)) (pg_tup rfl (pgs_cons (pg_name (i:=3) sc.nd rfl (by walk_at "o1")) (pgs_cons (pg_name (i:=4) sc.nd rfl (by walk_at "o1")) pgs_nil)))
   (@pss_one _ _ _ (@ps_if _ _ _ _ _ _ _ _ (@pt_cmpR _ _ _ _ _ _ _ _ op_gt (pv 4) (pv 2) (nomark _)) (@pss_cons _ _ _ _ _ (@ps_set _ _ 1 _ _ _ _ sc.nd rfl (by walk_at "o1") (pv 3) (by rfl) (by walk_at "o2"))
   (@pss_one _ _ _ (@ps_set _ _ 2 _ _ _ _ sc.nd rfl (by walk_at "o1") (pv 4) (by rfl) (by walk_at "o2")))) pss_nil)))
   (@pss_one _ _ _ (@ps_ret _ _ _ _ (pv 1)))))),?_⟩
 walk_at "kx"
 have hlen:xs.length=cs.length:=by have:=ht.length; rw [List.length_map] at this; exact this
 walk_at "rd"
 refine for_list (K:=K) (a:=a) (xs:=xs) (fun i σ H'=>Iv (H'=H∧∃ o1 o2,σ = [some (.ref a),some ((cs.take i).foldl cmS (.non,0)).1,some (.int ((cs.take i).foldl cmS (.non,0)).2),o1,o2])) ⟨⟨rfl,_,_,rfl⟩⟩ (fun i σ H' _ z=>by rw [z.o.1]; exact SqL.of ha) ?_ ?_
 ·rintro i x σ H' hi ⟨⟨rfl,o1,o2,rfl⟩⟩
  have il:=(List.getElem?_eq_some_iff.mp hi).1
  obtain ⟨d,hd,tv⟩:=ht.get hi
  rw [List.getElem?_map] at hd
  obtain ⟨c,hc,rfl⟩:=Option.map_eq_some_iff.mp hd
  obtain ⟨p,u,v,rfl,hp,t1,t2⟩:=tv.pair
  obtain rfl:=t1.strs
  obtain rfl:=t2.ints
  walk_at "rd"
  have e:(cs.take (i + 1)).foldl cmS (.non,0)=cmS ((cs.take i).foldl cmS (.non,0)) c:=by rw [List.take_add_one,hc,List.foldl_append]; rfl
  rw [e]
  refine ite3 (fun h=>?_) (fun h=>?_)
  ·rw [cmS_t h]
   walk_at "rd"
   exact ⟨⟨rfl,_,_,rfl⟩⟩
  ·rw [cmS_f h]
   walk_at "rd"
   exact ⟨⟨rfl,_,_,rfl⟩⟩
 ·rintro σ H' ⟨⟨rfl,o1,o2,rfl⟩⟩
  walk_at "rd"
  rw [hlen,List.take_length]
  exact q
theorem ok_law_missed (T:Tx K mg) : FnOk P w K mg base (CXe P w) 2 T.f_law_missed T.d_law_missed ["_law_tree", "_law_places", "_law_group_here"] (sp_lmiss K):=by
 have sc:=sc_law_missed
 refine T.F_law_missed.okx sc (fun vs H Q E h=>?_) (fun cdv A outer s H vs Q E hr h=>?_)
 ·obtain ⟨v,a,ga,t,m,ps,gs,rs,rfl,td,wg,lv,ha,pi,⟨gx,hga,tgx⟩,n60,rw2,q⟩:=h
  rfl
 obtain ⟨v,a,ga,t,m,ps,gs,rs,rfl,td,wg,lv,ha,pi,⟨gx,hga,tgx⟩,n60,rw2,q⟩:=h
 have hu:=hr.units0
 have hu2:=hr.units
 have hu1:=Nat.lt_of_le_of_lt (Nat.add_le_add_left (show 1≤64 by decide) _) hu2
 refine ⟨_,(@pss_cons _ _ _ _ _ (@ps_set _ _ 3 _ _ _ _ sc.nd rfl (by walk_at "o1") pe_int (by rfl) (by walk_at "o2"))
   (@pss_cons _ _ _ _ _ (ps_for powx rfl (pi_list (pv 2)) (pg_tup rfl (pgs_cons (pg_name (i:=4) sc.nd rfl (by walk_at "o1")) (pgs_cons (pg_name (i:=5) sc.nd rfl (by walk_at "o1")) pgs_nil)))
   (@pss_cons _ _ _ _ _ (@ps_set _ _ 6 _ _ _ _ sc.nd rfl (by walk_at "o1") (pv 0) (by rfl) (by walk_at "o2"))
   (@pss_cons _ _ _ _ _ (@ps_set _ _ 7 _ _ _ _ sc.nd rfl (by walk_at "o1") pe_str (by rfl) (by walk_at "o2"))
   (@pss_cons _ _ _ _ _ (@ps_mid _ _ _ (ps_while powx (@pt_cmpR _ _ _ _ _ _ _ _ op_notIn_seq (pv 7) (pv 1) (by with_unfolding_all rfl)) (@pss_one _ _ _ (@ps_if _ _ _ _ _ _ _ _ (pt_val (pe_call (ok_law_yes T) (hr.mono (by decide)) rfl T.m_law_yes T.F_law_yes.kp T.b_law_yes .nil (pass_e fun _ _ z=>z) (pa_cons (@pe_ix _ _ _ _ _ _ _ ix_tup (pv 6) pe_int (fun _ _=>rfl)) (pa_cons (pv 4) pa_nil)))) (@pss_cons _ _ _ _ _ (@ps_set _ _ 6 _ _ _ _ sc.nd rfl (by walk_at "o1") (@pe_ix _ _ _ _ _ _ _ ix_tup (pv 6) pe_int (fun _ _=>rfl)) (by rfl) (by walk_at "o2"))
   (@pss_one _ _ _ (@ps_set _ _ 7 _ _ _ _ sc.nd rfl (by walk_at "o1") (@pe_op _ _ _ _ _ _ _ _ op_add_str (pv 7) pe_str) (by rfl) (by walk_at "o2")))) (@pss_cons _ _ _ _ _ (@ps_set _ _ 6 _ _ _ _ sc.nd rfl (by walk_at "o1") (@pe_ix _ _ _ _ _ _ _ ix_tup (pv 6) pe_int (fun _ _=>rfl)) (by rfl) (by walk_at "o2"))
   (@pss_one _ _ _ (@ps_set _ _ 7 _ _ _ _ sc.nd rfl (by walk_at "o1") (@pe_op _ _ _ _ _ _ _ _ op_add_str (pv 7) pe_str) (by rfl) (by walk_at "o2"))))))))
   (@pss_one _ _ _ (ps_aug (i:=3) sc.nd rfl (by walk_at "o1") (pe_callTy call_int1 rfl T.z_int bt_int (pa_cons (pe_cmpR op_ne (pe_call (ok_law_commonest T) (hr.mono (by decide)) rfl T.m_law_commonest T.F_law_commonest.kp T.b_law_commonest .nil (pass_e fun _ _ z=>z) (pa_cons (@pe_ix _ _ _ _ _ _ _ ix_tup (pv 6) pe_int (fun _ _=>rfl)) pa_nil)) (pv 5) (nomark _)) pa_nil)) iop_add))))))
   (@pss_one _ _ _ (@ps_ret _ _ _ _ (pv 3))))),?_⟩
 walk_at "kx"
 have dpz:=t.dp_lv
 have lps:=pi.len
 have lm:=t.tb_lv m
 have lgx:gx.length=rs.length:=by have:=tgx.length; rw [List.length_map] at this; exact this
 have ly1:("y" : Str).length=1:=by decide +kernel
 have ln1:("n" : Str).length=1:=by decide +kernel
 have cy:cds ("y" : Str) = [121]:=by decide +kernel
 have cn:cds ("n" : Str) = [110]:=by decide +kernel
 walk_at "rd"
 refine for_list (K:=K) (a:=ga) (xs:=gx) (fun i σ H'=>Iv (∃ o4 o5 o6 o7:Option V,σ = [some v,some (.ref a),some (.ref ga),some (.int (msd t ps (rs.take i))),o4,o5,o6,o7]∧H'=H)) ⟨⟨_,_,_,_,rfl,rfl⟩⟩ (fun i σ H' _ z=>by obtain ⟨⟨_,_,_,_,_,e⟩⟩:=z; rw [e]; exact SqL.of hga) ?_ ?_
 ·rintro i x σ H' hi ⟨⟨o4,o5,o6,o7,rfl,rfl⟩⟩
  obtain ⟨r,rp,u,hr,rfl,hrp,hu,tv⟩:=TVs.row tgx hi
  have ak:=(rw2 r (List.mem_of_getElem? hr)).asks wg
  obtain ⟨p,w,hp,hb,hg,hpre,lp,ea⟩:=pi_ans pi r.1
  have st:=msd_step (t:=t) (ps:=ps) hr
  walk_at "rd"
  refine ⟨fun σ' H1=>Iv (∃ (uu:V) (pl:Str),σ' = [some v,some (.ref a),some (.ref ga),some (.int (msd t ps (rs.take i))),some (.ref u),some (.str r.2),some uu,some (.str pl)]∧H1=H'∧TD K H' uu w),?_,?_⟩
  ·walk_at "rd"
   refine while_by (fun σ H2=>Iv (H2=H'∧∃ (uu:V) (t':NT) (pl re:Str),σ = [some v,some (.ref a),some (.ref ga),some (.int (msd t ps (rs.take i))),some (.ref u),some (.str r.2),some uu,some (.str pl)]∧TD K H' uu t'∧Asks r.1 t'∧p=pl ++ re∧t'.go (cds re)=some w∧cds re <+: cds (t'.fall r.1)))
    (fun σ _=>match σ with | [_,_,_,_,_,_,_,some (.str pl)]=>100 - pl.length | _=>0) ⟨⟨rfl,v,t, "", p,rfl,td,ak,str_ext (by rw [cds_app]; rfl),hg,hpre⟩⟩ ?_ ?_
   ·rintro σ' H2 ⟨⟨rfl,uu,t',pl,re,rfl,td',ak',epl,hg',hpr'⟩⟩
    have lpl:pl.length + re.length=p.length:=by rw [epl,lenA]
    have fl:=flat_str ps
    have iv:=inV_str (x:=pl) (ws:=ps)
    walk_at "rd"
    by_cases c:pl∈ps
    ·have e1:(if true=true then !inV (.str pl) (ps.map V.str) else inV (.str pl) (ps.map V.str))=false:=by rw [if_pos rfl,iv,decide_eq_true c]; rfl
     rw [e1]
     have e2:pl=p:=by
      have:pl∈bgs (t.fall r.1) ps:=mem_bgs.mpr ⟨c,by
       refine List.IsPrefix.trans ?_ hpre
       rw [epl,cds_app]
       exact List.prefix_append _ _⟩
      rw [hb] at this
      exact List.mem_singleton.mp this
     have e3:cds re = []:=by
      have:(cds re).length=0:=by rw [cds_len]; have:=congrArg Str.length e2; omega
      exact List.length_eq_zero_iff.mp this
     rw [e3] at hg'
     have e4:t'=w:=Option.some.inj (by rw [← hg']; cases t' <;> rfl)
     subst e4
     walk_at "rd"
     exact ⟨⟨uu,pl,rfl,rfl,td'⟩⟩
    ·have e1:(if true=true then !inV (.str pl) (ps.map V.str) else inV (.str pl) (ps.map V.str))=true:=by rw [if_pos rfl,iv,decide_eq_false c]; rfl
     rw [e1]
     have ne:cds re ≠ []:=fun z=>c (by
      have:p=pl:=by rw [epl]; exact str_ext (by rw [cds_app,z,List.append_nil])
      rw [← this]; exact hp)
     obtain ⟨x,xs,ex⟩:=List.exists_cons_of_ne_nil ne
     have lre:re.length=xs.length + 1:=by rw [← cds_len,ex]; rfl
     rw [ex] at hg' hpr'
     obtain ⟨r2,er2⟩:=str_of xs
     cases td' with
     | lf h1 cn'=>cases hg'
     | @fk pp l qa cs qq v1 v2 y n h1 cn' hq ty tn =>
      cases ak' with
      | fk aq ay an =>
       have zn:pl.length + ("n" : Str).length≤sizeLine:=szB (by omega)
       have zy:pl.length + ("y" : Str).length≤sizeLine:=szB (by omega)
       walk_at "rd"
       refine iteB (fun e=>?_) (fun e=>?_)
       ·obtain ⟨rfl,f1,f2⟩:=fall_y e hpr' hg'
        walk_at "rd"
        refine ⟨⟨rfl,v1,y,_,r2,rfl,ty,ay,?_,by rw [er2]; exact f2,by rw [er2]; exact f1⟩,?_⟩
        ·rw [epl]; exact str_ext (by rw [cds_app,cds_app,cds_app,ex,er2,cy,List.append_assoc]; rfl)
        ·show 100 - (pl ++ "y").length < 100 - pl.length
         rw [lenA]; omega
       ·obtain ⟨rfl,f1,f2⟩:=fall_n e hpr' hg'
        walk_at "rd"
        refine ⟨⟨rfl,v2,n,_,r2,rfl,tn,an,?_,by rw [er2]; exact f2,by rw [er2]; exact f1⟩,?_⟩
        ·rw [epl]; exact str_ext (by rw [cds_app,cds_app,cds_app,ex,er2,cn,List.append_assoc]; rfl)
        ·show 100 - (pl ++ "n").length < 100 - pl.length
         rw [lenA]; omega
   ·rintro σ H1 Q1 Q2 hq z
    obtain ⟨x,e,y,f,p,xs,ey,hs,f1,f2,k,hk,z⟩:=z
    exact ⟨x,e,y,f,p,xs,ey,hs,f1,f2,k,hk,hq _ _ z⟩
  rintro σ' H1 ⟨⟨uu,pl,rfl,rfl,tdw⟩⟩
  obtain ⟨pp,l,rr,rfl,hpp,cnw⟩:=tdw.hd
  have a0:=at_0h (x:=.ref l) (r:=rr)
  walk_at "rd"
  rcases cm_or w.ct with e | ⟨w3,e⟩
  ·rw [ea,e] at st
   rw [e]
   walk_at "rd"
   refine .inr ⟨_,rfl,?_⟩
   walk_at "rd"
   exact ⟨⟨_,_,_,_,by rw [st]; rfl,rfl⟩⟩
  ·rw [ea,e] at st
   rw [e]
   walk_at "rd"
   refine .inr ⟨_,rfl,?_⟩
   walk_at "rd"
   exact ⟨⟨_,_,_,_,by rw [st]; rfl,rfl⟩⟩
 ·rintro σ H' ⟨⟨o4,o5,o6,o7,rfl,rfl⟩⟩
  rw [lgx,List.take_length]
  walk_at "rd"
  exact q _ (Same.refl _)
theorem ok_law_group (T:Tx K mg) : FnOk P w K mg base (CXe P w) 2 T.f_law_group T.d_law_group ["_law_cells", "_law_words_here"] (sp_lgroup43 K):=by
 have sc:=sc_law_group
 refine T.F_law_group.okx sc (fun vs H Q E h=>?_) (fun cdv A outer s H vs Q E hr h=>?_)
 ·obtain ⟨ce,wa,ns,ws,rfl,hce,ln,hwa,lw,hw,q⟩:=h
  rfl
 obtain ⟨ce,wa,ns,ws,rfl,hce,ln,hwa,lw,hw,q⟩:=h
 have hu:=hr.units0
 have hu2:=hr.units
 have hu1:=Nat.lt_of_le_of_lt (Nat.add_le_add_left (show 1≤64 by decide) _) hu2
 refine ⟨_,(@pss_cons _ _ _ _ _ (@ps_set _ _ 2 _ _ _ _ sc.nd rfl (by walk_at "o1") (@pe_lst _ _ _ _ pa_nil) (by rfl) (by walk_at "o2"))
   (@pss_cons _ _ _ _ _ (ps_for powx rfl (pi_list (pv 0)) (pg_name (i:=3) sc.nd rfl (by walk_at "o1"))
   (@pss_cons _ _ _ _ _ (@ps_mid _ _ _ (@ps_set _ _ 4 _ _ _ _ sc.nd rfl (by walk_at "o1") (pe_tup (pa_cons (@pe_op _ _ _ _ _ _ _ _ op_sub (@pe_op _ _ _ _ _ _ _ _ op_mod (pv 3) pe_int) pe_int) (pa_cons (@pe_ix _ _ _ _ _ _ _ ix_list (pv 1) (@pe_op _ _ _ _ _ _ _ _ op_mod (@pe_op _ _ _ _ _ _ _ _ op_fdivB (pv 3) pe_int) pe_int) (fun _ _=>rfl)) pa_nil))) (by rfl) (by walk_at "o2")))
   (@pss_one _ _ _ (ps_expr (pe_bm PySem.F.plainAttrs_list PySem.F.slot_list_append PySem.F.type_list_append mt_append (pv 2) (pa_cons (pe_tup (pa_cons (pv 4) (pa_cons (@pe_ix _ _ _ _ _ _ _ ix_list (pv 1) (@pe_op _ _ _ _ _ _ _ _ op_mod (pe_call (ok_law_next T) (hr.mono (by decide)) rfl T.m_law_next T.F_law_next.kp T.b_law_next .nil (pass_e fun _ _ z=>z) (pa_cons (pv 3) (pa_cons pe_int pa_nil))) pe_int) (fun _ _=>rfl)) pa_nil))) pa_nil))))))
   (@pss_one _ _ _ (@ps_ret _ _ _ _ (pv 2))))),?_⟩
 walk_at "kx"
 have wl:(ws.map V.str).length=ws.length:=List.length_map _
 have nl:(ns.map V.int).length=ns.length:=List.length_map _
 walk_at "rd"
 rename_i z hz
 have nwz:wa ≠ z:=ne_of_none hwa hz
 have ncz:ce ≠ z:=ne_of_none hce hz
 refine for_list (K:=K) (a:=ce) (xs:=ns.map V.int) (fun i σ H'=>Iv (∃ (zs:List V) (rs:List Row) (o3 o4:Option V),σ = [some (.ref ce),some (.ref wa),some (.ref z),o3,o4]∧Same H H'∧H' z=some (.lst zs)∧TVs K H' zs (rs.map rowD)∧rs.length=i∧∀ r∈rs,Rw2 r)) ⟨⟨[],[],_,_,rfl,same_new hz _,upd_same,.nil,rfl,fun r hr=>by cases hr⟩⟩ (fun i σ H' _ y=>by obtain ⟨⟨_,_,_,_,_,S,_⟩⟩:=y; exact SqL.of (S _ _ hce)) ?_ ?_
 ·rintro i x σ H' hi ⟨⟨zs,rs,o3,o4,rfl,S,hz',tz,lr,ok⟩⟩
  have il:=(List.getElem?_eq_some_iff.mp hi).1
  rw [List.getElem?_map] at hi
  obtain ⟨c,hc,rfl⟩:=Option.map_eq_some_iff.mp hi
  have hwa':=S _ _ hwa
  have lzs:zs.length=rs.length:=by have:=tz.length; rw [List.length_map] at this; exact this
  have lz2:zs.length < 1000:=by omega
  refine ⟨fun σ' H1=>Iv (∃ (va:Addr) (x:Int) (w:Str),σ' = [some (.ref ce),some (.ref wa),some (.ref z),some (.int c),some (.ref va)]∧isW w=true∧H' va=none∧H1=upd H' va (.tup (([.inl x,.inr w] : List Key).map kV))),?_,?_⟩
  ·walk_at "rd"
   rename_i va hva
   exact ⟨⟨va,_,_,rfl,hw _ (getD_mem (Str.empty:Str) (show (c / 40 % 4).toNat < ws.length by omega)),hva,rfl⟩⟩
  rintro σ' H1 ⟨⟨va,y,w,rfl,ww,hva,rfl⟩⟩
  have S1:=same_new hva (H:=H') (.tup (([.inl y,.inr w] : List Key).map kV))
  have hv1:=upd_same (H:=H') (a:=va) (o:=.tup (([.inl y,.inr w] : List Key).map kV))
  have hz1:=S1 _ _ hz'
  have hw1:=S1 _ _ hwa'
  have tz1:=tz.mono S1.t
  have S01:=S.trans S1
  generalize upd H' va (.tup (([.inl y,.inr w] : List Key).map kV))=H2 at S1 hv1 hz1 hw1 tz1 S01 ⊢
  walk_at "rd"
  rename_i nx n0 n1 q2 hq2
  have w2:=hw _ (getD_mem (Str.empty:Str) (show (nx % 4).toNat < ws.length by omega))
  generalize ws.getD (nx % 4).toNat Str.empty=w3 at w2 ⊢
  have nqz:q2 ≠ z:=Ne.symm (ne_of_none hz1 hq2)
  have nvz:va ≠ z:=ne_of hv1 hz1 (by intro z; cases z)
  have nvq:va ≠ q2:=ne_of_none hv1 hq2
  have T2:SameT H2 (upd (upd H2 q2 (.tup [.ref va,.str w3])) z (.lst (zs ++ [.ref q2]))):=fun c ys e=>by
   rw [upd_ne (ne_of e hz1 (by intro z; cases z)),upd_ne (ne_of_none e hq2)]
   exact e
  refine ⟨⟨zs ++ [.ref q2],rs ++ [([.inl y,.inr w],w3)],_,_,rfl,(S01.new hq2 _).upd hz _,upd_same,?_,by rw [List.length_append,lr]; rfl,fun r hr=>?_⟩⟩
  ·rw [List.map_append]
   refine (tz1.mono T2).append (.cons (.tup (a:=q2) (xs:=[.ref va,.str w3]) (by rw [upd_ne nqz]; exact upd_same) (.cons (.tup (a:=va) (xs:=([.inl y,.inr w] : List Key).map kV) (by rw [upd_ne nvz,upd_ne nvq]; exact hv1) (tvKs _)) (.cons (.str _) .nil))) .nil)
  ·rcases List.mem_append.mp hr with hr | hr
   ·exact ok r hr
   ·rw [List.mem_singleton.mp hr]
    refine ⟨⟨y,w,rfl⟩,⟨fun k hk=>?_,w2⟩⟩
    rcases List.mem_cons.mp hk with rfl | hk
    ·trivial
    ·rw [List.mem_singleton.mp hk]; exact ww
 ·rintro σ H' ⟨⟨zs,rs,o3,o4,rfl,S,hz',tz,lr,ok⟩⟩
  walk_at "rd"
  exact q _ z rs S hz ⟨zs,hz',tz⟩ (by omega) ok
theorem ok_law_refused (T:Tx K mg) : FnOk P w K mg base (CXe P w) 39 T.f_law_refused T.d_law_refused ["_law_node_here", "_law_measure", "_law_group_here"] (sp_ref43 T.c_Leaf T.c_Fork K):=by
 have sc:=sc_law_refused
 refine T.F_law_refused.okx sc (fun vs H Q E h=>?_) (fun cdv A outer s H vs Q E hr h=>?_)
 ·obtain ⟨v,ga,t,m,rs,rfl,nd,wg,lv,sh,gl,n60,rw2,hm,q⟩:=h
  rfl
 obtain ⟨v,ga,t,m,rs,rfl,nd,wg,lv,sh,gl,n60,rw2,hm,q⟩:=h
 have hu:=hr.units0
 have hu2:=hr.units
 have hu1:=Nat.lt_of_le_of_lt (Nat.add_le_add_left (show 1≤64 by decide) _) hu2
 refine ⟨_,(@pss_cons _ _ _ _ _ (ps_tryAs (pex_call (ok_trial T) (hr.mono (by decide)) rfl T.m_trial T.F_trial.kp T.b_trial .nil (pa_cons (pv 0) (pa_cons (pv 1) (pa_cons (pv 2) pa_nil)))) rfl rfl rfl T.m_NoMeasure sc.nd (i:=3) rfl rfl (fun _=>(@pss_one _ _ _ (@ps_ret _ _ _ _ (pe_and (pe_callB call_isiE rfl T.z_isinstance bt_isinstance (pa_cons (pv 3) (pa_cons (pe_glob (v:=.ref T.c_PruneError) rfl T.m_PruneError rfl) pa_nil))) (pe_one (pe_callB call_isiE rfl T.z_isinstance bt_isinstance (pa_cons (pv 3) (pa_cons (pe_bltn (v:=.ty "ValueError") rfl T.z_ValueError bt_ValueError rfl) pa_nil)))))))))
   (@pss_one _ _ _ (@ps_ret _ _ _ _ pe_bl))),?_⟩
 walk_at "kx"
 have t1:∀ u,RelV (V.ref T.c_PruneError) u→PySem.W.kitOne K (.ref T.c_NoMeasure) u=some true:=fun u hu=>by rw [show u=Value.ref T.c_PruneError from hu]; exact T.t1
 have t4:=T.t4
 have i1:=T.i_NoMeasure
 have t3:=isiTy T.t3
 walk_at "rd"
 refine .inr ⟨hm,?_⟩
 walk_at "rd"
 exact q _ (by walk_at "sm")
theorem ok_law_right (T:Tx K mg) : FnOk P w K mg base (CXe P w) 3 T.f_law_right T.d_law_right ["_law_found", "_law_steps", "_law_tree", "_law_group_here"] (sp_right43 K):=by
 have sc:=sc_law_right
 refine T.F_law_right.okx sc (fun vs H Q E h=>?_) (fun cdv A outer s H vs Q E hr h=>?_)
 ·obtain ⟨fa,sa,ga,v,xs,ys,t,m,sts,rs,rfl,hfa,t3,hsa,qv,sl,pis,td,wg,lv,gl,n60,rw2,q⟩:=h
  rfl
 obtain ⟨fa,sa,ga,v,xs,ys,t,m,sts,rs,rfl,hfa,t3,hsa,qv,sl,pis,td,wg,lv,gl,n60,rw2,q⟩:=h
 have hu:=hr.units0
 have hu2:=hr.units
 have hu1:=Nat.lt_of_le_of_lt (Nat.add_le_add_left (show 1≤64 by decide) _) hu2
 refine ⟨_,(@pss_cons _ _ _ _ _ (@ps_mid _ _ _ (@ps_if _ _ _ _ _ _ _ _ (PW.pt (pw_or (pt_not (pt_val (pe_callB call_isi rfl T.z_isinstance bt_isinstance (pa_cons (pv 0) (pa_cons (pe_bltn (v:=.ty "list") rfl T.z_list bt_list rfl) pa_nil))))) (pw_or1 (@pt_cmpR _ _ _ _ _ _ _ _ op_neI (pe_callB call_len_seq rfl T.z_len bt_len (pa_cons (pv 0) pa_nil)) (pe_callB call_len_seq rfl T.z_len bt_len (pa_cons (pv 1) pa_nil)) (nomark _))))) (@pss_one _ _ _ (@ps_ret _ _ _ _ pe_bl)) pss_nil))
   (@pss_cons _ _ _ _ _ (ps_for powx rfl (pi_range1 rfl T.z_range (pa_cons (pe_callB call_len_seq rfl T.z_len bt_len (pa_cons (pv 1) pa_nil)) pa_nil)) (pg_name (i:=4) sc.nd rfl (by walk_at "o1"))
   (@pss_cons _ _ _ _ _ (@ps_mid _ _ _ (@ps_set _ _ 5 _ _ _ _ sc.nd rfl (by walk_at "o1") (@pe_ix _ _ _ _ _ _ _ ix_list (pv 0) (pv 4) (fun _ _=>rfl)) (by rfl) (by walk_at "o2")))
   (@pss_cons _ _ _ _ _ (@ps_mid _ _ _ (@ps_if _ _ _ _ _ _ _ _ (PW.pt (pw_or (pt_not (pt_val (pe_callB call_isi rfl T.z_isinstance bt_isinstance (pa_cons (pv 5) (pa_cons (pe_bltn (v:=.ty "tuple") rfl T.z_tuple bt_tuple rfl) pa_nil))))) (pw_or (@pt_cmpR _ _ _ _ _ _ _ _ op_neI (pe_callB call_len_seq rfl T.z_len bt_len (pa_cons (pv 5) pa_nil)) pe_int (nomark _)) (pw_or1 (@pt_cmpR _ _ _ _ _ _ _ _ (op_neD hu2) (@pe_ix _ _ _ _ _ _ _ ix_tup (pv 5) pe_int (fun _ _=>rfl)) (@pe_ix _ _ _ _ _ _ _ ix_tup (@pe_ix _ _ _ _ _ _ _ ix_list (pv 1) (pv 4) (fun _ _=>rfl)) pe_int (fun _ _=>rfl)) (nomark _)))))) (@pss_one _ _ _ (@ps_ret _ _ _ _ pe_bl)) pss_nil))
   (@pss_cons _ _ _ _ _ (@ps_mid _ _ _ (ps_for powx rfl (pi_list (@pe_lst _ _ _ _ (pa_cons (@pe_ix _ _ _ _ _ _ _ ix_tup (pv 5) pe_int (fun _ _=>rfl)) (pa_cons (@pe_ix _ _ _ _ _ _ _ ix_tup (pv 5) pe_int (fun _ _=>rfl)) pa_nil)))) (pg_name (i:=6) sc.nd rfl (by walk_at "o1"))
   (@pss_one _ _ _ (@ps_if _ _ _ _ _ _ _ _ (PW.pt (pw_or (pt_not (pt_val (pe_callB call_isi rfl T.z_isinstance bt_isinstance (pa_cons (pv 6) (pa_cons (pe_bltn (v:=.ty "int") rfl T.z_int bt_int rfl) pa_nil))))) (pw_or1 (pt_val (pe_callB call_isi rfl T.z_isinstance bt_isinstance (pa_cons (pv 6) (pa_cons (pe_bltn (v:=.ty "bool") rfl T.z_bool bt_bool rfl) pa_nil))))))) (@pss_one _ _ _ (@ps_ret _ _ _ _ pe_bl)) pss_nil))))
   (@pss_one _ _ _ (@ps_if _ _ _ _ _ _ _ _ (PW.pt (pw_or (@pt_cmpR _ _ _ _ _ _ _ _ op_neI (@pe_ix _ _ _ _ _ _ _ ix_tup (pv 5) pe_int (fun _ _=>rfl)) (pe_callB call_len_seq rfl T.z_len bt_len (pa_cons (@pe_ix _ _ _ _ _ _ _ ix_tup (@pe_ix _ _ _ _ _ _ _ ix_list (pv 1) (pv 4) (fun _ _=>rfl)) pe_int (fun _ _=>rfl)) pa_nil)) (nomark _)) (pw_or1 (@pt_cmpR _ _ _ _ _ _ _ _ op_neI (@pe_ix _ _ _ _ _ _ _ ix_tup (pv 5) pe_int (fun _ _=>rfl)) (pe_call (ok_law_missed T) (hr.mono (by decide)) rfl T.m_law_missed T.F_law_missed.kp T.b_law_missed .nil (pass_e fun _ _ z=>z) (pa_cons (pv 2) (pa_cons (@pe_ix _ _ _ _ _ _ _ ix_tup (@pe_ix _ _ _ _ _ _ _ ix_list (pv 1) (pv 4) (fun _ _=>rfl)) pe_int (fun _ _=>rfl)) (pa_cons (pv 3) pa_nil)))) (nomark _))))) (@pss_one _ _ _ (@ps_ret _ _ _ _ pe_bl)) pss_nil))))))
   (@pss_one _ _ _ (@ps_ret _ _ _ _ pe_bl)))),?_⟩
 walk_at "kx"
 have lx:xs.length=sts.length:=by rw [t3.len,List.length_map]
 have ly:=qv.len
 refine ⟨fun σ' H1=>Iv (σ' = [some (.ref fa),some (.ref sa),some v,some (.ref ga),none,none,none]∧H1=H),?_,?_⟩
 ·walk_at "rd"
  exact ⟨⟨rfl,rfl⟩⟩
 rintro σ' H1 ⟨⟨rfl,rfl⟩⟩
 walk_at "rd"
 refine for_range (n:=(((ys.length:Nat) : Int)).toNat) (fun i σ H'=>Iv (∃ o4 o5 o6:Option V,σ = [some (.ref fa),some (.ref sa),some v,some (.ref ga),o4,o5,o6]∧Same H1 H')) ⟨⟨_,_,_,rfl,Same.refl _⟩⟩ ?_ ?_
 ·rintro i σ H' hi ⟨⟨o4,o5,o6,rfl,S⟩⟩
  have i2:i < sts.length:=by omega
  obtain ⟨x,hx⟩ : ∃ x,xs[i]? = some x:=⟨_,List.getElem?_eq_getElem (by omega)⟩
  obtain ⟨y,hy⟩ : ∃ y,ys[i]? = some y:=⟨_,List.getElem?_eq_getElem (by omega)⟩
  obtain ⟨p,r,q1,a,b,rfl,ht,hp,hr⟩:=t3.at hx
  obtain ⟨p2,r2,l2,q2,ps,rfl,hp2,hr2,hl2,hs⟩:=qv.at hy
  rw [List.getElem?_map,hs] at ht
  obtain ⟨e1,e2⟩:=Prod.mk.inj (Option.some.inj ht)
  obtain ⟨e3,e4⟩:=Prod.mk.inj e2
  have e1:q2=q1:=e1
  have e3:((ps.length:Nat) : Int)=a:=e3
  have e4:msd t ps rs=b:=e4
  subst e1 e3 e4
  obtain ⟨gs,pi⟩:=pis _ (List.mem_of_getElem? hs)
  have ex:atI xs (0 + (i:Int))=some (.ref p):=by rw [Int.zero_add]; exact atI_nat hx
  have ey:atI ys (0 + (i:Int))=some (.ref p2):=by rw [Int.zero_add]; exact atI_nat hy
  have hfa':=S _ _ hfa
  have hsa':=S _ _ hsa
  have hp':=S _ _ hp
  have hr':=S _ _ hr
  have hp2':=S _ _ hp2
  have hr2':=S _ _ hr2
  have hl2':=S _ _ hl2
  refine ⟨fun σ' H2=>Iv (σ' = [some (.ref fa),some (.ref sa),some v,some (.ref ga),some (.int (0 + (i:Int))),some (.ref p),o6]∧H2=H'),?_,?_⟩
  ·walk_at "rd"
   exact ⟨⟨rfl,rfl⟩⟩
  rintro σ' H2 ⟨⟨rfl,rfl⟩⟩
  refine ⟨fun σ' H3=>Iv (σ' = [some (.ref fa),some (.ref sa),some v,some (.ref ga),some (.int (0 + (i:Int))),some (.ref p),o6]∧H3=H2),?_,?_⟩
  ·walk_at "rd"
   refine ned (d:=rtD q2) (.tup (SqT.of hr') (.cons (.int _) (.cons (.int _) .nil))) (.tup (SqT.of hr2') (.cons (.int _) (.cons (.int _) .nil))) (shpRt 63 q2) ?_
   walk_at "rd"
   exact ⟨⟨rfl,rfl⟩⟩
  rintro σ' H3 ⟨⟨rfl,rfl⟩⟩
  refine ⟨fun σ' H4=>Iv (∃ o6:Option V,σ' = [some (.ref fa),some (.ref sa),some v,some (.ref ga),some (.int (0 + (i:Int))),some (.ref p),o6]∧Same H3 H4),?_,?_⟩
  ·walk_at "rd"
   rename_i lt hlt
   refine for_list (K:=K) (a:=lt) (xs:=[.int ((ps.length:Nat) : Int),.int (msd t ps rs)]) (fun j σ H'=>Iv (∃ o6:Option V,σ = [some (.ref fa),some (.ref sa),some v,some (.ref ga),some (.int (0 + (i:Int))),some (.ref p),o6]∧H'=upd H3 lt (.lst [.int ((ps.length:Nat) : Int),.int (msd t ps rs)]))) ⟨⟨_,rfl,rfl⟩⟩ (fun j σ H' _ z=>by obtain ⟨⟨_,_,e⟩⟩:=z; rw [e]; exact SqL.of upd_same) ?_ ?_
   ·rintro j y σ H' hj ⟨⟨o6,rfl,rfl⟩⟩
    obtain ⟨n,rfl⟩ : ∃ n:Int,y = .int n:=by
     match j,hj with
     | 0,hj=>exact ⟨_,(Option.some.inj hj).symm⟩
     | 1,hj=>exact ⟨_,(Option.some.inj hj).symm⟩
    walk_at "rd"
    exact ⟨⟨_,rfl,rfl⟩⟩
   ·rintro σ H' ⟨⟨o6,rfl,rfl⟩⟩
    exact ⟨⟨o6,rfl,same_new hlt _⟩⟩
  rintro σ' H4 ⟨⟨o6,rfl,S4⟩⟩
  have S14:=S.trans S4
  have lm2:(ps.map V.str).length=ps.length:=List.length_map _
  have ha4:=S14 _ _ hl2
  have hp4:=S14 _ _ hp
  have hs4:=S14 _ _ hsa
  have hp24:=S14 _ _ hp2
  have td4:=td.same S14
  have gl4:=gl.same S14
  walk_at "rd"
  rename_i H5 S5
  exact ⟨⟨_,_,_,rfl,S14.trans S5⟩⟩
 ·rintro σ H' ⟨⟨o4,o5,o6,rfl,S⟩⟩
  walk_at "rd"
  exact q _ S
theorem ok_law (T:Tx K mg) : FnOk P w K mg base (CXe P w) 40 T.f_law T.d_law ["_law_script"] (sp_law K):=by
 have sc:=sc_law
 refine T.F_law.okx sc (fun vs H Q E h=>?_) (fun cdv A outer s H vs Q E hr h=>?_)
 ·obtain ⟨a,ns,rfl,hS,hl,q⟩:=h
  rfl
 obtain ⟨a,ns,rfl,hS,hl,q⟩:=h
 have hu:=hr.units0
 have hu2:=hr.units
 have hu1:=Nat.lt_of_le_of_lt (Nat.add_le_add_left (show 1≤64 by decide) _) hu2
 refine ⟨_,(@pss_cons _ _ _ _ _ (@ps_mid _ _ _ (@ps_set _ _ 1 _ _ _ _ sc.nd rfl (by walk_at "o1") (pe_call (ok_law_words T) (hr.mono (by decide)) rfl T.m_law_words T.F_law_words.kp T.b_law_words .nil (pass_e fun _ _ z=>z) (pa_cons (@pe_op _ _ _ _ _ _ _ _ op_mod (pe_call (ok_law_cell T) (hr.mono (by decide)) rfl T.m_law_cell T.F_law_cell.kp T.b_law_cell .nil (pass_e fun _ _ z=>z) (pa_cons (pv 0) (pa_cons pe_int pa_nil))) (pe_fold (.int 1000000000000000000000000000000) (@pe_op _ _ _ _ _ _ _ _ op_pow pe_int pe_int) (by walk_at "cf"))) pa_nil)) (by rfl) (by walk_at "o2")))
   (@pss_cons _ _ _ _ _ (@ps_mid _ _ _ (@ps_set _ _ 2 _ _ _ _ sc.nd rfl (by walk_at "o1") (pe_call (ok_law_pile T) (hr.mono (by decide)) rfl T.m_law_pile T.F_law_pile.kp T.b_law_pile .nil (pass_e fun _ _ z=>z) (pa_cons (pe_slice sl_list (pv 0) (po_some pe_int) (po_some pe_int)) (pa_cons (pv 1) (pa_cons pe_int pa_nil)))) (by rfl) (by walk_at "o2")))
   (@pss_cons _ _ _ _ _ (@ps_mid _ _ _ (@ps_set _ _ 3 _ _ _ _ sc.nd rfl (by walk_at "o1") (pe_call (ok_law_node T) (hr.mono (by decide)) rfl T.m_law_node T.F_law_node.kp T.b_law_node .nil (pass_e fun _ _ z=>z) (pa_cons (pv 2) pa_nil)) (by rfl) (by walk_at "o2")))
   (@pss_cons _ _ _ _ _ (@ps_mid _ _ _ (@ps_set _ _ 4 _ _ _ _ sc.nd rfl (by walk_at "o1") (pe_call (ok_law_group T) (hr.mono (by decide)) rfl T.m_law_group T.F_law_group.kp T.b_law_group .nil (pass_e fun _ _ z=>z) (pa_cons (pe_slice sl_list (pv 0) (po_some pe_int) (po_some pe_int)) (pa_cons (pv 1) pa_nil))) (by rfl) (by walk_at "o2")))
   (@pss_cons _ _ _ _ _ (@ps_mid _ _ _ (@ps_set _ _ 5 _ _ _ _ sc.nd rfl (by walk_at "o1") (pe_callTy call_list_of rfl T.z_list bt_list (pa_cons (pv 4) pa_nil)) (by rfl) (by walk_at "o2")))
   (@pss_cons _ _ _ _ _ (@ps_mid _ _ _ (ps_for powx rfl (pi_list (@pe_lst _ _ _ _ (pa_cons pe_str (pa_cons pe_str (pa_cons pe_str pa_nil se_c) se_c) se_c))) (pg_name (i:=6) sc.nd rfl (by walk_at "o1"))
   (@pss_cons _ _ _ _ _ (@ps_mid _ _ _ (@ps_set _ _ 7 _ _ _ _ sc.nd rfl (by walk_at "o1") (pe_call (ok_path T) (hr.mono (by decide)) rfl T.m_path T.F_path.kp T.b_path .nil (pass_e fun _ _ z=>z) (pa_cons (pe_call (ok_costed T) (hr.mono (by decide)) rfl T.m_costed T.F_costed.kp T.b_costed .nil (pass_e fun _ _ z=>z) (pa_cons (pv 3) (pa_cons (pv 6) pa_nil))) pa_nil)) (by rfl) (by walk_at "o2")))
   (@pss_cons _ _ _ _ _ (@ps_mid _ _ _ (@ps_set _ _ 8 _ _ _ _ sc.nd rfl (by walk_at "o1") (pe_call (ok_trial T) (hr.mono (by decide)) rfl T.m_trial T.F_trial.kp T.b_trial .nil (pass_e fun _ _ z=>z) (pa_cons (pv 3) (pa_cons (pv 6) (pa_cons (pv 5) pa_nil)))) (by rfl) (by walk_at "o2")))
   (@pss_cons _ _ _ _ _ (@ps_mid _ _ _ (@ps_if _ _ _ _ _ _ _ _ (PW.pt (pw_or (pt_not (pt_val (pe_call (ok_law_right T) (hr.mono (by decide)) rfl T.m_law_right T.F_law_right.kp T.b_law_right .nil (pass_e fun _ _ z=>z) (pa_cons (pv 8) (pa_cons (pv 7) (pa_cons (pv 2) (pa_cons (pv 4) pa_nil))))))) (pw_or1 (@pt_cmpR _ _ _ _ _ _ _ _ (op_neD hu2) (pv 5) (pv 4) (nomark _))))) (@pss_one _ _ _ (@ps_ret _ _ _ _ pe_bl)) pss_nil))
   (@pss_one _ _ _ (ps_expr (pe_bm0 PySem.F.plainAttrs_list PySem.F.slot_list_clear PySem.F.type_list_clear mt_clear (pv 8)))))))))
   (@pss_cons _ _ _ _ _ (@ps_mid _ _ _ (@ps_set _ _ 9 _ _ _ _ sc.nd rfl (by walk_at "o1") (@pe_ix _ _ _ _ _ _ _ ix_list (@pe_lst _ _ _ _ (@pa_strs _ _ ["", "Shares", "miss", "sharesmisses", "misses "] (by decide +kernel))) (@pe_op _ _ _ _ _ _ _ _ op_mod (pe_call (ok_law_cell T) (hr.mono (by decide)) rfl T.m_law_cell T.F_law_cell.kp T.b_law_cell .nil (pass_e fun _ _ z=>z) (pa_cons (pv 0) (pa_cons pe_int pa_nil))) pe_int) (fun _ _=>rfl)) (by rfl) (by walk_at "o2")))
   (@pss_one _ _ _ (@ps_ret _ _ _ _ (pe_and (pe_call (ok_law_refused T) (hr.mono (by decide)) rfl T.m_law_refused T.F_law_refused.kp T.b_law_refused .nil (pass_e fun _ _ z=>z) (pa_cons (pv 3) (pa_cons (pv 9) (pa_cons (pv 5) pa_nil)))) (pe_one (pe_call (ok_law_refused T) (hr.mono (by decide)) rfl T.m_law_refused T.F_law_refused.kp T.b_law_refused .nil (pass_e fun _ _ z=>z) (pa_cons (pv 3) (pa_cons (pv 9) (pa_cons (@pe_lst _ _ _ _ pa_nil) pa_nil))))))))))))))),?_⟩
 walk_at "kx"
 obtain ⟨⟨ms,em,lm⟩,⟨ls,el,ll⟩⟩:=cut4N ns
 refine ⟨fun σ' H1=>Iv (∃ (wa:Addr) (ws:List Str),σ' = [some (.ref a),some (.ref wa),none,none,none,none,none,none,none,none]∧Same H H1∧H1 wa=some (.lst (ws.map V.str))∧ws.length=4∧∀ w∈ws,isW w=true),?_,?_⟩
 ·walk_at "rd"
  rename_i v0 H1 wa ws S1 hwa0 hwa lw hw
  exact ⟨⟨wa,ws,rfl,S1,hwa,lw,hw⟩⟩
 rintro σ' H1 ⟨⟨wa,ws,rfl,S1,hwa,lw,hw⟩⟩
 have hS1:=hS.same S1
 clear hS
 refine ⟨fun σ' H2=>Iv (∃ (v:V) (t:NT),σ' = [some (.ref a),some (.ref wa),some v,none,none,none,none,none,none,none]∧Same H1 H2∧TD K H2 v t∧Wg t∧t.sz≤32),?_,?_⟩
 ·have hh:Iv (SqF K H1 a (ns.map V.int)):=⟨hS1⟩
  clear hS1
  walk_at "rd"
  refine ⟨hh.o.sq,fun ce hce=>?_⟩
  rw [em]
  have hwa4:=kp (u:=.lst (ms.map V.int)) hwa hce
  have s1:(1:Int)=1∨(1:Int)=10000000000000000000000000:=.inl rfl
  walk_at "rd"
  rename_i H2 v t S2 td wf sz
  exact ⟨⟨v,t,rfl,(same_new hce _).trans S2,td,wf,sz⟩⟩
 rintro σ' H2 ⟨⟨v,t,rfl,S2,td,wg,sz⟩⟩
 have hS2:=hS1.same S2
 have hwa2:=S2 _ _ hwa
 clear hS1 hwa S1 S2
 have lvz:=t.lv_sz
 have dpz:=t.dp_lv
 have lv:t.lv≤20:=by omega
 refine ⟨fun σ' H3=>Iv (∃ (u:V),σ' = [some (.ref a),some (.ref wa),some v,some u,none,none,none,none,none,none]∧Same H2 H3∧ND T.c_Leaf T.c_Fork K H3 u t),?_,?_⟩
 ·walk_at "rd"
  rename_i H3 u S3 nd
  exact ⟨⟨u,rfl,S3,nd⟩⟩
 rintro σ' H3 ⟨⟨u,rfl,S3,nd⟩⟩
 have hS3:=hS2.same S3
 have hwa3:=S3 _ _ hwa2
 have td3:=td.same S3
 clear hS2 hwa2 td S3
 refine ⟨fun σ' H4=>Iv (∃ (ga:Addr) (rs:List Row),σ' = [some (.ref a),some (.ref wa),some v,some u,some (.ref ga),none,none,none,none,none]∧Same H3 H4∧Gl' K H4 ga rs∧rs.length≤60∧∀ r∈rs,Rw2 r),?_,?_⟩
 ·have hh:Iv (SqF K H3 a (ns.map V.int)):=⟨hS3⟩
  clear hS3
  walk_at "rd"
  refine ⟨hh.o.sq,fun ce hce=>?_⟩
  rw [el]
  have hwa4:=kp (u:=.lst (ls.map V.int)) hwa3 hce
  walk_at "rd"
  rename_i H4 ga rs S4 hga0 gl n60 rw2
  exact ⟨⟨ga,rs,rfl,(same_new hce _).trans S4,gl,n60,rw2⟩⟩
 rintro σ' H4 ⟨⟨ga,rs,rfl,S4,gl,n60,rw2⟩⟩
 have hS4:=hS3.same S4
 have td4:=td3.same S4
 have nd4:=nd.same S4
 clear hS3 hwa3 td3 nd S4
 obtain ⟨gx,hgx,tgx⟩:=id gl
 refine ⟨fun σ' H5=>Iv (∃ (ha:Addr),σ' = [some (.ref a),some (.ref wa),some v,some u,some (.ref ga),some (.ref ha),none,none,none,none]∧Same H4 H5∧H5 ha=some (.lst gx)),?_,?_⟩
 ·walk_at "rd"
  rename_i ha hha
  exact ⟨⟨ha,rfl,same_new hha _,upd_same⟩⟩
 rintro σ' H5 ⟨⟨ha,rfl,S5,hha⟩⟩
 have hS5:=hS4.same S5
 have td5:=td4.same S5
 have nd5:=nd4.same S5
 have gl5:=gl.same S5
 have gh5:Gl' K H5 ha rs:=⟨gx,hha,tgx.mono S5.t⟩
 have nz:=wg.nz
 clear hS4 td4 nd4 gl hgx tgx hha S5
 refine ⟨fun σ' H6=>Iv (∃ om os of:Option V,σ' = [some (.ref a),some (.ref wa),some v,some u,some (.ref ga),some (.ref ha),om,os,of,none]∧Same H5 H6),?_,?_⟩
 ·walk_at "rd"
  rename_i ml hml
  have SL:=same_new hml (H:=H5) (.lst [.str "shares", .str "misses", .str "shares"])
  refine for_list (K:=K) (a:=ml) (xs:=[.str "shares", .str "misses", .str "shares"]) (fun j σ' H6=>Iv (∃ om os of:Option V,σ' = [some (.ref a),some (.ref wa),some v,some u,some (.ref ga),some (.ref ha),om,os,of,none]∧Same H5 H6∧H6 ml=some (.lst [.str "shares", .str "misses", .str "shares"]))) ⟨⟨_,_,_,rfl,SL,upd_same⟩⟩ (fun j σ' H6 _ z=>by obtain ⟨⟨_,_,_,_,_,h⟩⟩:=z; exact SqL.of h) ?_ ?_
  ·rintro j y σ' H6 hj ⟨⟨om,os,of,rfl,S6,hml6⟩⟩
   obtain ⟨m,rfl,hm⟩:=ms43 hj
   have sh:=shM hm
   have nd6:=nd5.same S6
   have tlv:=t.tb_lv m
   refine ⟨fun σ' H7=>Iv (∃ (sp:Addr) (xs:List V) (sts:List (Rat × List Str)) (c d:Int),σ' = [some (.ref a),some (.ref wa),some v,some u,some (.ref ga),some (.ref ha),some (.str m),some (.ref sp),of,none]∧Same H6 H7∧H7 sp=some (.lst xs)∧QVs H7 xs sts∧Pth (t.tb m) Bc sts c d []∧sts.length≤21),?_,?_⟩
   ·walk_at "rd"
    refine .inl ⟨hm,fun H7 w S7 cv=>?_⟩
    have tv:=CV.tb wg cv
    have tb:=wg.tb m
    have lt:(t.tb m).lv≤21:=by omega
    have b1:1≤Bc:=by decide
    have b2:Bc≤1000000000000000000000000000000:=by decide
    walk_at "rd"
    rename_i H8 p xs sts c d S8 hp0 hp qv pth sl
    exact ⟨⟨p,xs,sts,c,d,rfl,S7.trans S8,hp,qv,pth,sl⟩⟩
   rintro σ' H7 ⟨⟨sp,xs,sts,c,d,rfl,S7,hsp,qv,pth,sl⟩⟩
   have S57:=S6.trans S7
   have nd7:=nd5.same S57
   have gh7:=gh5.same S57
   refine ⟨fun σ' H8=>Iv (∃ (fa:Addr) (zs:List V),σ' = [some (.ref a),some (.ref wa),some v,some u,some (.ref ga),some (.ref ha),some (.str m),some (.ref sp),some (.ref fa),none]∧Same H7 H8∧H7 fa=none∧H8 fa=some (.lst zs)∧T3s H8 zs (tri t rs sts)),?_,?_⟩
   ·walk_at "rd"
    refine .inl ⟨hm,fun H8 p zs st2 c2 d2 S8 hp0 hp t3 pth2 sl2=>?_⟩
    obtain rfl:=Pth.full bc_0 pth2 pth
    exact ⟨⟨p,zs,rfl,S8,hp0,hp,t3⟩⟩
   rintro σ' H8 ⟨⟨fa,zs,rfl,S8,hfa0,hfa,t3⟩⟩
   have S58:=S57.trans S8
   have td8:=td5.same S58
   have gl8:=gl5.same S58
   have gh8:=gh5.same S58
   have hsp8:=S8 _ _ hsp
   have qv8:=qv.same S8
   have hml8:=S8 _ _ (S7 _ _ hml6)
   have hfa5:=S57.free hfa0
   have nmf:ml ≠ fa:=ne_of_none (S7 _ _ hml6) hfa0
   have pis:∀ s∈sts,∃ gs,PI (t.tb m) "" s.2 gs:=fun s hs=>((pth.all bc_0).2 s hs).1
   refine ⟨fun σ' H9=>Iv (σ' = [some (.ref a),some (.ref wa),some v,some u,some (.ref ga),some (.ref ha),some (.str m),some (.ref sp),some (.ref fa),none]∧Same H8 H9),?_,?_⟩
   ·walk_at "rd"
    rename_i H9 S9
    refine ned (d:=.list (rs.map rowD)) (gh8.same S9).dv (gl8.same S9).dv (shRs rw2) ?_
    walk_at "rd"
    exact ⟨⟨rfl,S9⟩⟩
   rintro σ' H9 ⟨⟨rfl,S9⟩⟩
   have hfa9:=S9 _ _ hfa
   have hml9:=S9 _ _ hml8
   walk_at "rd"
   exact ⟨⟨_,_,_,rfl,(S58.trans S9).upd hfa5 _,by rw [upd_ne nmf]; exact hml9⟩⟩
  ·rintro σ' H6 ⟨⟨om,os,of,rfl,S6,_⟩⟩
   exact ⟨⟨_,_,_,rfl,S6⟩⟩
 rintro σ' H6 ⟨⟨om,os,of,rfl,S6⟩⟩
 have hS6:=hS5.same S6
 have nd6:=nd5.same S6
 have gh6:=gh5.same S6
 clear hS5 td5 nd5 gl5 gh5
 refine ⟨fun σ' H7=>Iv (∃ (o:Str),σ' = [some (.ref a),some (.ref wa),some v,some u,some (.ref ga),some (.ref ha),om,os,of,some (.str o)]∧Same H6 H7∧Sh o∧¬ isM o),?_,?_⟩
 ·walk_at "rd"
  rename_i pl hpl v1
  refine ⟨ot43_at (d:=v1 % 5) (by omega) (by omega),?_⟩
  exact ⟨⟨_,rfl,same_new hpl _,(ot43_no _).1,(ot43_no _).2⟩⟩
 rintro σ' H7 ⟨⟨o,rfl,S7,sh,nm⟩⟩
 have nd7:=nd6.same S7
 have gh7:=gh6.same S7
 walk_at "rd"
 rename_i H8 S8 em hem
 have e8:Gl' K (upd H8 em (.lst [])) em []:=⟨[],upd_same,.nil⟩
 exact ⟨(nd7.same S8).same (same_new hem _),wg,lv,sh,e8,Nat.zero_le _,(fun r hr=>by cases hr),nm,fun _ _=>q _⟩
end
theorem fin {K:PySem.W.Frag}{h:Heap}{mg:Str→Option Value}{fa f0 f1 f2 f3 f4 f5 f6 f7 f8 f9 f10 f11 f12 f13 f14 f15 f16 f17 f18 f19 f20 f21 f22 f23 f24 f25 f26 f27 f28 f29 f30 f31 f32 f33 f34 f35 f36 f37 f38 f39 f40 f41 f42 f43 f44 f45 f46 f47 f48 f49 f50 f51 f52 f53 f54 f55 f56 f57 f58 f59 f60 c_PruneError c_NoRatio c_NoMeasure c_NoPlace c_NoPrice c_Node c_Leaf c_Fork c_MEASURES:Addr}(X:K.In h) (G:h.Ns mainGlobals mg) (hfa:mg "law" = some (.ref fa))
  {od0 an0 od1 an1 od2 an2 od3 an3 od4 an4 od5 an5 od6 an6 od7 an7 od8 an8 od9 an9 od10 an10 od11 an11 od12 an12 od13 an13 od14 an14 od15 an15 od16 an16 od17 an17 od18 an18 od19 an19 od20 an20 od21 an21 od22 an22 od23 an23 od24 an24 od25 an25 od26 an26 od27 an27 od28 an28 od29 an29 od30 an30 od31 an31 od32 an32 od33 an33 od34 an34 od35 an35 od36 an36 od37 an37 od38 an38 od39 an39 od40 an40 od41 an41 od42 an42 od43 an43 od44 an44 od45 an45 od46 an46 od47 an47 od48 an48 od49 an49 od50 an50 od51 an51 od52 an52 od53 an53 od54 an54 od55 an55 od56 an56 od57 an57 od58 an58 od59 an59 od60 an60:Option Addr}{sl0 sl1 sl2 sl3 sl4 sl5 sl6 sl7 sl8 sl9 sl10 sl11 sl12 sl13 sl14 sl15 sl16 sl17 sl18 sl19 sl20 sl21 sl22 sl23 sl24 sl25 sl26 sl27 sl28 sl29 sl30 sl31 sl32 sl33 sl34 sl35 sl36 sl37 sl38 sl39 sl40 sl41 sl42 sl43 sl44 sl45 sl46 sl47 sl48 sl49 sl50 sl51 sl52 sl53 sl54 sl55 sl56 sl57 sl58 sl59 sl60:Array (Option Value)}{oc0 kV0 dc0 pm0 cd0 ct0 oc1 kV1 dc1 pm1 cd1 ct1 oc2 kV2 dc2 pm2 cd2 ct2 oc3 kV3 dc3 pm3 cd3 ct3 oc4 kV4 dc4 pm4 cd4 ct4 oc5 kV5 dc5 pm5 cd5 ct5 oc6 kV6 dc6 pm6 cd6 ct6 oc7 kV7 dc7 pm7 cd7 ct7 oc8 kV8 dc8 pm8 cd8 ct8 oc9 kV9 dc9 pm9 cd9 ct9 oc10 kV10 dc10 pm10 cd10 ct10 oc11 kV11 dc11 pm11 cd11 ct11 oc12 kV12 dc12 pm12 cd12 ct12 oc13 kV13 dc13 pm13 cd13 ct13 oc14 kV14 dc14 pm14 cd14 ct14 oc15 kV15 dc15 pm15 cd15 ct15 oc16 kV16 dc16 pm16 cd16 ct16 oc17 kV17 dc17 pm17 cd17 ct17 oc18 kV18 dc18 pm18 cd18 ct18 oc19 kV19 dc19 pm19 cd19 ct19 oc20 kV20 dc20 pm20 cd20 ct20 oc21 kV21 dc21 pm21 cd21 ct21 oc22 kV22 dc22 pm22 cd22 ct22 oc23 kV23 dc23 pm23 cd23 ct23 oc24 kV24 dc24 pm24 cd24 ct24 oc25 kV25 dc25 pm25 cd25 ct25 oc26 kV26 dc26 pm26 cd26 ct26 oc27 kV27 dc27 pm27 cd27 ct27 oc28 kV28 dc28 pm28 cd28 ct28 oc29 kV29 dc29 pm29 cd29 ct29 oc30 kV30 dc30 pm30 cd30 ct30 oc31 kV31 dc31 pm31 cd31 ct31 oc32 kV32 dc32 pm32 cd32 ct32 oc33 kV33 dc33 pm33 cd33 ct33 oc34 kV34 dc34 pm34 cd34 ct34 oc35 kV35 dc35 pm35 cd35 ct35 oc36 kV36 dc36 pm36 cd36 ct36 oc37 kV37 dc37 pm37 cd37 ct37 oc38 kV38 dc38 pm38 cd38 ct38 oc39 kV39 dc39 pm39 cd39 ct39 oc40 kV40 dc40 pm40 cd40 ct40 oc41 kV41 dc41 pm41 cd41 ct41 oc42 kV42 dc42 pm42 cd42 ct42 oc43 kV43 dc43 pm43 cd43 ct43 oc44 kV44 dc44 pm44 cd44 ct44 oc45 kV45 dc45 pm45 cd45 ct45 oc46 kV46 dc46 pm46 cd46 ct46 oc47 kV47 dc47 pm47 cd47 ct47 oc48 kV48 dc48 pm48 cd48 ct48 oc49 kV49 dc49 pm49 cd49 ct49 oc50 kV50 dc50 pm50 cd50 ct50 oc51 kV51 dc51 pm51 cd51 ct51 oc52 kV52 dc52 pm52 cd52 ct52 oc53 kV53 dc53 pm53 cd53 ct53 oc54 kV54 dc54 pm54 cd54 ct54 oc55 kV55 dc55 pm55 cd55 ct55 oc56 kV56 dc56 pm56 cd56 ct56 oc57 kV57 dc57 pm57 cd57 ct57 oc58 kV58 dc58 pm58 cd58 ct58 oc59 kV59 dc59 pm59 cd59 ct59 oc60 kV60 dc60 pm60 cd60 ct60:Value}
  {o_MEASURES:Obj}
  (a_PruneError:PySem.W.nsIn K mainGlobals "PruneError" = some (some (.ref c_PruneError)))
  (a_NoRatio:PySem.W.nsIn K mainGlobals "NoRatio" = some (some (.ref c_NoRatio)))
  (e_NoRatio:PySem.W.excIn K c_NoRatio [.type "ValueError", .type "Exception", .type "BaseException", .type "object"] "ValueError.__new__" = true)
  (ga_NoRatio:PySem.W.findIn K (.ref c_NoRatio) "__getattribute__" = some (some (.builtin "BaseException.__getattribute__")))
  (gt_NoRatio:PySem.W.findIn K (.ref c_NoRatio) "__getattr__" = some none)
  (cl_NoRatio:PySem.W.findIn K (.ref c_NoRatio) "__class__" = some (some (.builtin "object.__class__")))
  (mb_NoRatio:PySem.W.mroIn K c_NoRatio (.type "BaseException")=some true)
  (mo_NoRatio:PySem.W.mroIn K c_NoRatio (.type "object")=some true)
  (a_NoMeasure:PySem.W.nsIn K mainGlobals "NoMeasure" = some (some (.ref c_NoMeasure)))
  (e_NoMeasure:PySem.W.excIn K c_NoMeasure [.type "ValueError", .type "Exception", .type "BaseException", .type "object"] "ValueError.__new__" = true)
  (ga_NoMeasure:PySem.W.findIn K (.ref c_NoMeasure) "__getattribute__" = some (some (.builtin "BaseException.__getattribute__")))
  (gt_NoMeasure:PySem.W.findIn K (.ref c_NoMeasure) "__getattr__" = some none)
  (cl_NoMeasure:PySem.W.findIn K (.ref c_NoMeasure) "__class__" = some (some (.builtin "object.__class__")))
  (mb_NoMeasure:PySem.W.mroIn K c_NoMeasure (.type "BaseException")=some true)
  (mo_NoMeasure:PySem.W.mroIn K c_NoMeasure (.type "object")=some true)
  (a_NoPlace:PySem.W.nsIn K mainGlobals "NoPlace" = some (some (.ref c_NoPlace)))
  (a_NoPrice:PySem.W.nsIn K mainGlobals "NoPrice" = some (some (.ref c_NoPrice)))
  (a_Node:PySem.W.nsIn K mainGlobals "Node" = some (some (.ref c_Node)))
  (pg_Node:PySem.W.plainGet K c_Node Str.empty=true)
  (hd_Node:PySem.W.hasDictIn K c_Node=true)
  (po_Node:PySem.W.plainOver K c_Node=true)
  (sa_Node:PySem.W.findIn K (.ref c_Node) "__setattr__" = some (some (.builtin "object.__setattr__")))
  (a_Leaf:PySem.W.nsIn K mainGlobals "Leaf" = some (some (.ref c_Leaf)))
  (pg_Leaf:PySem.W.plainGet K c_Leaf Str.empty=true)
  (hd_Leaf:PySem.W.hasDictIn K c_Leaf=true)
  (po_Leaf:PySem.W.plainOver K c_Leaf=true)
  (sa_Leaf:PySem.W.findIn K (.ref c_Leaf) "__setattr__" = some (some (.builtin "object.__setattr__")))
  (a_Fork:PySem.W.nsIn K mainGlobals "Fork" = some (some (.ref c_Fork)))
  (pg_Fork:PySem.W.plainGet K c_Fork Str.empty=true)
  (hd_Fork:PySem.W.hasDictIn K c_Fork=true)
  (po_Fork:PySem.W.plainOver K c_Fork=true)
  (sa_Fork:PySem.W.findIn K (.ref c_Fork) "__setattr__" = some (some (.builtin "object.__setattr__")))
  (a0:PySem.W.nsIn K mainGlobals "is_whole" = some (some (.ref f0)))
  (l0:K.lookup f0=some ⟨oc0,od0,.func (PySem.W.fnOf "is_whole" "is_whole" (defArgs s_is_whole) (defBody s_is_whole) (defScope s_is_whole) .none kV0 dc0 pm0 an0 cd0 ct0),sl0⟩)
  (k_c0:PySem.W.codeIn K cd0 "is_whole" = true)
  (k_k0:PySem.W.keepIn K (.ref f0)=true)
  (a1:PySem.W.nsIn K mainGlobals "greatest_divisor" = some (some (.ref f1)))
  (l1:K.lookup f1=some ⟨oc1,od1,.func (PySem.W.fnOf "greatest_divisor" "greatest_divisor" (defArgs s_greatest_divisor) (defBody s_greatest_divisor) (defScope s_greatest_divisor) .none kV1 dc1 pm1 an1 cd1 ct1),sl1⟩)
  (k_c1:PySem.W.codeIn K cd1 "greatest_divisor" = true)
  (k_k1:PySem.W.keepIn K (.ref f1)=true)
  (a2:PySem.W.nsIn K mainGlobals "ratio" = some (some (.ref f2)))
  (l2:K.lookup f2=some ⟨oc2,od2,.func (PySem.W.fnOf "ratio" "ratio" (defArgs s_ratio) (defBody s_ratio) (defScope s_ratio) .none kV2 dc2 pm2 an2 cd2 ct2),sl2⟩)
  (k_c2:PySem.W.codeIn K cd2 "ratio" = true)
  (k_k2:PySem.W.keepIn K (.ref f2)=true)
  (a3:PySem.W.nsIn K mainGlobals "check_measure" = some (some (.ref f3)))
  (l3:K.lookup f3=some ⟨oc3,od3,.func (PySem.W.fnOf "check_measure" "check_measure" (defArgs s_check_measure) (defBody s_check_measure) (defScope s_check_measure) .none kV3 dc3 pm3 an3 cd3 ct3),sl3⟩)
  (k_c3:PySem.W.codeIn K cd3 "check_measure" = true)
  (k_k3:PySem.W.keepIn K (.ref f3)=true)
  (a4:PySem.W.nsIn K mainGlobals "commonest" = some (some (.ref f4)))
  (l4:K.lookup f4=some ⟨oc4,od4,.func (PySem.W.fnOf "commonest" "commonest" (defArgs s_commonest) (defBody s_commonest) (defScope s_commonest) .none kV4 dc4 pm4 an4 cd4 ct4),sl4⟩)
  (k_c4:PySem.W.codeIn K cd4 "commonest" = true)
  (k_k4:PySem.W.keepIn K (.ref f4)=true)
  (a5:PySem.W.nsIn K mainGlobals "all_rows" = some (some (.ref f5)))
  (l5:K.lookup f5=some ⟨oc5,od5,.func (PySem.W.fnOf "all_rows" "all_rows" (defArgs s_all_rows) (defBody s_all_rows) (defScope s_all_rows) .none kV5 dc5 pm5 an5 cd5 ct5),sl5⟩)
  (k_c5:PySem.W.codeIn K cd5 "all_rows" = true)
  (k_k5:PySem.W.keepIn K (.ref f5)=true)
  (a6:PySem.W.nsIn K mainGlobals "misses" = some (some (.ref f6)))
  (l6:K.lookup f6=some ⟨oc6,od6,.func (PySem.W.fnOf "misses" "misses" (defArgs s_misses) (defBody s_misses) (defScope s_misses) .none kV6 dc6 pm6 an6 cd6 ct6),sl6⟩)
  (k_c6:PySem.W.codeIn K cd6 "misses" = true)
  (k_k6:PySem.W.keepIn K (.ref f6)=true)
  (a7:PySem.W.nsIn K mainGlobals "shares" = some (some (.ref f7)))
  (l7:K.lookup f7=some ⟨oc7,od7,.func (PySem.W.fnOf "shares" "shares" (defArgs s_shares) (defBody s_shares) (defScope s_shares) .none kV7 dc7 pm7 an7 cd7 ct7),sl7⟩)
  (k_c7:PySem.W.codeIn K cd7 "shares" = true)
  (k_k7:PySem.W.keepIn K (.ref f7)=true)
  (a8:PySem.W.nsIn K mainGlobals "mess" = some (some (.ref f8)))
  (l8:K.lookup f8=some ⟨oc8,od8,.func (PySem.W.fnOf "mess" "mess" (defArgs s_mess) (defBody s_mess) (defScope s_mess) .none kV8 dc8 pm8 an8 cd8 ct8),sl8⟩)
  (k_c8:PySem.W.codeIn K cd8 "mess" = true)
  (k_k8:PySem.W.keepIn K (.ref f8)=true)
  (a9:PySem.W.nsIn K mainGlobals "says" = some (some (.ref f9)))
  (l9:K.lookup f9=some ⟨oc9,od9,.func (PySem.W.fnOf "says" "says" (defArgs s_says) (defBody s_says) (defScope s_says) .none kV9 dc9 pm9 an9 cd9 ct9),sl9⟩)
  (k_c9:PySem.W.codeIn K cd9 "says" = true)
  (k_k9:PySem.W.keepIn K (.ref f9)=true)
  (a10:PySem.W.findIn K (.ref c_Node) "__init__" = some (some (.ref f10)))
  (i10:PySem.W.isFn K (.ref f10)=true)
  (mk_Node:PySem.W.makesIn K c_Node=true)
  (kc_Node:PySem.W.keepIn K (.ref c_Node)=true)
  (l10:K.lookup f10=some ⟨oc10,od10,.func (PySem.W.fnOf "__init__" "Node.__init__" (defArgs s_Node___init__) (defBody s_Node___init__) (defScope s_Node___init__) .none kV10 dc10 pm10 an10 cd10 ct10),sl10⟩)
  (k_c10:PySem.W.codeIn K cd10 "Node.__init__" = true)
  (k_k10:PySem.W.keepIn K (.ref f10)=true)
  (a11:PySem.W.findIn K (.ref c_Leaf) "below" = some (some (.ref f11)))
  (i11:PySem.W.isFn K (.ref f11)=true)
  (l11:K.lookup f11=some ⟨oc11,od11,.func (PySem.W.fnOf "below" "Leaf.below" (defArgs s_Leaf_below) (defBody s_Leaf_below) (defScope s_Leaf_below) .none kV11 dc11 pm11 an11 cd11 ct11),sl11⟩)
  (k_c11:PySem.W.codeIn K cd11 "Leaf.below" = true)
  (k_k11:PySem.W.keepIn K (.ref f11)=true)
  (a12:PySem.W.findIn K (.ref c_Leaf) "leaves" = some (some (.ref f12)))
  (i12:PySem.W.isFn K (.ref f12)=true)
  (l12:K.lookup f12=some ⟨oc12,od12,.func (PySem.W.fnOf "leaves" "Leaf.leaves" (defArgs s_Leaf_leaves) (defBody s_Leaf_leaves) (defScope s_Leaf_leaves) .none kV12 dc12 pm12 an12 cd12 ct12),sl12⟩)
  (k_c12:PySem.W.codeIn K cd12 "Leaf.leaves" = true)
  (k_k12:PySem.W.keepIn K (.ref f12)=true)
  (a13:PySem.W.findIn K (.ref c_Leaf) "deep" = some (some (.ref f13)))
  (i13:PySem.W.isFn K (.ref f13)=true)
  (l13:K.lookup f13=some ⟨oc13,od13,.func (PySem.W.fnOf "deep" "Leaf.deep" (defArgs s_Leaf_deep) (defBody s_Leaf_deep) (defScope s_Leaf_deep) .none kV13 dc13 pm13 an13 cd13 ct13),sl13⟩)
  (k_c13:PySem.W.codeIn K cd13 "Leaf.deep" = true)
  (k_k13:PySem.W.keepIn K (.ref f13)=true)
  (a14:PySem.W.findIn K (.ref c_Leaf) "place_of" = some (some (.ref f14)))
  (i14:PySem.W.isFn K (.ref f14)=true)
  (l14:K.lookup f14=some ⟨oc14,od14,.func (PySem.W.fnOf "place_of" "Leaf.place_of" (defArgs s_Leaf_place_of) (defBody s_Leaf_place_of) (defScope s_Leaf_place_of) .none kV14 dc14 pm14 an14 cd14 ct14),sl14⟩)
  (k_c14:PySem.W.codeIn K cd14 "Leaf.place_of" = true)
  (k_k14:PySem.W.keepIn K (.ref f14)=true)
  (a15:PySem.W.findIn K (.ref c_Fork) "below" = some (some (.ref f15)))
  (i15:PySem.W.isFn K (.ref f15)=true)
  (l15:K.lookup f15=some ⟨oc15,od15,.func (PySem.W.fnOf "below" "Fork.below" (defArgs s_Fork_below) (defBody s_Fork_below) (defScope s_Fork_below) .none kV15 dc15 pm15 an15 cd15 ct15),sl15⟩)
  (k_c15:PySem.W.codeIn K cd15 "Fork.below" = true)
  (k_k15:PySem.W.keepIn K (.ref f15)=true)
  (a16:PySem.W.findIn K (.ref c_Fork) "leaves" = some (some (.ref f16)))
  (i16:PySem.W.isFn K (.ref f16)=true)
  (l16:K.lookup f16=some ⟨oc16,od16,.func (PySem.W.fnOf "leaves" "Fork.leaves" (defArgs s_Fork_leaves) (defBody s_Fork_leaves) (defScope s_Fork_leaves) .none kV16 dc16 pm16 an16 cd16 ct16),sl16⟩)
  (k_c16:PySem.W.codeIn K cd16 "Fork.leaves" = true)
  (k_k16:PySem.W.keepIn K (.ref f16)=true)
  (a17:PySem.W.findIn K (.ref c_Fork) "deep" = some (some (.ref f17)))
  (i17:PySem.W.isFn K (.ref f17)=true)
  (l17:K.lookup f17=some ⟨oc17,od17,.func (PySem.W.fnOf "deep" "Fork.deep" (defArgs s_Fork_deep) (defBody s_Fork_deep) (defScope s_Fork_deep) .none kV17 dc17 pm17 an17 cd17 ct17),sl17⟩)
  (k_c17:PySem.W.codeIn K cd17 "Fork.deep" = true)
  (k_k17:PySem.W.keepIn K (.ref f17)=true)
  (a18:PySem.W.findIn K (.ref c_Fork) "place_of" = some (some (.ref f18)))
  (i18:PySem.W.isFn K (.ref f18)=true)
  (l18:K.lookup f18=some ⟨oc18,od18,.func (PySem.W.fnOf "place_of" "Fork.place_of" (defArgs s_Fork_place_of) (defBody s_Fork_place_of) (defScope s_Fork_place_of) .none kV18 dc18 pm18 an18 cd18 ct18),sl18⟩)
  (k_c18:PySem.W.codeIn K cd18 "Fork.place_of" = true)
  (k_k18:PySem.W.keepIn K (.ref f18)=true)
  (a19:PySem.W.findIn K (.ref c_Fork) "__init__" = some (some (.ref f19)))
  (i19:PySem.W.isFn K (.ref f19)=true)
  (mk_Fork:PySem.W.makesIn K c_Fork=true)
  (kc_Fork:PySem.W.keepIn K (.ref c_Fork)=true)
  (l19:K.lookup f19=some ⟨oc19,od19,.func (PySem.W.fnOf "__init__" "Fork.__init__" (defArgs s_Fork___init__) (defBody s_Fork___init__) (defScope s_Fork___init__) .none kV19 dc19 pm19 an19 cd19 ct19),sl19⟩)
  (k_c19:PySem.W.codeIn K cd19 "Fork.__init__" = true)
  (k_k19:PySem.W.keepIn K (.ref f19)=true)
  (a20:PySem.W.findIn K (.ref c_Node) "at" = some (some (.ref f20)))
  (i20:PySem.W.isFn K (.ref f20)=true)
  (l20:K.lookup f20=some ⟨oc20,od20,.func (PySem.W.fnOf "at" "Node.at" (defArgs s_Node_at) (defBody s_Node_at) (defScope s_Node_at) .none kV20 dc20 pm20 an20 cd20 ct20),sl20⟩)
  (k_c20:PySem.W.codeIn K cd20 "Node.at" = true)
  (k_k20:PySem.W.keepIn K (.ref f20)=true)
  (a21:PySem.W.nsIn K mainGlobals "costed" = some (some (.ref f21)))
  (l21:K.lookup f21=some ⟨oc21,od21,.func (PySem.W.fnOf "costed" "costed" (defArgs s_costed) (defBody s_costed) (defScope s_costed) .none kV21 dc21 pm21 an21 cd21 ct21),sl21⟩)
  (k_c21:PySem.W.codeIn K cd21 "costed" = true)
  (k_k21:PySem.W.keepIn K (.ref f21)=true)
  (a22:PySem.W.nsIn K mainGlobals "plus" = some (some (.ref f22)))
  (l22:K.lookup f22=some ⟨oc22,od22,.func (PySem.W.fnOf "plus" "plus" (defArgs s_plus) (defBody s_plus) (defScope s_plus) .none kV22 dc22 pm22 an22 cd22 ct22),sl22⟩)
  (k_c22:PySem.W.codeIn K cd22 "plus" = true)
  (k_k22:PySem.W.keepIn K (.ref f22)=true)
  (a23:PySem.W.nsIn K mainGlobals "minus" = some (some (.ref f23)))
  (l23:K.lookup f23=some ⟨oc23,od23,.func (PySem.W.fnOf "minus" "minus" (defArgs s_minus) (defBody s_minus) (defScope s_minus) .none kV23 dc23 pm23 an23 cd23 ct23),sl23⟩)
  (k_c23:PySem.W.codeIn K cd23 "minus" = true)
  (k_k23:PySem.W.keepIn K (.ref f23)=true)
  (a24:PySem.W.nsIn K mainGlobals "under" = some (some (.ref f24)))
  (l24:K.lookup f24=some ⟨oc24,od24,.func (PySem.W.fnOf "under" "under" (defArgs s_under) (defBody s_under) (defScope s_under) .none kV24 dc24 pm24 an24 cd24 ct24),sl24⟩)
  (k_c24:PySem.W.codeIn K cd24 "under" = true)
  (k_k24:PySem.W.keepIn K (.ref f24)=true)
  (a25:PySem.W.nsIn K mainGlobals "trees_by_place" = some (some (.ref f25)))
  (l25:K.lookup f25=some ⟨oc25,od25,.func (PySem.W.fnOf "trees_by_place" "trees_by_place" (defArgs s_trees_by_place) (defBody s_trees_by_place) (defScope s_trees_by_place) .none kV25 dc25 pm25 an25 cd25 ct25),sl25⟩)
  (k_c25:PySem.W.codeIn K cd25 "trees_by_place" = true)
  (k_k25:PySem.W.keepIn K (.ref f25)=true)
  (a26:PySem.W.nsIn K mainGlobals "places_of" = some (some (.ref f26)))
  (l26:K.lookup f26=some ⟨oc26,od26,.func (PySem.W.fnOf "places_of" "places_of" (defArgs s_places_of) (defBody s_places_of) (defScope s_places_of) .none kV26 dc26 pm26 an26 cd26 ct26),sl26⟩)
  (k_c26:PySem.W.codeIn K cd26 "places_of" = true)
  (k_k26:PySem.W.keepIn K (.ref f26)=true)
  (a27:PySem.W.nsIn K mainGlobals "forks" = some (some (.ref f27)))
  (l27:K.lookup f27=some ⟨oc27,od27,.func (PySem.W.fnOf "forks" "forks" (defArgs s_forks) (defBody s_forks) (defScope s_forks) .none kV27 dc27 pm27 an27 cd27 ct27),sl27⟩)
  (k_c27:PySem.W.codeIn K cd27 "forks" = true)
  (k_k27:PySem.W.keepIn K (.ref f27)=true)
  (a28:PySem.W.nsIn K mainGlobals "common_bottom" = some (some (.ref f28)))
  (l28:K.lookup f28=some ⟨oc28,od28,.func (PySem.W.fnOf "common_bottom" "common_bottom" (defArgs s_common_bottom) (defBody s_common_bottom) (defScope s_common_bottom) .none kV28 dc28 pm28 an28 cd28 ct28),sl28⟩)
  (k_c28:PySem.W.codeIn K cd28 "common_bottom" = true)
  (k_k28:PySem.W.keepIn K (.ref f28)=true)
  (a29:PySem.W.nsIn K mainGlobals "lifted" = some (some (.ref f29)))
  (l29:K.lookup f29=some ⟨oc29,od29,.func (PySem.W.fnOf "lifted" "lifted" (defArgs s_lifted) (defBody s_lifted) (defScope s_lifted) .none kV29 dc29 pm29 an29 cd29 ct29),sl29⟩)
  (k_c29:PySem.W.codeIn K cd29 "lifted" = true)
  (k_k29:PySem.W.keepIn K (.ref f29)=true)
  (a30:PySem.W.nsIn K mainGlobals "in_whole_costs" = some (some (.ref f30)))
  (l30:K.lookup f30=some ⟨oc30,od30,.func (PySem.W.fnOf "in_whole_costs" "in_whole_costs" (defArgs s_in_whole_costs) (defBody s_in_whole_costs) (defScope s_in_whole_costs) .none kV30 dc30 pm30 an30 cd30 ct30),sl30⟩)
  (k_c30:PySem.W.codeIn K cd30 "in_whole_costs" = true)
  (k_k30:PySem.W.keepIn K (.ref f30)=true)
  (a31:PySem.W.nsIn K mainGlobals "beginnings" = some (some (.ref f31)))
  (l31:K.lookup f31=some ⟨oc31,od31,.func (PySem.W.fnOf "beginnings" "beginnings" (defArgs s_beginnings) (defBody s_beginnings) (defScope s_beginnings) .none kV31 dc31 pm31 an31 cd31 ct31),sl31⟩)
  (k_c31:PySem.W.codeIn K cd31 "beginnings" = true)
  (k_k31:PySem.W.keepIn K (.ref f31)=true)
  (a32:PySem.W.nsIn K mainGlobals "check_price" = some (some (.ref f32)))
  (l32:K.lookup f32=some ⟨oc32,od32,.func (PySem.W.fnOf "check_price" "check_price" (defArgs s_check_price) (defBody s_check_price) (defScope s_check_price) .none kV32 dc32 pm32 an32 cd32 ct32),sl32⟩)
  (k_c32:PySem.W.codeIn K cd32 "check_price" = true)
  (k_k32:PySem.W.keepIn K (.ref f32)=true)
  (a33:PySem.W.nsIn K mainGlobals "unreduced_sum" = some (some (.ref f33)))
  (l33:K.lookup f33=some ⟨oc33,od33,.func (PySem.W.fnOf "unreduced_sum" "unreduced_sum" (defArgs s_unreduced_sum) (defBody s_unreduced_sum) (defScope s_unreduced_sum) .none kV33 dc33 pm33 an33 cd33 ct33),sl33⟩)
  (k_c33:PySem.W.codeIn K cd33 "unreduced_sum" = true)
  (k_k33:PySem.W.keepIn K (.ref f33)=true)
  (a34:PySem.W.nsIn K mainGlobals "cheapest_with_cost" = some (some (.ref f34)))
  (l34:K.lookup f34=some ⟨oc34,od34,.func (PySem.W.fnOf "cheapest_with_cost" "cheapest_with_cost" (defArgs s_cheapest_with_cost) (defBody s_cheapest_with_cost) (defScope s_cheapest_with_cost) .none kV34 dc34 pm34 an34 cd34 ct34),sl34⟩)
  (k_c34:PySem.W.codeIn K cd34 "cheapest_with_cost" = true)
  (k_k34:PySem.W.keepIn K (.ref f34)=true)
  (a35:PySem.W.nsIn K mainGlobals "cheapest" = some (some (.ref f35)))
  (l35:K.lookup f35=some ⟨oc35,od35,.func (PySem.W.fnOf "cheapest" "cheapest" (defArgs s_cheapest) (defBody s_cheapest) (defScope s_cheapest) .none kV35 dc35 pm35 an35 cd35 ct35),sl35⟩)
  (k_c35:PySem.W.codeIn K cd35 "cheapest" = true)
  (k_k35:PySem.W.keepIn K (.ref f35)=true)
  (a36:PySem.W.nsIn K mainGlobals "forks_inside" = some (some (.ref f36)))
  (l36:K.lookup f36=some ⟨oc36,od36,.func (PySem.W.fnOf "forks_inside" "forks_inside" (defArgs s_forks_inside) (defBody s_forks_inside) (defScope s_forks_inside) .none kV36 dc36 pm36 an36 cd36 ct36),sl36⟩)
  (k_c36:PySem.W.codeIn K cd36 "forks_inside" = true)
  (k_k36:PySem.W.keepIn K (.ref f36)=true)
  (a37:PySem.W.nsIn K mainGlobals "shared_out" = some (some (.ref f37)))
  (l37:K.lookup f37=some ⟨oc37,od37,.func (PySem.W.fnOf "shared_out" "shared_out" (defArgs s_shared_out) (defBody s_shared_out) (defScope s_shared_out) .none kV37 dc37 pm37 an37 cd37 ct37),sl37⟩)
  (k_c37:PySem.W.codeIn K cd37 "shared_out" = true)
  (k_k37:PySem.W.keepIn K (.ref f37)=true)
  (a38:PySem.W.nsIn K mainGlobals "link_inside" = some (some (.ref f38)))
  (l38:K.lookup f38=some ⟨oc38,od38,.func (PySem.W.fnOf "link_inside" "link_inside" (defArgs s_link_inside) (defBody s_link_inside) (defScope s_link_inside) .none kV38 dc38 pm38 an38 cd38 ct38),sl38⟩)
  (k_c38:PySem.W.codeIn K cd38 "link_inside" = true)
  (k_k38:PySem.W.keepIn K (.ref f38)=true)
  (a39:PySem.W.nsIn K mainGlobals "cut" = some (some (.ref f39)))
  (l39:K.lookup f39=some ⟨oc39,od39,.func (PySem.W.fnOf "cut" "cut" (defArgs s_cut) (defBody s_cut) (defScope s_cut) .none kV39 dc39 pm39 an39 cd39 ct39),sl39⟩)
  (k_c39:PySem.W.codeIn K cd39 "cut" = true)
  (k_k39:PySem.W.keepIn K (.ref f39)=true)
  (a40:PySem.W.nsIn K mainGlobals "sums_and_leaves" = some (some (.ref f40)))
  (l40:K.lookup f40=some ⟨oc40,od40,.func (PySem.W.fnOf "sums_and_leaves" "sums_and_leaves" (defArgs s_sums_and_leaves) (defBody s_sums_and_leaves) (defScope s_sums_and_leaves) .none kV40 dc40 pm40 an40 cd40 ct40),sl40⟩)
  (k_c40:PySem.W.codeIn K cd40 "sums_and_leaves" = true)
  (k_k40:PySem.W.keepIn K (.ref f40)=true)
  (a41:PySem.W.nsIn K mainGlobals "whole_links" = some (some (.ref f41)))
  (l41:K.lookup f41=some ⟨oc41,od41,.func (PySem.W.fnOf "whole_links" "whole_links" (defArgs s_whole_links) (defBody s_whole_links) (defScope s_whole_links) .none kV41 dc41 pm41 an41 cd41 ct41),sl41⟩)
  (k_c41:PySem.W.codeIn K cd41 "whole_links" = true)
  (k_k41:PySem.W.keepIn K (.ref f41)=true)
  (a42:PySem.W.nsIn K mainGlobals "least_linked" = some (some (.ref f42)))
  (l42:K.lookup f42=some ⟨oc42,od42,.func (PySem.W.fnOf "least_linked" "least_linked" (defArgs s_least_linked) (defBody s_least_linked) (defScope s_least_linked) .none kV42 dc42 pm42 an42 cd42 ct42),sl42⟩)
  (k_c42:PySem.W.codeIn K cd42 "least_linked" = true)
  (k_k42:PySem.W.keepIn K (.ref f42)=true)
  (a43:PySem.W.nsIn K mainGlobals "path" = some (some (.ref f43)))
  (l43:K.lookup f43=some ⟨oc43,od43,.func (PySem.W.fnOf "path" "path" (defArgs s_path) (defBody s_path) (defScope s_path) .none kV43 dc43 pm43 an43 cd43 ct43),sl43⟩)
  (k_c43:PySem.W.codeIn K cd43 "path" = true)
  (k_k43:PySem.W.keepIn K (.ref f43)=true)
  (a44:PySem.W.nsIn K mainGlobals "answer_pruned" = some (some (.ref f44)))
  (l44:K.lookup f44=some ⟨oc44,od44,.func (PySem.W.fnOf "answer_pruned" "answer_pruned" (defArgs s_answer_pruned) (defBody s_answer_pruned) (defScope s_answer_pruned) .none kV44 dc44 pm44 an44 cd44 ct44),sl44⟩)
  (k_c44:PySem.W.codeIn K cd44 "answer_pruned" = true)
  (k_k44:PySem.W.keepIn K (.ref f44)=true)
  (a45:PySem.W.nsIn K mainGlobals "missed" = some (some (.ref f45)))
  (l45:K.lookup f45=some ⟨oc45,od45,.func (PySem.W.fnOf "missed" "missed" (defArgs s_missed) (defBody s_missed) (defScope s_missed) .none kV45 dc45 pm45 an45 cd45 ct45),sl45⟩)
  (k_c45:PySem.W.codeIn K cd45 "missed" = true)
  (k_k45:PySem.W.keepIn K (.ref f45)=true)
  (a46:PySem.W.nsIn K mainGlobals "trial" = some (some (.ref f46)))
  (l46:K.lookup f46=some ⟨oc46,od46,.func (PySem.W.fnOf "trial" "trial" (defArgs s_trial) (defBody s_trial) (defScope s_trial) .none kV46 dc46 pm46 an46 cd46 ct46),sl46⟩)
  (k_c46:PySem.W.codeIn K cd46 "trial" = true)
  (k_k46:PySem.W.keepIn K (.ref f46)=true)
  (a47:PySem.W.nsIn K mainGlobals "_law_cell" = some (some (.ref f47)))
  (l47:K.lookup f47=some ⟨oc47,od47,.func (PySem.W.fnOf "_law_cell" "_law_cell" (defArgs s_law_cell) (defBody s_law_cell) (defScope s_law_cell) .none kV47 dc47 pm47 an47 cd47 ct47),sl47⟩)
  (k_c47:PySem.W.codeIn K cd47 "_law_cell" = true)
  (k_k47:PySem.W.keepIn K (.ref f47)=true)
  (a48:PySem.W.nsIn K mainGlobals "_law_next" = some (some (.ref f48)))
  (l48:K.lookup f48=some ⟨oc48,od48,.func (PySem.W.fnOf "_law_next" "_law_next" (defArgs s_law_next) (defBody s_law_next) (defScope s_law_next) .none kV48 dc48 pm48 an48 cd48 ct48),sl48⟩)
  (k_c48:PySem.W.codeIn K cd48 "_law_next" = true)
  (k_k48:PySem.W.keepIn K (.ref f48)=true)
  (a49:PySem.W.nsIn K mainGlobals "_law_words" = some (some (.ref f49)))
  (l49:K.lookup f49=some ⟨oc49,od49,.func (PySem.W.fnOf "_law_words" "_law_words" (defArgs s_law_words) (defBody s_law_words) (defScope s_law_words) .none kV49 dc49 pm49 an49 cd49 ct49),sl49⟩)
  (k_c49:PySem.W.codeIn K cd49 "_law_words" = true)
  (k_k49:PySem.W.keepIn K (.ref f49)=true)
  (a50:PySem.W.nsIn K mainGlobals "_law_counted" = some (some (.ref f50)))
  (l50:K.lookup f50=some ⟨oc50,od50,.func (PySem.W.fnOf "_law_counted" "_law_counted" (defArgs s_law_counted) (defBody s_law_counted) (defScope s_law_counted) .none kV50 dc50 pm50 an50 cd50 ct50),sl50⟩)
  (k_c50:PySem.W.codeIn K cd50 "_law_counted" = true)
  (k_k50:PySem.W.keepIn K (.ref f50)=true)
  (a51:PySem.W.nsIn K mainGlobals "_law_question" = some (some (.ref f51)))
  (l51:K.lookup f51=some ⟨oc51,od51,.func (PySem.W.fnOf "_law_question" "_law_question" (defArgs s_law_question) (defBody s_law_question) (defScope s_law_question) .none kV51 dc51 pm51 an51 cd51 ct51),sl51⟩)
  (k_c51:PySem.W.codeIn K cd51 "_law_question" = true)
  (k_k51:PySem.W.keepIn K (.ref f51)=true)
  (a52:PySem.W.nsIn K mainGlobals "_law_pile" = some (some (.ref f52)))
  (l52:K.lookup f52=some ⟨oc52,od52,.func (PySem.W.fnOf "_law_pile" "_law_pile" (defArgs s_law_pile) (defBody s_law_pile) (defScope s_law_pile) .none kV52 dc52 pm52 an52 cd52 ct52),sl52⟩)
  (k_c52:PySem.W.codeIn K cd52 "_law_pile" = true)
  (k_k52:PySem.W.keepIn K (.ref f52)=true)
  (a53:PySem.W.nsIn K mainGlobals "_law_node" = some (some (.ref f53)))
  (l53:K.lookup f53=some ⟨oc53,od53,.func (PySem.W.fnOf "_law_node" "_law_node" (defArgs s_law_node) (defBody s_law_node) (defScope s_law_node) .none kV53 dc53 pm53 an53 cd53 ct53),sl53⟩)
  (k_c53:PySem.W.codeIn K cd53 "_law_node" = true)
  (k_k53:PySem.W.keepIn K (.ref f53)=true)
  (a54:PySem.W.nsIn K mainGlobals "_law_yes" = some (some (.ref f54)))
  (l54:K.lookup f54=some ⟨oc54,od54,.func (PySem.W.fnOf "_law_yes" "_law_yes" (defArgs s_law_yes) (defBody s_law_yes) (defScope s_law_yes) .none kV54 dc54 pm54 an54 cd54 ct54),sl54⟩)
  (k_c54:PySem.W.codeIn K cd54 "_law_yes" = true)
  (k_k54:PySem.W.keepIn K (.ref f54)=true)
  (a55:PySem.W.nsIn K mainGlobals "_law_commonest" = some (some (.ref f55)))
  (l55:K.lookup f55=some ⟨oc55,od55,.func (PySem.W.fnOf "_law_commonest" "_law_commonest" (defArgs s_law_commonest) (defBody s_law_commonest) (defScope s_law_commonest) .none kV55 dc55 pm55 an55 cd55 ct55),sl55⟩)
  (k_c55:PySem.W.codeIn K cd55 "_law_commonest" = true)
  (k_k55:PySem.W.keepIn K (.ref f55)=true)
  (a56:PySem.W.nsIn K mainGlobals "_law_missed" = some (some (.ref f56)))
  (l56:K.lookup f56=some ⟨oc56,od56,.func (PySem.W.fnOf "_law_missed" "_law_missed" (defArgs s_law_missed) (defBody s_law_missed) (defScope s_law_missed) .none kV56 dc56 pm56 an56 cd56 ct56),sl56⟩)
  (k_c56:PySem.W.codeIn K cd56 "_law_missed" = true)
  (k_k56:PySem.W.keepIn K (.ref f56)=true)
  (a57:PySem.W.nsIn K mainGlobals "_law_group" = some (some (.ref f57)))
  (l57:K.lookup f57=some ⟨oc57,od57,.func (PySem.W.fnOf "_law_group" "_law_group" (defArgs s_law_group) (defBody s_law_group) (defScope s_law_group) .none kV57 dc57 pm57 an57 cd57 ct57),sl57⟩)
  (k_c57:PySem.W.codeIn K cd57 "_law_group" = true)
  (k_k57:PySem.W.keepIn K (.ref f57)=true)
  (a58:PySem.W.nsIn K mainGlobals "_law_refused" = some (some (.ref f58)))
  (l58:K.lookup f58=some ⟨oc58,od58,.func (PySem.W.fnOf "_law_refused" "_law_refused" (defArgs s_law_refused) (defBody s_law_refused) (defScope s_law_refused) .none kV58 dc58 pm58 an58 cd58 ct58),sl58⟩)
  (k_c58:PySem.W.codeIn K cd58 "_law_refused" = true)
  (k_k58:PySem.W.keepIn K (.ref f58)=true)
  (a59:PySem.W.nsIn K mainGlobals "_law_right" = some (some (.ref f59)))
  (l59:K.lookup f59=some ⟨oc59,od59,.func (PySem.W.fnOf "_law_right" "_law_right" (defArgs s_law_right) (defBody s_law_right) (defScope s_law_right) .none kV59 dc59 pm59 an59 cd59 ct59),sl59⟩)
  (k_c59:PySem.W.codeIn K cd59 "_law_right" = true)
  (k_k59:PySem.W.keepIn K (.ref f59)=true)
  (a60:PySem.W.nsIn K mainGlobals "law" = some (some (.ref f60)))
  (l60:K.lookup f60=some ⟨oc60,od60,.func (PySem.W.fnOf "law" "law" (defArgs s_law) (defBody s_law) (defScope s_law) .none kV60 dc60 pm60 an60 cd60 ct60),sl60⟩)
  (k_c60:PySem.W.codeIn K cd60 "law" = true)
  (k_k60:PySem.W.keepIn K (.ref f60)=true)
  (ia_Leaf_init:PySem.W.findIn K (.ref c_Leaf) "__init__" = some (some (.ref f10)))
  (ii_Leaf_init:PySem.W.isFn K (.ref f10)=true)
  (imk_Leaf:PySem.W.makesIn K c_Leaf=true)
  (ikc_Leaf:PySem.W.keepIn K (.ref c_Leaf)=true)
  (ia_Leaf_at:PySem.W.findIn K (.ref c_Leaf) "at" = some (some (.ref f20)))
  (ii_Leaf_at:PySem.W.isFn K (.ref f20)=true)
  (ia_Fork_at:PySem.W.findIn K (.ref c_Fork) "at" = some (some (.ref f20)))
  (ii_Fork_at:PySem.W.isFn K (.ref f20)=true)
  (sg_Node_init:PySem.W.specialIn K (.ref c_Node) "__getattribute__" = some (some (.builtin "type.__getattribute__")))
  (rd_Node_init:PySem.W.readsIn K c_Node (.type "type")=true)
  (fc_Node_init:PySem.W.findCls K (.ref c_Node) (.type "type") "__init__" = some (.val (.ref f10)))
  (a_MEASURES:PySem.W.nsIn K mainGlobals "MEASURES" = some (some (.ref c_MEASURES)))
  (l_MEASURES:K.lookup c_MEASURES=some o_MEASURES)
  (q_MEASURES:∀ H,SqT K H c_MEASURES [.str "misses", .str "shares"])
  (z_ValueError:PySem.W.nsIn K mainGlobals "ValueError" = some none)
  (z_abs:PySem.W.nsIn K mainGlobals "abs" = some none)
  (z_bool:PySem.W.nsIn K mainGlobals "bool" = some none)
  (z_enumerate:PySem.W.nsIn K mainGlobals "enumerate" = some none)
  (z_int:PySem.W.nsIn K mainGlobals "int" = some none)
  (z_isinstance:PySem.W.nsIn K mainGlobals "isinstance" = some none)
  (z_len:PySem.W.nsIn K mainGlobals "len" = some none)
  (z_list:PySem.W.nsIn K mainGlobals "list" = some none)
  (z_max:PySem.W.nsIn K mainGlobals "max" = some none)
  (z_range:PySem.W.nsIn K mainGlobals "range" = some none)
  (z_reversed:PySem.W.nsIn K mainGlobals "reversed" = some none)
  (z_sorted:PySem.W.nsIn K mainGlobals "sorted" = some none)
  (z_sum:PySem.W.nsIn K mainGlobals "sum" = some none)
  (z_tuple:PySem.W.nsIn K mainGlobals "tuple" = some none)
  (ht4:PySem.W.exmOne K (.ref c_NoMeasure) (.ref c_NoMeasure)=some true)
  (ht1:PySem.W.kitOne K (.ref c_NoMeasure) (.ref c_PruneError)=some true)
  (ht3:PySem.W.kitOne K (.ref c_NoMeasure) (.type "ValueError")=some true)
  (hnLc:PySem.W.findIn K (.ref c_Leaf) "counted" = some none)
  (hnFcd:PySem.W.findIn K (.ref c_Fork) "counted" = some none)
  (hnFqn:PySem.W.findIn K (.ref c_Fork) "question" = some none)
  (hnFys:PySem.W.findIn K (.ref c_Fork) "yes" = some none)
  (hnFno:PySem.W.findIn K (.ref c_Fork) "no" = some none)
  (hnFlt:PySem.W.findIn K (.ref c_Fork) "leaf_count" = some none)
  (hnFdh:PySem.W.findIn K (.ref c_Fork) "depth" = some none)
  (hclL:PySem.W.findIn K (.ref c_Leaf) "__class__" = some (some (.builtin "object.__class__")))
  (hclF:PySem.W.findIn K (.ref c_Fork) "__class__" = some (some (.builtin "object.__class__")))
  (hogt:PySem.W.specialIn K (.builtin "object.__class__") "__get__" = some (some (.builtin "getset_descriptor.__get__")))
  (hotk:PySem.W.takesIn K (.builtin "object.__class__")=some true)
  (homL:PySem.W.mroIn K c_Leaf (.type "object")=some true)
  (homF:PySem.W.mroIn K c_Fork (.type "object")=some true)
  (hkLF:PySem.W.kitOne K (.ref c_Leaf) (.ref c_Fork)=some false)
  (hkFF:PySem.W.kitOne K (.ref c_Fork) (.ref c_Fork)=some true)
  : ∃ T:Tx K mg,T.f_law=fa∧∀ (s:Shared) (u:Value),BindsTo s T.d_law ⟨[u],[]⟩ [("_law_script", u)]:=by
 have e:=hfa.symm.trans (PySem.W.mg_of X G a60)
 cases e
 have F0:=fun_mk (st:=s_is_whole) l0 k_c0 k_k0
 have b0:=F0.binds (ps:=["value"]) fun _ _ _ _ _ _ us hl=>match us,hl with | [_],_=>rfl
 have F1:=fun_mk (st:=s_greatest_divisor) l1 k_c1 k_k1
 have b1:=F1.binds (ps:=["one", "other"]) fun _ _ _ _ _ _ us hl=>match us,hl with | [_,_],_=>rfl
 have F2:=fun_mk (st:=s_ratio) l2 k_c2 k_k2
 have b2:=F2.binds (ps:=["top", "bottom"]) fun _ _ _ _ _ _ us hl=>match us,hl with | [_,_],_=>rfl
 have F3:=fun_mk (st:=s_check_measure) l3 k_c3 k_k3
 have b3:=F3.binds (ps:=["measure"]) fun _ _ _ _ _ _ us hl=>match us,hl with | [_],_=>rfl
 have F4:=fun_mk (st:=s_commonest) l4 k_c4 k_k4
 have b4:=F4.binds (ps:=["counted"]) fun _ _ _ _ _ _ us hl=>match us,hl with | [_],_=>rfl
 have F5:=fun_mk (st:=s_all_rows) l5 k_c5 k_k5
 have b5:=F5.binds (ps:=["counted"]) fun _ _ _ _ _ _ us hl=>match us,hl with | [_],_=>rfl
 have F6:=fun_mk (st:=s_misses) l6 k_c6 k_k6
 have b6:=F6.binds (ps:=["counted"]) fun _ _ _ _ _ _ us hl=>match us,hl with | [_],_=>rfl
 have F7:=fun_mk (st:=s_shares) l7 k_c7 k_k7
 have b7:=F7.binds (ps:=["counted"]) fun _ _ _ _ _ _ us hl=>match us,hl with | [_],_=>rfl
 have F8:=fun_mk (st:=s_mess) l8 k_c8 k_k8
 have b8:=F8.binds (ps:=["counted", "measure"]) fun _ _ _ _ _ _ us hl=>match us,hl with | [_,_],_=>rfl
 have F9:=fun_mk (st:=s_says) l9 k_c9 k_k9
 have b9:=F9.binds (ps:=["question", "values"]) fun _ _ _ _ _ _ us hl=>match us,hl with | [_,_],_=>rfl
 have F10:=fun_mk (st:=s_Node___init__) l10 k_c10 k_k10
 have b10:=F10.binds (ps:=["self", "counted"]) fun _ _ _ _ _ _ us hl=>match us,hl with | [_,_],_=>rfl
 have F11:=fun_mk (st:=s_Leaf_below) l11 k_c11 k_k11
 have b11:=F11.binds (ps:=["self", "sign"]) fun _ _ _ _ _ _ us hl=>match us,hl with | [_,_],_=>rfl
 have F12:=fun_mk (st:=s_Leaf_leaves) l12 k_c12 k_k12
 have b12:=F12.binds (ps:=["self"]) fun _ _ _ _ _ _ us hl=>match us,hl with | [_],_=>rfl
 have F13:=fun_mk (st:=s_Leaf_deep) l13 k_c13 k_k13
 have b13:=F13.binds (ps:=["self"]) fun _ _ _ _ _ _ us hl=>match us,hl with | [_],_=>rfl
 have F14:=fun_mk (st:=s_Leaf_place_of) l14 k_c14 k_k14
 have b14:=F14.binds (ps:=["self", "values"]) fun _ _ _ _ _ _ us hl=>match us,hl with | [_,_],_=>rfl
 have F15:=fun_mk (st:=s_Fork_below) l15 k_c15 k_k15
 have b15:=F15.binds (ps:=["self", "sign"]) fun _ _ _ _ _ _ us hl=>match us,hl with | [_,_],_=>rfl
 have F16:=fun_mk (st:=s_Fork_leaves) l16 k_c16 k_k16
 have b16:=F16.binds (ps:=["self"]) fun _ _ _ _ _ _ us hl=>match us,hl with | [_],_=>rfl
 have F17:=fun_mk (st:=s_Fork_deep) l17 k_c17 k_k17
 have b17:=F17.binds (ps:=["self"]) fun _ _ _ _ _ _ us hl=>match us,hl with | [_],_=>rfl
 have F18:=fun_mk (st:=s_Fork_place_of) l18 k_c18 k_k18
 have b18:=F18.binds (ps:=["self", "values"]) fun _ _ _ _ _ _ us hl=>match us,hl with | [_,_],_=>rfl
 have F19:=fun_mk (st:=s_Fork___init__) l19 k_c19 k_k19
 have b19:=F19.binds (ps:=["self", "counted", "question", "yes", "no"]) fun _ _ _ _ _ _ us hl=>match us,hl with | [_,_,_,_,_],_=>rfl
 have F20:=fun_mk (st:=s_Node_at) l20 k_c20 k_k20
 have b20:=F20.binds (ps:=["self", "place"]) fun _ _ _ _ _ _ us hl=>match us,hl with | [_,_],_=>rfl
 have F21:=fun_mk (st:=s_costed) l21 k_c21 k_k21
 have b21:=F21.binds (ps:=["node", "measure"]) fun _ _ _ _ _ _ us hl=>match us,hl with | [_,_],_=>rfl
 have F22:=fun_mk (st:=s_plus) l22 k_c22 k_k22
 have b22:=F22.binds (ps:=["one", "other"]) fun _ _ _ _ _ _ us hl=>match us,hl with | [_,_],_=>rfl
 have F23:=fun_mk (st:=s_minus) l23 k_c23 k_k23
 have b23:=F23.binds (ps:=["one", "other"]) fun _ _ _ _ _ _ us hl=>match us,hl with | [_,_],_=>rfl
 have F24:=fun_mk (st:=s_under) l24 k_c24 k_k24
 have b24:=F24.binds (ps:=["one", "other"]) fun _ _ _ _ _ _ us hl=>match us,hl with | [_,_],_=>rfl
 have F25:=fun_mk (st:=s_trees_by_place) l25 k_c25 k_k25
 have b25:=F25.binds (ps:=["tree"]) fun _ _ _ _ _ _ us hl=>match us,hl with | [_],_=>rfl
 have F26:=fun_mk (st:=s_places_of) l26 k_c26 k_k26
 have b26:=F26.binds (ps:=["tree", "sort"]) fun _ _ _ _ _ _ us hl=>match us,hl with | [_,_],_=>rfl
 have F27:=fun_mk (st:=s_forks) l27 k_c27 k_k27
 have b27:=F27.binds (ps:=["tree"]) fun _ _ _ _ _ _ us hl=>match us,hl with | [_],_=>rfl
 have F28:=fun_mk (st:=s_common_bottom) l28 k_c28 k_k28
 have b28:=F28.binds (ps:=["tree"]) fun _ _ _ _ _ _ us hl=>match us,hl with | [_],_=>rfl
 have F29:=fun_mk (st:=s_lifted) l29 k_c29 k_k29
 have b29:=F29.binds (ps:=["tree", "bottom"]) fun _ _ _ _ _ _ us hl=>match us,hl with | [_,_],_=>rfl
 have F30:=fun_mk (st:=s_in_whole_costs) l30 k_c30 k_k30
 have b30:=F30.binds (ps:=["tree"]) fun _ _ _ _ _ _ us hl=>match us,hl with | [_],_=>rfl
 have F31:=fun_mk (st:=s_beginnings) l31 k_c31 k_k31
 have b31:=F31.binds (ps:=["place", "places"]) fun _ _ _ _ _ _ us hl=>match us,hl with | [_,_],_=>rfl
 have F32:=fun_mk (st:=s_check_price) l32 k_c32 k_k32
 have b32:=F32.binds (ps:=["price"]) fun _ _ _ _ _ _ us hl=>match us,hl with | [_],_=>rfl
 have F33:=fun_mk (st:=s_unreduced_sum) l33 k_c33 k_k33
 have b33:=F33.binds (ps:=["one", "other"]) fun _ _ _ _ _ _ us hl=>match us,hl with | [_,_],_=>rfl
 have F34:=fun_mk (st:=s_cheapest_with_cost) l34 k_c34 k_k34
 have b34:=F34.binds (ps:=["tree", "price"]) fun _ _ _ _ _ _ us hl=>match us,hl with | [_,_],_=>rfl
 have F35:=fun_mk (st:=s_cheapest) l35 k_c35 k_k35
 have b35:=F35.binds (ps:=["tree", "price"]) fun _ _ _ _ _ _ us hl=>match us,hl with | [_,_],_=>rfl
 have F36:=fun_mk (st:=s_forks_inside) l36 k_c36 k_k36
 have b36:=F36.binds (ps:=["tree", "places"]) fun _ _ _ _ _ _ us hl=>match us,hl with | [_,_],_=>rfl
 have F37:=fun_mk (st:=s_shared_out) l37 k_c37 k_k37
 have b37:=F37.binds (ps:=["one", "many"]) fun _ _ _ _ _ _ us hl=>match us,hl with | [_,_],_=>rfl
 have F38:=fun_mk (st:=s_link_inside) l38 k_c38 k_k38
 have b38:=F38.binds (ps:=["tree", "places", "fork"]) fun _ _ _ _ _ _ us hl=>match us,hl with | [_,_,_],_=>rfl
 have F39:=fun_mk (st:=s_cut) l39 k_c39 k_k39
 have b39:=F39.binds (ps:=["places", "places_of_forks"]) fun _ _ _ _ _ _ us hl=>match us,hl with | [_,_],_=>rfl
 have F40:=fun_mk (st:=s_sums_and_leaves) l40 k_c40 k_k40
 have b40:=F40.binds (ps:=["whole", "places"]) fun _ _ _ _ _ _ us hl=>match us,hl with | [_,_],_=>rfl
 have F41:=fun_mk (st:=s_whole_links) l41 k_c41 k_k41
 have b41:=F41.binds (ps:=["whole", "places"]) fun _ _ _ _ _ _ us hl=>match us,hl with | [_,_],_=>rfl
 have F42:=fun_mk (st:=s_least_linked) l42 k_c42 k_k42
 have b42:=F42.binds (ps:=["whole", "places"]) fun _ _ _ _ _ _ us hl=>match us,hl with | [_,_],_=>rfl
 have F43:=fun_mk (st:=s_path) l43 k_c43 k_k43
 have b43:=F43.binds (ps:=["tree"]) fun _ _ _ _ _ _ us hl=>match us,hl with | [_],_=>rfl
 have F44:=fun_mk (st:=s_answer_pruned) l44 k_c44 k_k44
 have b44:=F44.binds (ps:=["node", "places", "values"]) fun _ _ _ _ _ _ us hl=>match us,hl with | [_,_,_],_=>rfl
 have F45:=fun_mk (st:=s_missed) l45 k_c45 k_k45
 have b45:=F45.binds (ps:=["node", "places", "group"]) fun _ _ _ _ _ _ us hl=>match us,hl with | [_,_,_],_=>rfl
 have F46:=fun_mk (st:=s_trial) l46 k_c46 k_k46
 have b46:=F46.binds (ps:=["node", "measure", "group"]) fun _ _ _ _ _ _ us hl=>match us,hl with | [_,_,_],_=>rfl
 have F47:=fun_mk (st:=s_law_cell) l47 k_c47 k_k47
 have b47:=F47.binds (ps:=["_law_script", "_law_k"]) fun _ _ _ _ _ _ us hl=>match us,hl with | [_,_],_=>rfl
 have F48:=fun_mk (st:=s_law_next) l48 k_c48 k_k48
 have b48:=F48.binds (ps:=["_law_cell_here", "_law_k"]) fun _ _ _ _ _ _ us hl=>match us,hl with | [_,_],_=>rfl
 have F49:=fun_mk (st:=s_law_words) l49 k_c49 k_k49
 have b49:=F49.binds (ps:=["_law_cell_here"]) fun _ _ _ _ _ _ us hl=>match us,hl with | [_],_=>rfl
 have F50:=fun_mk (st:=s_law_counted) l50 k_c50 k_k50
 have b50:=F50.binds (ps:=["_law_cell_here", "_law_words_here"]) fun _ _ _ _ _ _ us hl=>match us,hl with | [_,_],_=>rfl
 have F51:=fun_mk (st:=s_law_question) l51 k_c51 k_k51
 have b51:=F51.binds (ps:=["_law_cell_here", "_law_words_here", "_law_scale"]) fun _ _ _ _ _ _ us hl=>match us,hl with | [_,_,_],_=>rfl
 have F52:=fun_mk (st:=s_law_pile) l52 k_c52 k_k52
 have b52:=F52.binds (ps:=["_law_cells", "_law_words_here", "_law_scale"]) fun _ _ _ _ _ _ us hl=>match us,hl with | [_,_,_],_=>rfl
 have F53:=fun_mk (st:=s_law_node) l53 k_c53 k_k53
 have b53:=F53.binds (ps:=["_law_tree"]) fun _ _ _ _ _ _ us hl=>match us,hl with | [_],_=>rfl
 have F54:=fun_mk (st:=s_law_yes) l54 k_c54 k_k54
 have b54:=F54.binds (ps:=["_law_question_here", "_law_values"]) fun _ _ _ _ _ _ us hl=>match us,hl with | [_,_],_=>rfl
 have F55:=fun_mk (st:=s_law_commonest) l55 k_c55 k_k55
 have b55:=F55.binds (ps:=["_law_told"]) fun _ _ _ _ _ _ us hl=>match us,hl with | [_],_=>rfl
 have F56:=fun_mk (st:=s_law_missed) l56 k_c56 k_k56
 have b56:=F56.binds (ps:=["_law_tree", "_law_places", "_law_group_here"]) fun _ _ _ _ _ _ us hl=>match us,hl with | [_,_,_],_=>rfl
 have F57:=fun_mk (st:=s_law_group) l57 k_c57 k_k57
 have b57:=F57.binds (ps:=["_law_cells", "_law_words_here"]) fun _ _ _ _ _ _ us hl=>match us,hl with | [_,_],_=>rfl
 have F58:=fun_mk (st:=s_law_refused) l58 k_c58 k_k58
 have b58:=F58.binds (ps:=["_law_node_here", "_law_measure", "_law_group_here"]) fun _ _ _ _ _ _ us hl=>match us,hl with | [_,_,_],_=>rfl
 have F59:=fun_mk (st:=s_law_right) l59 k_c59 k_k59
 have b59:=F59.binds (ps:=["_law_found", "_law_steps", "_law_tree", "_law_group_here"]) fun _ _ _ _ _ _ us hl=>match us,hl with | [_,_,_,_],_=>rfl
 have F60:=fun_mk (st:=s_law) l60 k_c60 k_k60
 have b60:=F60.binds (ps:=["_law_script"]) fun _ _ _ _ _ _ us hl=>match us,hl with | [_],_=>rfl
 exact ⟨⟨c_PruneError,PySem.W.mg_of X G a_PruneError,c_NoRatio,PySem.W.mg_of X G a_NoRatio,⟨PySem.W.mg_of X G a_NoRatio,e_NoRatio⟩,⟨ga_NoRatio,gt_NoRatio,cl_NoRatio,mb_NoRatio,mo_NoRatio⟩,c_NoMeasure,PySem.W.mg_of X G a_NoMeasure,⟨PySem.W.mg_of X G a_NoMeasure,e_NoMeasure⟩,⟨ga_NoMeasure,gt_NoMeasure,cl_NoMeasure,mb_NoMeasure,mo_NoMeasure⟩,c_NoPlace,PySem.W.mg_of X G a_NoPlace,c_NoPrice,PySem.W.mg_of X G a_NoPrice,c_Node,PySem.W.mg_of X G a_Node,⟨pg_Node,hd_Node,po_Node,sa_Node⟩,c_Leaf,PySem.W.mg_of X G a_Leaf,⟨pg_Leaf,hd_Leaf,po_Leaf,sa_Leaf⟩,c_Fork,PySem.W.mg_of X G a_Fork,⟨pg_Fork,hd_Fork,po_Fork,sa_Fork⟩,_,_,F0,b0,PySem.W.mg_of X G a0,_,_,F1,b1,PySem.W.mg_of X G a1,_,_,F2,b2,PySem.W.mg_of X G a2,_,_,F3,b3,PySem.W.mg_of X G a3,_,_,F4,b4,PySem.W.mg_of X G a4,_,_,F5,b5,PySem.W.mg_of X G a5,_,_,F6,b6,PySem.W.mg_of X G a6,_,_,F7,b7,PySem.W.mg_of X G a7,_,_,F8,b8,PySem.W.mg_of X G a8,_,_,F9,b9,PySem.W.mg_of X G a9,_,_,F10,b10,⟨mk_Node,a10,i10,kc_Node⟩,_,_,F11,b11,⟨a11,i11,k_k11⟩,_,_,F12,b12,⟨a12,i12,k_k12⟩,_,_,F13,b13,⟨a13,i13,k_k13⟩,_,_,F14,b14,⟨a14,i14,k_k14⟩,_,_,F15,b15,⟨a15,i15,k_k15⟩,_,_,F16,b16,⟨a16,i16,k_k16⟩,_,_,F17,b17,⟨a17,i17,k_k17⟩,_,_,F18,b18,⟨a18,i18,k_k18⟩,_,_,F19,b19,⟨mk_Fork,a19,i19,kc_Fork⟩,_,_,F20,b20,⟨a20,i20,k_k20⟩,_,_,F21,b21,PySem.W.mg_of X G a21,_,_,F22,b22,PySem.W.mg_of X G a22,_,_,F23,b23,PySem.W.mg_of X G a23,_,_,F24,b24,PySem.W.mg_of X G a24,_,_,F25,b25,PySem.W.mg_of X G a25,_,_,F26,b26,PySem.W.mg_of X G a26,_,_,F27,b27,PySem.W.mg_of X G a27,_,_,F28,b28,PySem.W.mg_of X G a28,_,_,F29,b29,PySem.W.mg_of X G a29,_,_,F30,b30,PySem.W.mg_of X G a30,_,_,F31,b31,PySem.W.mg_of X G a31,_,_,F32,b32,PySem.W.mg_of X G a32,_,_,F33,b33,PySem.W.mg_of X G a33,_,_,F34,b34,PySem.W.mg_of X G a34,_,_,F35,b35,PySem.W.mg_of X G a35,_,_,F36,b36,PySem.W.mg_of X G a36,_,_,F37,b37,PySem.W.mg_of X G a37,_,_,F38,b38,PySem.W.mg_of X G a38,_,_,F39,b39,PySem.W.mg_of X G a39,_,_,F40,b40,PySem.W.mg_of X G a40,_,_,F41,b41,PySem.W.mg_of X G a41,_,_,F42,b42,PySem.W.mg_of X G a42,_,_,F43,b43,PySem.W.mg_of X G a43,_,_,F44,b44,PySem.W.mg_of X G a44,_,_,F45,b45,PySem.W.mg_of X G a45,_,_,F46,b46,PySem.W.mg_of X G a46,_,_,F47,b47,PySem.W.mg_of X G a47,_,_,F48,b48,PySem.W.mg_of X G a48,_,_,F49,b49,PySem.W.mg_of X G a49,_,_,F50,b50,PySem.W.mg_of X G a50,_,_,F51,b51,PySem.W.mg_of X G a51,_,_,F52,b52,PySem.W.mg_of X G a52,_,_,F53,b53,PySem.W.mg_of X G a53,_,_,F54,b54,PySem.W.mg_of X G a54,_,_,F55,b55,PySem.W.mg_of X G a55,_,_,F56,b56,PySem.W.mg_of X G a56,_,_,F57,b57,PySem.W.mg_of X G a57,_,_,F58,b58,PySem.W.mg_of X G a58,_,_,F59,b59,PySem.W.mg_of X G a59,_,_,F60,b60,PySem.W.mg_of X G a60,⟨imk_Leaf,ia_Leaf_init,ii_Leaf_init,ikc_Leaf⟩,⟨ia_Leaf_at,ii_Leaf_at,k_k20⟩,⟨ia_Fork_at,ii_Fork_at,k_k20⟩,⟨sg_Node_init,rd_Node_init,fc_Node_init,k_k10⟩,c_MEASURES,PySem.W.mg_of X G a_MEASURES,q_MEASURES,PySem.W.mg_none_of X G z_ValueError,PySem.W.mg_none_of X G z_abs,PySem.W.mg_none_of X G z_bool,PySem.W.mg_none_of X G z_enumerate,PySem.W.mg_none_of X G z_int,PySem.W.mg_none_of X G z_isinstance,PySem.W.mg_none_of X G z_len,PySem.W.mg_none_of X G z_list,PySem.W.mg_none_of X G z_max,PySem.W.mg_none_of X G z_range,PySem.W.mg_none_of X G z_reversed,PySem.W.mg_none_of X G z_sorted,PySem.W.mg_none_of X G z_sum,PySem.W.mg_none_of X G z_tuple,ht4,ht1,ht3,hnLc,hnFcd,hnFqn,hnFys,hnFno,hnFlt,hnFdh,hclL,hclF,hogt,hotk,homL,homF,hkLF,hkFF⟩,rfl,fun s u=>.of_eq rfl⟩
end Lw
abbrev PySem.W.Fast.tw5176276107374956254:PySem.Program:=PySem.Challenge.pw_prunepath_k43_trials
theorem PySem.W.Fast.te5176276107374956254:PySem.Challenge.pw_prunepath_k43_trials=PySem.W.Fast.tw5176276107374956254:=rfl
open PySem PySem.W PyProof.Rows
local macro_rules | `(tactic| o_head $H) => `(tactic| (refine holds_open (q := Cz.q) (loose := Cz.loose) (Xt := fun s => xlAt Cz.q [] s && recOk (RowW.records (OpenRow.toRowW (OpenLaw.row PySem.Challenge.rw_prunepath_k43_trials))) s) (XP := XL Cz.q []) (Yf := Hook.obs $H) (Ya := Hook.val $H) (YP := Hook.says $H) (N := 7670) ?hl (Hook.of $H) (Hook.keeps $H) (fun s e => xl_of s (Bool.and_eq_true_iff.mp e).1) XL.keeps (by rfl) (by rfl) (by rfl) (fun s e => recFacts_of (Bool.and_eq_true_iff.mp e).2) (by rfl) (by first | assumption | decide +kernel) (by decide +kernel) ⟨rfl, rfl, rfl, rfl, rfl, by decide +kernel⟩ ?hw ?hc; (case hl => (refine Cz.left_tree (boot_open (by kernel_rfl) (by decide) fun s => by kernel_rfl) Cz.run1 ?_; rw [PySem.W.Fast.te6613529449190102663, PySem.W.Fast.te10156331382660048174, PySem.W.Fast.te11892475500146522536, PySem.W.Fast.te14364793385576792824]; (intro w; kernel_rfl))); (case hw => w_witness2)))
set_option maxRecDepth 100000 in
set_option maxHeartbeats 0 in
theorem PySem.Challenge.cw_prunepath_k43_trials_holds : PySem.Challenge.rw_prunepath_k43_trials.Holds := by
  w_on; o_law; k_head
  k_fill
  refine L2.walk_ofX (l := PySem.Challenge.rw_prunepath_k43_trials) (n := 63) (k := 40) (x := "_law_script") (sp := Lw.sp_law) rfl (by decide) rfl ⟨rfl, by decide, by decide, rfl⟩ (fun w h Y => PySem.W.kIn_of Y) ?F ?S
  case F =>
    intro w mg fa h KX G hmg
    have T : ∃ T : Lw.Tx (L2.KOf KX) mg, T.f_law = fa ∧ ∀ (s : Shared) (u : Value), BindsTo s T.d_law ⟨[u], []⟩ [("_law_script", u)] := by
      dsimp only [L2.KOf]
      refine' Lw.fin KX G hmg ?ga_PruneError ?ga_NoRatio ?ge_NoRatio ?gga_NoRatio ?ggt_NoRatio ?gcl_NoRatio ?gmb_NoRatio ?gmo_NoRatio ?ga_NoMeasure ?ge_NoMeasure ?gga_NoMeasure ?ggt_NoMeasure ?gcl_NoMeasure ?gmb_NoMeasure ?gmo_NoMeasure ?ga_NoPlace ?ga_NoPrice ?ga_Node ?gpg_Node ?ghd_Node ?gpo_Node ?gsa_Node ?ga_Leaf ?gpg_Leaf ?ghd_Leaf ?gpo_Leaf ?gsa_Leaf ?ga_Fork ?gpg_Fork ?ghd_Fork ?gpo_Fork ?gsa_Fork ?ga0 ?gl0 ?gk_c0 ?gk_k0 ?ga1 ?gl1 ?gk_c1 ?gk_k1 ?ga2 ?gl2 ?gk_c2 ?gk_k2 ?ga3 ?gl3 ?gk_c3 ?gk_k3 ?ga4 ?gl4 ?gk_c4 ?gk_k4 ?ga5 ?gl5 ?gk_c5 ?gk_k5 ?ga6 ?gl6 ?gk_c6 ?gk_k6 ?ga7 ?gl7 ?gk_c7 ?gk_k7 ?ga8 ?gl8 ?gk_c8 ?gk_k8 ?ga9 ?gl9 ?gk_c9 ?gk_k9 ?ga10 ?gi10 ?gmk_Node ?gkc_Node ?gl10 ?gk_c10 ?gk_k10 ?ga11 ?gi11 ?gl11 ?gk_c11 ?gk_k11 ?ga12 ?gi12 ?gl12 ?gk_c12 ?gk_k12 ?ga13 ?gi13 ?gl13 ?gk_c13 ?gk_k13 ?ga14 ?gi14 ?gl14 ?gk_c14 ?gk_k14 ?ga15 ?gi15 ?gl15 ?gk_c15 ?gk_k15 ?ga16 ?gi16 ?gl16 ?gk_c16 ?gk_k16 ?ga17 ?gi17 ?gl17 ?gk_c17 ?gk_k17 ?ga18 ?gi18 ?gl18 ?gk_c18 ?gk_k18 ?ga19 ?gi19 ?gmk_Fork ?gkc_Fork ?gl19 ?gk_c19 ?gk_k19 ?ga20 ?gi20 ?gl20 ?gk_c20 ?gk_k20 ?ga21 ?gl21 ?gk_c21 ?gk_k21 ?ga22 ?gl22 ?gk_c22 ?gk_k22 ?ga23 ?gl23 ?gk_c23 ?gk_k23 ?ga24 ?gl24 ?gk_c24 ?gk_k24 ?ga25 ?gl25 ?gk_c25 ?gk_k25 ?ga26 ?gl26 ?gk_c26 ?gk_k26 ?ga27 ?gl27 ?gk_c27 ?gk_k27 ?ga28 ?gl28 ?gk_c28 ?gk_k28 ?ga29 ?gl29 ?gk_c29 ?gk_k29 ?ga30 ?gl30 ?gk_c30 ?gk_k30 ?ga31 ?gl31 ?gk_c31 ?gk_k31 ?ga32 ?gl32 ?gk_c32 ?gk_k32 ?ga33 ?gl33 ?gk_c33 ?gk_k33 ?ga34 ?gl34 ?gk_c34 ?gk_k34 ?ga35 ?gl35 ?gk_c35 ?gk_k35 ?ga36 ?gl36 ?gk_c36 ?gk_k36 ?ga37 ?gl37 ?gk_c37 ?gk_k37 ?ga38 ?gl38 ?gk_c38 ?gk_k38 ?ga39 ?gl39 ?gk_c39 ?gk_k39 ?ga40 ?gl40 ?gk_c40 ?gk_k40 ?ga41 ?gl41 ?gk_c41 ?gk_k41 ?ga42 ?gl42 ?gk_c42 ?gk_k42 ?ga43 ?gl43 ?gk_c43 ?gk_k43 ?ga44 ?gl44 ?gk_c44 ?gk_k44 ?ga45 ?gl45 ?gk_c45 ?gk_k45 ?ga46 ?gl46 ?gk_c46 ?gk_k46 ?ga47 ?gl47 ?gk_c47 ?gk_k47 ?ga48 ?gl48 ?gk_c48 ?gk_k48 ?ga49 ?gl49 ?gk_c49 ?gk_k49 ?ga50 ?gl50 ?gk_c50 ?gk_k50 ?ga51 ?gl51 ?gk_c51 ?gk_k51 ?ga52 ?gl52 ?gk_c52 ?gk_k52 ?ga53 ?gl53 ?gk_c53 ?gk_k53 ?ga54 ?gl54 ?gk_c54 ?gk_k54 ?ga55 ?gl55 ?gk_c55 ?gk_k55 ?ga56 ?gl56 ?gk_c56 ?gk_k56 ?ga57 ?gl57 ?gk_c57 ?gk_k57 ?ga58 ?gl58 ?gk_c58 ?gk_k58 ?ga59 ?gl59 ?gk_c59 ?gk_k59 ?ga60 ?gl60 ?gk_c60 ?gk_k60 ?gia_Leaf_init ?gii_Leaf_init ?gimk_Leaf ?gikc_Leaf ?gia_Leaf_at ?gii_Leaf_at ?gia_Fork_at ?gii_Fork_at ?gsg_Node_init ?grd_Node_init ?gfc_Node_init ?ga_MEASURES ?gl_MEASURES ?gq_MEASURES ?gz_ValueError ?gz_abs ?gz_bool ?gz_enumerate ?gz_int ?gz_isinstance ?gz_len ?gz_list ?gz_max ?gz_range ?gz_reversed ?gz_sorted ?gz_sum ?gz_tuple ?ght4 ?ght1 ?ght3 ?ghnLc ?ghnFcd ?ghnFqn ?ghnFys ?ghnFno ?ghnFlt ?ghnFdh ?ghclL ?ghclF ?ghogt ?ghotk ?ghomL ?ghomF ?ghkLF ?ghkFF
      (case ga_PruneError | ga_NoRatio | ge_NoRatio | gga_NoRatio | ggt_NoRatio | gcl_NoRatio | gmb_NoRatio | gmo_NoRatio | ga_NoMeasure | ge_NoMeasure | gga_NoMeasure | ggt_NoMeasure | gcl_NoMeasure | gmb_NoMeasure | gmo_NoMeasure | ga_NoPlace | ga_NoPrice | ga_Node | gpg_Node | ghd_Node | gpo_Node | gsa_Node | ga_Leaf | gpg_Leaf | ghd_Leaf | gpo_Leaf | gsa_Leaf | ga_Fork | gpg_Fork | ghd_Fork | gpo_Fork | gsa_Fork | ga0 | gl0 | gk_c0 | gk_k0 | ga1 | gl1 | gk_c1 | gk_k1 | ga2 | gl2 | gk_c2 | gk_k2 | ga3 | gl3 | gk_c3 | gk_k3 | ga4 | gl4 | gk_c4 | gk_k4 | ga5 | gl5 | gk_c5 | gk_k5 | ga6 | gl6 | gk_c6 | gk_k6 | ga7 | gl7 | gk_c7 | gk_k7 | ga8 | gl8 | gk_c8 | gk_k8 | ga9 | gl9 | gk_c9 | gk_k9 | ga10 | gi10 | gmk_Node | gkc_Node | gl10 | gk_c10 | gk_k10 | ga11 | gi11 | gl11 | gk_c11 | gk_k11 | ga12 | gi12 | gl12 | gk_c12 | gk_k12 | ga13 | gi13 | gl13 | gk_c13 | gk_k13 | ga14 | gi14 | gl14 | gk_c14 | gk_k14 | ga15 | gi15 | gl15 | gk_c15 | gk_k15 | ga16 | gi16 | gl16 | gk_c16 | gk_k16 | ga17 | gi17 | gl17 | gk_c17 | gk_k17 | ga18 | gi18 | gl18 | gk_c18 | gk_k18 | ga19 | gi19 | gmk_Fork | gkc_Fork | gl19 | gk_c19 | gk_k19 | ga20 | gi20 | gl20 | gk_c20 | gk_k20 | ga21 | gl21 | gk_c21 | gk_k21 | ga22 | gl22 | gk_c22 | gk_k22 | ga23 | gl23 | gk_c23 | gk_k23 | ga24 | gl24 | gk_c24 | gk_k24 | ga25 | gl25 | gk_c25 | gk_k25 | ga26 | gl26 | gk_c26 | gk_k26 | ga27 | gl27 | gk_c27 | gk_k27 | ga28 | gl28 | gk_c28 | gk_k28 | ga29 | gl29 | gk_c29 | gk_k29 | ga30 | gl30 | gk_c30 | gk_k30 | ga31 | gl31 | gk_c31 | gk_k31 | ga32 | gl32 | gk_c32 | gk_k32 | ga33 | gl33 | gk_c33 | gk_k33 | ga34 | gl34 | gk_c34 | gk_k34 | ga35 | gl35 | gk_c35 | gk_k35 | ga36 | gl36 | gk_c36 | gk_k36 | ga37 | gl37 | gk_c37 | gk_k37 | ga38 | gl38 | gk_c38 | gk_k38 | ga39 | gl39 | gk_c39 | gk_k39 | ga40 | gl40 | gk_c40 | gk_k40 | ga41 | gl41 | gk_c41 | gk_k41 | ga42 | gl42 | gk_c42 | gk_k42 | ga43 | gl43 | gk_c43 | gk_k43 | ga44 | gl44 | gk_c44 | gk_k44 | ga45 | gl45 | gk_c45 | gk_k45 | ga46 | gl46 | gk_c46 | gk_k46 | ga47 | gl47 | gk_c47 | gk_k47 | ga48 | gl48 | gk_c48 | gk_k48 | ga49 | gl49 | gk_c49 | gk_k49 | ga50 | gl50 | gk_c50 | gk_k50 | ga51 | gl51 | gk_c51 | gk_k51 | ga52 | gl52 | gk_c52 | gk_k52 | ga53 | gl53 | gk_c53 | gk_k53 | ga54 | gl54 | gk_c54 | gk_k54 | ga55 | gl55 | gk_c55 | gk_k55 | ga56 | gl56 | gk_c56 | gk_k56 | ga57 | gl57 | gk_c57 | gk_k57 | ga58 | gl58 | gk_c58 | gk_k58 | ga59 | gl59 | gk_c59 | gk_k59 | ga60 | gl60 | gk_c60 | gk_k60 | gia_Leaf_init | gii_Leaf_init | gimk_Leaf | gikc_Leaf | gia_Leaf_at | gii_Leaf_at | gia_Fork_at | gii_Fork_at | gsg_Node_init | grd_Node_init | gfc_Node_init | ga_MEASURES | gl_MEASURES => first | k_is | k_exc | kit_is | kts_exm)
      (case gq_MEASURES => exact fun H => .inr ⟨_, _, _, (by k_is), rfl, rfl, by decide, (.cons ⟨_, rfl⟩ (.cons ⟨_, rfl⟩ .nil))⟩)
      (case gz_ValueError | gz_abs | gz_bool | gz_enumerate | gz_int | gz_isinstance | gz_len | gz_list | gz_max | gz_range | gz_reversed | gz_sorted | gz_sum | gz_tuple | ght4 | ght1 | ght3 | ghnLc | ghnFcd | ghnFqn | ghnFys | ghnFno | ghnFlt | ghnFdh | ghclL | ghclF | ghogt | ghotk | ghomL | ghomF | ghkLF | ghkFF => first | k_is | k_exc | kit_is | kts_exm)
    obtain ⟨T, rfl, hb⟩ := T
    exact ⟨T.d_law, hb, fun base kb nb => Lw.ok_law T⟩
  case S => exact fun K H a ns hl hO hS => ⟨a, ns, rfl, L2.SqF.of_only hO hS, hl, fun _ => rfl⟩
