import PyProof.Rows.All
import Wide.All
import OpenK.AllK
import Wide.FinOn
import Lean
import PyProof.EqAt
import PyProof.EqKinds
import PyProof.TupleCall
import KE.KRevSl
import KE.KDictSum
import KE.BitLaws
import KE.KIntText
import KE.IntTextLaws
import KE.KSortTup
import PyProof.DictItems
import PyProof.DictItemsLoops
import PyProof.DictWalks
import PySem.Challenge.RW_prunepath_k41_whole_ladder_meets_path
set_option Elab.async false
set_option linter.all false
set_option maxRecDepth 100000
namespace Cz
open PySem PySem.W PyProof.Rows
def goT (ok:Thread->Bool)(st:SharedT->Thread->Option (SharedT × Thread)) : Nat->SharedT->Thread->Option SharedT
 | 0,_,_=>none
 | n + 1,s,t=>match through t with
  | true=>some s
  | false=>match ok t with
   | false=>none
   | true=>match st s t with
    | some (s',t')=>goT ok st n s' t'
    | none=>none
theorem wW {tb:String->Option Builtin}{p:Program}{w:World}{n₀:Nat}{ann:Option Value} : ∀ {n:Nat}{s s₁:SharedT}{t:Thread},goT (stepOk n₀ ann) (stepT (denote tb) p w) n s t=some s₁->topRun tb p w n₀ ann n s.abs t=some s₁.abs
 | 0,_,_,_,h=>by cases h
 | n + 1,s,s₁,t,h=>by
  unfold goT at h
  unfold topRun
  cases h1:through t with
  | true =>
   rw [h1] at h
   obtain rfl:=Option.some.inj h
   rfl
  | false =>
   rw [h1] at h
   cases h2:stepOk n₀ ann t with
   | false=>rw [h2] at h; cases h
   | true =>
    rw [h2] at h
    cases h3:stepT (denote tb) p w s t with
    | none=>rw [h3] at h; cases h
    | some z =>
     obtain ⟨s',t'⟩:=z
     rw [h3] at h
     simp only [stepT_spec h3]
     exact wW h
noncomputable def bt0 (P:Params) : BT:=(((((((((((BT.nil.ins 0 (boot_o_0 P)).ins 1 (boot_o_1 P)).ins 2 (boot_o_2 P)).ins 3 (boot_o_3 P)).ins 4 (boot_o_4 P)).ins 5 (boot_o_5 P)).ins 6 (boot_o_6 P)).ins 7 (boot_o_7 P)).ins 8 (boot_o_8 P)).ins 9 (boot_o_9 P)).ins 10 (boot_o_10 P))
theorem bt0_abs (P:Params) : absHeap (bt0 P) 11 (boot_heap P).life=boot_heap P:=rfl
noncomputable def sT (w:World) (os:OsState) : SharedT:=⟨bt0 w.params,11,(boot_heap w.params).life,Array.mk [],boot_drawn,boot_toks,os⟩
noncomputable def sA (w:World) (os:OsState) : Shared:=⟨boot_heap w.params,Array.mk [],boot_drawn,boot_toks,os⟩
theorem sT_abs (w:World)(os:OsState) : (sT w os).abs=sA w os:=by
 unfold sT SharedT.abs sA
 dsimp only
 rw [bt0_abs]
theorem left_tree {p q:Program}{loose:List Str}{Xt:Shared->Bool} {α:Type}{Yf:Shared->α}{Ya:World->α}{N:Nat}{g0:Bool}
  (o:∀ w:World,(fencedOpening treeTable p w N).map (fun s=>(s.heap,s.gens,s.drawn,s.toks))=some (boot_heap w.params,Array.mk [],boot_drawn,boot_toks))
  (h:∀ w:World,(fun os:OsState=>(goT (stepOk 11 ((boot_heap w.params).nsMap mainGlobals "__annotations__")) (stepT (denote treeTable) p w) N (sT w os) (topStub p)).map fun s=>(staticsOk (importedModules p.main.body) (boot_heap w.params) s.abs.heap && namesBound p s.abs.heap && gensDone s.abs && laidKept (boot_heap w.params) s.abs.heap,openSeen q loose (importedModules p.main.body) Xt g0 s.abs))=fun _=>some (true,openGood q loose))
  (h':∀ w:World,(fun os:OsState=>(goT (stepOk 11 ((boot_heap w.params).nsMap mainGlobals "__annotations__")) (stepT (denote treeTable) p w) N (sT w os) (topStub p)).map fun s=>Yf s.abs)=fun _=>some (Ya w)) :
  LeftO p q loose Xt Yf Ya N g0:=fun w=>by
 obtain ⟨⟨h1,gs,d,k,os⟩,e,e'⟩:=Option.map_eq_some_iff.mp (o w)
 obtain ⟨rfl,rfl,rfl,rfl⟩ : h1=boot_heap w.params/\gs=Array.mk []/\d=boot_drawn/\k=boot_toks:=by simpa using e'
 unfold openEnds
 rw [e]
 obtain ⟨s₁,e1,e2⟩:=Option.map_eq_some_iff.mp (congrFun (h w) os)
 injection e2 with e2 e3
 have e4:=congrFun (h' w) os
 rw [e1] at e4
 have e4:Yf s₁.abs=Ya w:=Option.some.inj e4
 have e5:=wW e1
 rw [sT_abs] at e5
 have ez:topFrom treeTable p w N (sA w os)=some s₁.abs:=by
  unfold topFrom
  have c:((sA w os).heap.isNs mainGlobals && (sA w os).gens.size == 0)=true:=by kernel_rfl
  rw [c]
  show (topRun treeTable p w 11 ((boot_heap w.params).nsMap mainGlobals "__annotations__") N (sA w os) (topStub p)).bind _=_
  rw [e5]
  show (match staticsOk (importedModules p.main.body) (boot_heap w.params) s₁.abs.heap && namesBound p s₁.abs.heap && gensDone s₁.abs && laidKept (boot_heap w.params) s₁.abs.heap with
   | true=>some s₁.abs
   | false=>none)=some s₁.abs
  rw [e2]
 show (topFrom treeTable p w N (sA w os)).map _=_
 rw [ez]
 show some (openSeen q loose (importedModules p.main.body) Xt g0 s₁.abs,Yf s₁.abs)=some (openGood q loose,Ya w)
 rw [e3,e4]
def keep:List Nat:=[1,2,3,5,7,8,9,10,11,12,14,15,16,17,18,19,21,22,23,24,25,26,28,29,30,32,33,34,35,37,38,39,40,42,43,44,45,46,47,49,50,51,52,53,54,55,56,57,58,59,60,61,62,63,64]
def q:Program:=PySem.W.view PySem.Challenge.pw_prunepath_k41_whole_ladder_meets_path keep
def loose:List Str:=[]
set_option maxRecDepth 100000 in
set_option maxHeartbeats 0 in
theorem run1:∀ w:World,(fun os:OsState=>(goT (stepOk 11 ((boot_heap w.params).nsMap mainGlobals "__annotations__")) (stepT (denote treeTable) PySem.Challenge.pw_prunepath_k41_whole_ladder_meets_path w) 4752 (sT w os) (topStub PySem.Challenge.pw_prunepath_k41_whole_ladder_meets_path)).map fun s=>(staticsOk (importedModules PySem.Challenge.pw_prunepath_k41_whole_ladder_meets_path.main.body) (boot_heap w.params) s.abs.heap && namesBound PySem.Challenge.pw_prunepath_k41_whole_ladder_meets_path s.abs.heap && gensDone s.abs && laidKept (boot_heap w.params) s.abs.heap,openSeen q loose (importedModules PySem.Challenge.pw_prunepath_k41_whole_ladder_meets_path.main.body) (fun s=>xlAt q [] s && recOk (RowW.records (OpenRow.toRowW (OpenLaw.row PySem.Challenge.rw_prunepath_k41_whole_ladder_meets_path))) s) true s.abs))=fun _=>some (true,openGood q loose):=by
 rw [PySem.W.Fast.te6613529449190102663,PySem.W.Fast.te10156331382660048174,PySem.W.Fast.te11892475500146522536,PySem.W.Fast.te14364793385576792824,PySem.W.Fast.te4187177175401517315,PySem.W.Fast.te5923862056798008813]
 (intro w; kernel_rfl)
end Cz
namespace L2
open PySem PySem.Spec PyProof.Rows
abbrev bG:=Sum Int Str
def gB:bG->Value->Bool
 | .inl k,v=>Value.isInt k v
 | .inr x,v=>Value.isStrOf x v
def keyH (w:World) : bG->Int
 | .inl k=>hashInt k
 | .inr x=>hashStr w x
theorem bP:∀ {k:bG}{v:Value},gB k v=true->(∃ i t,k=Sum.inl i/\v=Value.int i t)\/(∃ x t,k=Sum.inr x/\v=Value.str x t)
 | .inl i,v,h=>by
  obtain ⟨t,e⟩:=Value.isInt_shape (k:=i) (v:=v) h
  exact .inl ⟨i,t,rfl,e⟩
 | .inr x,v,h=>by
  obtain ⟨t,e⟩:=Value.isStrOf_shape (x:=x) (v:=v) h
  exact .inr ⟨x,t,rfl,e⟩
theorem tI (i:Int)(t:Tok) : gB (.inl i) (.int i t)=true:=by simp [gB,Value.isInt]
theorem tH (x:Str)(t:Tok) : gB (.inr x) (.str x t)=true:=by simp [gB,Value.isStrOf]
theorem key_ll (a b:Int) : decide ((Sum.inl a:bG)=Sum.inl b)=(a == b):=by
 by_cases e:a=b
 ·subst e; simp
 ·have h:¬ (Sum.inl a:bG)=Sum.inl b:=fun q=>e (Sum.inl.inj q)
  rw [decide_eq_false h]
  exact (beq_eq_false_iff_ne.mpr e).symm
theorem key_rr (a b:Str) : decide ((Sum.inr a:bG)=Sum.inr b)=decide (a=b):=by
 by_cases e:a=b
 ·subst e; simp
 ·have h:¬ (Sum.inr a:bG)=Sum.inr b:=fun q=>e (Sum.inr.inj q)
  rw [decide_eq_false h,decide_eq_false e]
theorem key_lr (a:Int)(b:Str) : decide ((Sum.inl a:bG)=Sum.inr b)=false:=decide_eq_false (fun q=>nomatch q)
theorem key_rl (a:Str)(b:Int) : decide ((Sum.inr a:bG)=Sum.inl b)=false:=decide_eq_false (fun q=>nomatch q)
def aW (prog:Program)(w:World) : PySem.KeyKind prog w bG where
 is:=gB
 hash:=keyH w
 inj:=fun v a b ha hb=>by
  rcases bP ha with ⟨i,t,rfl,rfl⟩ | ⟨x,t,rfl,rfl⟩
  ·rcases bP hb with ⟨j,u,rfl,e⟩ | ⟨y,u,rfl,e⟩
   ·injection e with e1 _; rw [e1]
   ·exact nomatch e
  ·rcases bP hb with ⟨j,u,rfl,e⟩ | ⟨y,u,rfl,e⟩
   ·exact nomatch e
   ·injection e with e1 _; rw [e1]
 byValue:=fun k v h=>by
  rcases bP h with ⟨i,t,rfl,rfl⟩ | ⟨x,t,rfl,rfl⟩ <;> rfl
 pyHash:=fun hv h=>by
  rcases bP hv with ⟨i,t,rfl,rfl⟩ | ⟨x,t,rfl,rfl⟩
  ·exact wpAny_pyHash_int h
  ·exact wpAny_pyHash_str h
 eqBool:=fun hu hv h=>by
  rcases bP hu with ⟨i,t,rfl,rfl⟩ | ⟨x,t,rfl,rfl⟩
  ·rcases bP hv with ⟨j,u,rfl,rfl⟩ | ⟨y,u,rfl,rfl⟩
   ·rw [key_ll] at h; exact wpAny_eqBool_int h
   ·rw [key_lr] at h; exact SeqAt.EqAt.int_str i t y u _ _ _ _ h
  ·rcases bP hv with ⟨j,u,rfl,rfl⟩ | ⟨y,u,rfl,rfl⟩
   ·rw [key_rl] at h; exact SeqAt.EqAt.str_int x t j u _ _ _ _ h
   ·rw [key_rr] at h; exact wpAny_eqBool_str h
 «strs» := fun k x t v h=>by
  rcases bP h with ⟨i,u,rfl,e⟩ | ⟨y,u,rfl,e⟩
  ·exact nomatch e
  ·injection e with e1 _
   subst e1
   cases v <;> rfl
theorem iX (prog:Program)(w:World)(i:Int)(t:Tok) : (aW prog w).is (.inl i) (.int i t)=true:=tI i t
theorem iW (prog:Program)(w:World)(x:Str)(t:Tok) : (aW prog w).is (.inr x) (.str x t)=true:=tH x t
inductive V where
 | non | bl (b:Bool) | int (i:Int) | str (x:Str) | byt (b:Array UInt8) | flt (b:UInt64) | ref (a:Addr) | ty (n:String)
 deriving DecidableEq
def bX:V->Value->Prop
 | .non,u=>u=Value.none
 | .bl b,u=>u=Value.bool b
 | .int i,u=>∃ t,u=Value.int i t
 | .str x,u=>∃ t,u=Value.str x t
 | .byt b,u=>∃ t,u=Value.bytes b t
 | .flt b,u=>∃ t,u=Value.float b t
 | .ref a,u=>u=Value.ref a
 | .ty n,u=>u=Value.type n
abbrev bO:List V->List Value->Prop:=Paired bX
theorem bO.length {xs:List V}{us:List Value}(r:bO xs us) : xs.length=us.length:=Paired.length r
theorem bO.get:∀ {xs:List V}{us:List Value}{i:Nat}{x:V},bO xs us->xs[i]? = some x->∃ u,us[i]? = some u/\bX x u
 | _,_,_,_,.nil,e=>by simp at e
 | _,_,0,_,.cons r _,e=>by simp at e; subst e; exact ⟨_,rfl,r⟩
 | _,_,i + 1,x,.cons _ t,e=>by
  obtain ⟨u,h1,h2⟩:=bO.get (i:=i) (x:=x) t (by simpa using e)
  exact ⟨u,by simpa using h1,h2⟩
theorem bO.set {x:V}{u:Value}(r:bX x u) : ∀ {xs:List V}{us:List Value}(i:Nat),bO xs us->bO (xs.set i x) (us.set i u)
 | _,_,_,.nil=>.nil
 | _,_,0,.cons _ t=>.cons r t
 | _,_,i + 1,.cons q t=>.cons q (bO.set r i t)
theorem bO.append:∀ {xs ys:List V}{us ws:List Value},bO xs us->bO ys ws->bO (xs ++ ys) (us ++ ws)
 | _,_,_,_,.nil,s=>s
 | _,_,_,_,.cons r t,s=>.cons r (bO.append t s)
theorem bO.take:∀ {xs:List V}{us:List Value}(n:Nat),bO xs us->bO (xs.take n) (us.take n)
 | _,_,0,_=>.nil
 | _,_,_ + 1,.nil=>.nil
 | _,_,n + 1,.cons r t=>.cons r (bO.take n t)
theorem bO.drop:∀ {xs:List V}{us:List Value}(n:Nat),bO xs us->bO (xs.drop n) (us.drop n)
 | _,_,0,r=>r
 | _,_,_ + 1,.nil=>.nil
 | _,_,n + 1,.cons _ t=>bO.drop n t
def kM:Option V->Option Value->Prop
 | some v,some u=>bX v u
 | none,none=>True
 | _,_=>False
def KV {κ:Type} : List (κ × V)->List (κ × Value)->Prop:=Paired fun (p:κ × V) (q:κ × Value)=>p.1=q.1/\bX p.2 q.2
def kV:bG->V
 | .inl i=>.int i
 | .inr x=>.str x
inductive HO where
 | lst (xs:List V)
 | tup (xs:List V)
 | dK (kvs:List (bG × V)) | dT (kvs:List (List bG × V))
 | set (S:Int->Bool) (n:Nat)
 | ins (C dx:Addr) (fs:List (Str × V))
 | own (x:Addr)
 | xd (fs:List (Str × V))
 | met (f x:Addr)
 | rng (lo hi:Int)
 | frz (o:Obj) (u:HO)
 | tbl (ps:Array Value)
 | ext (φ:Heap->Prop)
abbrev Hp:=Addr->Option HO
def upd (H:Hp)(a:Addr)(o:HO) : Hp:=fun b=>if b=a then some o else H b
theorem aE {H:Hp}{a:Addr}{o:HO} : upd H a o a=some o:=by unfold upd; rw [if_pos rfl]
theorem aR {H:Hp}{a b:Addr}{o:HO}(h:b ≠ a) : upd H a o b=H b:=by unfold upd; rw [if_neg h]
theorem fQ {H:Hp}{a b:Addr}{o u:HO}(h:H a=some o)(h':H b=some u)(d:o ≠ u) : a ≠ b:=by
 intro e; subst e; rw [h] at h'; exact d (Option.some.inj h')
theorem bE {H:Hp}{a b:Addr}{o:HO}(h:H a=some o)(h':H b=none) : a ≠ b:=by
 intro e; subst e; rw [h] at h'; cases h'
section
variable (P:Program) (w:World)
def cI (H:Hp)(h:Heap)(a:Addr) : HO->Prop
 | .lst xs=>xs.length<=sizeLine/\∃ (its:List Value) (n:Nat),bO xs its/\h.get? a=some { cls:=.type "list", data:=.seq its.toArray n }
 | .tup xs=>xs.length<=sizeLine/\∃ its:List Value,bO xs its/\IsTup h a its.toArray
 | .dK kvs=>kvs.length<=sizeLine/\(a == sysModules)=false/\∃ vs,KV kvs vs/\h.DictOf (aW P w) a vs
 | .dT kvs=>kvs.length<=sizeLine/\(a == sysModules)=false/\∃ xs:List (List bG × Addr × Value),
   Paired (fun (p:List bG × V) (q:List bG × Addr × Value)=>p.1=q.1/\H q.2.1=some (.tup (p.1.map kV))/\bX p.2 q.2.2) kvs xs /\
   ∃ o es ep,h.get? a=some o/\o.ExactDict/\o.data = .dict es ep/\es.toList=xs.map (entryOfKey (tupleKind (aW P w)))/\(xs.map (·.1)).Nodup
 | .set S n=>h.SetOf (intKind P w) a S n
 | .ins C dx fs=>H dx=some (.own a)/\fs.length<=1000/\dx ≠ a/\h.get? a=some (PySem.W.instObj C dx) /\
   ∃ mA,h.Ns1 dx mA/\(∀ f,kM (fs.lookup f) (mA f))/\PySem.Within mA (fs.map (·.1))
 | .own _=>∃ o,h.get? a=some o
 | .xd fs=>∃ mA,h.Ns1 a mA/\∀ f,kM (fs.lookup f) (mA f)
 | .rng lo hi=>∃ t u v,h.get? a=some { cls:=.type "range", data:=.fields #[.int lo t,.int hi u,.int 1 v] }
 | .frz o u=>h.get? a=some o/\cI H h a u
 | .tbl ps=>h.get? a=some { cls:=.none,data:=.fields ps }
 | .met f x=>h.get? a=some (PySem.W.methodObj (.ref f) (.ref x))
 | .ext φ=>φ h/\(∃ o,h.get? a=some o)/\∀ h1 h2:Heap,φ h1->(∀ o,h1.get? a=some o->h2.get? a=some o)->φ h2
def g9 (H:Hp)(h:Heap) : Prop:=∀ a o,H a=some o->cI P w H h a o
end
section
variable {P:Program}{w:World}{H H':Hp}{h h':Heap}{a:Addr}{o:HO}
theorem cI.lt (x:cI P w H h a o) : a < h.objs.size:=by
 cases o with
 | lst xs=>obtain ⟨_,_,_,_,e⟩:=x; exact Heap.lt_size e
 | tup xs=>obtain ⟨_,_,_,p⟩:=x; exact p.lt
 | dK kvs=>obtain ⟨_,_,_,_,o,_,_,e,_⟩:=x; exact Heap.lt_size e
 | dT kvs=>obtain ⟨_,_,_,_,o,_,_,e,_⟩:=x; exact Heap.lt_size e
 | set S n=>obtain ⟨o,_,_,_,e,_⟩:=x; exact Heap.lt_size e
 | ins C dx fs=>obtain ⟨_,_,_,e,_⟩:=x; exact Heap.lt_size e
 | own y=>obtain ⟨_,e⟩:=x; exact Heap.lt_size e
 | xd fs=>obtain ⟨_,⟨_,_,_,e,_⟩,_⟩:=x; exact Heap.lt_size e
 | rng lo hi=>obtain ⟨_,_,_,e⟩:=x; exact Heap.lt_size e
 | frz ob u=>obtain ⟨e,_⟩:=x; exact Heap.lt_size e
 | tbl ps=>exact Heap.lt_size (show h.get? a=some _ from x)
 | met f y=>exact Heap.lt_size (show h.get? a=some _ from x)
 | ext φ=>obtain ⟨_,⟨_,e⟩,_⟩:=x; exact Heap.lt_size e
theorem Paired.mapP {α β:Type}{F G:α->β->Prop} : ∀ {l₁:List α}{l₂:List β},Paired F l₁ l₂->(∀ a b,F a b->G a b)->Paired G l₁ l₂
 | _,_,.nil,_=>.nil
 | _,_,.cons r t,f=>.cons (f _ _ r) (Paired.mapP t f)
theorem cI.stay (x:cI P w H h a o) (k:∀ b u,(b=a\/H b=some (.own a))->h.get? b=some u->h'.get? b=some u)
  (ho:∀ b,H b=some (.own a)->H' b=some (.own a)) (ht:∀ b xs,H b=some (.tup xs)->H' b=some (.tup xs)) : cI P w H' h' a o:=by
 induction o with
 | lst xs=>obtain ⟨z,its,n,r,e⟩:=x; exact ⟨z,its,n,r,k _ _ (.inl rfl) e⟩
 | tup xs=>obtain ⟨z,its,r,ob,e,c⟩:=x; exact ⟨z,its,r,ob,k _ _ (.inl rfl) e,c⟩
 | dK kvs=>obtain ⟨z,y,vs,r,ob,es,ep,e,c⟩:=x; exact ⟨z,y,vs,r,ob,es,ep,k _ _ (.inl rfl) e,c⟩
 | dT kvs =>
  obtain ⟨z,y,xs,r,ob,es,ep,e,c⟩:=x
  exact ⟨z,y,xs,Paired.mapP r fun p q z=>⟨z.1,ht _ _ z.2.1,z.2.2⟩,ob,es,ep,k _ _ (.inl rfl) e,c⟩
 | set S n=>obtain ⟨ob,es,ep,t,e,c⟩:=x; exact ⟨ob,es,ep,t,k _ _ (.inl rfl) e,c⟩
 | ins C dx fs =>
  obtain ⟨d,z,ne,e,mA,⟨od,es,ep,e2,c⟩,r⟩:=x
  exact ⟨ho _ d,z,ne,k _ _ (.inl rfl) e,mA,⟨od,es,ep,k _ _ (.inr d) e2,c⟩,r⟩
 | own y=>obtain ⟨ob,e⟩:=x; exact ⟨ob,k _ _ (.inl rfl) e⟩
 | xd fs=>obtain ⟨mA,⟨od,es,ep,e,c⟩,r⟩:=x; exact ⟨mA,⟨od,es,ep,k _ _ (.inl rfl) e,c⟩,r⟩
 | rng lo hi=>obtain ⟨t,u,v,e⟩:=x; exact ⟨t,u,v,k _ _ (.inl rfl) e⟩
 | frz ob u ih=>obtain ⟨e,q⟩:=x; exact ⟨k _ _ (.inl rfl) e,ih q⟩
 | tbl ps =>
  have e:h.get? a=some { cls:=.none,data:=.fields ps }:=x
  show h'.get? a=some { cls:=.none,data:=.fields ps }
  exact k a _ (.inl rfl) e
 | met f y =>
  have e:h.get? a=some (PySem.W.methodObj (.ref f) (.ref y)):=x
  show h'.get? a=some (PySem.W.methodObj (.ref f) (.ref y))
  exact k a _ (.inl rfl) e
 | ext φ=>obtain ⟨p,⟨o,e⟩,st⟩:=x; exact ⟨st _ _ p fun o q=>k _ _ (.inl rfl) q,⟨o,k _ _ (.inl rfl) e⟩,st⟩
theorem g9.lt (x:g9 P w H h)(e:H a=some o) : a < h.objs.size:=(x a o e).lt
theorem g9.fresh (x:g9 P w H h)(e:h.objs.size<=a) : H a=none:=by
 cases q:H a with
 | none=>rfl
 | some u=>exact absurd (Nat.lt_of_lt_of_le (x.lt q) e) (Nat.lt_irrefl _)
theorem g9.kept (x:g9 P w H h)(k:∀ b u,h.get? b=some u->h'.get? b=some u) : g9 P w H h':=fun a o e =>
 (x a o e).stay (fun b u _ q=>k b u q) (fun _ q=>q) fun _ _ q=>q
theorem g9.laid (x:g9 P w H h)(k:∀ b u,h.get? b=some u->h'.get? b=some u)(hp:h.objs.size<=a)(new:cI P w (upd H a o) h' a o) : g9 P w (upd H a o) h':=fun b u e=>by
 have hn:=x.fresh hp
 by_cases hb:b=a
 ·subst hb; rw [aE] at e; cases e; exact new
 ·rw [aR hb] at e
  exact (x b u e).stay (fun c v _ q=>k c v q) (fun c q=>by rw [aR (bE q hn)]; exact q) fun c xs q=>by rw [aR (bE q hn)]; exact q
end
def Rd (H:Hp)(a:Addr)(u:HO) : Prop:=H a=some u\/∃ o,H a=some (.frz o u)
theorem Rd.ok {P:Program}{w:World}{H:Hp}{h:Heap}{a:Addr}{u:HO}(r:Rd H a u)(x:g9 P w H h) : cI P w H h a u:=by
 rcases r with r | ⟨o,r⟩
 ·exact x a u r
 ·obtain ⟨_,q⟩:=x a _ r
  exact q
def Mut:Option HO->Prop
 | some (.lst _)=>True
 | some (.dK _)=>True
 | some (.dT _)=>True
 | some (.set _ _)=>True
 | some (.ins _ _ _)=>True
 | some (.ext _)=>True
 | _=>False
section
variable {P:Program}{w:World}{H:Hp}{h h':Heap}{x e:Addr}{o':HO}
theorem g9.write (ok:g9 P w H h) (mu:Mut (H x)) (he:e=x\/H e=some (.own x)) (k:∀ b u,b ≠ e->h.get? b=some u->h'.get? b=some u) (heo:∃ u,h'.get? e=some u)
  (new:cI P w (upd H x o') h' x o') : g9 P w (upd H x o') h':=fun b u q=>by
 have nown:∀ c y,H c=some (.own y)->c ≠ x:=fun c y r z=>by subst z; rw [r] at mu; exact mu
 have ntup:∀ c xs,H c=some (.tup xs)->c ≠ x:=fun c xs r z=>by subst z; rw [r] at mu; exact mu
 by_cases hb:b=x
 ·subst hb; rw [aE] at q; cases q; exact new
 ·rw [aR hb] at q
  by_cases hbe:b=e
  ·have q':H b=some (.own x):=by
    rcases he with z | z
    ·exact absurd (hbe.trans z) hb
    ·rw [hbe]; exact z
   rw [q] at q'; cases q'
   obtain ⟨v,hv⟩:=heo
   exact ⟨v,by rw [hbe]; exact hv⟩
  ·refine (ok b u q).stay (fun c v hc r=>k c v ?_ r) (fun c r=>by rw [aR (nown c b r)]; exact r) fun c xs r=>by rw [aR (ntup c xs r)]; exact r
   rcases hc with rfl | hc
   ·exact hbe
   ·rintro rfl
    rcases he with z | z
    ·exact nown c b hc z
    ·rw [hc] at z; cases z; exact hb rfl
end
structure Un (fs ex:List Addr) (H H':Hp) (h h':Heap) : Prop where
 keep:∀ b o,h.get? b=some o->H b=none->b ∉ fs->b ∉ ex->h'.get? b=some o
 slot:∀ b o,h.get? b=some o->H b=none->b∈fs->b ∉ ex->∃ sl,h'.get? b=some { o with slots:=sl }
 free:∀ b o,h.get? b=some o->H b=none->b ∉ ex->H' b=none
 there:∀ b o,h.get? b=some o->b ∉ ex->∃ o',h'.get? b=some o'
 tups:∀ b xs,H b=some (.tup xs)->H' b=some (.tup xs)
 frzs:∀ b o u,H b=some (.frz o u)->H' b=some (.frz o u)
 tbls:∀ b ps,H b=some (.tbl ps)->∃ more,H' b=some (.tbl (ps ++ more))
section
variable {fs fs' ex ex':List Addr}{H H1 H2:Hp}{h h1 h2 h':Heap}{a x e:Addr}{o:HO}
theorem Un.any (u:Un fs ex H H1 h h1){b:Addr}{ob:Obj}(q:h.get? b=some ob)(n:H b=none)(hx:b ∉ ex) : ∃ sl,h1.get? b=some { ob with slots:=sl }:=by
 by_cases hb:b∈fs
 ·exact u.slot b ob q n hb hx
 ·exact ⟨ob.slots,u.keep b ob q n hb hx⟩
theorem Un.kept (k:∀ b u,h.get? b=some u->h'.get? b=some u) : Un fs ex H H h h' :=
 ⟨fun b ob q _ _ _=>k b ob q,fun b ob q _ _ _=>⟨ob.slots,k b ob q⟩,fun _ _ _ n _=>n,fun b ob q _=>⟨ob,k b ob q⟩,fun _ _ q=>q,fun _ _ _ q=>q,fun _ ps q=>⟨#[],by rw [q]; simp⟩⟩
theorem Un.refl:Un fs ex H H h h:=Un.kept fun _ _ q=>q
theorem Un.laid (k:∀ b u,h.get? b=some u->h'.get? b=some u)(hp:h.objs.size<=a)(hn:H a=none) : Un fs ex H (upd H a o) h h' where
 keep:=fun b u q _ _ _=>k b u q
 slot:=fun b u q _ _ _=>⟨u.slots,k b u q⟩
 free:=fun b u q n _=>by rw [aR (Nat.ne_of_lt (Nat.lt_of_lt_of_le (Heap.lt_size q) hp))]; exact n
 there:=fun b u q _=>⟨u,k b u q⟩
 tups:=fun b xs q=>by rw [aR (bE q hn)]; exact q
 frzs:=fun b u xs q=>by rw [aR (bE q hn)]; exact q
 tbls:=fun b ps q=>⟨#[],by rw [aR (bE q hn),q]; simp⟩
theorem Un.write (mu:Mut (H x))(he:e=x\/H e=some (.own x))(k:∀ b u,b ≠ e->h.get? b=some u->h'.get? b=some u)(heo:∃ u,h'.get? e=some u) : Un fs ex H (upd H x o) h h':=by
 have hx:∀ b,H b=none->b ≠ x:=fun b n z=>by subst z; rw [n] at mu; exact mu
 have hb:∀ b,H b=none->b ≠ e:=fun b n z=>by
  subst z
  rcases he with r | r
  ·exact hx b n r
  ·rw [n] at r; cases r
 have hm:∀ b u,H b=some u->¬ Mut (some u)->b ≠ x:=fun b u q nm z=>by subst z; rw [q] at mu; exact nm mu
 refine ⟨fun b u q n _ _=>k b u (hb b n) q,fun b u q n _ _=>⟨u.slots,k b u (hb b n) q⟩,fun b u q n _=>by rw [aR (hx b n)]; exact n,fun b u q _=>?_,
  fun b xs q=>by rw [aR (hm b _ q fun z=>z)]; exact q,fun b u xs q=>by rw [aR (hm b _ q fun z=>z)]; exact q,fun b ps q=>⟨#[],by rw [aR (hm b _ q fun z=>z),q]; simp⟩⟩
 by_cases hbe:b=e
 ·subst hbe; exact heo
 ·exact ⟨u,k b u hbe q⟩
end
def trk (h:Heap)(H:Hp) : List Addr:=(List.range h.objs.size).filter fun a=>(H a).isSome
def mS (h:Heap)(H:Hp) : Heap:=PySem.W.hideAll h (trk h H)
theorem tO (h:Heap)(H:Hp) : (mS h H).objs.size=h.objs.size:=PySem.W.hideAll_size _ _
theorem wV {h:Heap}{H:Hp}{b:Addr}{o:Obj}(e:h.get? b=some o)(n:H b=none) : (mS h H).get? b=some o :=
 PySem.W.hideAll_get _ e fun hm=>by
  have q:(H b).isSome=true:=(List.mem_filter.mp hm).2
  rw [n] at q; simp at q
theorem of_hidT {h:Heap}{H:Hp}{b:Addr}{o:Obj}(e:(mS h H).get? b=some o) : h.get? b=some o/\H b=none:=by
 have e':h.get? b=some o:=PySem.W.of_hideAll (trk h H) e
 refine ⟨e',?_⟩
 cases q:H b with
 | none=>rfl
 | some x =>
  have hm:b∈trk h H:=List.mem_filter.mpr ⟨List.mem_range.mpr (Heap.lt_size e'),by simp [q]⟩
  have z:(mS h H).get? b=none:=PySem.W.hideAll_none (trk h H) hm
  rw [z] at e; cases e
def allNews (g h:Heap)(L:Addr) : List (Addr × Obj):=(List.range h.objs.size).filterMap fun a=>if a=L\/(g.get? a).isSome=true then none else (h.get? a).map fun o=>(a,o)
def rest (g h:Heap)(L d:Addr) : List (Addr × Obj):=(allNews g h L).filter fun p=>decide (p.1 ≠ d)
structure Mod (K:PySem.W.Frag) (mg:Str->Option Value) (base:Heap) : Prop where
 kin:K.In base
 glob:base.Ns mainGlobals mg
 blt:∃ mb,base.Ns builtinsNs mb/\∀ x:Str,x ≠ "__name__" -> mb x=bootBuiltins x
 nolimit:base.NoLimit
structure Cx where
 prog:Program
 w:World
 K:PySem.W.Frag
 mg:Str->Option Value
 base:Heap
 A:Around
 N:List Str
 s₀:Shared
 H₀:Hp
 env:Env
 outer:List Env
 stack:List Env
 ex:List Addr
 fn:Str->Bool
 calm:Bool
 pn:List (Addr × Obj)
 xe:Value->Shared->Prop
def jI (l:List Env) : List Addr:=l.filterMap (·.frame)
abbrev Cx.fs (X:Cx) : List Addr:=jI X.outer
def Vis (sc:Scope)(x:Str) : Prop:=sc.names.lookup x=some .local\/sc.names.lookup x=some .cell\/sc.names.lookup x=some .free
def Loc (sc:Scope)(x:Str) : Prop:=sc.names.lookup x=some .local\/sc.names.lookup x=some .cell
def Look (env:Env)(h:Heap)(m:Str->Option Value)(x:Str)(u:Value) : Prop :=
 (env.kindOf x=some .local/\m x=some u)\/((env.kindOf x=some .cell\/env.kindOf x=some .free)/\∃ c,env.cells.lookup x=some c/\h.IsCell c (some u))
structure Cx.Ok (X:Cx) : Prop where
 mod:Mod X.K X.mg X.base
 kind:X.env.scope.kind = .function
 glob:X.env.globals=mainGlobals
 blt:X.env.builtins=builtinsNs
 above:X.s₀.heap.objs.size<=X.env.locals
 inj:∀ x y c,X.env.cells.lookup x=some c->X.env.cells.lookup y=some c->x=y
 has:∀ x,(X.env.kindOf x=some .cell\/X.env.kindOf x=some .free)->∃ c,X.env.cells.lookup x=some c
 cab:∀ x c,X.fn x=true->X.env.cells.lookup x=some c->X.s₀.heap.objs.size<=c
 hd:X.calm=true->X.A.handled=none
 frames:X.A.frames=some X.stack
 stk:X.stack=X.outer\/(X.stack=X.env :: X.outer/\X.env.frame=some X.env.locals)
 exf:∀ b∈X.ex,b ≠ X.env.locals/\∀ x c,X.env.cells.lookup x=some c->c ≠ b
 bs:∀ b o,X.base.get? b=some o->X.s₀.heap.get? b=some o/\X.H₀ b=none
 bsz:X.base.objs.size<=X.s₀.heap.objs.size
 noex:∀ b o,X.base.get? b=some o->b ∉ X.ex
 exfs:∀ b∈X.ex,b ∉ X.fs
 funs:X.s₀.heap.FunFrames X.base X.outer
 frf:∀ b∈X.fs,X.H₀ b=none
structure Inv (X:Cx) (pins:List (Addr × Obj)) (σ:List (Option V)) (H:Hp) (s:Shared) : Prop where
 ok:X.Ok
 os:s.os=X.s₀.os
 bare:AllBare s.gens
 base:Un X.fs X.ex X.H₀ H X.s₀.heap s.heap
 loc:∃ m,s.heap.Ns X.env.locals m/\∀ (i:Nat) (x:Str) (v:V),X.N[i]? = some x->σ[i]? = some (some v)->Vis X.env.scope x->∃ u,bX v u/\Look X.env s.heap m x u
 cell:∀ x c,X.env.cells.lookup x=some c->∃ v,s.heap.IsCell c v
 free:H X.env.locals=none
 freeC:∀ x c,X.env.cells.lookup x=some c->H c=none
 pin:∀ p∈X.pn ++ pins,s.heap.get? p.1=some p.2/\H p.1=none/\p.1 ≠ X.env.locals/\p.1 ∉ X.fs/\∀ v,p.2.data ≠ .cell v
 hok:g9 X.prog X.w H s.heap
 len:σ.length=X.N.length
section
variable {X:Cx}{pins:List (Addr × Obj)}{σ:List (Option V)}{H H':Hp}{s:Shared}{h':Heap}
theorem Cx.Ok.nofr (ok:X.Ok){b:Addr}{o:Obj}(e:X.base.get? b=some o) : b ∉ X.fs:=fun hb=>by
 have:=(ok.funs.mem hb).1
 rw [e] at this; cases this
theorem Inv.bs (I:Inv X pins σ H s) : ∀ b o,X.base.get? b=some o->s.heap.get? b=some o/\H b=none:=fun b o e =>
 ⟨I.base.keep b o (I.ok.bs b o e).1 (I.ok.bs b o e).2 (I.ok.nofr e) (I.ok.noex b o e),I.base.free b o (I.ok.bs b o e).1 (I.ok.bs b o e).2 (I.ok.noex b o e)⟩
theorem Inv.bk (I:Inv X pins σ H s) : ∀ b o,X.base.get? b=some o->s.heap.get? b=some o:=fun b o e=>(I.bs b o e).1
theorem Inv.mod (I:Inv X pins σ H s) : Mod X.K X.mg X.base:=I.ok.mod
theorem Inv.kIn (I:Inv X pins σ H s) : X.K.In s.heap:=I.ok.mod.kin.keeps I.bk
theorem Inv.lt (I:Inv X pins σ H s) : X.env.locals < s.heap.objs.size:=let ⟨_,hn,_⟩:=I.loc; hn.lt
theorem Inv.sz (I:Inv X pins σ H s) : X.s₀.heap.objs.size<=s.heap.objs.size:=Nat.le_trans I.ok.above (Nat.le_of_lt I.lt)
theorem Inv.nofs (I:Inv X pins σ H s){a:Addr}(h:s.heap.objs.size<=a) : a ∉ X.fs:=fun hb=>by
 obtain ⟨_,o,ho,_⟩:=I.ok.funs.mem hb
 exact absurd (Nat.lt_of_lt_of_le (Heap.lt_size ho) (Nat.le_trans I.sz h)) (Nat.lt_irrefl _)
theorem Inv.cne (I:Inv X pins σ H s) : ∀ x c,X.env.cells.lookup x=some c->c ≠ X.env.locals:=fun x c e z=>by
 obtain ⟨v,o,ho,hd⟩:=I.cell x c e
 obtain ⟨m,⟨o',es,ep,ho',hd',_⟩,_⟩:=I.loc
 rw [z,ho'] at ho; cases ho; rw [hd'] at hd; cases hd
theorem Inv.funs (I:Inv X pins σ H s) : s.heap.FunFrames X.base X.outer:=by
 have all:∀ (l:List Env),(∀ b∈jI l,b∈X.fs)->X.s₀.heap.FunFrames X.base l->s.heap.FunFrames X.base l:=by
  intro l
  induction l with
  | nil=>intro _ _; trivial
  | cons env r ih =>
   intro hs hl
   obtain ⟨hk,⟨L,o,hf,hn,ho,hd⟩,hr⟩:=hl
   have hL:L∈X.fs:=hs L (by unfold jI; rw [List.filterMap_cons,hf]; exact List.mem_cons_self)
   obtain ⟨sl,e⟩:=I.base.slot L o ho (I.ok.frf L hL) hL fun z=>I.ok.exfs L z hL
   exact ⟨hk,⟨L,_,hf,hn,e,hd⟩,ih (fun b hb=>hs b (by unfold jI; rw [List.filterMap_cons,hf]; exact List.mem_cons_of_mem _ hb)) hr⟩
 exact all X.outer (fun _ hb=>hb) I.ok.funs
theorem Inv.stack (I:Inv X pins σ H s) : s.heap.FunFrames X.base X.stack:=by
 rcases I.ok.stk with e | ⟨e,hf⟩
 ·rw [e]; exact I.funs
 ·rw [e]
  obtain ⟨m,hn,_⟩:=I.loc
  refine .cons (by rw [I.ok.kind]; decide) hf hn ?_ I.funs
  exact Heap.get?_none_of_le (Nat.le_trans I.ok.bsz I.ok.above)
theorem Inv.stkSub (I:Inv X pins σ H s) : ∀ b∈jI X.stack,b∈X.env.locals :: X.fs:=fun b hb=>by
 rcases I.ok.stk with e | ⟨e,hf⟩
 ·rw [e] at hb; exact List.mem_cons_of_mem _ hb
 ·rw [e] at hb
  unfold jI at hb
  rw [List.filterMap_cons,hf] at hb
  exact hb
theorem Inv.stkFree (I:Inv X pins σ H s) : ∀ b∈jI X.stack,H b=none:=fun b hb=>by
 rcases List.mem_cons.mp (I.stkSub b hb) with e | hb
 ·rw [e]; exact I.free
 ·obtain ⟨_,o,ho,_⟩:=I.ok.funs.mem hb
  exact I.base.free b o ho (I.ok.frf b hb) fun z=>I.ok.exfs b z hb
theorem Inv.step {g':Array GenState}{t':Nat}{d':Drawn}{ch:List Addr}(I:Inv X pins σ H s)
  (hch:∀ b∈ch,(b∈X.ex\/X.s₀.heap.objs.size<=b)/\b ≠ X.env.locals/\(∀ x c,X.env.cells.lookup x=some c->c ≠ b)/\∀ p∈X.pn ++ pins,p.1 ≠ b)
  (keep:∀ b o,b ≠ X.env.locals->b ∉ X.fs->b ∉ ch->s.heap.get? b=some o->H b=none->h'.get? b=some o)
  (slot:∀ b o,b ≠ X.env.locals->b∈X.fs->b ∉ ch->s.heap.get? b=some o->H b=none->∃ sl,h'.get? b=some { o with slots:=sl }) (free:∀ b o,b ∉ ch->s.heap.get? b=some o->H b=none->H' b=none)
  (there:∀ b o,b ∉ ch->s.heap.get? b=some o->∃ o',h'.get? b=some o')
  (tups:∀ b xs,H b=some (.tup xs)->H' b=some (.tup xs)) (frzs:∀ b o u,H b=some (.frz o u)->H' b=some (.frz o u)) (tbls:∀ b ps,H b=some (.tbl ps)->∃ more,H' b=some (.tbl (ps ++ more)))
  (ns:∀ m,s.heap.Ns X.env.locals m->h'.Ns X.env.locals m) (hok:g9 X.prog X.w H' h') (hg:AllBare g') :
  Inv X pins σ H' { s with heap:=h',gens:=g',drawn:=d',toks:=t' }:=by
 have neL:∀ b o,X.s₀.heap.get? b=some o->b ≠ X.env.locals:=fun b o e=>Nat.ne_of_lt (Nat.lt_of_lt_of_le (Heap.lt_size e) I.ok.above)
 have neC:∀ b o,X.s₀.heap.get? b=some o->b ∉ X.ex->b ∉ ch:=fun b o e hx hb=>by
  rcases (hch b hb).1 with z | z
  ·exact hx z
  ·exact absurd (Nat.lt_of_lt_of_le (Heap.lt_size e) z) (Nat.lt_irrefl _)
 have cellK:∀ x c,X.env.cells.lookup x=some c->∀ v,s.heap.IsCell c v->h'.IsCell c v:=fun x c e v ⟨o,ho,hd⟩=>by
  have nch:c ∉ ch:=fun z=>(hch c z).2.2.1 x c e rfl
  by_cases hc:c∈X.fs
  ·obtain ⟨sl,q⟩:=slot c o (I.cne x c e) hc nch ho (I.freeC x c e)
   exact ⟨_,q,hd⟩
  ·exact ⟨o,keep c o (I.cne x c e) hc nch ho (I.freeC x c e),hd⟩
 refine ⟨I.ok,I.os,hg,⟨fun b o e n hb hx=>?_,fun b o e n hb hx=>?_,fun b o e n hx=>?_,fun b o e hx=>?_,fun b xs e=>tups b xs (I.base.tups b xs e),fun b o xs e=>frzs b o xs (I.base.frzs b o xs e),fun b ps e=>?_⟩,?_,fun x c e=>?_,?_,fun x c e=>?_,fun p hp=>?_,hok,I.len⟩
 ·exact keep b o (neL b o e) hb (neC b o e hx) (I.base.keep b o e n hb hx) (I.base.free b o e n hx)
 ·obtain ⟨sl,e1⟩:=I.base.slot b o e n hb hx
  obtain ⟨sl',e2⟩:=slot b _ (neL b o e) hb (neC b o e hx) e1 (I.base.free b o e n hx)
  exact ⟨sl',e2⟩
 ·obtain ⟨o',e1⟩:=I.base.there b o e hx
  exact free b o' (neC b o e hx) e1 (I.base.free b o e n hx)
 ·obtain ⟨o',e1⟩:=I.base.there b o e hx
  exact there b o' (neC b o e hx) e1
 ·obtain ⟨m1,e1⟩:=I.base.tbls b ps e
  obtain ⟨m2,e2⟩:=tbls b _ e1
  exact ⟨m1 ++ m2,by rw [e2,Array.append_assoc]⟩
 ·obtain ⟨m,hn,hl⟩:=I.loc
  refine ⟨m,ns m hn,fun i x v e1 e2 e3=>?_⟩
  obtain ⟨u,r,l⟩:=hl i x v e1 e2 e3
  refine ⟨u,r,?_⟩
  rcases l with l | ⟨k,c,e,z⟩
  ·exact .inl l
  ·exact .inr ⟨k,c,e,cellK x c e _ z⟩
 ·obtain ⟨v,z⟩:=I.cell x c e
  exact ⟨v,cellK x c e v z⟩
 ·obtain ⟨m,⟨o,_,_,ho,_⟩,_⟩:=I.loc
  exact free _ o (fun z=>(hch _ z).2.1 rfl) ho I.free
 ·obtain ⟨v,o,ho,hd⟩:=I.cell x c e
  exact free c o (fun z=>(hch c z).2.2.1 x c e rfl) ho (I.freeC x c e)
 ·obtain ⟨e,n,ne,nf,d⟩:=I.pin p hp
  have nch:p.1 ∉ ch:=fun z=>(hch p.1 z).2.2.2 p hp rfl
  exact ⟨keep p.1 p.2 ne nf nch e n,free p.1 p.2 nch e n,ne,nf,d⟩
theorem Inv.un {t':Nat}(I:Inv X pins σ H s)(u:Un X.fs [] H H' s.heap h')(hok:g9 X.prog X.w H' h') : Inv X pins σ H' { s with heap:=h',toks:=t' }:=by
 obtain ⟨m,⟨o,es,ep,ho,r⟩,_⟩:=id I.loc
 obtain ⟨sl,hL⟩:=u.any ho I.free (by simp)
 exact I.step (g':=s.gens) (d':=s.drawn) (ch:=[]) (fun _ z=>nomatch z) (fun b o _ hb _ e n=>u.keep b o e n hb (by simp)) (fun b o _ hb _ e n=>u.slot b o e n hb (by simp)) (fun b o _ e n=>u.free b o e n (by simp)) (fun b o _ e=>u.there b o e (by simp)) u.tups u.frzs u.tbls (fun m' hm=>by
  obtain ⟨o',es',ep',ho',r'⟩:=hm
  rw [ho] at ho'; cases ho'
  exact ⟨_,es',ep',hL,r'⟩) hok I.bare
theorem Inv.call {g':Array GenState}{t':Nat}{d':Drawn}{ch:List Addr}(I:Inv X pins σ H s) (u:Un (jI X.stack) ch H H' s.heap h') (hok:g9 X.prog X.w H' h') (hg:AllBare g')
  (hch:∀ b∈ch,(b∈X.ex\/X.s₀.heap.objs.size<=b)/\b ≠ X.env.locals/\(∀ x c,X.env.cells.lookup x=some c->c ≠ b)/\∀ p∈X.pn ++ pins,p.1 ≠ b) :
  Inv X pins σ H' { s with heap:=h',gens:=g',drawn:=d',toks:=t' }:=by
 obtain ⟨m,⟨o,es,ep,ho,r⟩,_⟩:=id I.loc
 obtain ⟨sl,hL⟩:=u.any ho I.free fun z=>(hch _ z).2.1 rfl
 exact I.step (ch:=ch) hch (fun b o hL hb hc e n=>u.keep b o e n (fun z=>(List.mem_cons.mp (I.stkSub b z)).elim hL hb) hc) (fun b o _ _ hc e n=>u.any e n hc) (fun b o hc e n=>u.free b o e n hc) (fun b o hc e=>u.there b o e hc) u.tups u.frzs u.tbls (fun m' hm=>by
  obtain ⟨o',es',ep',ho',r'⟩:=hm
  rw [ho] at ho'; cases ho'
  exact ⟨_,es',ep',hL,r'⟩) hok hg
theorem Inv.turned {t':Nat}{it:Addr}(I:Inv X pins σ H s) (k:∀ b o,b ≠ it->s.heap.get? b=some o->h'.get? b=some o) (hn:H it=none) (hL:it ≠ X.env.locals)
  (h1:it∈X.ex\/X.s₀.heap.objs.size<=it) (h2:∀ x c,X.env.cells.lookup x=some c->c ≠ it) (h3:∀ p∈X.pn ++ pins,p.1 ≠ it) : Inv X pins σ H { s with heap:=h',toks:=t' }:=by
 have nit:∀ b u,H b=some u->b ≠ it:=fun b u e z=>by rw [z,hn] at e; cases e
 refine I.step (g':=s.gens) (d':=s.drawn) (ch:=[it]) (fun b hb=>?_) (fun b o _ _ hc e _=>k b o (fun z=>hc (by simp [z])) e) (fun b o _ _ hc e _=>⟨o.slots,k b o (fun z=>hc (by simp [z])) e⟩) (fun _ _ _ _ n=>n)
  (fun b o hc e=>⟨o,k b o (fun z=>hc (by simp [z])) e⟩) (fun _ _ e=>e) (fun _ _ _ e=>e) (fun b ps e=>⟨#[],by rw [e]; simp⟩) (fun m hm=>?_) (fun b u e=>?_) I.bare
 ·have e:b=it:=by simpa using hb
  subst e
  exact ⟨h1,hL,h2,h3⟩
 ·obtain ⟨o,es,ep,ho,r⟩:=hm
  exact ⟨o,es,ep,k _ o (Ne.symm hL) ho,r⟩
 ·refine (I.hok b u e).stay (fun c v hc q=>k c v ?_ q) (fun _ q=>q) fun _ _ q=>q
  rcases hc with z | z
  ·rw [z]; exact nit b u e
  ·exact nit c _ z
theorem Inv.tok (I:Inv X pins σ H s)(t:Nat) : Inv X pins σ H { s with toks:=t }:=I.un (h':=s.heap) (t':=t) Un.refl I.hok
theorem Inv.kept {t':Nat}(I:Inv X pins σ H s)(k:∀ b u,s.heap.get? b=some u->h'.get? b=some u) : Inv X pins σ H { s with heap:=h',toks:=t' }:=I.un (Un.kept k) (I.hok.kept k)
theorem Inv.laid {a:Addr}{o:HO}{t':Nat}(I:Inv X pins σ H s) (k:∀ b u,s.heap.get? b=some u->h'.get? b=some u) (hp:s.heap.objs.size<=a) (new:cI X.prog X.w (upd H a o) h' a o) :
  Inv X pins σ (upd H a o) { s with heap:=h',toks:=t' }:=I.un (Un.laid k hp (I.hok.fresh hp)) (I.hok.laid k hp new)
theorem Inv.write {x e:Addr}{o:HO}{t':Nat}(I:Inv X pins σ H s) (mu:Mut (H x)) (he:e=x\/H e=some (.own x)) (k:∀ b u,b ≠ e->s.heap.get? b=some u->h'.get? b=some u) (heo:∃ u,h'.get? e=some u)
  (new:cI X.prog X.w (upd H x o) h' x o) : Inv X pins σ (upd H x o) { s with heap:=h',toks:=t' }:=I.un (Un.write mu he k heo) (I.hok.write mu he k heo new)
theorem Inv.weak {σ':List (Option V)}(I:Inv X pins σ H s)(hl:σ'.length=σ.length)(w:∀ (i:Nat) v,σ'[i]? = some (some v)->σ[i]? = some (some v)) : Inv X pins σ' H s :=
 ⟨I.ok,I.os,I.bare,I.base,let ⟨m,hn,hl'⟩:=I.loc; ⟨m,hn,fun i x v e1 e2 e3=>hl' i x v e1 (w i v e2) e3⟩,I.cell,I.free,I.freeC,I.pin,I.hok,hl.trans I.len⟩
theorem Inv.pins_of {pins':List (Addr × Obj)}(I:Inv X pins σ H s)(h:∀ p∈pins',s.heap.get? p.1=some p.2/\H p.1=none/\p.1 ≠ X.env.locals/\p.1 ∉ X.fs/\∀ v,p.2.data ≠ .cell v) : Inv X pins' σ H s :=
 ⟨I.ok,I.os,I.bare,I.base,I.loc,I.cell,I.free,I.freeC,fun p hp=>(List.mem_append.mp hp).elim (fun z=>I.pin p (List.mem_append_left _ z)) (h p),I.hok,I.len⟩
theorem oF {N:List Str}(hN:N.Nodup){i j:Nat}{x:Str}(a:N[i]? = some x)(b:N[j]? = some x) : i=j:=by
 obtain ⟨h1,e1⟩:=List.getElem?_eq_some_iff.mp a
 obtain ⟨h2,e2⟩:=List.getElem?_eq_some_iff.mp b
 exact (List.getElem_inj hN).mp (e1.trans e2.symm)
theorem sI {M:Model}{A:Around}{E:Value->Shared->Prop}{i:Nat}{x:Str}{v:V}{u:Value}{Q:Unit->Shared->Prop}(I:Inv X pins σ H s) (hN:X.N.Nodup) (hi:X.N[i]? = some x) (hx:Loc X.env.scope x) (r:bX v u)
  (h:∀ s',Inv X pins (σ.set i (some v)) H s'->(∃ a,Heap.SameBut a s.heap s'.heap/\(a=X.env.locals\/X.env.cells.lookup x=some a))->Q () s') (hf:X.fn x=true\/X.env.scope.names.lookup x=some .local:=by first | exact .inl rfl | exact .inr rfl | assumption) : wpAny M A (storeName X.env x u) Q E s:=by
 obtain ⟨m,hn,hl⟩:=id I.loc
 have hcls:(X.env.scope.kind == .class || (X.env.scope.kind == .module && X.env.locals != X.env.globals))=false:=by rw [I.ok.kind]; rfl
 have hiσ:i < σ.length:=by rw [I.len]; exact (List.getElem?_eq_some_iff.mp hi).1
 have cne:=I.cne
 have tracked:∀ {a:Addr}{h':Heap},(∃ o,s.heap.get? a=some o/\H a=none)->Heap.SameBut a s.heap h'->g9 X.prog X.w H h':=fun {a h'} ha hs b ob e=>by
  obtain ⟨_,_,hfree⟩:=ha
  refine (I.hok b ob e).stay (fun c w' hc q=>(hs.2 c ?_).trans q) (fun _ q=>q) fun _ _ q=>q
  rintro rfl
  rcases hc with rfl | hc
  ·rw [hfree] at e; cases e
  ·rw [hfree] at hc; cases hc
 rcases hx with hk | hk
 ·refine wpAny_storeName_local hk hn (fun h' hn' hs=>?_) hcls
  obtain ⟨oL,_,_,hoL,_⟩:=id hn
  refine h _ ⟨I.ok,I.os,I.bare,⟨fun b o e n hb hx=>?_,fun b o e n hb hx=>?_,I.base.free,fun b o e hx=>?_,I.base.tups,I.base.frzs,I.base.tbls⟩,⟨_,hn',fun j y v' e1 e2 e3=>?_⟩,fun y c e=>?_,I.free,I.freeC,fun p hp=>?_,tracked ⟨oL,hoL,I.free⟩ hs,by simpa using I.len⟩ ⟨_,hs,.inl rfl⟩
  ·exact (hs.2 b (Nat.ne_of_lt (Nat.lt_of_lt_of_le (Heap.lt_size e) I.ok.above))).trans (I.base.keep b o e n hb hx)
  ·obtain ⟨sl,e1⟩:=I.base.slot b o e n hb hx
   exact ⟨sl,(hs.2 b (Nat.ne_of_lt (Nat.lt_of_lt_of_le (Heap.lt_size e) I.ok.above))).trans e1⟩
  ·obtain ⟨o',e1⟩:=I.base.there b o e hx
   exact ⟨o',(hs.2 b (Nat.ne_of_lt (Nat.lt_of_lt_of_le (Heap.lt_size e) I.ok.above))).trans e1⟩
  ·by_cases hj:j=i
   ·subst hj
    rw [hi] at e1; cases e1
    rw [List.getElem?_set_self hiσ] at e2
    cases e2
    exact ⟨u,r,.inl ⟨hk,by simp⟩⟩
   ·rw [List.getElem?_set_ne (Ne.symm hj)] at e2
    obtain ⟨u',r',q⟩:=hl j y v' e1 e2 e3
    refine ⟨u',r',?_⟩
    rcases q with ⟨k,e⟩ | ⟨k,c,e,z⟩
    ·refine .inl ⟨k,?_⟩
     have:y ≠ x:=fun e=>hj (oF hN e1 (e ▸ hi))
     simp [this,e]
    ·exact .inr ⟨k,c,e,z.sameBut hs (cne y c e)⟩
  ·obtain ⟨w',z⟩:=I.cell y c e
   exact ⟨w',z.sameBut hs (cne y c e)⟩
  ·obtain ⟨e,n,ne,nf,d⟩:=I.pin p hp
   exact ⟨(hs.2 p.1 ne).trans e,n,ne,nf,d⟩
 ·have hfn:X.fn x=true:=by
   rcases hf with z | z
   ·exact z
   ·rw [z] at hk; cases hk
  obtain ⟨c,hc⟩:=I.ok.has x (.inl hk)
  obtain ⟨w',z⟩:=I.cell x c hc
  refine wpAny_storeName_cell I.ok.kind hk hc z (fun h' hc' hs=>?_)
  obtain ⟨oc,hoc,hocd⟩:=id z
  refine h { s with heap:=h' } ⟨I.ok,I.os,I.bare,⟨fun b o e n hb hx=>?_,fun b o e n hb hx=>?_,I.base.free,fun b o e hx=>?_,I.base.tups,I.base.frzs,I.base.tbls⟩,⟨m,hn.sameBut hs (Ne.symm (cne x c hc)),fun j y v' e1 e2 e3=>?_⟩,fun y c' e=>?_,I.free,I.freeC,fun p hp=>?_,tracked ⟨oc,hoc,I.freeC x c hc⟩ hs,by simpa using I.len⟩ ⟨c,hs,.inr hc⟩
  ·exact (hs.2 b (Nat.ne_of_lt (Nat.lt_of_lt_of_le (Heap.lt_size e) (I.ok.cab x c hfn hc)))).trans (I.base.keep b o e n hb hx)
  ·obtain ⟨sl,e1⟩:=I.base.slot b o e n hb hx
   exact ⟨sl,(hs.2 b (Nat.ne_of_lt (Nat.lt_of_lt_of_le (Heap.lt_size e) (I.ok.cab x c hfn hc)))).trans e1⟩
  ·obtain ⟨o',e1⟩:=I.base.there b o e hx
   exact ⟨o',(hs.2 b (Nat.ne_of_lt (Nat.lt_of_lt_of_le (Heap.lt_size e) (I.ok.cab x c hfn hc)))).trans e1⟩
  ·by_cases hj:j=i
   ·subst hj
    rw [hi] at e1; cases e1
    rw [List.getElem?_set_self hiσ] at e2
    cases e2
    exact ⟨u,r,.inr ⟨.inl hk,c,hc,hc'⟩⟩
   ·rw [List.getElem?_set_ne (Ne.symm hj)] at e2
    obtain ⟨u',r',q⟩:=hl j y v' e1 e2 e3
    refine ⟨u',r',?_⟩
    rcases q with q | ⟨k,c',e,z'⟩
    ·exact .inl q
    ·refine .inr ⟨k,c',e,z'.sameBut hs ?_⟩
     rintro rfl
     exact hj (oF hN e1 (I.ok.inj _ _ _ e hc ▸ hi))
  ·by_cases hcc:c'=c
   ·subst hcc; exact ⟨_,hc'⟩
   ·obtain ⟨w2,z2⟩:=I.cell y c' e
    exact ⟨w2,z2.sameBut hs hcc⟩
  ·obtain ⟨e,n,ne,nf,d⟩:=I.pin p hp
   refine ⟨(hs.2 p.1 ?_).trans e,n,ne,nf,d⟩
   intro q
   rw [q,hoc] at e
   have q':oc=p.2:=Option.some.inj e
   exact d w' (by rw [<- q']; exact hocd)
theorem hJ {M:Model}{A:Around}{E:Value->Shared->Prop}{i:Nat}{x:Str}{v:V}{u:Value}{Q:Unit->Shared->Prop}(I:Inv X pins σ H s) (hN:X.N.Nodup) (hi:X.N[i]? = some x) (hx:Loc X.env.scope x) (r:bX v u)
  (h:∀ s',Inv X pins (σ.set i (some v)) H s'->Q () s') (hf:X.fn x=true\/X.env.scope.names.lookup x=some .local:=by first | exact .inl rfl | exact .inr rfl | assumption) : wpAny M A (storeName X.env x u) Q E s :=
 sI I hN hi hx r (fun s' I' _=>h s' I') hf
theorem Inv.call' {s':Shared}{ch:List Addr}(I:Inv X pins σ H s) (ho:s'.os=s.os) (u:Un (jI X.stack) ch H H' s.heap s'.heap) (hok:g9 X.prog X.w H' s'.heap) (hg:AllBare s'.gens)
  (hch:∀ b∈ch,(b∈X.ex\/X.s₀.heap.objs.size<=b)/\b ≠ X.env.locals/\(∀ x c,X.env.cells.lookup x=some c->c ≠ b)/\∀ p∈X.pn ++ pins,p.1 ≠ b) : Inv X pins σ H' s':=by
 obtain ⟨h',g',d',t',o'⟩:=s'
 have e:o'=s.os:=ho
 subst e
 exact I.call (g':=g') (t':=t') (d':=d') u hok hg hch
end
abbrev XK:=Value->Option Addr->Hp->Prop
abbrev St:=List (Option V)
abbrev VK:=V->Hp->Prop
abbrev TE:=St->Hp->VK->Prop
abbrev TT:=St->Hp->(Bool->Hp->Prop)->Prop
abbrev TA:=St->Hp->(List V->Hp->Prop)->Prop
structure Ends where
 nx:St->Hp->Prop
 rt:VK
 bk:St->Hp->Prop:=fun _ _=>False
 ct:St->Hp->Prop:=fun _ _=>False
abbrev TS:=Ends->St->Hp->Prop
def EP (X:Cx)(pins:List (Addr × Obj))(σ:St)(Q:VK)(u:Value)(s':Shared) : Prop:=∃ v H',Inv X pins σ H' s'/\bX v u/\Q v H'
def TP (X:Cx)(pins:List (Addr × Obj))(σ:St)(Q:Bool->Hp->Prop)(b:Bool)(s':Shared) : Prop:=∃ H',Inv X pins σ H' s'/\Q b H'
def AP (X:Cx)(pins:List (Addr × Obj))(σ:St)(Q:List V->Hp->Prop)(us:List Value)(s':Shared) : Prop:=∃ vs H',Inv X pins σ H' s'/\bO vs us/\Q vs H'
def SP (X:Cx)(pins:List (Addr × Obj))(D:Ends)(f:Flow)(s':Shared) : Prop :=
 match f with
 | .next=>∃ σ' H',Inv X pins σ' H' s'/\D.nx σ' H'
 | .brk=>∃ σ' H',Inv X pins σ' H' s'/\D.bk σ' H'
 | .cont=>∃ σ' H',Inv X pins σ' H' s'/\D.ct σ' H'
 | .ret u=>∃ v σ' H',Inv X pins σ' H' s'/\bX v u/\D.rt v H'
def PE (X:Cx)(e:Expr)(t:TE) : Prop :=
 ∀ (pins:List (Addr × Obj)) (s:Shared) (σ:St) (H:Hp) (Q:VK),Inv X pins σ H s->t σ H Q->wpAny (model X.prog X.w) X.A (eval e X.env) (EP X pins σ Q) X.xe s
def PT (X:Cx)(e:Expr)(t:TT) : Prop :=
 ∀ (pins:List (Addr × Obj)) (s:Shared) (σ:St) (H:Hp) (Q:Bool->Hp->Prop),Inv X pins σ H s->t σ H Q->wpAny (model X.prog X.w) X.A (isTrue e X.env (eval e X.env)) (TP X pins σ Q) X.xe s
def PW (X:Cx)(e:Expr)(t:TT) : Prop :=
 ∀ (whole:Sem Value) (pins:List (Addr × Obj)) (s:Shared) (σ:St) (H:Hp) (Q:Bool->Hp->Prop),Inv X pins σ H s->t σ H Q->wpAny (model X.prog X.w) X.A (isTrue e X.env whole) (TP X pins σ Q) X.xe s
theorem PW.pt {X:Cx}{e:Expr}{t:TT}(h:PW X e t) : PT X e t:=h _
def PA (X:Cx)(es:List Expr)(t:TA) : Prop :=
 ∀ (pos:Pos) (pins:List (Addr × Obj)) (s:Shared) (σ:St) (H:Hp) (Q:List V->Hp->Prop),Inv X pins σ H s->t σ H Q->wpAny (model X.prog X.w) X.A (spliced (backTo pos (starEach es X.env))) (AP X pins σ Q) X.xe s
def PS (X:Cx)(st:Stmt)(t:TS) : Prop :=
 ∀ (pins:List (Addr × Obj)) (s:Shared) (σ:St) (H:Hp) (D:Ends),Inv X pins σ H s->t D σ H->wpAny (model X.prog X.w) X.A (exec st X.env) (SP X pins D) X.xe s
def xX (X:Cx)(st:List Stmt)(t:TS) : Prop :=
 ∀ (pins:List (Addr × Obj)) (s:Shared) (σ:St) (H:Hp) (D:Ends),Inv X pins σ H s->t D σ H->wpAny (model X.prog X.w) X.A (execs st X.env) (SP X pins D) X.xe s
theorem cL {α:Type}{t:Sem α}{Q Q':α->Shared->Prop}{M:Model}{A:Around}{E:Value->Shared->Prop}{s:Shared}(h:wpAny M A t Q E s)(hQ:∀ a s,Q a s->Q' a s) : wpAny M A t Q' E s:=wpAny_mono h hQ fun _ _ x=>x
section
variable {X:Cx}
def tVar (i:Nat) : TE:=fun σ H Q=>∃ v,σ[i]? = some (some v)/\Q v H
def tC (v:V) : TE:=fun _ H Q=>Q v H
theorem pe_var {i:Nat}{x:Str}{pos:Pos}(hN:X.N[i]? = some x)(hv:Vis X.env.scope x)(hd:(x == ("__debug__" : Str))=false:=by decide)(hcd:(x == ("__classdict__" : Str))=false:=by decide) : PE X (.Name x pos) (tVar i):=by
 intro pins s σ H Q I h
 obtain ⟨v,e,h⟩:=h
 obtain ⟨m,hn,hl⟩:=I.loc
 obtain ⟨u,r,l⟩:=hl i x v hN e hv
 have fin:EP X pins σ Q u s:=⟨v,H,I,r,h⟩
 rcases l with ⟨hk,hm⟩ | ⟨hk,c,hc,hcell⟩
 ·exact wpAny_Name (wpAny_loadName_local I.ok.kind hk hn hm fin) hd
 ·rcases hk with hk | hk
  ·exact wpAny_Name (wpAny_loadName_cell I.ok.kind hk hc hcell fin) hd
  ·exact wpAny_Name (wpAny_loadName_free I.ok.kind hk hc hcell fin hcd) hd
theorem aB {i j pos} : PE X (.Constant (.int i) j pos) (tC (.int i)):=fun _ _ _ H _ I h=>wpAny_Constant_int ⟨.int i,H,I.tok _,⟨_,rfl⟩,h⟩
theorem iT {b j pos} : PE X (.Constant (.bool b) j pos) (tC (.bl b)):=fun _ _ _ H _ I h=>Constant_bool ⟨.bl b,H,I,rfl,h⟩
theorem pX {j pos} : PE X (.Constant .none j pos) (tC .non):=fun _ _ _ H _ I h=>Constant_none ⟨.non,H,I,rfl,h⟩
theorem bA {x j pos} : PE X (.Constant (.str x) j pos) (tC (.str x)):=fun _ _ _ H _ I h=>Calls.Constant_str ⟨.str x,H,I.tok _,⟨_,rfl⟩,h⟩
def Gl (X:Cx)(x:Str) : Prop:=X.env.kindOf x=some .globalImplicit
theorem rM {E:Value->Shared->Prop}{pins:List (Addr × Obj)}{s:Shared}{σ:St}{H:Hp}{x:Str}{u:Value}{pos:Pos}{Q:Value->Shared->Prop}(I:Inv X pins σ H s) (hg:Gl X x) (hm:X.mg x=some u) (h:Q u s)
  (hd:(x == ("__debug__" : Str))=false:=by decide) : wpAny (model X.prog X.w) X.A (eval (.Name x pos) X.env) Q E s :=
 Calls.Name_function_global I.ok.kind hg (Calls.loadGlobal_global (by rw [I.ok.glob]; exact I.mod.glob.keeps I.bk) hm h) hd
theorem j7 {E:Value->Shared->Prop}{pins:List (Addr × Obj)}{s:Shared}{σ:St}{H:Hp}{x:Str}{u:Value}{pos:Pos}{Q:Value->Shared->Prop}(I:Inv X pins σ H s) (hg:Gl X x) (hm:X.mg x=none) (hv:bootBuiltins x=some u) (h:Q u s)
  (hn:x ≠ "__name__" := by decide) (hd:(x == ("__debug__" : Str))=false:=by decide) : wpAny (model X.prog X.w) X.A (eval (.Name x pos) X.env) Q E s:=by
 obtain ⟨mb,h1,h2⟩:=I.mod.blt
 exact Calls.Name_function_global I.ok.kind hg (Calls.loadGlobal_builtin (by rw [I.ok.glob]; exact I.mod.glob.keeps I.bk) hm (by rw [I.ok.blt]; exact h1.keeps I.bk) ((h2 x hn).trans hv) h) hd
theorem mL {x:Str}{v:V}{u:Value}{pos:Pos}(hg:Gl X x)(hm:X.mg x=none)(hv:bootBuiltins x=some u)(r:bX v u)(hn:x ≠ "__name__" := by decide)(hd:(x == ("__debug__" : Str))=false:=by decide) : PE X (.Name x pos) (tC v) :=
 fun _ _ _ H _ I h=>j7 I hg hm hv ⟨v,H,I,r,h⟩ hn hd
variable {a b:Expr}{ta tb:TE}{pos:Pos}
def tB (t:TE) : TT:=fun σ H Q=>t σ H fun x H1=>∃ c,x = .bl c/\Q c H1
theorem cZ {e:Expr}{t:TE}(h:PE X e t)(he:∀ whole,isTrue e X.env whole=(do let v <- whole; standAt e.pos; holding [v] (truthy v)):=by intro _; rfl) : PT X e (tB t):=by
 intro pins s σ H Q I hw
 refine isTrue_plain (cL (h pins s σ H _ I hw) fun v s1 ⟨x,H1,I1,r1,q1⟩=>?_) (he _)
 obtain ⟨d,rfl,q⟩:=q1
 cases r1
 exact wpAny_truthy_bool ⟨H1,I1,q⟩
variable {tA tB':TT}{rest:List Expr}
def tAnd (t u:TT) : TT:=fun σ H Q=>t σ H fun c H1=>if c=true then u σ H1 Q else Q false H1
def tOr (t u:TT) : TT:=fun σ H Q=>t σ H fun c H1=>if c=true then Q true H1 else u σ H1 Q
def tNot (t:TT) : TT:=fun σ H Q=>t σ H fun c H1=>Q (!c) H1
theorem pw_and1 (ha:PT X a tA) : PW X (.BoolOp .And [a] pos) tA:=by
 intro wh pins s σ H Q I h
 refine isTrue_and (cL (ha pins s σ H Q I h) fun c s1 e=>?_)
 cases c with
 | true=>exact isTrue_and_nil e
 | false=>exact e
theorem fY (ha:PT X a tA) : PW X (.BoolOp .Or [a] pos) tA:=by
 intro wh pins s σ H Q I h
 refine isTrue_or (cL (ha pins s σ H Q I h) fun c s1 e=>?_)
 cases c with
 | false=>exact isTrue_or_nil e
 | true=>exact e
theorem pw_and (ha:PT X a tA)(hb:PW X (.BoolOp .And (b :: rest) pos) tB') : PW X (.BoolOp .And (a :: b :: rest) pos) (tAnd tA tB'):=by
 intro wh pins s σ H Q I h
 refine isTrue_and (cL (ha pins s σ H _ I h) fun c s1 ⟨H1,I1,q1⟩=>?_)
 cases c with
 | true=>exact hb wh pins s1 σ H1 Q I1 q1
 | false=>exact ⟨H1,I1,q1⟩
theorem iR (ha:PT X a tA)(hb:PW X (.BoolOp .Or (b :: rest) pos) tB') : PW X (.BoolOp .Or (a :: b :: rest) pos) (tOr tA tB'):=by
 intro wh pins s σ H Q I h
 refine isTrue_or (cL (ha pins s σ H _ I h) fun c s1 ⟨H1,I1,q1⟩=>?_)
 cases c with
 | true=>exact ⟨H1,I1,q1⟩
 | false=>exact hb wh pins s1 σ H1 Q I1 q1
theorem gW (ha:PT X a tA) : PT X (.UnaryOp .Not a pos) (tNot tA):=by
 intro pins s σ H Q I h
 exact isTrue_not (ha pins s σ H (fun c H1=>Q (!c) H1) I h)
def tAndV (ta tb:TE) : TE:=fun σ H Q=>ta σ H fun x H1=>∃ c,x = .bl c/\if c=true then tb σ H1 Q else Q (.bl false) H1
def tNotV (ta:TE) : TE:=fun σ H Q=>ta σ H fun x H1=>∃ c,x = .bl c/\Q (.bl (!c)) H1
theorem vQ {op}{t:TE}(h:PE X a t) : PE X (.BoolOp op [a] pos) t:=fun pins s σ H Q I hw=>BoolOp_one (h pins s σ H Q I hw)
theorem vT (ha:PE X a ta)(hb:PE X (.BoolOp .And (b :: rest) pos) tb) : PE X (.BoolOp .And (a :: b :: rest) pos) (tAndV ta tb):=by
 intro pins s σ H Q I h
 refine BoolOp_and (cL (ha pins s σ H _ I h) fun v s1 ⟨x,H1,I1,r1,q1⟩=>?_)
 obtain ⟨c,rfl,q1⟩:=q1
 cases r1
 refine wpAny_truthy_bool ?_
 cases c with
 | true=>exact hb pins s1 σ H1 Q I1 q1
 | false=>exact ⟨.bl false,H1,I1,rfl,q1⟩
theorem vR (ha:PE X a ta) : PE X (.UnaryOp .Not a pos) (tNotV ta):=by
 intro pins s σ H Q I h
 refine UnaryOp_ (cL (ha pins s σ H _ I h) fun v s1 ⟨x,H1,I1,r1,q1⟩=>?_)
 obtain ⟨c,rfl,q1⟩:=q1
 cases r1
 exact not_of (wpAny_truthy_bool ⟨.bl (!c),H1,I1,rfl,q1⟩)
end
def c6 (K:PySem.W.Frag)(H:Hp)(a:Addr)(xs:List V) : Prop :=
 Rd H a (.lst xs) \/
  ∃ (o:Obj) (its:Array Value) (n:Nat),K.lookup a=some o/\o.cls = .type "list" /\ o.dict=none/\o.data = .seq its n/\its.size<=sizeLine/\bO xs its.toList
def qP (K:PySem.W.Frag)(H:Hp)(a:Addr)(xs:List V) : Prop :=
 Rd H a (.tup xs) \/
  ∃ (o:Obj) (its:Array Value) (n:Nat),K.lookup a=some o/\o.cls = .type "tuple" /\ o.data = .seq its n/\its.size<=sizeLine/\bO xs its.toList
def absV:Value->Option V
 | .none=>some .non
 | .bool b=>some (.bl b)
 | .int i _=>some (.int i)
 | .str x _=>some (.str x)
 | .bytes b _=>some (.byt b)
 | .float b _=>some (.flt b)
 | .ref a=>some (.ref a)
 | .type n=>some (.ty n)
 | _=>none
theorem bX.abs {x:V}{u:Value}(r:bX x u) : absV u=some x:=by
 cases x with
 | non=>cases r; rfl
 | bl _=>cases r; rfl
 | int _=>obtain ⟨t,rfl⟩:=r; rfl
 | str _=>obtain ⟨t,rfl⟩:=r; rfl
 | byt _=>obtain ⟨t,rfl⟩:=r; rfl
 | flt _=>obtain ⟨t,rfl⟩:=r; rfl
 | ref _=>cases r; rfl
 | ty _=>cases r; rfl
theorem bX.inj {x y:V}{u:Value}(r:bX x u)(q:bX y u) : x=y:=Option.some.inj (r.abs.symm.trans q.abs)
theorem bO.inj:∀ {xs ys:List V}{us:List Value},bO xs us->bO ys us->xs=ys
 | _,_,_,.nil,.nil=>rfl
 | _,_,_,.cons r t,.cons r' t'=>by rw [r.inj r',bO.inj t t']
section
variable {X:Cx}{pins:List (Addr × Obj)}{σ:St}{H:Hp}{s:Shared}{a:Addr}{xs ys:List V}
theorem c6.of {K:PySem.W.Frag}(h:H a=some (.lst xs)) : c6 K H a xs:=.inl (.inl h)
theorem qP.of {K:PySem.W.Frag}(h:H a=some (.tup xs)) : qP K H a xs:=.inl (.inl h)
theorem Inv.list (I:Inv X pins σ H s)(h:c6 X.K H a xs) : ∃ its:List Value,bO xs its/\PlainL s.heap a its.toArray/\xs.length<=sizeLine:=by
 rcases h with h | ⟨o,its,n,hk,hc,hd,hs,hz,r⟩
 ·obtain ⟨z,its,n,r,e⟩:=h.ok I.hok
  exact ⟨its,r,⟨_,n,e,rfl,rfl,rfl⟩,z⟩
 ·refine ⟨its.toList,r,⟨o,n,I.kIn a o hk,hc,hd,by simpa using hs⟩,?_⟩
  have e:=r.length
  simp only [Array.length_toList] at e
  omega
theorem Inv.tuple (I:Inv X pins σ H s)(h:qP X.K H a xs) : ∃ its:List Value,bO xs its/\IsTup s.heap a its.toArray/\xs.length<=sizeLine:=by
 rcases h with h | ⟨o,its,n,hk,hc,hs,hz,r⟩
 ·obtain ⟨z,its,r,p⟩:=h.ok I.hok
  exact ⟨its,r,p,z⟩
 ·refine ⟨its.toList,r,⟨o,I.kIn a o hk,hc,n,by simpa using hs⟩,?_⟩
  have e:=r.length
  simp only [Array.length_toList] at e
  omega
theorem Inv.list_inj (I:Inv X pins σ H s)(h:c6 X.K H a xs)(h':c6 X.K H a ys) : xs=ys:=by
 obtain ⟨its,r,⟨o,n,e,_,_,d⟩,_⟩:=I.list h
 obtain ⟨its',r',⟨o',n',e',_,_,d'⟩,_⟩:=I.list h'
 rw [e] at e'; cases e'
 rw [d] at d'
 injection d' with d1 _
 have:its=its':=by simpa using congrArg Array.toList d1
 subst this
 exact r.inj r'
end
section
variable {X:Cx}{pins:List (Addr × Obj)}{σ:St}{H:Hp}{s:Shared}{E:Value->Shared->Prop}
end
section
variable {X:Cx}{st:Stmt}{rest:List Stmt}{t u:TS}{e:Expr}{te:TE}{pos:Pos}
def tNext:TS:=fun D σ H=>D.nx σ H
def tSeq (t u:TS) : TS:=fun D σ H=>t { D with nx:=u D } σ H
theorem bD:xX X [] tNext:=fun _ _ σ H _ I h=>wpAny_execs_nil ⟨σ,H,I,h⟩
theorem aD (h1:PS X st t)(h2:xX X rest u) : xX X (st :: rest) (tSeq t u):=by
 intro pins s σ H D I h
 refine wpAny_execs_cons (cL (h1 pins s σ H { D with nx:=u D } I h) fun f s1 q=>?_)
 cases f with
 | next =>
  obtain ⟨σ',H',I',q⟩:=q
  exact h2 pins s1 σ' H' D I' q
 | ret v=>exact q
 | brk=>exact q
 | cont=>exact q
theorem aF (h1:PS X st t) : xX X [st] t:=by
 intro pins s σ H D I h
 refine wpAny_execs_cons (cL (h1 pins s σ H D I h) fun f s1 q=>?_)
 cases f with
 | next=>exact wpAny_execs_nil q
 | ret v=>exact q
 | brk=>exact q
 | cont=>exact q
def tBreak:TS:=fun D σ H=>D.bk σ H
theorem vH:PS X (.Break pos) tBreak:=fun _ _ σ H _ I h=>wpAny_Break ⟨σ,H,I,h⟩
theorem Inv.quiet {pins:List (Addr × Obj)}{σ:St}{H:Hp}{s:Shared}(I:Inv X pins σ H s) : interactive X.env=false:=by simp [interactive,I.ok.kind]
def tDrop (te:TE) : TS:=fun D σ H=>te σ H fun _ H1=>D.nx σ H1
theorem cW (he:PE X e te)(hs:swapsWith e none pos.line X.env=pure false:=by rfl) : PS X (.Expr e pos) (tDrop te):=by
 intro pins s σ H D I h
 exact wpAny_Expr_any (cL (he pins s σ H _ I h) fun v s1 ⟨x,H1,I1,r1,q1⟩=>⟨σ,H1,I1,q1⟩) I.quiet hs
def tRet (te:TE) : TS:=fun D σ H=>te σ H D.rt
theorem aS (he:PE X e te) : PS X (.Return (some e) pos) (tRet te):=by
 intro pins s σ H D I h
 exact wpAny_Return_some (cL (he pins s σ H _ I h) fun v s1 ⟨x,H1,I1,r1,q1⟩=>⟨x,σ,H1,I1,r1,q1⟩)
def tIfS (c:TT)(t u:TS) : TS:=fun D σ H=>c σ H fun b H1=>if b=true then t D σ H1 else u D σ H1
theorem bY {c:Expr}{a b:List Stmt}{tc:TT}(hc:PT X c tc)(ha:xX X a t)(hb:xX X b u) : PS X (.If c a b pos) (tIfS tc t u):=by
 intro pins s σ H D I h
 refine wpAny_If (cL (hc pins s σ H _ I h) fun d s1 ⟨H1,I1,q1⟩=>?_)
 cases d with
 | true=>exact ha pins s1 σ H1 D I1 q1
 | false=>exact hb pins s1 σ H1 D I1 q1
def tNever:TS:=fun _ _ _=>False
theorem cR:PS X st tNever:=fun _ _ _ _ _ _ h=>h.elim
end
abbrev TG:=V->St->Hp->(St->Hp->Prop)->Prop
abbrev TGs:=List V->St->Hp->(St->Hp->Prop)->Prop
def PG (X:Cx)(target:Expr)(t:TG) : Prop :=
 ∀ (pins:List (Addr × Obj)) (s:Shared) (σ:St) (H:Hp) (v:V) (u:Value) (Q:St->Hp->Prop),Inv X pins σ H s->bX v u->t v σ H Q ->
  wpAny (model X.prog X.w) X.A (assign target X.env u) (fun _ s'=>∃ σ' H',Inv X pins σ' H' s'/\Q σ' H') X.xe s
def PGs (X:Cx)(ts:List Expr)(t:TGs) : Prop :=
 ∀ (pins:List (Addr × Obj)) (s:Shared) (σ:St) (H:Hp) (vs:List V) (us:List Value) (Q:St->Hp->Prop),Inv X pins σ H s->bO vs us->t vs σ H Q ->
  wpAny (model X.prog X.w) X.A (assignInOrder ((assignEach ts X.env).map (·.2)) us) (fun _ s'=>∃ σ' H',Inv X pins σ' H' s'/\Q σ' H') X.xe s
abbrev xR:=V->V->V->Hp->(Hp->Prop)->Prop
def PSet (X:Cx)(t:xR) : Prop :=
 ∀ (pins:List (Addr × Obj)) (s:Shared) (σ:St) (H:Hp) (o i v:V) (ov iv u:Value) (Q:Hp->Prop),Inv X pins σ H s->bX o ov->bX i iv->bX v u->t o i v H Q ->
  wpAny (model X.prog X.w) X.A (setItem ov iv u) (fun _ s'=>∃ H',Inv X pins σ H' s'/\Q H') X.xe s
abbrev TIp:=V->V->Hp->VK->Prop
def PIp (X:Cx)(op:Operator)(t:TIp) : Prop :=
 ∀ (pins:List (Addr × Obj)) (s:Shared) (σ:St) (H:Hp) (x y:V) (v u:Value) (Q:VK),Inv X pins σ H s->bX x v->bX y u->t x y H Q ->
  wpAny (model X.prog X.w) X.A (inplaceOp op v u) (EP X pins σ Q) X.xe s
section
variable {X:Cx}{pos:Pos}
def wZ (i:Nat) : TG:=fun v σ H Q=>Q (σ.set i (some v)) H
theorem aY {i:Nat}{x:Str}(hN:X.N.Nodup)(hi:X.N[i]? = some x)(hx:Loc X.env.scope x)(hf:X.fn x=true\/X.env.scope.names.lookup x=some .local:=by first | exact .inl rfl | exact .inr rfl | assumption) : PG X (.Name x pos) (wZ i):=by
 intro pins s σ H v u Q I r h
 exact wpAny_assign_Name (hJ I hN hi hx r (fun s' I'=>⟨_,H,I',h⟩) hf)
def gNil:TGs:=fun vs σ H Q=>vs = []/\Q σ H
def gCons (t:TG)(u:TGs) : TGs:=fun vs σ H Q=>∃ v r,vs=v :: r/\t v σ H fun σ' H'=>u r σ' H' Q
theorem i9:PGs X [] gNil:=by
 intro pins s σ H vs us Q I r h
 obtain ⟨e,h⟩:=h
 subst e
 cases r
 exact assignInOrder_nil ⟨σ,H,I,h⟩
theorem dR {e:Expr}{es:List Expr}{t:TG}{u:TGs}(h1:PG X e t) (h2:PGs X es u)
  (hs:(assignEach (e :: es) X.env).map (·.2)=assign e X.env :: (assignEach es X.env).map (·.2):=by rfl) : PGs X (e :: es) (gCons t u):=by
 intro pins s σ H vs us Q I r h
 obtain ⟨v,vr,e1,h⟩:=h
 subst e1
 cases r with
 | cons r rr =>
  rw [hs]
  refine assignInOrder_cons (cL (h1 pins s σ H _ _ _ I r h) fun _ s1 ⟨σ1,H1,I1,q1⟩=>?_)
  exact h2 pins s1 σ1 H1 _ _ Q I1 rr q1
def gTup (K:PySem.W.Frag)(n:Nat)(t:TGs) : TG:=fun v σ H Q=>∃ a xs,v = .ref a/\qP K H a xs/\xs.length=n/\t xs σ H Q
theorem mK {es:List Expr}{k:Nat}{t:TGs}{n:Nat}(hc:X.calm=true) (h:PGs X es t)
  (hn:(assignEach es X.env).length=n:=by rfl) (hst:(assignEach es X.env).findIdx? (·.1)=none:=by rfl) : PG X (.Tuple es k pos) (gTup X.K n t):=by
 intro pins s σ H v u Q I r hw
 obtain ⟨a,xs,e1,hq,hl,hw⟩:=hw
 subst e1
 cases r
 obtain ⟨its,rv,ht,hz⟩:=I.tuple hq
 refine assign_Tuple_tuple (I.ok.hd hc) ht (by simp [hn,<- hl,rv.length]) hst fun h' hx=>?_
 have I1:Inv X pins σ H { s with heap:=h' }:=I.kept (t':=s.toks) fun b o e=>hx b o (Nat.ne_of_lt (Heap.lt_size e)) e
 exact h pins _ σ H xs _ Q I1 (by simpa using rv) hw
def gSub (to ti:TE)(t:xR) : TG:=fun v σ H Q=>to σ H fun o H1=>ti σ H1 fun i H2=>t o i v H2 fun H3=>Q σ H3
theorem vP {o i:Expr}{to ti:TE}{t:xR}(ho:PE X o to) (hi:PE X i ti) (hs:PSet X t)
  (ha:∀ v,assign (.Subscript o i pos) X.env v=(do
   let ov <- holding [v] (eval o X.env)
   let iv <- holding [v,ov] (eval i X.env)
   standAt pos
   holding [v,ov,iv] (setItem ov iv v)
   release [v,ov,iv] []):=by intro _; rfl) : PG X (.Subscript o i pos) (gSub to ti t):=by
 intro pins s σ H v u Q I r h
 rw [ha]
 refine wpAny_bind (wpAny_holding (cL (ho pins s σ H _ I h) fun ov s1 ⟨x,H1,I1,r1,q1⟩=>?_))
 refine wpAny_bind (wpAny_holding (cL (hi pins s1 σ H1 _ I1 q1) fun iv s2 ⟨y,H2,I2,r2,q2⟩=>?_))
 refine wpAny_bind (wpAny_standAt (wpAny_bind (wpAny_holding (cL (hs pins s2 σ H2 x y v ov iv u _ I2 r1 r2 r q2) fun _ s3 ⟨H3,I3,q3⟩=>?_))))
 exact wpAny_release ⟨σ,H3,I3,q3⟩
def tAsg (te:TE)(g:TG) : TS:=fun D σ H=>te σ H fun x H1=>g x σ H1 D.nx
theorem vI {tg e:Expr}{te:TE}{g:TG}(he:PE X e te) (hg:PG X tg g) (hs:swapsWithSole [tg] e pos.line X.env=pure false:=by rfl) (hw:swappedStores [tg] e X.env=pure none:=by rfl)
  (h1:(assignEach [tg] X.env).map (·.2) = [assign tg X.env]:=by rfl) : PS X (.Assign [tg] e pos) (tAsg te g):=by
 intro pins s σ H D I h
 refine wpAny_Assign_stores (cL (he pins s σ H _ I h) fun v s1 ⟨x,H1,I1,r1,q1⟩=>?_) hs hw
 rw [h1]
 exact cL (hg pins s1 σ H1 x v _ I1 r1 q1) fun _ s2 q=>q
theorem aK {i:Nat}{x:Str}{e:Expr}{te:TE}{pos':Pos}(hN:X.N.Nodup) (hi:X.N[i]? = some x) (hx:Loc X.env.scope x) (he:PE X e te) (hs:swapsWith e (some (.Name x pos')) pos.line X.env=pure false:=by rfl) (hf:X.fn x=true\/X.env.scope.names.lookup x=some .local:=by first | exact .inl rfl | exact .inr rfl | assumption) :
  PS X (.Assign [.Name x pos'] e pos) (tAsg te (wZ i)):=by
 intro pins s σ H D I h
 refine wpAny_Assign_Name (cL (he pins s σ H _ I h) fun v s1 ⟨y,H1,I1,r1,q1⟩=>?_) hs
 exact hJ I1 hN hi hx r1 (fun s2 I2=>⟨_,H1,I2,q1⟩) hf
def tAug (i:Nat)(te:TE)(ti:TIp) : TS:=fun D σ H=>∃ x,σ[i]? = some (some x)/\te σ H fun y H1=>ti x y H1 fun z H2=>D.nx (σ.set i (some z)) H2
theorem ps_aug {i:Nat}{x:Str}{e:Expr}{te:TE}{op:Operator}{ti:TIp}{pos':Pos}(hN:X.N.Nodup) (hi:X.N[i]? = some x) (hx:Loc X.env.scope x) (he:PE X e te) (ho:PIp X op ti) (hf:X.fn x=true\/X.env.scope.names.lookup x=some .local:=by first | exact .inl rfl | exact .inr rfl | assumption) :
  PS X (.AugAssign (.Name x pos') op e pos) (tAug i te ti):=by
 intro pins s σ H D I h
 obtain ⟨v,e1,h⟩:=h
 obtain ⟨m,hn,hl⟩:=I.loc
 have vis:Vis X.env.scope x:=by rcases hx with k | k; exact .inl k; exact .inr (.inl k)
 obtain ⟨u,r,l⟩:=hl i x v hi e1 vis
 refine wpAny_AugAssign_Name ?_
 have go:wpAny (model X.prog X.w) X.A (eval e X.env) (fun w s₂=>wpAny (model X.prog X.w) X.A (inplaceOp op u w) (fun r s₃=>wpAny (model X.prog X.w) X.A (storeName X.env x r) (fun _=>SP X pins D .next) X.xe s₃) X.xe s₂) X.xe s:=by
  refine cL (he pins s σ H _ I h) fun w s1 ⟨y,H1,I1,r1,q1⟩=>?_
  refine cL (ho pins s1 σ H1 v y u w _ I1 r r1 q1) fun z s2 ⟨zv,H2,I2,r2,q2⟩=>?_
  exact hJ I2 hN hi hx r2 (fun s3 I3=>⟨_,H2,I3,q2⟩) hf
 rcases l with ⟨hk,hm⟩ | ⟨hk,c,hc,hcell⟩
 ·exact wpAny_loadName_local I.ok.kind hk hn hm go
 ·rcases hk with hk | hk
  ·exact wpAny_loadName_cell I.ok.kind hk hc hcell go
  ·rcases hx with k | k
   ·have:X.env.scope.names.lookup x=some .free:=hk
    rw [k] at this; cases this
   ·have:X.env.scope.names.lookup x=some .free:=hk
    rw [k] at this; cases this
def tAugS (to ti te:TE)(tget:V->V->Hp->VK->Prop)(tip:TIp)(tset:xR) : TS:=fun D σ H=>to σ H fun o H1=>ti σ H1 fun i H2=>tget o i H2 fun x H3=>te σ H3 fun y H4=>tip x y H4 fun z H5=>tset o i z H5 fun H6=>D.nx σ H6
def PGet (X:Cx)(t:V->V->Hp->VK->Prop) : Prop :=
 ∀ (pins:List (Addr × Obj)) (s:Shared) (σ:St) (H:Hp) (o i:V) (ov iv:Value) (Q:VK),Inv X pins σ H s->bX o ov->bX i iv->t o i H Q ->
  wpAny (model X.prog X.w) X.A (getItem ov iv) (EP X pins σ Q) X.xe s
theorem qX {o i e:Expr}{to ti te:TE}{tget:V->V->Hp->VK->Prop}{tip:TIp}{tset:xR}{op:Operator}{tpos:Pos}(ho:PE X o to) (hi:PE X i ti) (hg:PGet X tget) (he:PE X e te) (hp:PIp X op tip) (hs:PSet X tset)
  (ha:∀ ov iv new,augStore i ov iv new=(do holding [new,ov,iv] (setItem ov iv new); release [new,ov,iv] []; pure .next):=by intros; rfl) : PS X (.AugAssign (.Subscript o i tpos) op e pos) (tAugS to ti te tget tip tset):=by
 intro pins s σ H D I h
 refine wpAny_AugAssign_SubscriptAny (cL (ho pins s σ H _ I h) fun ov s1 ⟨x1,H1,I1,r1,q1⟩=>?_) ha
 refine cL (hi pins s1 σ H1 _ I1 q1) fun iv s2 ⟨x2,H2,I2,r2,q2⟩=>?_
 refine cL (hg pins s2 σ H2 x1 x2 ov iv _ I2 r1 r2 q2) fun old s3 ⟨x3,H3,I3,r3,q3⟩=>?_
 refine cL (he pins s3 σ H3 _ I3 q3) fun v s4 ⟨x4,H4,I4,r4,q4⟩=>?_
 refine cL (hp pins s4 σ H4 x3 x4 old v _ I4 r3 r4 q4) fun new s5 ⟨x5,H5,I5,r5,q5⟩=>?_
 exact cL (hs pins s5 σ H5 x1 x2 x5 ov iv new _ I5 r1 r2 r5 q5) fun _ s6 ⟨H6,I6,q6⟩=>⟨σ,H6,I6,q6⟩
def ipI (f:Int->Int->Int) : TIp:=fun x y H Q=>∃ i j,x = .int i/\y = .int j/\Q (.int (f i j)) H
theorem wT:PIp X .Sub (ipI fun i j=>i - j):=by
 intro pins s σ H x y v u Q I r1 r2 h
 obtain ⟨i,j,e1,e2,q⟩:=h
 subst e1; subst e2
 obtain ⟨t,rfl⟩:=r1
 obtain ⟨t',rfl⟩:=r2
 exact isub_int ⟨.int _,H,I.tok _,⟨_,rfl⟩,q⟩
end
section
variable {X:Cx}{pos:Pos}
def uN (c:TT)(tb:TS) : TS:=fun D σ H=>∃ W:Nat->St->Hp->Prop,(∃ m,W m σ H)/\∀ m σ H,W m σ H ->
 c σ H fun b H1=>if b=true then ∃ N:St->Hp->Prop,(∀ σ' H',N σ' H'->∃ m',m' < m/\W m' σ' H')/\tb { D with nx:=N,ct:=N,bk:=D.nx } σ H1 else D.nx σ H1
theorem eS {c:Expr}{body:List Stmt}{tc:TT}{tb:TS}(hp:PassesOwn (model X.prog X.w) X.A X.env X.xe)(hc:PT X c tc)(hb:xX X body tb) : PS X (.While c body [] pos) (uN tc tb):=by
 intro pins s σ H D I h
 obtain ⟨W,⟨m0,w0⟩,turn⟩:=h
 refine wpAny_While (codeAny_whileLoop (fun n s'=>∃ σ' H',Inv X pins σ' H' s'/\W n σ' H') ?_ m0 ⟨σ,H,I,w0⟩)
 rintro n s1 ⟨σ1,H1,I1,w1⟩
 refine wpAny_passesOwn hp (cL (hc pins s1 σ1 H1 _ I1 (turn n σ1 H1 w1)) fun b s2 ⟨H2,I2,q2⟩=>?_)
 cases b with
 | true =>
  obtain ⟨N,hN,q2⟩:=q2
  rw [if_pos rfl]
  refine wpAny_passesOwn hp (cL (hb pins s2 σ1 H2 _ I2 q2) fun f s3 q3=>?_)
  cases f with
  | next =>
   obtain ⟨σ3,H3,I3,n3⟩:=q3
   obtain ⟨m',hm,w3⟩:=hN σ3 H3 n3
   exact ⟨m',hm,σ3,H3,I3,w3⟩
  | cont =>
   obtain ⟨σ3,H3,I3,n3⟩:=q3
   obtain ⟨m',hm,w3⟩:=hN σ3 H3 n3
   exact ⟨m',hm,σ3,H3,I3,w3⟩
  | brk=>exact q3
  | ret v=>exact q3
 | false =>
  rw [if_neg Bool.false_ne_true]
  exact wpAny_execs_nil ⟨σ1,H2,I2,q2⟩
end
structure It where
 go:Nat->Hp->Prop
 yld:Nat->Hp->V->Hp->Prop
 stop:Nat->Hp->Prop
def hG (X:Cx)(pins:List (Addr × Obj))(H:Hp)(b:Addr) : Prop :=
 H b=none/\b ≠ X.env.locals/\b ∉ X.fs/\(b∈X.ex\/X.s₀.heap.objs.size<=b)/\(∀ x c,X.env.cells.lookup x=some c->c ≠ b)/\∀ p∈X.pn ++ pins,p.1 ≠ b
theorem Inv.fpOk {X:Cx}{pins:List (Addr × Obj)}{σ:St}{H H':Hp}{s:Shared}{b:Addr}(I:Inv X pins σ H s)(hb:s.heap.objs.size<=b)(hn:H' b=none) : hG X pins H' b:=by
 refine ⟨hn,Nat.ne_of_gt (Nat.lt_of_lt_of_le I.lt hb),I.nofs hb,.inr (Nat.le_trans I.sz hb),fun x c e z=>?_,fun p hp z=>?_⟩
 ·obtain ⟨v,q⟩:=I.cell x c e
  exact absurd (Nat.lt_of_lt_of_le q.lt (by rw [z]; exact hb)) (Nat.lt_irrefl _)
 ·exact absurd (Nat.lt_of_lt_of_le (Heap.lt_size (I.pin p hp).1) (by rw [z]; exact hb)) (Nat.lt_irrefl _)
structure Turn (P:Program) (w:World) (K:PySem.W.Frag) (tg:Expr) (J:It) (fp:List Addr) (it:Addr) (tn:Nat->Heap->Prop) : Prop where
 mem:it∈fp
 obj:∀ i h,tn i h->∀ b∈fp,∃ o,h.get? b=some o/\∀ v,o.data ≠ .cell v
 keep:∀ i h h',tn i h->(∀ b∈fp,∀ o,h.get? b=some o->h'.get? b=some o)->tn i h'
 item:∀ (X:Cx),X.prog=P->X.w=w->X.K=K->X.calm=true->∀ (i:Nat) (pins:List (Addr × Obj)) (s:Shared) (σ:St) (H:Hp) (E:Value->Shared->Prop),Inv X pins σ H s->(∀ b∈fp,hG X pins H b)->tn i s.heap->J.go i H ->
  wpAny (model P w) X.A (pyNext (.ref it)) (fun r s1=>∃ u,r=some u /\
   wpAny (model P w) X.A (letOwnedTupleGo tg (.ref it) u) (fun _ s2=>∃ x H',Inv X pins σ H' s2/\bX x u/\J.yld i H x H'/\tn (i + 1) s2.heap/\∀ b∈fp,H' b=none) E s1) E s
 done:∀ (X:Cx),X.prog=P->X.w=w->X.K=K->X.calm=true->∀ (i:Nat) (pins:List (Addr × Obj)) (s:Shared) (σ:St) (H:Hp) (E:Value->Shared->Prop),Inv X pins σ H s->(∀ b∈fp,hG X pins H b)->tn i s.heap->J.stop i H ->
  wpAny (model P w) X.A (pyNext (.ref it)) (fun r s1=>r=none/\Inv X pins σ H s1) E s
 self:∀ (A:Around) (i:Nat) (s:Shared) (Q:Value->Shared->Prop) (E:Value->Shared->Prop),tn i s.heap->Q (.ref it) s->wpAny (model P w) A (pyIter (.ref it)) Q E s
abbrev TI:=St->Hp->(It->Hp->Prop)->Prop
def PIE (X:Cx)(pins:List (Addr × Obj))(σ:St)(tg:Expr)(R:It->Hp->Prop)(itv:Value)(s2:Shared) : Prop :=
 ∃ (it:Addr) (fp:List Addr) (tn:Nat->Heap->Prop) (J:It) (H':Hp),itv = .ref it/\Inv X pins σ H' s2/\Turn X.prog X.w X.K tg J fp it tn/\tn 0 s2.heap/\(∀ b∈fp,hG X pins H' b)/\R J H'
def PI (X:Cx)(tg iter:Expr)(wi:TI) : Prop :=
 ∀ (pins:List (Addr × Obj)) (s:Shared) (σ:St) (H:Hp) (R:It->Hp->Prop),Inv X pins σ H s->wi σ H R ->
  wpAny (model X.prog X.w) X.A (eval iter X.env) (fun v s1=>wpAny (model X.prog X.w) X.A (pyIter v) (PIE X pins σ tg R) X.xe s1) X.xe s
theorem oP {M:Model}{A:Around}{E:Value->Shared->Prop}{s:Shared}{tg:Expr}{it:Addr}{u:Value}{o:Obj}{n:String}{vs:Array Value}{Q:Unit->Shared->Prop}(ho:s.heap.get? it=some o) (hc:o.cls = .type n) (hd:o.data = .fields vs)
    (hn : ["enumerate", "zip", "dict_itemiterator", "dict_reverseitemiterator", "odict_iterator", "itertools.zip_longest", "itertools.pairwise"].contains n=false) (hQ:Q () s) : wpAny M A (letOwnedTupleGo tg (.ref it) u) Q E s:=by
  unfold letOwnedTupleGo
  cases tg <;> first
    | exact wpAny_pure hQ
    | (cases u <;> first
        | exact wpAny_pure hQ
        | (refine wpAny_bind (wpAny_load ho ?_)
           rw [hc,hd]
           show wpAny M A (if (["enumerate", "zip", "dict_itemiterator", "dict_reverseitemiterator", "odict_iterator", "itertools.zip_longest", "itertools.pairwise"].contains n && vs[0]? == some (rawInt _))=true then _ else _) Q E s
           rw [if_neg (by intro h; rw [hn,Bool.false_and] at h; cases h)]
           exact wpAny_pure hQ))
def Itl (K:PySem.W.Frag)(a:Addr) : It :=
 ⟨fun i H=>∃ xs x,c6 K H a xs/\xs[i]? = some x,fun i H x H'=>H'=H/\∀ xs,c6 K H a xs->xs[i]? = some x,fun i H=>∃ xs,c6 K H a xs/\xs.length<=i⟩
def Itr (lo:Int)(n:Nat) : It:=⟨fun i _=>i < n,fun i H x H'=>H'=H/\x = .int (lo + i),fun i _=>n<=i⟩
theorem sH {P:Program}{w:World}{K:PySem.W.Frag}{tg:Expr}(a it:Addr) : Turn P w K tg (Itl K a) [it] it (fun i h=>h.IsListIter it a i) where
 mem:=by simp
 obj:=fun i h st b hb=>by
  have e:b=it:=by simpa using hb
  subst e
  obtain ⟨o,e,c,d⟩:=st
  exact ⟨o,e,fun v z=>by rw [d] at z; cases z⟩
 keep:=fun i h h' st k=>st.at fun o e=>k it (by simp) o e
 item:=by
  intro X hP hw hK hc i pins s σ H E I hf st hg
  subst hP hw hK
  obtain ⟨xs,x,hq,hx⟩:=hg
  obtain ⟨its,rv,p,hz⟩:=I.list hq
  obtain ⟨u,hu,ru⟩:=rv.get hx
  obtain ⟨f0,f1,f2,f3,f4,f5⟩:=hf it (by simp)
  refine wpAny_pyNext_list_item st p.isList (x:=u) (by simpa using hu) fun h' st' sb=>?_
  have I1:Inv X pins σ H { s with heap:=h' }:=I.turned (t':=s.toks) (fun b o hb e=>(sb.2 b hb).trans e) f0 f1 f3 f4 f5
  obtain ⟨o,e,c,d⟩:=id st'
  exact ⟨u,rfl,oP (s:={ s with heap:=h' }) e c d (by decide) ⟨x,H,I1,ru,⟨rfl,fun ys hy=>by rw [I.list_inj hy hq]; exact hx⟩,st',fun b hb=>(hf b hb).1⟩⟩
 done:=by
  intro X hP hw hK hc i pins s σ H E I hf st hg
  subst hP hw hK
  obtain ⟨xs,hq,hx⟩:=hg
  obtain ⟨its,rv,p,hz⟩:=I.list hq
  obtain ⟨f0,f1,f2,f3,f4,f5⟩:=hf it (by simp)
  have hl:=rv.length
  exact wpAny_pyNext_list_end (I.ok.hd hc) st p.isList (by simp; omega) fun h' eb=>⟨rfl,I.turned (t':=s.toks) (fun b o hb e=>eb b o hb e) f0 f1 f3 f4 f5⟩
 self:=fun _ _ _ _ _ st h=>wpAny_pyIter_listiter st h
theorem pE {P:Program}{w:World}{K:PySem.W.Frag}{tg:Expr}(it:Addr)(lo:Int)(n:Nat) : Turn P w K tg (Itr lo n) [it] it (fun i h=>IsRangeIter h it (lo + (i:Nat) * 1) ((n:Int) - (i:Nat)) 1) where
 mem:=by simp
 obj:=fun i h st b hb=>by
  have e:b=it:=by simpa using hb
  subst e
  exact ⟨_,st,fun v z=>by
   have z':Data.fields _=Data.cell v:=z
   cases z'⟩
 keep:=fun i h h' st k=>k it (by simp) _ st
 item:=by
  intro X hP hw hK hc i pins s σ H E I hf st hg
  subst hP hw hK
  obtain ⟨f0,f1,f2,f3,f4,f5⟩:=hf it (by simp)
  have W:=Walks.range (prog:=X.prog) (w:=X.w) (I.ok.hd hc) it lo 1 n
  refine W.item i s _ _ hg st fun v h' tk hv st' kk=>?_
  obtain ⟨t,rfl⟩:=hv
  have I1:Inv X pins σ H { s with heap:=h',toks:=tk }:=I.turned (fun b o hb e=>kk b o (by simpa using hb) e) f0 f1 f3 f4 f5
  refine ⟨_,rfl,oP (s:={ s with heap:=h',toks:=tk }) (n := "range_iterator") st' rfl rfl (by decide) ⟨.int (lo + i),H,I1,⟨t,?_⟩,⟨rfl,rfl⟩,st',fun b hb=>(hf b hb).1⟩⟩
  rw [Int.mul_one]
 done:=by
  intro X hP hw hK hc i pins s σ H E I hf st hg
  subst hP hw hK
  obtain ⟨f0,f1,f2,f3,f4,f5⟩:=hf it (by simp)
  exact wpAny_pyNext_range_end (I.ok.hd hc) st (by have:n<=i:=hg; omega) fun h' eb=>⟨rfl,I.turned (t':=s.toks) (fun b o hb e=>eb b o hb e) f0 f1 f3 f4 f5⟩
 self:=fun _ _ _ _ _ st h=>wpAny_pyIter_rangeiter st h
section
variable {X:Cx}{tg:Expr}
def iList (K:PySem.W.Frag)(tl:TE) : TI:=fun σ H R=>tl σ H fun x H1=>∃ a,x = .ref a/\(∃ xs,c6 K H1 a xs)/\R (Itl K a) H1
theorem bL {l:Expr}{tl:TE}(hl:PE X l tl) : PI X tg l (iList X.K tl):=by
 intro pins s σ H R I h
 refine cL (hl pins s σ H _ I h) fun v s1 ⟨x,H1,I1,r1,q1⟩=>?_
 obtain ⟨a,e,⟨xs,hq⟩,q⟩:=q1
 subst e
 cases r1
 obtain ⟨its,rv,p,hz⟩:=I1.list hq
 refine wpAny_pyIter_list p.isList ?_
 refine ⟨s1.heap.objs.size,[s1.heap.objs.size],_,_,H1,rfl,I1.kept (t':=s1.toks) fun b o e=>Heap.get?_push_of_some _ e,sH a _,⟨_,Heap.get?_push_size _ rfl,rfl,rfl⟩,fun b hb=>?_,q⟩
 have e:b=s1.heap.objs.size:=by simpa using hb
 subst e
 exact I1.fpOk (Nat.le_refl _) (I1.hok.fresh (Nat.le_refl _))
theorem vB {pins:List (Addr × Obj)}{σ:St}{H:Hp}{s:Shared}{R:It->Hp->Prop}{E:Value->Shared->Prop}{lo hi:Int}{t u v:Tok}{tk:Nat}(I:Inv X pins σ H s) (h1 : -(2 ^ 62)<=lo) (h2:lo < 2 ^ 62) (h3 : -(2 ^ 62)<=hi) (h4:hi < 2 ^ 62)
  (q:R (Itr lo (hi - lo).toNat) H) : wpAny (model X.prog X.w) X.A (pyIter (.ref s.heap.objs.size)) (PIE X pins σ tg R) E { s with heap:=s.heap.push { cls:=.type "range", data:=.fields #[.int lo t,.int hi u,.int 1 v] },toks:=tk }:=by
 refine wpAny_pyIter_range (IsRange.new ..) (small_one h1 h2 h3 h4) ?_
 have I1:Inv X pins σ H { s with heap:=s.heap.push { cls:=.type "range", data:=.fields #[.int lo t,.int hi u,.int 1 v] },toks:=tk }:=I.kept fun b o e=>Heap.get?_push_of_some _ e
 refine ⟨(s.heap.push { cls:=.type "range", data:=.fields #[.int lo t,.int hi u,.int 1 v] }).objs.size,[(s.heap.push { cls:=.type "range", data:=.fields #[.int lo t,.int hi u,.int 1 v] }).objs.size],_,_,H,rfl,
  I1.kept (t':=tk) fun b o e=>Heap.get?_push_of_some _ e,pE _ lo (hi - lo).toNat,?_,fun b hb=>?_,q⟩
 ·have e1:lo + ((0:Nat) : Int) * 1=lo:=by simp
  have e2:(((hi - lo).toNat:Nat) : Int) - ((0:Nat) : Int)=Builtin.Range.rangeSize lo hi 1:=by rw [rangeSize_one]; split <;> omega
  show IsRangeIter _ _ (lo + ((0:Nat) : Int) * 1) ((((hi - lo).toNat:Nat) : Int) - ((0:Nat) : Int)) 1
  rw [e1,e2]
  exact Heap.get?_push_size _ rfl
 ·have e:b=(s.heap.push { cls:=.type "range", data:=.fields #[.int lo t,.int hi u,.int 1 v] }).objs.size:=by simpa using hb
  subst e
  exact I1.fpOk (Nat.le_refl _) (I1.hok.fresh (Nat.le_refl _))
def iRng2 (ta:TA) : TI:=fun σ H R=>ta σ H fun vs H1=>∃ i j:Int,vs = [.int i,.int j]/\(-(2 ^ 62)<=i/\i < 2 ^ 62 /\ -(2 ^ 62)<=j/\j < 2 ^ 62)/\R (Itr i (j - i).toNat) H1
theorem gK {a b:Expr}{ta:TA}{p pos:Pos}(hg:Gl X "range") (hm:X.mg "range" = none) (ha:PA X [a,b] ta) (hs:starEach [a,b] X.env = [(false,eval a X.env),(false,eval b X.env)]:=by rfl) (hs2:starEach [b] X.env = [(false,eval b X.env)]:=by rfl) :
  PI X tg (.Call (.Name "range" p) [a,b] [] pos) (iRng2 ta):=by
 intro pins s σ H R I h
 refine Call_ (j7 I hg hm boot_range (PyProof.Rows.callWith_type1 (cL (ha pos pins s σ H _ I h) fun us s1 ⟨vs,H1,I1,r1,q1⟩=>?_) (by rw [hs,hs2]) (by rw [hs2]; rfl)))
 obtain ⟨i,j,e,⟨q1,q2,q3,q4⟩,q⟩:=q1
 subst e
 cases r1 with
 | cons r rr =>
  cases rr with
  | cons r' rr =>
   cases rr
   obtain ⟨t,rfl⟩:=r
   obtain ⟨t',rfl⟩:=r'
   exact call_range_2 (vB I1 q1 q2 q3 q4 q)
def tFor (wi:TI)(g:TG)(tb:TS) : TS:=fun D σ H=>wi σ H fun J H1=>∃ W:Nat->Nat->St->Hp->Prop,(∃ m,W 0 m σ H1)/\∀ i m σ H,W i m σ H ->
 (J.stop i H/\D.nx σ H)\/(J.go i H/\∃ N:St->Hp->Prop,(∀ σ' H',N σ' H'->∃ m',m' < m/\W (i + 1) m' σ' H')/\∀ x H',J.yld i H x H'->g x σ H' fun σ2 H2=>tb { D with nx:=N,ct:=N,bk:=D.nx } σ2 H2)
def fI (fp:List Addr)(h:Heap) : List (Addr × Obj):=fp.filterMap fun b=>(h.get? b).map fun o=>(b,o)
theorem dM {fp:List Addr}{h:Heap}{b:Addr}{o:Obj}(hb:b∈fp)(e:h.get? b=some o) : (b,o)∈fI fp h:=List.mem_filterMap.mpr ⟨b,hb,by rw [e]; rfl⟩
theorem lF {fp:List Addr}{h:Heap}{p:Addr × Obj}(hp:p∈fI fp h) : p.1∈fp/\h.get? p.1=some p.2:=by
 obtain ⟨b,hb,e⟩:=List.mem_filterMap.mp hp
 cases q:h.get? b with
 | none=>rw [q] at e; cases e
 | some o =>
  rw [q] at e
  have e':(b,o)=p:=Option.some.inj e
  subst e'
  exact ⟨hb,q⟩
theorem Inv.pinned {pins:List (Addr × Obj)}{σ:St}{H:Hp}{s:Shared}{fp:List Addr}(I:Inv X pins σ H s)(hf:∀ b∈fp,hG X pins H b)(ho:∀ b∈fp,∃ o,s.heap.get? b=some o/\∀ v,o.data ≠ .cell v) : Inv X (pins ++ fI fp s.heap) σ H s :=
 I.pins_of fun p hp=>(List.mem_append.mp hp).elim (fun z=>I.pin p (List.mem_append_right _ z)) fun z=>by
  obtain ⟨hb,e⟩:=lF z
  obtain ⟨f0,f1,f2,_⟩:=hf p.1 hb
  obtain ⟨o,e',d⟩:=ho p.1 hb
  rw [e] at e'; cases e'
  exact ⟨e,f0,f1,f2,d⟩
theorem Inv.unpinned {pins pl:List (Addr × Obj)}{σ:St}{H:Hp}{s:Shared}(I:Inv X (pins ++ pl) σ H s) : Inv X pins σ H s:=I.pins_of fun p hp=>I.pin p (List.mem_append_right _ (List.mem_append_left _ hp))
theorem cS {iter:Expr}{body:List Stmt}{wi:TI}{g:TG}{tb:TS}{pos:Pos}(hp:PassesOwn (model X.prog X.w) X.A X.env X.xe) (hc:X.calm=true) (hi:PI X tg iter wi) (hg:PG X tg g) (hb:xX X body tb)
  (hs:∀ x,foldedSetIterable iter X.env x=pure x:=by intro _; rfl) : PS X (.For tg iter body [] pos) (tFor wi g tb):=by
 intro pins s σ H D I h
 refine wpAny_For (cL (hi pins s σ H _ I h) fun v s1 h1=>cL h1 fun itv s2 h2=>?_) hs
 obtain ⟨it,fp,tn,J,H2,e,I2,T,st2,f2,W,⟨m0,w0⟩,turn⟩:=h2
 subst e
 have stat:∀ {H':Hp},(∀ b∈fp,H' b=none)->∀ b∈fp,hG X pins H' b:=fun hn b hb=>⟨hn b hb,(f2 b hb).2⟩
 refine codeAny_forLoop_any (fun n s'=>∃ i σ' H',Inv X pins σ' H' s'/\tn i s'.heap/\(∀ b∈fp,H' b=none)/\W i n σ' H') ?_ m0 ⟨0,σ,H2,I2,st2,fun b hb=>(f2 b hb).1,w0⟩
 rintro n s3 ⟨i,σ3,H3,I3,st3,fr3,w3⟩
 rcases turn i n σ3 H3 w3 with ⟨stop,qn⟩ | ⟨go,N,hN,step⟩
 ·refine wpAny_passesOwn hp (cL (T.done X rfl rfl rfl hc i pins s3 σ3 H3 X.xe I3 (stat fr3) st3 stop) fun r s4 ⟨hr,I4⟩=>?_)
  subst hr
  exact wpAny_execs_nil ⟨σ3,H3,I4,qn⟩
 ·refine wpAny_passesOwn hp (cL (T.item X rfl rfl rfl hc i pins s3 σ3 H3 X.xe I3 (stat fr3) st3 go) fun r s4 ⟨u,hr,h4⟩=>?_)
  subst hr
  refine wpAny_passesOwn hp (cL h4 fun _ s5 ⟨x,H5,I5,r5,y5,st5,fr5⟩=>?_)
  have I5':=I5.pinned (stat fr5) (T.obj _ _ st5)
  refine wpAny_passesOwn hp (cL (hg _ s5 σ3 H5 x u _ I5' r5 (step x H5 y5)) fun _ s6 ⟨σ6,H6,I6,q6⟩=>?_)
  refine wpAny_passesOwn hp (cL (hb _ s6 σ6 H6 _ I6 q6) fun f s7 q7=>?_)
  have again:∀ {σ7:St}{H7:Hp},Inv X (pins ++ fI fp s5.heap) σ7 H7 s7->N σ7 H7->∃ m,m < n/\∃ i σ' H',Inv X pins σ' H' s7/\tn i s7.heap/\(∀ b∈fp,H' b=none)/\W i m σ' H':=fun {σ7 H7} I7 n7=>by
   obtain ⟨m',hm,w7⟩:=hN σ7 H7 n7
   refine ⟨m',hm,i + 1,σ7,H7,I7.unpinned,T.keep _ _ _ st5 fun b hb o e=>(I7.pin (b,o) (List.mem_append_right _ (List.mem_append_right _ (dM hb e)))).1,fun b hb=>?_,w7⟩
   obtain ⟨o,e,d⟩:=T.obj _ _ st5 b hb
   exact (I7.pin (b,o) (List.mem_append_right _ (List.mem_append_right _ (dM hb e)))).2.1
  cases f with
  | next=>obtain ⟨σ7,H7,I7,n7⟩:=q7; exact again I7 n7
  | cont=>obtain ⟨σ7,H7,I7,n7⟩:=q7; exact again I7 n7
  | brk=>obtain ⟨σ7,H7,I7,q7⟩:=q7; exact ⟨σ7,H7,I7.unpinned,q7⟩
  | ret v=>obtain ⟨x7,σ7,H7,I7,r7,q7⟩:=q7; exact ⟨x7,σ7,H7,I7.unpinned,r7,q7⟩
end
theorem c5 {K:PySem.W.Frag}{a:Addr}{xs:List V}{g:TG}{tb:TS}{D:Ends}{σ:St}{H:Hp}(Pv:Nat->St->Hp->Prop) (h0:Pv 0 σ H) (hl:∀ i σ H,i<=xs.length->Pv i σ H->c6 K H a xs)
  (hs:∀ i x σ H,xs[i]? = some x->Pv i σ H->g x σ H fun σ2 H2=>tb { D with nx:=Pv (i + 1),ct:=Pv (i + 1),bk:=D.nx } σ2 H2) (hd:∀ σ H,Pv xs.length σ H->D.nx σ H) :
  ∃ W:Nat->Nat->St->Hp->Prop,(∃ m,W 0 m σ H)/\∀ i m σ H,W i m σ H ->
   ((Itl K a).stop i H/\D.nx σ H)\/((Itl K a).go i H/\∃ N:St->Hp->Prop,(∀ σ' H',N σ' H'->∃ m',m' < m/\W (i + 1) m' σ' H')/\∀ x H',(Itl K a).yld i H x H'->g x σ H' fun σ2 H2=>tb { D with nx:=N,ct:=N,bk:=D.nx } σ2 H2):=by
 refine ⟨fun i m σ H=>m=xs.length - i/\i<=xs.length/\Pv i σ H,⟨xs.length,by simp,Nat.zero_le _,h0⟩,?_⟩
 rintro i m σ H ⟨rfl,hi,p⟩
 have q:=hl i σ H hi p
 by_cases hlt:i < xs.length
 ·refine .inr ⟨⟨xs,xs[i],q,by simp [hlt]⟩,Pv (i + 1),fun σ' H' p'=>⟨xs.length - (i + 1),by omega,rfl,hlt,p'⟩,fun x H' y=>?_⟩
  obtain ⟨e,y⟩:=y
  subst e
  exact hs i x σ _ (y xs q) p
 ·have e:i=xs.length:=by omega
  subst e
  exact .inl ⟨⟨xs,q,Nat.le_refl _⟩,hd σ H p⟩
theorem tR {lo:Int}{n:Nat}{g:TG}{tb:TS}{D:Ends}{σ:St}{H:Hp}(Pv:Nat->St->Hp->Prop) (h0:Pv 0 σ H)
  (hs:∀ i σ H,i < n->Pv i σ H->g (.int (lo + i)) σ H fun σ2 H2=>tb { D with nx:=Pv (i + 1),ct:=Pv (i + 1),bk:=D.nx } σ2 H2) (hd:∀ σ H,Pv n σ H->D.nx σ H) :
  ∃ W:Nat->Nat->St->Hp->Prop,(∃ m,W 0 m σ H)/\∀ i m σ H,W i m σ H ->
   ((Itr lo n).stop i H/\D.nx σ H)\/((Itr lo n).go i H/\∃ N:St->Hp->Prop,(∀ σ' H',N σ' H'->∃ m',m' < m/\W (i + 1) m' σ' H')/\∀ x H',(Itr lo n).yld i H x H'->g x σ H' fun σ2 H2=>tb { D with nx:=N,ct:=N,bk:=D.nx } σ2 H2):=by
 refine ⟨fun i m σ H=>m=n - i/\i<=n/\Pv i σ H,⟨n,by simp,Nat.zero_le _,h0⟩,?_⟩
 rintro i m σ H ⟨rfl,hi,p⟩
 by_cases hlt:i < n
 ·refine .inr ⟨hlt,Pv (i + 1),fun σ' H' p'=>⟨n - (i + 1),by omega,rfl,hlt,p'⟩,fun x H' y=>?_⟩
  obtain ⟨e,y⟩:=y
  subst e y
  exact hs i σ _ hlt p
 ·have e:i=n:=by omega
  subst e
  exact .inl ⟨Nat.le_refl _,hd σ H p⟩
theorem eN {c:TT}{tb:TS}{D:Ends}{σ:St}{H:Hp}(Pv:St->Hp->Prop) (μ:St->Hp->Nat) (h0:Pv σ H)
  (hs:∀ σ H,Pv σ H->c σ H fun b H1=>if b=true then tb { D with nx:=fun σ' H'=>Pv σ' H'/\μ σ' H' < μ σ H,ct:=fun σ' H'=>Pv σ' H'/\μ σ' H' < μ σ H,bk:=D.nx } σ H1 else D.nx σ H1)
  (mono:∀ σ H Q Q',(∀ b H1,Q b H1->Q' b H1)->c σ H Q->c σ H Q') : uN c tb D σ H:=by
 refine ⟨fun m σ H=>m=μ σ H/\Pv σ H,⟨_,rfl,h0⟩,?_⟩
 rintro m σ H ⟨rfl,p⟩
 refine mono σ H _ _ (fun b H1 q=>?_) (hs σ H p)
 cases b with
 | true=>exact ⟨_,fun σ' H' ⟨p',l⟩=>⟨_,l,rfl,p'⟩,q⟩
 | false=>exact q
abbrev R2:=V->V->Hp->VK->Prop
def gR (X:Cx)(f:Value->Value->Sem Value)(r:R2) : Prop :=
 ∀ (pins:List (Addr × Obj)) (s:Shared) (σ:St) (H:Hp) (x y:V) (v u:Value) (Q:VK),Inv X pins σ H s->bX x v->bX y u->r x y H Q ->
  wpAny (model X.prog X.w) X.A (f v u) (EP X pins σ Q) X.xe s
def UnR (X:Cx)(f:Value->Sem Value)(r:V->Hp->VK->Prop) : Prop :=
 ∀ (pins:List (Addr × Obj)) (s:Shared) (σ:St) (H:Hp) (x:V) (v:Value) (Q:VK),Inv X pins σ H s->bX x v->r x H Q ->
  wpAny (model X.prog X.w) X.A (f v) (EP X pins σ Q) X.xe s
def eA (X:Cx)(f:Value)(r:List V->Hp->VK->Prop) : Prop :=
 ∀ (pins:List (Addr × Obj)) (s:Shared) (σ:St) (H:Hp) (xs:List V) (us:List Value) (Q:VK),Inv X pins σ H s->bO xs us->r xs H Q ->
  wpAny (model X.prog X.w) X.A (call f us) (EP X pins σ Q) X.xe s
def tOp (r:R2)(ta tb:TE) : TE:=fun σ H Q=>ta σ H fun x H1=>tb σ H1 fun y H2=>r x y H2 Q
def tUn (r:V->Hp->VK->Prop)(ta:TE) : TE:=fun σ H Q=>ta σ H fun x H1=>r x H1 Q
def rI (C:Int->Int->Prop)(g:Int->Int->V) : R2:=fun x y H Q=>∃ i j,x = .int i/\y = .int j/\C i j/\Q (g i j) H
def rI0 (g:Int->Int->V) : R2:=fun x y H Q=>∃ i j,x = .int i/\y = .int j/\Q (g i j) H
def rU (g:Int->V) : V->Hp->VK->Prop:=fun x H Q=>∃ i,x = .int i/\Q (g i) H
section
variable {X:Cx}{a b c:Expr}{ta tb tc:TE}{pos:Pos}
theorem binT (ha:PE X a ta) (hb:PE X b tb) {pins:List (Addr × Obj)}{s:Shared}{σ:St}{H:Hp}{R:V->V->Hp->Prop}(I:Inv X pins σ H s)
  (h:ta σ H fun x H1=>tb σ H1 fun y H2=>R x y H2) {Q:Value->Shared->Prop}{f:Value->Value->Sem Value}
  (hf:∀ v u s2 x y H2,Inv X pins σ H2 s2->bX x v->bX y u->R x y H2->wpAny (model X.prog X.w) X.A (f v u) Q X.xe s2) :
  wpAny (model X.prog X.w) X.A (eval a X.env) (fun v s₁=>wpAny (model X.prog X.w) X.A (eval b X.env) (fun u s₂=>wpAny (model X.prog X.w) X.A (f v u) Q X.xe s₂) X.xe s₁) X.xe s:=by
 refine cL (ha pins s σ H _ I h) fun v s1 ⟨x,H1,I1,r1,q1⟩=>?_
 refine cL (hb pins s1 σ H1 _ I1 q1) fun u s2 ⟨y,H2,I2,r2,q2⟩=>?_
 exact hf v u s2 x y H2 I2 r1 r2 q2
theorem aJ {op:Operator}{r:R2}(ho:gR X (binaryOp op) r)(ha:PE X a ta)(hb:PE X b tb) : PE X (.BinOp a op b pos) (tOp r ta tb):=by
 intro pins s σ H Q I h
 exact wpAny_BinOp (binT ha hb I h fun v u s2 x y H2 I2 rx ry q=>ho pins s2 σ H2 x y v u Q I2 rx ry q)
theorem iS {op:UnaryOp}{r:V->Hp->VK->Prop}(ho:UnR X (unaryOp op) r)(ha:PE X a ta) : PE X (.UnaryOp op a pos) (tUn r ta):=by
 intro pins s σ H Q I h
 exact UnaryOp_ (cL (ha pins s σ H _ I h) fun v s1 ⟨x,H1,I1,r1,q1⟩=>ho pins s1 σ H1 x v Q I1 r1 q1)
theorem opI {f:Value->Value->Sem Value}{C:Int->Int->Prop}{g:Int->Int->Int}
  (rule:∀ (i j:Int) (t u:Tok) (s:Shared) (Q:Value->Shared->Prop) (E:Value->Shared->Prop),C i j->Q (.int (g i j) s.toks) { s with toks:=s.toks + 1 }->wpAny (model X.prog X.w) X.A (f (.int i t) (.int j u)) Q E s) :
  gR X f (rI C fun i j=>.int (g i j)):=by
 intro pins s σ H x y v u Q I rx ry h
 obtain ⟨i,j,rfl,rfl,hc,q⟩:=h
 obtain ⟨t,rfl⟩:=rx
 obtain ⟨t',rfl⟩:=ry
 exact rule i j t t' s _ _ hc ⟨.int (g i j),H,I.tok _,⟨_,rfl⟩,q⟩
theorem opI0 {f:Value->Value->Sem Value}{g:Int->Int->Int}
  (rule:∀ (i j:Int) (t u:Tok) (s:Shared) (Q:Value->Shared->Prop) (E:Value->Shared->Prop),Q (.int (g i j) s.toks) { s with toks:=s.toks + 1 }->wpAny (model X.prog X.w) X.A (f (.int i t) (.int j u)) Q E s) :
  gR X f (rI0 fun i j=>.int (g i j)):=by
 intro pins s σ H x y v u Q I rx ry h
 obtain ⟨i,j,rfl,rfl,q⟩:=h
 obtain ⟨t,rfl⟩:=rx
 obtain ⟨t',rfl⟩:=ry
 exact rule i j t t' s _ _ ⟨.int (g i j),H,I.tok _,⟨_,rfl⟩,q⟩
theorem opB0 {f:Value->Value->Sem Value}{g:Int->Int->Bool}
  (rule:∀ (i j:Int) (t u:Tok) (s:Shared) (Q:Value->Shared->Prop) (E:Value->Shared->Prop),Q (.bool (g i j)) s->wpAny (model X.prog X.w) X.A (f (.int i t) (.int j u)) Q E s) :
  gR X f (rI0 fun i j=>.bl (g i j)):=by
 intro pins s σ H x y v u Q I rx ry h
 obtain ⟨i,j,rfl,rfl,q⟩:=h
 obtain ⟨t,rfl⟩:=rx
 obtain ⟨t',rfl⟩:=ry
 exact rule i j t t' s _ _ ⟨.bl (g i j),H,I,rfl,q⟩
def CPow (i j:Int) : Prop:=0<=j/\j<=1000000/\i.natAbs < 2 ^ 64
theorem cG:gR X (binaryOp .Add) (rI0 fun i j=>.int (i + j)):=opI0 fun _ _ _ _ _ _ _ q=>add_int q
theorem cF:gR X (binaryOp .Sub) (rI0 fun i j=>.int (i - j)):=opI0 fun _ _ _ _ _ _ _ q=>sub_int q
theorem cJ:gR X (binaryOp .Mod) (rI (fun _ j=>0 < j) fun i j=>.int (i % j)):=opI fun i j _ _ _ _ _ hc q=>by
 have h1:(0:Int) < j:=hc
 exact mod_int' (by omega) (by rw [Int.fmod_eq_emod_of_nonneg i (by omega)]; exact q)
theorem vW:gR X (binaryOp .Pow) (rI CPow fun i j=>.int (i ^ j.toNat)):=opI fun _ _ _ _ _ _ _ hc q=>pow_int_small hc.1 hc.2.1 hc.2.2 q
theorem iop_add:gR X (inplaceOp .Add) (rI0 fun i j=>.int (i + j)):=opI0 fun _ _ _ _ _ _ _ q=>iadd_int q
theorem unI {f:Value->Sem Value}{g:Int->Int}
  (rule:∀ (i:Int) (t:Tok) (s:Shared) (Q:Value->Shared->Prop) (E:Value->Shared->Prop),Q (.int (g i) s.toks) { s with toks:=s.toks + 1 }->wpAny (model X.prog X.w) X.A (f (.int i t)) Q E s) :
  UnR X f (rU fun i=>.int (g i)):=by
 intro pins s σ H x v Q I rx h
 obtain ⟨i,rfl,q⟩:=h
 obtain ⟨t,rfl⟩:=rx
 exact rule i t s _ _ ⟨.int (g i),H,I.tok _,⟨_,rfl⟩,q⟩
theorem fU:UnR X (unaryOp .USub) (rU fun i=>.int (-i)):=unI fun _ _ _ _ _ q=>neg_int q
end
def scal:V->V->Bool
 | .non,.non=>true | .non,.int _=>true | .int _,.non=>true | .non,.bl _=>true | .bl _,.non=>true | .non,.str _=>true | .str _,.non=>true
 | .int _,.int _=>true | .bl _,.bl _=>true | .str _,.str _=>true | .byt _,.byt _=>true
 | .int _,.str _=>true | .str _,.int _=>true | .bl _,.str _=>true | .str _,.bl _=>true
 | _,_=>false
def rEq:R2:=fun x y H Q=>scal x y=true/\Q (.bl (decide (x=y))) H
def rNe:R2:=fun x y H Q=>scal x y=true/\Q (.bl (!decide (x=y))) H
theorem rZ {i j:Int} : decide (V.int i=V.int j)=(i == j):=by
 rw [Bool.eq_iff_iff]
 simp
theorem xF {i j:Bool} : decide (V.bl i=V.bl j)=(i == j):=by
 rw [Bool.eq_iff_iff]
 simp
theorem rY {i j:Str} : decide (V.str i=V.str j)=(i == j):=by
 rw [Bool.eq_iff_iff]
 simp
theorem r9 {i j:Array UInt8} : decide (V.byt i=V.byt j)=(i.toList == j.toList):=by
 rw [Bool.eq_iff_iff]
 cases i
 cases j
 simp
section
variable {X:Cx}{a b c:Expr}{ta tb tc:TE}{pos:Pos}
theorem bR {pins:List (Addr × Obj)}{σ:St}{H:Hp}{s:Shared}{Q:VK}{k k':Bool}(I:Inv X pins σ H s)(q:Q (.bl k) H)(e:k=k') : EP X pins σ Q (.bool k') s:=by
 subst e
 exact ⟨.bl k,H,I,rfl,q⟩
theorem op_eq:gR X (compareOp .Eq) rEq:=by
 intro pins s σ H x y v u Q I rx ry h
 obtain ⟨hs,q⟩:=h
 cases x with
 | non =>
  cases rx
  cases y with
  | non=>cases ry; exact PySem.EqNone.eq_none_none (bR I q (by simp))
  | bl j=>cases ry; exact PySem.EqNone.eq_none_bool (bR I q (by simp))
  | int j=>obtain ⟨t',rfl⟩:=ry; exact PySem.EqNone.eq_none_int (bR I q (by simp))
  | str j=>obtain ⟨t',rfl⟩:=ry; exact PySem.EqNone.eq_none_str (bR I q (by simp))
  | _=>exact absurd (show false=true from hs) Bool.false_ne_true
 | bl i =>
  cases rx
  cases y with
  | non=>cases ry; exact PySem.EqNone.eq_bool_none (bR I q (by simp))
  | bl j=>cases ry; exact eq_bool (bR I q xF)
  | str j=>obtain ⟨t',rfl⟩:=ry; exact PySem.EqMixed.eq_bool_str (bR I q (by simp))
  | _=>exact absurd (show false=true from hs) Bool.false_ne_true
 | int i =>
  obtain ⟨t,rfl⟩:=rx
  cases y with
  | non=>cases ry; exact PySem.EqNone.eq_int_none (bR I q (by simp))
  | int j=>obtain ⟨t',rfl⟩:=ry; exact eq_int (bR I q rZ)
  | str j=>obtain ⟨t',rfl⟩:=ry; exact PySem.EqMixed.eq_int_str (bR I q (by simp))
  | _=>exact absurd (show false=true from hs) Bool.false_ne_true
 | str i =>
  obtain ⟨t,rfl⟩:=rx
  cases y with
  | non=>cases ry; exact PySem.EqNone.eq_str_none (bR I q (by simp))
  | bl j=>cases ry; exact PySem.EqMixed.eq_str_bool (bR I q (by simp))
  | int j=>obtain ⟨t',rfl⟩:=ry; exact PySem.EqMixed.eq_str_int (bR I q (by simp))
  | str j=>obtain ⟨t',rfl⟩:=ry; exact eq_str (bR I q rY)
  | _=>exact absurd (show false=true from hs) Bool.false_ne_true
 | byt i =>
  obtain ⟨t,rfl⟩:=rx
  cases y with
  | byt j=>obtain ⟨t',rfl⟩:=ry; exact PySem.W.eq_bytes (bR I q r9)
  | _=>exact absurd (show false=true from hs) Bool.false_ne_true
 | _=>cases y <;> exact absurd (show false=true from hs) Bool.false_ne_true
theorem op_ne:gR X (compareOp .NotEq) rNe:=by
 intro pins s σ H x y v u Q I rx ry h
 obtain ⟨hs,q⟩:=h
 cases x with
 | non =>
  cases rx
  cases y with
  | non=>cases ry; exact PySem.EqNone.ne_none_none (bR I q (by simp))
  | bl j=>cases ry; exact PySem.EqNone.ne_none_bool (bR I q (by simp))
  | int j=>obtain ⟨t',rfl⟩:=ry; exact PySem.EqNone.ne_none_int (bR I q (by simp))
  | str j=>obtain ⟨t',rfl⟩:=ry; exact PySem.EqNone.ne_none_str (bR I q (by simp))
  | _=>exact absurd (show false=true from hs) Bool.false_ne_true
 | bl i =>
  cases rx
  cases y with
  | non=>cases ry; exact PySem.EqNone.ne_bool_none (bR I q (by simp))
  | bl j=>cases ry; exact ne_bool (bR I q (congrArg not xF))
  | str j=>obtain ⟨t',rfl⟩:=ry; exact PySem.EqMixed.ne_bool_str (bR I q (by simp))
  | _=>exact absurd (show false=true from hs) Bool.false_ne_true
 | int i =>
  obtain ⟨t,rfl⟩:=rx
  cases y with
  | non=>cases ry; exact PySem.EqNone.ne_int_none (bR I q (by simp))
  | int j=>obtain ⟨t',rfl⟩:=ry; exact ne_int (bR I q (congrArg not rZ))
  | str j=>obtain ⟨t',rfl⟩:=ry; exact PySem.EqMixed.ne_int_str (bR I q (by simp))
  | _=>exact absurd (show false=true from hs) Bool.false_ne_true
 | str i =>
  obtain ⟨t,rfl⟩:=rx
  cases y with
  | non=>cases ry; exact PySem.EqNone.ne_str_none (bR I q (by simp))
  | bl j=>cases ry; exact PySem.EqMixed.ne_str_bool (bR I q (by simp))
  | int j=>obtain ⟨t',rfl⟩:=ry; exact PySem.EqMixed.ne_str_int (bR I q (by simp))
  | str j=>obtain ⟨t',rfl⟩:=ry; exact ne_str (bR I q (congrArg not rY))
  | _=>exact absurd (show false=true from hs) Bool.false_ne_true
 | byt i =>
  obtain ⟨t,rfl⟩:=rx
  cases y with
  | byt j=>obtain ⟨t',rfl⟩:=ry; exact PySem.W.ne_bytes (bR I q (congrArg not r9))
  | _=>exact absurd (show false=true from hs) Bool.false_ne_true
 | _=>cases y <;> exact absurd (show false=true from hs) Bool.false_ne_true
theorem fZ:gR X (compareOp .Lt) (rI0 fun i j=>.bl (decide (i < j))):=opB0 fun _ _ _ _ _ _ _ q=>lt_int q
theorem n5:gR X (compareOp .Gt) (rI0 fun i j=>.bl (decide (j < i))):=opB0 fun _ _ _ _ _ _ _ q=>gt_int q
theorem op_isN:gR X (compareOp .Is) (fun x y H Q=>y = .non/\Q (.bl (decide (x = .non))) H):=by
 intro pins s σ H x y v u Q I rx ry h
 obtain ⟨rfl,q⟩:=h
 cases ry
 refine is_none_gen (bR I q ?_)
 cases x <;> first
  | (cases rx; rfl)
  | (obtain ⟨t,rfl⟩:=rx; rfl)
theorem op_notN:gR X (compareOp .IsNot) (fun x y H Q=>y = .non/\Q (.bl (!decide (x = .non))) H):=by
 intro pins s σ H x y v u Q I rx ry h
 obtain ⟨rfl,q⟩:=h
 cases ry
 refine isnot_none_gen (bR I q ?_)
 cases x <;> first
  | (cases rx; rfl)
  | (obtain ⟨t,rfl⟩:=rx; rfl)
theorem bB (b:Expr){op:CmpOp}(h:op ≠ .In:=by decide)(h2:op ≠ .NotIn:=by decide) : behindInMarks op b=false:=by
 have e1:(op == CmpOp.In)=false:=by cases op <;> first | rfl | exact absurd rfl h
 have e2:(op == CmpOp.NotIn)=false:=by cases op <;> first | rfl | exact absurd rfl h2
 cases b <;> simp [behindInMarks,e1,e2]
theorem jA {op:CmpOp}{r:R2}(ho:gR X (compareOp op) r)(ha:PE X a ta)(hb:PE X b tb)(hm:behindInMarks op b=false) : PE X (.Compare a [op] [b] pos) (tOp r ta tb):=by
 intro pins s σ H Q I h
 exact wpAny_Compare1 (binT ha hb I h fun v u s2 x y H2 I2 rx ry q=>ho pins s2 σ H2 x y v u Q I2 rx ry q) hm
def tTest (t:TE) : TT:=fun σ H Q=>t σ H fun x H'=>∃ k,x = .bl k/\Q k H'
theorem aX {op:CmpOp}{r:R2}(ho:gR X (compareOp op) r)(ha:PE X a ta)(hb:PE X b tb)(hm:behindInMarks op b=false) : PT X (.Compare a [op] [b] pos) (tTest (tOp r ta tb)):=by
 intro pins s σ H Q I h
 refine wpAny_isTrue_Compare1 (cL (ha pins s σ H _ I h) fun v s1 ⟨x,H1,I1,r1,q1⟩=>cL (hb pins s1 σ H1 _ I1 q1) fun u s2 ⟨y,H2,I2,r2,q2⟩ =>
  cL (ho pins s2 σ H2 x y v u _ I2 r1 r2 q2) fun c s3 ⟨z,H3,I3,r3,k,e,q3⟩=>?_) hm
 subst e
 cases r3
 exact wpAny_truthy_bool ⟨H3,I3,q3⟩
def tChain (r r':R2)(ta tb tc:TE) : TE:=fun σ H Q=>ta σ H fun x H1=>tb σ H1 fun y H2=>r x y H2 fun z H3=>∃ k,z = .bl k /\
 (if k=true then tc σ H3 fun w' H4=>r' y w' H4 Q else Q (.bl false) H3)
theorem vG {op op':CmpOp}{r r':R2}(ho:gR X (compareOp op) r) (ho':gR X (compareOp op') r') (ha:PE X a ta) (hb:PE X b tb) (hc:PE X c tc)
  (hm:lastMarks [op,op'] [b,c] = false:=by with_unfolding_all rfl) : PT X (.Compare a [op,op'] [b,c] pos) (tTest (tChain r r' ta tb tc)):=by
 intro pins s σ H Q I h
 refine isTrue_chain (cL (ha pins s σ H _ I h) fun v s1 ⟨x,H1,I1,r1,q1⟩=>test_link (cL (hb pins s1 σ H1 _ I1 q1) fun u s2 ⟨y,H2,I2,r2,q2⟩ =>
  cL (ho pins s2 σ H2 x y v u _ I2 r1 r2 q2) fun d s3 ⟨z,H3,I3,r3,k,e,q3⟩=>?_)) hm
 subst e
 cases r3
 refine wpAny_truthy_bool ?_
 cases k with
 | false =>
  obtain ⟨k',e',q'⟩:=q3
  cases e'
  exact ite_ff ⟨H3,I3,q'⟩
 | true =>
  refine ite_tt (test_last (cL (hc pins s3 σ H3 _ I3 q3) fun w' s4 ⟨z',H4,I4,r4,q4⟩=>cL (ho' pins s4 σ H4 y z' u w' _ I4 r2 r4 q4) fun d' s5 ⟨z2,H5,I5,r5,k2,e2,q5⟩=>?_))
  subst e2
  cases r5
  exact wpAny_truthy_bool ⟨H5,I5,q5⟩
theorem j6:(sizeLine:Nat) < 2 ^ 63:=by rw [sizeLine_eq]; decide
theorem bV:gR X (binaryOp .Add) (fun x y H Q=>∃ i j,x = .str i/\y = .str j/\i.length + j.length<=sizeLine/\Q (.str (i ++ j)) H):=by
 intro pins s σ H x y v u Q I rx ry h
 obtain ⟨i,j,rfl,rfl,hz,q⟩:=h
 obtain ⟨t,rfl⟩:=rx
 obtain ⟨t',rfl⟩:=ry
 exact add_str (fun t' tk=>⟨.str (i ++ j),H,I.tok _,⟨_,rfl⟩,q⟩) hz
theorem fO {x:V}{us:List Value}(r:bO [x] us) : ∃ u,us = [u]/\bX x u:=by
 cases r with
 | cons r1 r2=>cases r2; exact ⟨_,rfl,r1⟩
theorem uI {x y:V}{us:List Value}(r:bO [x,y] us) : ∃ u w',us = [u,w']/\bX x u/\bX y w':=by
 cases r with
 | cons r1 r2 =>
  cases r2 with
  | cons r3 r4=>cases r4; exact ⟨_,_,rfl,r1,r3⟩
theorem kF:eA X (.builtin "abs") (fun xs H Q=>∃ i,xs = [.int i]/\Q (.int (if i < 0 then -i else i)) H):=by
 intro pins s σ H xs us Q I r h
 obtain ⟨i,rfl,q⟩:=h
 obtain ⟨u,rfl,t,rfl⟩:=fO r
 exact call_abs_int fun u tk=>⟨.int (if i < 0 then -i else i),H,I.tok _,⟨_,rfl⟩,q⟩
theorem t9 (hc:X.calm=true) : eA X (.builtin "max") (fun xs H Q=>∃ i j,xs = [.int i,.int j]/\Q (.int (if j > i then j else i)) H):=by
 intro pins s σ H xs us Q I r h
 obtain ⟨i,j,rfl,q⟩:=h
 obtain ⟨u,w',rfl,⟨t,rfl⟩,⟨t',rfl⟩⟩:=uI r
 refine max_two_ints (I.ok.hd hc) fun h' tk k=>⟨_,H,I.kept k,?_,q⟩
 by_cases hj:j > i
 ·rw [if_pos hj,if_pos hj]; exact ⟨_,rfl⟩
 ·rw [if_neg hj,if_neg hj]; exact ⟨_,rfl⟩
theorem t8 (hc:X.calm=true) : eA X (.builtin "min") (fun xs H Q=>∃ i j,xs = [.int i,.int j]/\Q (.int (if j < i then j else i)) H):=by
 intro pins s σ H xs us Q I r h
 obtain ⟨i,j,rfl,q⟩:=h
 obtain ⟨u,w',rfl,⟨t,rfl⟩,⟨t',rfl⟩⟩:=uI r
 refine min_two_ints (I.ok.hd hc) fun h' tk k=>⟨_,H,I.kept k,?_,q⟩
 by_cases hj:j < i
 ·rw [if_pos hj,if_pos hj]; exact ⟨_,rfl⟩
 ·rw [if_neg hj,if_neg hj]; exact ⟨_,rfl⟩
theorem uA:eA X (.type "int") (fun xs H Q=>(∃ i,xs = [.int i]/\Q (.int i) H)\/∃ k,xs = [.bl k]/\Q (.int (if k then 1 else 0)) H):=by
 intro pins s σ H xs us Q I r h
 rcases h with ⟨i,rfl,q⟩ | ⟨k,rfl,q⟩
 ·obtain ⟨u,rfl,t,rfl⟩:=fO r
  exact call_int_int ⟨.int i,H,I,⟨_,rfl⟩,q⟩
 ·obtain ⟨u,rfl,r1⟩:=fO r
  cases r1
  exact call_int_bool ⟨.int (if k then 1 else 0),H,I.tok _,⟨_,rfl⟩,q⟩
end
structure ObjM (h:Heap) (x dx C:Addr) (mA:Str->Option Value) : Prop where
 obj:h.get? x=some (PySem.W.instObj C dx)
 ns:h.Ns1 dx mA
 ne:dx ≠ x
theorem tF {h:Heap}{dx:Addr}{mA:Str->Option Value}(n:h.Ns1 dx mA) : ∃ od,h.get? dx=some od/\∀ name,PySem.W.lookIn name od=some (mA name):=by
 obtain ⟨o,es,ep,ho,hd,hk,_,hm⟩:=n
 refine ⟨o,ho,fun name=>?_⟩
 have e:=hm name
 unfold nsFind findBy at e
 rw [<- Array.find?_toList] at e
 unfold PySem.W.lookIn
 rw [hd]
 dsimp only
 split
 ·rename_i y q
  rw [q] at e
  exact congrArg some e
 ·rename_i q
  rw [q] at e
  have a:es.toList.any (·.refKey)=false:=by
   rw [List.any_eq_false]
   intro y hy
   obtain ⟨z,t,hkey⟩:=hk y (Array.mem_toList_iff.mp hy)
   simp [DictEntry.refKey,hkey]
  have a':¬ es.toList.any (·.refKey)=true:=by rw [a]; exact Bool.false_ne_true
  rw [if_neg a']
  exact congrArg some e
theorem ObjM.look {h:Heap}{x dx C:Addr}{mA:Str->Option Value}(I:ObjM h x dx C mA) : ∃ od,PySem.W.InstAt h x (PySem.W.instObj C dx) C (some od)/\∀ name,PySem.W.lookIn name od=some (mA name) :=
 let ⟨od,ho,hl⟩:=tF I.ns
 ⟨od,⟨I.obj,rfl,rfl,ho⟩,hl⟩
section
variable {prog:Program}{w:World}{A:Around}{E:Value->Shared->Prop}{s:Shared}{K:PySem.W.Frag}{x dx C f:Addr}{mA:Str->Option Value}{name:Str}{v:Value}
end
theorem kM.some_of {v:V}{o:Option Value}(r:kM (some v) o) : ∃ u,o=some u/\bX v u:=by
 cases o with
 | none=>exact (show False from r).elim
 | some u=>exact ⟨u,rfl,r⟩
section
variable {P:Program}{w:World}{H H':Hp}{h h':Heap}{a C dx:Addr}{fs fs':List (Str × V)}
theorem ins_get (hok:g9 P w H h)(e:H a=some (.ins C dx fs)) : ∃ mA,ObjM h a dx C mA/\(∀ f,kM (fs.lookup f) (mA f))/\PySem.Within mA (fs.map (·.1))/\fs.length<=1000/\H dx=some (.own a):=by
 obtain ⟨d,z,ne,ob,mA,n,r,q⟩:=(show cI P w H h a (.ins C dx fs) from hok a _ e)
 exact ⟨mA,⟨ob,n,ne⟩,r,q,z,d⟩
end
structure Cls (K:PySem.W.Frag) (C:Addr) : Prop where
 pg:PySem.W.plainGet K C Str.empty=true
 hd:PySem.W.hasDictIn K C=true
 po:PySem.W.plainOver K C=true
 sa:PySem.W.findIn K (.ref C) "__setattr__" = some (some (.builtin "object.__setattr__"))
theorem Cls.get {K:PySem.W.Frag}{C:Addr}(c:Cls K C)(f:Str) : PySem.W.plainGet K C f=true:=c.pg
structure Con (K:PySem.W.Frag) (C:Addr) (f:Str) (v:V) (u:Value) : Prop where
 at_:PySem.W.findIn K (.ref C) f=some (some u)
 rel:bX v u
 get:PySem.W.specialIn K u "__get__" = some none
 cp:PySem.W.copiedNames.contains f=false
structure Meth (K:PySem.W.Frag) (C:Addr) (m:Str) (f:Addr) : Prop where
 at_:PySem.W.findIn K (.ref C) m=some (some (.ref f))
 fn:PySem.W.isFn K (.ref f)=true
 kp:PySem.W.keepIn K (.ref f)=true
section
variable {X:Cx}{pins:List (Addr × Obj)}{σ:St}{H:Hp}{s:Shared}{a C dx:Addr}{fs:List (Str × V)}{f:Str}{v:V}{A:Around}{E:Value->Shared->Prop}
end
section
variable {X:Cx}{o e value:Expr}{f:Str}{pos pos' tpos:Pos}{ta tv:TE}
end
section
variable {X:Cx}{pins:List (Addr × Obj)}{σ:St}{H:Hp}{s:Shared}{A:Around}{E:Value->Shared->Prop}{Q:Value->Shared->Prop}{c:Value}{b:Bool}
inductive TyOf (K:PySem.W.Frag) (H:Hp) : V->Value->Prop where
 | non:TyOf K H .non (.type "NoneType")
 | bl (x:Bool) : TyOf K H (.bl x) (.type "bool")
 | int (i:Int) : TyOf K H (.int i) (.type "int")
 | str (x:Str) : TyOf K H (.str x) (.type "str")
 | flt (x:UInt64) : TyOf K H (.flt x) (.type "float")
 | lst {a:Addr}{xs:List V}(e:H a=some (.lst xs)) : TyOf K H (.ref a) (.type "list")
 | frz {a:Addr}{o:Obj}{xs:List V}(e:H a=some (.frz o (.lst xs))) : TyOf K H (.ref a) (.type "list")
 | tup {a:Addr}{xs:List V}(e:H a=some (.tup xs)) : TyOf K H (.ref a) (.type "tuple")
 | dK {a:Addr}{kvs:List (bG × V)}(e:H a=some (.dK kvs)) : TyOf K H (.ref a) (.type "dict")
 | dT {a:Addr}{kvs:List (List bG × V)}(e:H a=some (.dT kvs)) : TyOf K H (.ref a) (.type "dict")
 | ins {a C dx:Addr}{fs:List (Str × V)}(e:H a=some (.ins C dx fs)) (cl:Cls K C) (ha:PySem.W.findIn K (.ref C) "__class__" = some (some (.builtin "object.__class__")))
   (hn:PySem.W.specialIn K (.builtin "object.__class__") "__get__" = some (some (.builtin "getset_descriptor.__get__"))) (htk:PySem.W.takesIn K (.builtin "object.__class__")=some true)
   (hm:PySem.W.mroIn K C (.type "object")=some true) : TyOf K H (.ref a) (.ref C)
theorem tK {x:V}{u t:Value}(I:Inv X pins σ H s) (rx:bX x u) (ty:TyOf X.K H x t) (e:PySem.W.kitOne X.K t c=some b) (h:∀ tk,Q (.bool b) { s with toks:=tk }) :
  wpAny (model X.prog X.w) A (call (.builtin "isinstance") [u,c]) Q E s:=by
 cases ty with
 | non=>cases (show u=Value.none from rx); exact PySem.W.kia_one PySem.W.kitx_none I.kIn True.intro e (fun z=>nomatch z) h
 | bl y=>cases (show u=Value.bool y from rx); exact PySem.W.kia_one PySem.W.kitx_bool I.kIn True.intro e (fun z=>nomatch z) h
 | int i=>obtain ⟨t,q⟩:=(show ∃ t,u=Value.int i t from rx); cases q; exact PySem.W.kia_one PySem.W.kitx_int I.kIn True.intro e (fun z=>nomatch z) h
 | str y=>obtain ⟨t,q⟩:=(show ∃ t,u=Value.str y t from rx); cases q; exact PySem.W.kia_one PySem.W.kitx_str I.kIn True.intro e (fun z=>nomatch z) h
 | flt y=>obtain ⟨t,q⟩:=(show ∃ t,u=Value.float y t from rx); cases q; exact PySem.W.kia_one PySem.W.kitx_float I.kIn True.intro e (fun z=>nomatch z) h
 | @lst a xs ea =>
  cases (show u=Value.ref a from rx)
  obtain ⟨_,_,n,_,h1⟩:=(show cI X.prog X.w H s.heap a (.lst xs) from I.hok a _ ea)
  exact PySem.W.kia_one PySem.W.kitx_list I.kIn ⟨_,h1,rfl⟩ e (fun z=>nomatch z) h
 | @frz a ob xs ea =>
  cases (show u=Value.ref a from rx)
  obtain ⟨_,_,_,n,_,h1⟩:=(show cI X.prog X.w H s.heap a (.frz ob (.lst xs)) from I.hok a _ ea)
  exact PySem.W.kia_one PySem.W.kitx_list I.kIn ⟨_,h1,rfl⟩ e (fun z=>nomatch z) h
 | @tup a xs ea =>
  cases (show u=Value.ref a from rx)
  obtain ⟨_,_,_,p⟩:=(show cI X.prog X.w H s.heap a (.tup xs) from I.hok a _ ea)
  obtain ⟨o,h1,h2,_⟩:=p
  exact PySem.W.kia_one PySem.W.kitx_tuple I.kIn ⟨o,h1,h2⟩ e (fun z=>nomatch z) h
 | @dK a kvs ea =>
  cases (show u=Value.ref a from rx)
  obtain ⟨_,_,vs,_,p⟩:=(show cI X.prog X.w H s.heap a (.dK kvs) from I.hok a _ ea)
  obtain ⟨o,es,ep,h1,h2,_⟩:=p
  exact PySem.W.kia_one PySem.W.kitx_dict I.kIn ⟨o,h1,h2.1⟩ e (fun z=>nomatch z) h
 | @dT a kvs ea =>
  cases (show u=Value.ref a from rx)
  obtain ⟨_,_,xs,_,o,es,ep,h1,h2,_⟩:=(show cI X.prog X.w H s.heap a (.dT kvs) from I.hok a _ ea)
  exact PySem.W.kia_one PySem.W.kitx_dict I.kIn ⟨o,h1,h2.1⟩ e (fun z=>nomatch z) h
 | @ins a C dx fs ea cl ha hn htk hm =>
  cases (show u=Value.ref a from rx)
  obtain ⟨mA,O,_⟩:=ins_get I.hok ea
  obtain ⟨od,J,_⟩:=O.look
  exact PySem.W.kia_one (PySem.W.kitx_own (cl.get _) cl.hd ha hn htk hm) I.kIn J e (fun z=>nomatch z) h
end
structure Room (k:Nat) (A:Around) : Prop where
 hd:A.handled=none
 dp:A.depth + 3 * k + 5 < recursionLimit
 un:A.units + 16 * k + 200 < cLine
 gd:A.guards=some []
theorem Room.mono {j k:Nat}{A:Around}(r:Room k A)(h:j<=k) : Room j A:=⟨r.hd,by have:=r.dp; omega,by have:=r.un; omega,r.gd⟩
theorem Room.deeper {k:Nat}{A:Around}(r:Room (k + 1) A)(env:Env) : Room k (A.deeper env) :=
 ⟨r.hd,by have:=r.dp; show A.depth + 1 + 3 * k + 5 < _; omega,by have:=r.un; show A.units + 3 + 16 * k + 200 < _; omega,r.gd⟩
theorem Room.depth {k:Nat}{A:Around}(r:Room k A) : A.depth < recursionLimit:=by have:=r.dp; omega
theorem Room.units {k:Nat}{A:Around}(r:Room k A) : A.units + 64 < cLine:=by have:=r.un; omega
theorem Room.units0 {k:Nat}{A:Around}(r:Room k A) : A.units < cLine:=by have:=r.un; omega
def tNil:TA:=fun _ H Q=>Q [] H
def tCons (ta:TE)(tr:TA) : TA:=fun σ H Q=>ta σ H fun x H1=>tr σ H1 fun xs H2=>Q (x :: xs) H2
section
variable {X:Cx}{e:Expr}{es:List Expr}{te:TE}{t:TA}{pos:Pos}
theorem aC:PA X [] tNil:=fun _ _ _ _ H Q I h=>Calls.spliced_nil ⟨[],H,I,.nil,h⟩
theorem aA (ha:PE X e te)(hr:PA X es t)(hs:starEach (e :: es) X.env=(false,eval e X.env) :: starEach es X.env:=by rfl) : PA X (e :: es) (tCons te t):=by
 intro pos pins s σ H Q I h
 rw [hs]
 show wpAny _ _ (spliced ((false,eval e X.env) :: backTo pos (starEach es X.env))) _ _ s
 refine Calls.spliced_cons (cL (ha pins s σ H _ I h) fun u s1 ⟨x,H1,I1,r1,q1⟩=>?_)
 exact cL (hr pos pins s1 σ H1 _ I1 q1) fun us s2 ⟨xs,H2,I2,r2,q2⟩=>⟨x :: xs,H2,I2,.cons r1 r2,q2⟩
def tTup (t:TA) : TE:=fun σ H Q=>t σ H fun xs H1=>xs.length<=sizeLine/\∀ p,H1 p=none->Q (.ref p) (upd H1 p (.tup xs))
def tLst (t:TA) : TE:=fun σ H Q=>t σ H fun xs H1=>xs.length<=sizeLine/\∀ p,H1 p=none->Q (.ref p) (upd H1 p (.lst xs))
theorem aZ {x1}(h:PA X es t) : PE X (.Tuple es x1 pos) (tTup t):=by
 intro pins s σ H Q I hq
 refine wpAny_Tuple_spliced (cL (h pos pins s σ H _ I hq) fun us s1 ⟨xs,H1,I1,r,z,q⟩=>⟨by rw [<- r.length]; exact z,?_⟩)
 have hf:H1 s1.heap.objs.size=none:=I1.hok.fresh (Nat.le_refl _)
 refine ⟨.ref s1.heap.objs.size,upd H1 s1.heap.objs.size (.tup xs),I1.laid (t':=s1.toks) (fun b u e=>Heap.get?_push_of_some _ e) (Nat.le_refl _) ?_,rfl,q _ hf⟩
 exact ⟨z,us,r,⟨_,Heap.get?_push_size _ rfl,rfl,_,rfl⟩⟩
theorem cD (h:PA X es t) : PE X (.List es pos) (tLst t):=by
 intro pins s σ H Q I hq
 refine wpAny_List_spliced (cL (h pos pins s σ H _ I hq) fun us s1 ⟨xs,H1,I1,r,z,q⟩=>⟨by rw [<- r.length]; exact z,?_⟩)
 have hf:H1 s1.heap.objs.size=none:=I1.hok.fresh (Nat.le_refl _)
 refine ⟨.ref s1.heap.objs.size,upd H1 s1.heap.objs.size (.lst xs),I1.laid (t':=s1.toks) (fun b u e=>Heap.get?_push_of_some _ e) (Nat.le_refl _) ?_,rfl,q _ hf⟩
 exact ⟨z,us,0,r,Heap.get?_push_size _ rfl⟩
end
abbrev Sp:=List V->Hp->VK->XK->Prop
abbrev uD:=List Env->Hp->Shared->XK->Value->Shared->Prop
structure Env0 (P:Program) (w:World) (K:PySem.W.Frag) (mg:Str->Option Value) (base:Heap) (A:Around) (outer:List Env) (s:Shared) (H:Hp) : Prop where
 frames:A.frames=some outer
 mod:Mod K mg base
 bs:∀ b o,base.get? b=some o->s.heap.get? b=some o/\H b=none
 bsz:base.objs.size<=s.heap.objs.size
 funs:s.heap.FunFrames base outer
 frf:∀ b∈jI outer,H b=none
 hok:g9 P w H s.heap
 bare:AllBare s.gens
def CE (outer:List Env)(P:Program)(w:World)(H:Hp)(s:Shared)(Q:VK)(u:Value)(s':Shared) : Prop :=
 ∃ v H',s'.os=s.os/\AllBare s'.gens/\Un (jI outer) [] H H' s.heap s'.heap/\g9 P w H' s'.heap/\bX v u/\Q v H'
def CR (CX:uD)(outer:List Env)(P:Program)(w:World)(H:Hp)(s:Shared)(Q:VK)(E:XK)(r:Result)(s':Shared) : Prop :=
 match r with
 | .ok (.ret u)=>CE outer P w H s Q u s'
 | .ok _=>False
 | .error e=>CX outer H s E e s'
structure FnOk (P:Program) (w:World) (K:PySem.W.Frag) (mg:Str->Option Value) (base:Heap) (CX:uD) (k:Nat) (f:Addr) (fd:FuncData) (ps:List Str) (sp:Sp) : Prop where
 len:∀ vs H Q E,sp vs H Q E->vs.length=ps.length
 run:∀ (A:Around) (outer:List Env) (s:Shared) (H:Hp) (args:Args) (us:List Value) (vs:List V) (Q:VK) (E:XK),Room k A->Env0 P w K mg base A outer s H->BindsTo s fd args (ps.zip us)->bO vs us->sp vs H Q E ->
  codeAny (model P w) A (.call (.ref f) args) (CR CX outer P w H s Q E) s
section
variable {X:Cx}{pins:List (Addr × Obj)}{σ:St}{H:Hp}{s s':Shared}
theorem Inv.env0 (I:Inv X pins σ H s) : Env0 X.prog X.w X.K X.mg X.base X.A X.stack s H :=
 ⟨I.ok.frames,I.ok.mod,I.bs,Nat.le_trans I.ok.bsz I.sz,I.stack,I.stkFree,I.hok,I.bare⟩
theorem Inv.after {Q:VK}{u:Value}(I:Inv X pins σ H s)(h:CE X.stack X.prog X.w H s Q u s') : EP X pins σ Q u s':=by
 obtain ⟨v,H',os,bare,un,hok,r,q⟩:=h
 obtain ⟨hh,g,d,t,os'⟩:=s'
 obtain rfl:os'=s.os:=os
 exact ⟨v,H',I.call (h':=hh) (g':=g) (d':=d) (t':=t) (ch:=[]) un hok bare (fun b z=>absurd z (by simp)),r,q⟩
end
def tCall (sp:Sp)(dvs:List V)(E:XK)(t:TA) : TE:=fun σ H Q=>t σ H fun vs H1=>sp (vs ++ dvs) H1 Q E
def bJ (K:PySem.W.Frag)(fd:FuncData)(ps:List Str)(ds:List Value) : Prop :=
 ∀ (s:Shared) (us:List Value),K.In s.heap->(us ++ ds).length=ps.length->BindsTo s fd ⟨us,[]⟩ (ps.zip (us ++ ds))
theorem bJ.all {K:PySem.W.Frag}{fd:FuncData}{ps:List Str}(h:∀ us:List Value,us.length=ps.length->bindArgs fd ⟨us,[]⟩=pure (ps.zip us)) : bJ K fd ps []:=fun s us _ hl=>by
 rw [List.append_nil] at hl ⊢
 exact .of_eq (h us hl)
def nF (CX:uD)(X:Cx)(E:XK) : Prop:=∀ (pins:List (Addr × Obj)) (σ:St) (H:Hp) (s:Shared) (e:Value) (s':Shared),Inv X pins σ H s->CX X.stack H s E e s'->X.xe e s'
section
variable {X:Cx}{CX:uD}{k:Nat}{f C:Addr}{fd:FuncData}{ps:List Str}{sp:Sp}{dvs:List V}{ds:List Value}{E:XK}{x m:Str}{p pos apos:Pos}{e o:Expr}{es:List Expr}{ta:TE}{t:TA}
theorem run_fn {pins:List (Addr × Obj)}{σ:St}{H:Hp}{s:Shared}{Q:VK}{us:List Value}{vs:List V}(F:FnOk X.prog X.w X.K X.mg X.base CX k f fd ps sp) (hr:Room k X.A) (hb:bJ X.K fd ps ds) (hd:bO dvs ds) (hx:nF CX X E)
  (I:Inv X pins σ H s) (r:bO vs us) (h:sp (vs ++ dvs) H Q E) : wpAny (model X.prog X.w) X.A (call (.ref f) us) (EP X pins σ Q) X.xe s:=by
 have r2:bO (vs ++ dvs) (us ++ ds):=r.append hd
 have hl:(us ++ ds).length=ps.length:=by rw [<- r2.length]; exact F.len _ _ _ _ h
 refine wpAny_call (codeAny_mono (F.run X.A X.stack s H ⟨us,[]⟩ (us ++ ds) (vs ++ dvs) Q E hr I.env0 (hb s us I.kIn hl) r2 h) fun r s' hq=>?_)
 cases r with
 | error e=>exact hx pins σ H s e s' I hq
 | ok fl =>
  cases fl with
  | ret u=>exact I.after hq
  | next=>exact False.elim hq
  | brk=>exact False.elim hq
  | cont=>exact False.elim hq
theorem aH (F:FnOk X.prog X.w X.K X.mg X.base CX k f fd ps sp) (hr:Room k X.A) (hg:Gl X x) (hm:X.mg x=some (.ref f)) (hk:PySem.W.keepIn X.K (.ref f)=true) (hb:bJ X.K fd ps ds) (hd:bO dvs ds) (hx:nF CX X E)
  (ha:PA X (e :: es) t) (hdb:(x == ("__debug__" : Str))=false:=by decide) (he:starEach (e :: es) X.env=(false,eval e X.env) :: starEach es X.env:=by rfl) (hpl:(backTo pos (starEach es X.env)).any (·.1)=false:=by rfl) :
  PE X (.Call (.Name x p) (e :: es) [] pos) (tCall sp dvs E t):=by
 intro pins s σ H Q I h
 refine wpAny_Call_Name_kw (rM I hg hm ?_ hdb)
 refine PySem.W.callWith_K (h₀:=X.base) I.ok.mod.kin hk (cL (ha pos pins s σ H _ I h) fun us s1 ⟨vs,H1,I1,r,q⟩=>⟨I1.kIn,?_⟩) he hpl
 exact run_fn F hr hb hd hx I1 r q
structure Mk (K:PySem.W.Frag) (C f:Addr) : Prop where
 makes:PySem.W.makesIn K C=true
 init:PySem.W.findIn K (.ref C) "__init__" = some (some (.ref f))
 fn:PySem.W.isFn K (.ref f)=true
 kp:PySem.W.keepIn K (.ref C)=true
end
section
variable {X:Cx}{CX:uD}{k:Nat}{f C:Addr}{fd:FuncData}{ps ks:List Str}{sp:Sp}{E:XK}{x m:Str}{p pos apos kpos:Pos}{e o:Expr}{es:List Expr}{kws:List Keyword}{te ta:TE}{t tk:TA}{nm:Option Str}
structure KBinds (K:PySem.W.Frag) (fd:FuncData) (ps ks:List Str) (g:List Value->List Value->List Value) (gV:List V->List V->List V) : Prop where
 to:∀ (s:Shared) (us ws:List Value),K.In s.heap->(g us ws).length=ps.length->BindsTo s fd ⟨us,ks.zip ws⟩ (ps.zip (g us ws))
 rel:∀ {vs:List V}{us:List Value}{zs:List V}{ws:List Value},bO vs us->bO zs ws->bO (gV vs zs) (g us ws)
variable {g:List Value->List Value->List Value}{gV:List V->List V->List V}
end
structure FnScope (N P:List Str) (sc:Scope) : Prop where
 kind:sc.kind = .function
 co:sc.isCoroutine=false
 gen:sc.isGenerator=false
 nd:N.Nodup
 pre:N.take P.length=P
 par:∀ x∈P,sc.names.lookup x=some .local\/sc.names.lookup x=some .cell
 nofree:∀ y∈sc.names,y.2 ≠ .free
theorem lT {kindOf:Str->Option NameKind}{x:Str} : ∀ {binds:List (Str × Value)}{m:Str->Option Value},(∀ v,(x,v) ∉ binds)->bindL kindOf binds m x=m x
 | [],_,_=>rfl
 | (n,v) :: r,m,h=>by
  unfold bindL
  rw [lT fun w hw=>h w (List.mem_cons_of_mem _ hw)]
  split
  ·have:x ≠ n:=by rintro rfl; exact h v List.mem_cons_self
   simp [this]
  ·rfl
theorem lV {kindOf:Str->Option NameKind}{x:Str} : ∀ {binds:List (Str × Value)}{m:Str->Option Value},(∀ v,(x,v) ∉ binds)->bindC kindOf binds m x=m x
 | [],_,_=>rfl
 | (n,v) :: r,m,h=>by
  unfold bindC
  rw [lV fun w hw=>h w (List.mem_cons_of_mem _ hw)]
  split
  ·rfl
  ·have:x ≠ n:=by rintro rfl; exact h v List.mem_cons_self
   simp [this]
theorem lU {kindOf:Str->Option NameKind}{x:Str}{v:Value} : ∀ {P:List Str}{vs:List Value}{i:Nat}{m:Str->Option Value},P.Nodup->P[i]? = some x->vs[i]? = some v->kindOf x=some .local ->
  bindL kindOf (P.zip vs) m x=some v
 | [],_,_,_,_,h,_,_=>by simp at h
 | _ :: _,[],_,_,_,_,h,_=>by simp at h
 | p :: P,w :: vs,0,m,nd,h1,h2,hk=>by
  simp at h1 h2; subst h1; subst h2
  show bindL kindOf ((p,w) :: P.zip vs) m p=_
  unfold bindL
  rw [lT fun v hv=>(List.nodup_cons.mp nd).1 (List.of_mem_zip hv).1,if_pos hk]
  simp
 | p :: P,w :: vs,i + 1,m,nd,h1,h2,hk=>by
  show bindL kindOf ((p,w) :: P.zip vs) m x=_
  unfold bindL
  exact lU (i:=i) (List.nodup_cons.mp nd).2 (by simpa using h1) (by simpa using h2) hk
theorem lW {kindOf:Str->Option NameKind}{x:Str}{v:Value} : ∀ {P:List Str}{vs:List Value}{i:Nat}{m:Str->Option Value},P.Nodup->P[i]? = some x->vs[i]? = some v->kindOf x ≠ some .local ->
  bindC kindOf (P.zip vs) m x=some v
 | [],_,_,_,_,h,_,_=>by simp at h
 | _ :: _,[],_,_,_,_,h,_=>by simp at h
 | p :: P,w :: vs,0,m,nd,h1,h2,hk=>by
  simp at h1 h2; subst h1; subst h2
  show bindC kindOf ((p,w) :: P.zip vs) m p=_
  unfold bindC
  rw [lV fun v hv=>(List.nodup_cons.mp nd).1 (List.of_mem_zip hv).1,if_neg hk]
  simp
 | p :: P,w :: vs,i + 1,m,nd,h1,h2,hk=>by
  show bindC kindOf ((p,w) :: P.zip vs) m x=_
  unfold bindC
  exact lW (i:=i) (List.nodup_cons.mp nd).2 (by simpa using h1) (by simpa using h2) hk
def start (N:List Str)(vs:List V) : St:=vs.map some ++ List.replicate (N.length - vs.length) none
def iG (CX:uD)(P:Program)(w:World)(K:PySem.W.Frag)(mg:Str->Option Value)(base:Heap)(N:List Str)(qual:Str)(scope:Scope)(f:Addr)(cd:Value)(A:Around)(outer:List Env)(s:Shared)(H:Hp)(E:XK) : Cx where
 prog:=P
 w:=w
 K:=K
 mg:=mg
 base:=base
 A:=A.deeper (envOfC qual scope s.heap.objs.size f cd)
 N:=N
 s₀:=s
 H₀:=H
 env:=envOfC qual scope s.heap.objs.size f cd
 outer:=outer
 stack:=envOfC qual scope s.heap.objs.size f cd :: outer
 ex:=[]
 calm:=true
 fn:=fun _=>true
 pn:=[]
 xe:=fun e s'=>wpAny (model P w) (A.deeper (envOfC qual scope s.heap.objs.size f cd)) (leaving (envOfC qual scope s.heap.objs.size f cd) e) (fun _ s''=>CX outer H s E e s'') (fun e' s''=>CX outer H s E e' s'') s'
theorem oZ {sc:Scope}{n:Nat}{x:Str}(h:sc.names.lookup x=some .cell) : ∃ c,(cellsFrom n sc.names []).lookup x=some c:=by
 have q:=PySem.W.cellsFrom_some sc.names n [] (.inl h)
 exact Option.isSome_iff_exists.mp q
theorem tL {CX:uD}{P:Program}{w:World}{K:PySem.W.Frag}{mg:Str->Option Value}{base:Heap}{N ps:List Str}{qual:Str}{scope:Scope}{f:Addr}{cd:Value}{A:Around}{outer:List Env}{s s1:Shared}{H:Hp}{E:XK}{us:List Value}{vs:List V}
  (S:FnScope N ps scope) (hd:A.handled=none) (e0:Env0 P w K mg base A outer s H) (hl:vs.length=ps.length) (r:bO vs us)
  (x:InCallC s s.heap.objs.size (bindL (envOfC qual scope s.heap.objs.size f cd).kindOf (ps.zip us) fun _=>none) (cellsFrom (s.heap.objs.size + 1) scope.names []) (bindC (envOfC qual scope s.heap.objs.size f cd).kindOf (ps.zip us) fun _=>none) s1) :
  Inv (iG CX P w K mg base N qual scope f cd A outer s H E) [] (start N vs) H s1:=by
 have hpl:ps.length<=N.length:=by have:=congrArg List.length S.pre; rw [List.length_take] at this; omega
 obtain ⟨h1,tk,rfl,hk⟩:=x.done
 have noA:∀ b:Addr,b ∉ (iG CX P w K mg base N qual scope f cd A outer s H E).ex:=fun b z=>absurd (show b∈([] : List Addr) from z) (by simp)
 refine ⟨⟨e0.mod,S.kind,rfl,rfl,Nat.le_refl _,fun y z c h1 h2=>?_,fun y hy=>?_,fun y c _ h=>?_,fun _=>hd,Around.frames_deeper e0.frames,.inr ⟨rfl,rfl⟩,fun b z=>absurd z (noA b),e0.bs,e0.bsz,fun b _ _=>noA b,fun b z=>absurd z (noA b),e0.funs,e0.frf⟩,
  rfl,e0.bare,Un.kept hk,⟨_,x.toInCall.ns,fun i y v h1 h2 h3=>?_⟩,fun y c h=>⟨_,x.cell y c h⟩,e0.hok.fresh (Nat.le_refl _),fun y c h=>?_,fun p hp=>absurd (show p∈([] : List (Addr × Obj)) from hp) (by simp),e0.hok.kept hk,?_⟩
 ·exact name_of_addr x.apart (PySem.mem_of_lookup h1) (PySem.mem_of_lookup h2)
 ·have hy:scope.names.lookup y=some .cell\/scope.names.lookup y=some .free:=hy
  rcases hy with hy | hy
  ·exact oZ hy
  ·exact absurd rfl (S.nofree _ (PySem.mem_of_lookup hy))
 ·exact Nat.le_of_lt (x.above y c (PySem.mem_of_lookup h))
 ·have hi:i < vs.length:=by
   unfold start at h2
   by_cases hi:i < vs.length
   ·exact hi
   ·rw [List.getElem?_append_right (by simpa using hi)] at h2
    rw [List.getElem?_replicate] at h2
    split at h2 <;> cases h2
  have ha:vs[i]? = some v:=by
   unfold start at h2
   rw [List.getElem?_append_left (by simpa using hi),List.getElem?_map] at h2
   cases e:vs[i]? with
   | none=>rw [e] at h2; cases h2
   | some a=>rw [e] at h2; cases h2; rfl
  obtain ⟨u,hu,rv⟩:=r.get ha
  have hp:ps[i]? = some y:=by
   rw [<- S.pre,List.getElem?_take_of_lt (by omega)]; exact h1
  have ndP:ps.Nodup:=by rw [<- S.pre]; exact S.nd.sublist (List.take_sublist _ _)
  refine ⟨u,rv,?_⟩
  rcases S.par y (List.mem_of_getElem? hp) with k | k
  ·exact .inl ⟨k,lU ndP hp hu k⟩
  ·obtain ⟨c,e⟩:=oZ (n:=s.heap.objs.size + 1) k
   refine .inr ⟨.inl k,c,e,?_⟩
   have q:=x.cell y c e
   rw [lW ndP hp hu (by show scope.names.lookup y ≠ _; rw [k]; decide)] at q
   exact q
 ·exact e0.hok.fresh (Nat.le_of_lt (x.above y c (PySem.mem_of_lookup h)))
 ·unfold start
  show _=N.length
  rw [List.length_append,List.length_map,List.length_replicate]
  omega
theorem fn_of {CX:uD}{P:Program}{w:World}{K:PySem.W.Frag}{mg:Str->Option Value}{base:Heap}{k:Nat}{f:Addr}{name qual:Str}{params:Arguments}{body:List Stmt}{scope:Scope}{dV kV doc pm cdv ct oc:Value}{an od:Option Addr}
  {osl:Array (Option Value)}{N ps:List Str}{sp:Sp}(lk:K.lookup f=some ⟨oc,od,.func (PySem.W.fnOf name qual params body scope dV kV doc pm an cdv ct),osl⟩) (hcd:PySem.W.codeIn K cdv qual=true) (S:FnScope N ps scope)
  (len:∀ vs H Q E,sp vs H Q E->vs.length=ps.length)
  (hbody:∀ (A:Around) (outer:List Env) (s:Shared) (H:Hp) (vs:List V) (Q:VK) (E:XK),Room k (A.deeper (envOfC qual scope s.heap.objs.size f cdv))->sp vs H Q E ->
   ∃ t,xX (iG CX P w K mg base N qual scope f cdv A outer s H E) body t/\t { nx:=fun _ H'=>Q .non H',rt:=Q } (start N vs) H) :
  FnOk P w K mg base CX (k + 1) f (PySem.W.fnOf name qual params body scope dV kV doc pm an cdv ct) ps sp:=by
 refine ⟨len,fun A outer s H args us vs Q E hr e0 hb r hsp=>?_⟩
 have hl:=len _ _ _ _ hsp
 have KX:K.In s.heap:=e0.mod.kin.keeps fun b o e=>(e0.bs b o e).1
 have lim:s.heap.NoLimit:=e0.mod.nolimit.keeps fun b o e=>(e0.bs b o e).1
 have hkind:∀ y∈ps.zip us,scope.names.lookup y.1=some .local\/(scope.names.lookup y.1=some .cell/\((cellsFrom (s.heap.objs.size + 1) scope.names []).lookup y.1).isSome=true):=fun ⟨n,v⟩ hy=>by
  rcases S.par n (List.of_mem_zip hy).1 with q | q
  ·exact .inl q
  ·exact .inr ⟨q,PySem.W.cellsFrom_some _ _ _ (.inl q)⟩
 refine codeAny_call_function hr.depth (KX _ _ lk) rfl S.co S.gen rfl (PySem.W.codeRec_of KX hcd) (hb _ _ _ _ ?_)
 refine wpAny_newFunctionEnv_cells S.kind hkind fun env he s1 x=>?_
 subst he
 refine ⟨lim.keeps x.toInCall.keep,codeAny_func ?_⟩
 obtain ⟨t,ht,hq⟩:=hbody A outer s H vs Q E (hr.deeper _) hsp
 have I:Inv (iG CX P w K mg base N qual scope f cdv A outer s H E) [] (start N vs) H s1:=tL S hr.hd e0 hl r x
 refine wpAny_mono (ht [] s1 (start N vs) H _ I hq) (fun fl s' hs=>?_) fun e s' hs=>hs
 have fin:∀ {σ':St}{H':Hp}{v:V}{u:Value},Inv (iG CX P w K mg base N qual scope f cdv A outer s H E) [] σ' H' s'->bX v u->Q v H'->CE outer P w H s Q u s' :=
  fun {σ' H' v u} J rv q=>⟨v,H',J.os,J.bare,J.base,J.hok,rv,q⟩
 cases fl with
 | ret u =>
  obtain ⟨v,σ',H',J,rv,q⟩:=hs
  exact fin J rv q
 | next =>
  obtain ⟨σ',H',J,q⟩:=hs
  exact fin (v:=V.non) (u:=Value.none) J rfl q
 | brk =>
  obtain ⟨_,_,_,q⟩:=hs
  exact False.elim q
 | cont =>
  obtain ⟨_,_,_,q⟩:=hs
  exact False.elim q
section
variable {X:Cx}{x:Str}{p pos:Pos}{e:Expr}{es:List Expr}{t:TA}{id T:String}{r:List V->Hp->VK->Prop}
def tCB (r:List V->Hp->VK->Prop)(t:TA) : TE:=fun σ H Q=>t σ H fun vs H1=>r vs H1 Q
theorem aV (hc:eA X (.builtin id) r) (hg:Gl X x) (hm:X.mg x=none) (hv:bootBuiltins x=some (.builtin id)) (ha:PA X (e :: es) t) (hn:x ≠ "__name__" := by decide) (hdb:(x == ("__debug__" : Str))=false:=by decide)
  (he:starEach (e :: es) X.env=(false,eval e X.env) :: starEach es X.env:=by rfl) (hpl:(backTo pos (starEach es X.env)).any (·.1)=false:=by rfl) : PE X (.Call (.Name x p) (e :: es) [] pos) (tCB r t):=by
 intro pins s σ H Q I h
 refine wpAny_Call_Name_kw (j7 I hg hm hv ?_ hn hdb)
 exact PyProof.Rows.callWith_builtin1 (cL (ha pos pins s σ H _ I h) fun us s1 ⟨vs,H1,I1,r1,q1⟩=>hc pins s1 σ H1 vs us Q I1 r1 q1) he hpl
theorem dL (hc:eA X (.type T) r) (hg:Gl X x) (hm:X.mg x=none) (hv:bootBuiltins x=some (.type T)) (ha:PA X (e :: es) t) (hn:x ≠ "__name__" := by decide) (hdb:(x == ("__debug__" : Str))=false:=by decide)
  (he:starEach (e :: es) X.env=(false,eval e X.env) :: starEach es X.env:=by rfl) (hpl:(backTo pos (starEach es X.env)).any (·.1)=false:=by rfl) : PE X (.Call (.Name x p) (e :: es) [] pos) (tCB r t):=by
 intro pins s σ H Q I h
 refine wpAny_Call_Name_kw (j7 I hg hm hv ?_ hn hdb)
 exact PyProof.Rows.callWith_type1 (cL (ha pos pins s σ H _ I h) fun us s1 ⟨vs,H1,I1,r1,q1⟩=>hc pins s1 σ H1 vs us Q I1 r1 q1) he hpl
end
end L2
namespace HT
open PySem PyProof.Rows
section
open PySem.SeqAt
open PySem.AutoSeq1 (wpAny_loadPart')
open PySem.MeetsSeq PySem.MeetsSeq2 PySem.MeetsSeq3
end
section
variable {prog:Program}{w:World}{A:Around}{E:Value->Shared->Prop}{s:Shared}
def sIx (n d:Nat) : Option Int->Nat
 | none=>d
 | some v=>if v < 0 then (v + (n:Int)).toNat else min v.toNat n
theorem sIx_nat (n d k:Nat) : sIx n d (some (k:Int))=min k n:=by
 show (if (k:Int) < 0 then ((k:Int) + (n:Int)).toNat else min (k:Int).toNat n)=min k n
 rw [if_neg (by omega),Int.toNat_natCast]
end
end HT
namespace L2
open PySem PySem.Spec PyProof.Rows
abbrev TO:=St->Hp->(Option Int->Hp->Prop)->Prop
def PO (X:Cx)(e:Option Expr)(t:TO) : Prop :=
 ∀ (pins:List (Addr × Obj)) (s:Shared) (σ:St) (H:Hp) (Q:Option Int->Hp->Prop),Inv X pins σ H s->t σ H Q ->
  wpAny (model X.prog X.w) X.A (evalPart e X.env) (fun u s'=>∃ o H',Inv X pins σ H' s'/\IsPart u o/\Q o H') X.xe s
def x8:TO:=fun _ H Q=>Q none H
def tPart (t:TE) : TO:=fun σ H Q=>t σ H fun x H1=>∃ i,x = .int i/\Q (some i) H1
section
variable {X:Cx}{e:Expr}{te:TE}{lo hi:Option Expr}{tl th:TO}{pos p2:Pos}
theorem po_none:PO X none x8:=by
 intro pins s σ H Q I h
 rw [evalPart_none]
 exact wpAny_pure ⟨none,H,I,.none,h⟩
theorem mI (h:PE X e te) : PO X (some e) (tPart te):=by
 intro pins s σ H Q I hw
 rw [evalPart_some]
 refine cL (h pins s σ H _ I hw) fun u s1 ⟨x,H1,I1,r1,q1⟩=>?_
 obtain ⟨i,rfl,q⟩:=q1
 obtain ⟨t,rfl⟩:=r1
 exact ⟨some i,H1,I1,.int i t,q⟩
def SlR (X:Cx)(r:V->Option Int->Option Int->Hp->VK->Prop) : Prop :=
 ∀ (pins:List (Addr × Obj)) (s:Shared) (σ:St) (H:Hp) (x:V) (v vl vu:Value) (lo hi:Option Int) (sl:Addr) (Q:VK),Inv X pins σ H s->bX x v->s.heap.IsSliceOf sl vl vu .none->IsPart vl lo->IsPart vu hi->r x lo hi H Q ->
  ∃ T id,typeLookup (.type T) "__getitem__" = pure (some (.builtin id))/\s.TypeIs v T/\wpAny (model X.prog X.w) X.A (getItem v (.ref sl)) (EP X pins σ Q) X.xe s
def tSl (r:V->Option Int->Option Int->Hp->VK->Prop)(te:TE)(tl th:TO) : TE:=fun σ H Q=>te σ H fun x H1=>tl σ H1 fun l H2=>th σ H2 fun u H3=>r x l u H3 Q
theorem nY {r:V->Option Int->Option Int->Hp->VK->Prop}(hr:SlR X r)(he:PE X e te)(hl:PO X lo tl)(hu:PO X hi th) : PE X (.Subscript e (.Slice lo hi none p2) pos) (tSl r te tl th):=by
 intro pins s σ H Q I h
 refine Subscript_ (cL (he pins s σ H _ I h) fun v s1 ⟨x,H1,I1,r1,q1⟩=>?_)
 refine wpAny_Slice (cL (hl pins s1 σ H1 _ I1 q1) fun vl s2 ⟨l,H2,I2,pl,q2⟩=>cL (hu pins s2 σ H2 _ I2 q2) fun vu s3 ⟨u,H3,I3,pu,q3⟩=>?_)
 rw [evalPart_none]
 refine wpAny_pure ?_
 have I4:Inv X pins σ H3 { s3 with heap:=s3.heap.push { cls:=.type "slice", data:=.fields #[vl,vu,.none] } }:=I3.kept (t':=s3.toks) fun b ob q=>Heap.get?_push_of_some _ q
 obtain ⟨T,id,hT,ht,hg⟩:=hr pins { s3 with heap:=s3.heap.push { cls:=.type "slice", data:=.fields #[vl,vu,.none] } } σ H3 x v vl vu l u s3.heap.objs.size Q I4 r1 (Heap.IsSliceOf.new ..) pl pu q3
 show wpAny (model X.prog X.w) X.A (subscriptTail e (.Slice lo hi none p2) v (.ref s3.heap.objs.size)) (EP X pins σ Q) X.xe { s3 with heap:=s3.heap.push { cls:=.type "slice", data:=.fields #[vl,vu,.none] } }
 exact tail_any (ops:=[.ref s3.heap.objs.size,v]) ht hT hg (by with_unfolding_all rfl)
def m7 (xs:List V)(lo hi:Option Int) : List V:=(xs.drop (HT.sIx xs.length 0 lo)).take (HT.sIx xs.length xs.length hi - HT.sIx xs.length 0 lo)
theorem oV (xs:List V)(lo hi:Option Int) : (m7 xs lo hi).length<=xs.length:=by
 unfold m7
 rw [List.length_take,List.length_drop]
 omega
end
def tJ (n:Nat)(i:Int) : Option Nat:=if 0<=i then (if i < n then some i.toNat else none) else if -(n:Int)<=i then some (i + n).toNat else none
def gP {α:Type}(xs:List α)(i:Int) : Option α:=(tJ xs.length i).bind fun j=>xs[j]?
theorem rO {n:Nat}{i:Int}{j:Nat}(h:tJ n i=some j) : seqIndex? i n=some j/\j < n /\ -(n:Int)<=i/\i < n:=by
 unfold tJ at h
 by_cases h0:0<=i
 ·rw [if_pos h0] at h
  by_cases h1:i < n
  ·rw [if_pos h1] at h
   have e:i.toNat=j:=Option.some.inj h
   exact ⟨by rw [seqIndex_of h0 h1,e],by omega,by omega,h1⟩
  ·rw [if_neg h1] at h; cases h
 ·rw [if_neg h0] at h
  by_cases h1 : -(n:Int)<=i
  ·rw [if_pos h1] at h
   have e:(i + n).toNat=j:=Option.some.inj h
   exact ⟨by rw [seqIndex_neg (by omega) h1,e],by omega,h1,by omega⟩
  ·rw [if_neg h1] at h; cases h
theorem nC {α:Type}{xs:List α}{i:Int}{v:α}(h:gP xs i=some v) : ∃ j,seqIndex? i xs.length=some j/\xs[j]? = some v/\j < xs.length /\ -(xs.length:Int)<=i/\i < xs.length:=by
 unfold gP at h
 cases e:tJ xs.length i with
 | none=>rw [e] at h; cases h
 | some j =>
  rw [e] at h
  obtain ⟨h1,h2,h3,h4⟩:=rO e
  exact ⟨j,h1,h,h2,h3,h4⟩
theorem cX {α:Type}{xs:List α}{j:Nat}{v:α}(h:xs[j]? = some v) : gP xs (j:Int)=some v:=by
 have hj:j < xs.length:=(List.getElem?_eq_some_iff.mp h).1
 have e:tJ xs.length (j:Int)=some j:=by
  unfold tJ
  rw [if_pos (by omega),if_pos (by omega)]; simp
 unfold gP; rw [e]; exact h
theorem o9 {α:Type}(xs:List α)(v:α) : gP (xs ++ [v]) (-1)=some v:=by
 have hl:(xs ++ [v]).length=xs.length + 1:=by simp
 have e:tJ (xs ++ [v]).length (-1)=some xs.length:=by
  unfold tJ
  rw [hl,if_neg (by decide),if_pos (by omega)]
  congr 1
  omega
 unfold gP
 rw [e]
 show (xs ++ [v])[xs.length]? = some v
 simp
def PlainIx (b:Expr) : Prop:=∀ o i,subscripted b false o i=operate [o,i] (getItem o i)
def IxR (X:Cx)(r:R2) : Prop :=
 ∀ (value slice:Expr) (pins:List (Addr × Obj)) (s:Shared) (σ:St) (H:Hp) (x y:V) (v u:Value) (Q:VK),Inv X pins σ H s->bX x v->bX y u->r x y H Q ->
  subscripted slice false v u=operate [v,u] (getItem v u)->wpAny (model X.prog X.w) X.A (subscriptTail value slice v u) (EP X pins σ Q) X.xe s
def MtR (X:Cx)(id:String)(r:V->List V->Hp->VK->Prop) : Prop :=
 ∀ (pins:List (Addr × Obj)) (s:Shared) (σ:St) (H:Hp) (x:V) (xs:List V) (v:Value) (us:List Value) (Q:VK),Inv X pins σ H s->bX x v->bO xs us->r x xs H Q ->
  wpAny (model X.prog X.w) X.A (call (.builtin id) (v :: us)) (EP X pins σ Q) X.xe s
section
variable {X:Cx}{a b:Expr}{ta tb:TE}{pos:Pos}
theorem aI {r:R2}(hr:IxR X r)(ha:PE X a ta)(hb:PE X b tb)(hs:PlainIx b) : PE X (.Subscript a b pos) (tOp r ta tb):=by
 intro pins s σ H Q I h
 exact Subscript_ (binT ha hb I h fun v u s2 x y H2 I2 rx ry q=>hr a b pins s2 σ H2 x y v u Q I2 rx ry q (hs _ _))
def rIxL (K:PySem.W.Frag) : R2:=fun x y H Q=>∃ p xs i v,x = .ref p/\y = .int i/\c6 K H p xs/\gP xs i=some v/\Q v H
def rIxT (K:PySem.W.Frag) : R2:=fun x y H Q=>∃ p xs i v,x = .ref p/\y = .int i/\qP K H p xs/\gP xs i=some v/\Q v H
theorem bN:IxR X (rIxL X.K):=by
 intro value slice pins s σ H x y v u Q I rx ry h hs
 obtain ⟨p,xs,i,z,rfl,rfl,hq,he,q⟩:=h
 cases rx
 obtain ⟨t,rfl⟩:=ry
 obtain ⟨its,r,pl,hz⟩:=I.list hq
 obtain ⟨j,h1,h2,h3,h4,h5⟩:=nC he
 obtain ⟨w,ew,rw'⟩:=r.get h2
 have hl:=r.length
 have hn:=j6
 have fin:EP X pins σ Q w s:=⟨z,H,I,rw',q⟩
 by_cases h0:0<=i
 ·have hj:i.toNat=j:=by
   rw [seqIndex_of h0 h5] at h1
   exact Option.some.inj h1
  exact item_listR pl.isList h0 (by omega) (by rw [hj]; simpa using ew) fin hs
 ·have hj:(i + (its.toArray.size:Int)).toNat=j:=by
   rw [seqIndex_neg (by omega) h4] at h1
   rw [List.size_toArray,<- hl]
   exact Option.some.inj h1
  exact subscriptTail_builtinR (x:=w) pl.isList.typeIs slot_list_getitem.lookup
   (wpAny_getItem_list_neg (Q:=fun r s'=>r=w/\EP X pins σ Q r s') pl.isList (by omega) (by rw [List.size_toArray] <;> omega) (by omega) (by rw [hj]; simpa using ew) ⟨rfl,fin⟩) hs
theorem aG:IxR X (rIxT X.K):=by
 intro value slice pins s σ H x y v u Q I rx ry h hs
 obtain ⟨p,xs,i,z,rfl,rfl,hq,he,q⟩:=h
 cases rx
 obtain ⟨t,rfl⟩:=ry
 obtain ⟨its,r,pl,hz⟩:=I.tuple hq
 obtain ⟨j,h1,h2,h3,h4,h5⟩:=nC he
 obtain ⟨w,ew,rw'⟩:=r.get h2
 have hl:=r.length
 have hn:=j6
 have fin:EP X pins σ Q w s:=⟨z,H,I,rw',q⟩
 exact subscriptTail_builtinR (x:=w) pl.typeIs slot_tuple_getitem.lookup
  (getItem_tuple (j:=j) (Q:=fun r s'=>r=w/\EP X pins σ Q r s') pl (by omega) (by omega) (by rw [List.size_toArray,<- hl]; exact h1) (by simpa using ew) ⟨rfl,fin⟩) hs
theorem qA (its:List Value)(n j:Nat)(u:Value) : Obj.mapSeq (·.setIfInBounds j u) { cls:=.type "list", data:=.seq its.toArray n } = { cls:=.type "list", data:=.seq (its.set j u).toArray n }:=by
 simp [Obj.mapSeq]
theorem Inv.lst {pins:List (Addr × Obj)}{σ:St}{H:Hp}{s:Shared}{p:Addr}{xs:List V}(I:Inv X pins σ H s) (h:H p=some (.lst xs)) :
  ∃ (its:List Value) (n:Nat),bO xs its/\s.heap.get? p=some { cls:=.type "list", data:=.seq its.toArray n }/\xs.length<=sizeLine:=by
 obtain ⟨z,its,n,r,e⟩:=I.hok p _ h
 exact ⟨its,n,r,e,z⟩
theorem Inv.lstUpd {pins:List (Addr × Obj)}{σ:St}{H:Hp}{s:Shared}{p:Addr}{xs ys:List V}{its its':List Value}{n n':Nat}{f:Obj->Obj}(I:Inv X pins σ H s) (h:H p=some (.lst xs))
  (ho:s.heap.get? p=some { cls:=.type "list", data:=.seq its.toArray n }) (hf:f { cls:=.type "list", data:=.seq its.toArray n } = { cls:=.type "list", data:=.seq its'.toArray n' }) (r:bO ys its') (hz:ys.length<=sizeLine) (t:Nat) :
  Inv X pins σ (upd H p (.lst ys)) { s with heap:=s.heap.update p f,toks:=t }:=by
 have e:(s.heap.update p f).get? p=some { cls:=.type "list", data:=.seq its'.toArray n' }:=by
  rw [Heap.get?_update_self f ho (by rw [hf] <;> rfl),hf]
 refine I.write (x:=p) (e:=p) (by rw [h]; trivial) (.inl rfl) (fun b u hb q=>(Heap.get?_update_other _ _ (Ne.symm hb)).trans q) ⟨_,e⟩ ?_
 exact ⟨hz,its',n',r,e⟩
def rSetL:V->V->V->Hp->(Hp->Prop)->Prop:=fun o i v H Q=>∃ p xs k j,o = .ref p/\i = .int k/\H p=some (.lst xs)/\tJ xs.length k=some j/\Q (upd H p (.lst (xs.set j v)))
theorem hU:PSet X rSetL:=by
 intro pins s σ H o i v ov iv u Q I ro ri rv h
 obtain ⟨p,xs,k,j,rfl,rfl,hp,hj,q⟩:=h
 cases ro
 obtain ⟨t,rfl⟩:=ri
 obtain ⟨its,n,r,ho,hz⟩:=I.lst hp
 obtain ⟨h1,h2,h3,h4⟩:=rO hj
 have hl:=r.length
 have hn:=j6
 have I':Inv X pins σ (upd H p (.lst (xs.set j v))) { s with heap:=s.heap.update p (Obj.mapSeq (·.setIfInBounds j u)) } :=
  I.lstUpd hp ho (qA its n j u) (r.set rv j) (by rw [List.length_set]; exact hz) s.toks
 by_cases h0:0<=k
 ·have hk:k.toNat=j:=by
   rw [seqIndex_of h0 h4] at h1
   exact Option.some.inj h1
  exact PySem.W.ki_setAt ho h0 (by omega) (by rw [List.size_toArray,<- hl]; exact h4) (by rw [hk]; exact ⟨_,I',q⟩)
 ·have hk:(k + (its.toArray.size:Int)).toNat=j:=by
   rw [seqIndex_neg (by omega) h3] at h1
   rw [List.size_toArray,<- hl]
   exact Option.some.inj h1
  exact PySem.W.ki_setBack ho (by omega) (by rw [List.size_toArray,<- hl]; exact h3) (by omega) (by rw [hk]; exact ⟨_,I',q⟩)
theorem mE (lo hi:Option Int)(n:Nat) : (sliceBounds lo hi none n).1=((HT.sIx n 0 lo:Nat) : Int)/\(sliceBounds lo hi none n).2.1=((HT.sIx n n hi:Nat) : Int)/\(sliceBounds lo hi none n).2.2=1:=by
 refine ⟨?_,?_,rfl⟩
 ·cases lo with
  | none=>simp [sliceBounds,HT.sIx]
  | some i =>
   simp only [sliceBounds,HT.sIx,Option.getD_none,show (1:Int) > 0 by decide,if_true]
   by_cases h:i < 0
   ·simp only [h,if_true] <;> omega
   ·simp only [h,if_false] <;> omega
 ·cases hi with
  | none=>simp [sliceBounds,HT.sIx]
  | some i =>
   simp only [sliceBounds,HT.sIx,Option.getD_none,show (1:Int) > 0 by decide,if_true]
   by_cases h:i < 0
   ·simp only [h,if_true] <;> omega
   ·simp only [h,if_false] <;> omega
theorem kS (its:List Value)(lo hi:Option Int) : slicePick its.toArray lo hi none=((its.drop (HT.sIx its.length 0 lo)).take (HT.sIx its.length its.length hi - HT.sIx its.length 0 lo)).toArray:=by
 obtain ⟨h1,h2,h3⟩:=mE lo hi its.toArray.size
 unfold slicePick
 rw [h1,h2,h3]
 simp only [sliceRange_one,pick_run,List.size_toArray] <;> rfl
def rSlL (K:PySem.W.Frag) : V->Option Int->Option Int->Hp->VK->Prop:=fun x lo hi H Q=>∃ a xs,x = .ref a/\c6 K H a xs/\∀ p,H p=none->Q (.ref p) (upd H p (.lst (m7 xs lo hi)))
theorem qT:SlR X (rSlL X.K):=by
 intro pins s σ H x v vl vu lo hi sl Q I rx hs pl pu h
 obtain ⟨a,xs,rfl,hx,q⟩:=h
 cases rx
 obtain ⟨its,r,ht,hz⟩:=I.list hx
 have hlen:=r.length
 refine ⟨"list", _,slot_list_getitem.lookup,ht.isList.typeIs,?_⟩
 refine wpAny_getItem_list_slice ht.isList hs pl pu .none (by simp) ?_ (by rw [List.size_toArray] <;> omega)
 rw [kS,<- hlen]
 refine ⟨.ref s.heap.objs.size,_,I.laid (t':=s.toks) (o:=.lst (m7 xs lo hi)) (fun b ob q=>Heap.get?_push_of_some _ q) (Nat.le_refl _) ?_,rfl,q _ (I.hok.fresh (Nat.le_refl _))⟩
 exact ⟨Nat.le_trans (oV xs lo hi) hz,_,0,(r.drop (HT.sIx xs.length 0 lo)).take (HT.sIx xs.length xs.length hi - HT.sIx xs.length 0 lo),Heap.get?_push_size _ rfl⟩
theorem aT:eA X (.builtin "len") (fun xs H Q=>∃ p ys,xs = [.ref p]/\(c6 X.K H p ys\/qP X.K H p ys)/\Q (.int ys.length) H):=by
 intro pins s σ H xs us Q I r h
 obtain ⟨p,ys,rfl,hq,q⟩:=h
 obtain ⟨u,rfl,rx⟩:=fO r
 cases rx
 have hn:=j6
 rcases hq with hq | hq
 ·obtain ⟨its,r',pl,hz⟩:=I.list hq
  have hlen:=r'.length
  exact Calls.call_len_list pl.isList (by simp only [List.size_toArray] <;> omega) ⟨.int ys.length,H,I.tok _,⟨s.toks + 1,by rw [List.size_toArray,hlen]⟩,q⟩
 ·obtain ⟨its,r',pl,hz⟩:=I.tuple hq
  have hlen:=r'.length
  exact len_tuple pl (by simp only [List.size_toArray] <;> omega) ⟨.int ys.length,H,I.tok _,⟨s.toks + 1,by rw [List.size_toArray,hlen]⟩,q⟩
theorem m9:eA X (.type "list") (fun xs H Q=>∃ p ys,xs = [.ref p]/\(c6 X.K H p ys\/qP X.K H p ys)/\∀ l,H l=none->Q (.ref l) (upd H l (.lst ys))):=by
 intro pins s σ H xs us Q I r h
 obtain ⟨p,ys,rfl,hq,q⟩:=h
 obtain ⟨u,rfl,rx⟩:=fO r
 cases rx
 have fin:∀ (its:List Value),bO ys its->ys.length<=sizeLine->∀ (h':Heap) (c':Nat),(∀ b o',s.heap.get? b=some o'->h'.get? b=some o') ->
   h'.get? s.heap.objs.size=some { cls:=.type "list", dict:=none,data:=.seq its.toArray c',slots := #[] }->EP X pins σ Q (.ref s.heap.objs.size) { s with heap:=h' }:=fun its r' hz h' c' kp e =>
  ⟨.ref s.heap.objs.size,_,I.laid (t':=s.toks) kp (Nat.le_refl _) (show cI X.prog X.w _ h' _ (.lst ys) from ⟨hz,its,c',r',e⟩),rfl,q _ (I.hok.fresh (Nat.le_refl _))⟩
 rcases hq with hq | hq
 ·obtain ⟨its,r',pl,hz⟩:=I.list hq
  have hlen:=r'.length
  obtain ⟨o,ho,hc,n,hd⟩:=pl.isList
  exact call_list_seq p (.inl rfl) ho hc hd (fun h' c' kp e=>fin its r' hz h' c' kp e) (by simp only [List.size_toArray] <;> omega)
 ·obtain ⟨its,r',pl,hz⟩:=I.tuple hq
  have hlen:=r'.length
  obtain ⟨o,ho,hc,n,hd⟩:=pl
  exact call_list_seq p (.inr rfl) ho hc hd (fun h' c' kp e=>fin its r' hz h' c' kp e) (by simp only [List.size_toArray] <;> omega)
def tyV (K:PySem.W.Frag)(T:String)(x:V)(H:Hp) : Prop:=match x with
 | .str _=>T = "str"
 | .int _=>T = "int"
 | .ref p=>(T = "list" /\ ∃ xs,c6 K H p xs)\/(T = "tuple" /\ ∃ o,K.lookup p=some o/\o.cls = .type "tuple" /\ o.dict=none) \/
   (T = "dict" /\ ((∃ kvs,H p=some (.dK kvs))\/∃ kvs,H p=some (.dT kvs)))\/(T = "set" /\ ∃ S n,H p=some (.set S n))
 | _=>False
theorem uJ {pins:List (Addr × Obj)}{σ:St}{H:Hp}{s:Shared}{T:String}{x:V}{v:Value}(I:Inv X pins σ H s) (r:bX x v) (ty:tyV X.K T x H) :
  s.TypeIs v T/\∀ a,v = .ref a->∃ ob,s.heap.get? a=some ob/\ob.dict=none:=by
 cases x with
 | str z =>
  obtain ⟨t,rfl⟩:=r
  cases (show T = "str" from ty)
  exact ⟨typeIs_str s z t,fun _ e=>nomatch e⟩
 | int i =>
  obtain ⟨t,rfl⟩:=r
  cases (show T = "int" from ty)
  exact ⟨typeIs_int s i t,fun _ e=>nomatch e⟩
 | ref p =>
  cases r
  rcases ty with ⟨rfl,xs,hq⟩ | ⟨rfl,o,hk,hc,hd⟩ | ⟨rfl,hk⟩ | ⟨rfl,S,n,hk⟩
  ·obtain ⟨its,_,pl,_⟩:=I.list hq
   refine ⟨pl.isList.typeIs,fun a e=>?_⟩
   cases e
   obtain ⟨o,n,e,c,hd,_⟩:=pl
   exact ⟨o,e,hd⟩
  ·refine ⟨⟨o,I.kIn p o hk,hc⟩,fun a e=>?_⟩
   cases e
   exact ⟨o,I.kIn _ o hk,hd⟩
  ·have z:∃ o,s.heap.get? p=some o/\o.ExactDict:=by
    rcases hk with ⟨kvs,hk⟩ | ⟨kvs,hk⟩
    ·obtain ⟨_,_,_,_,o,_,_,e,ex,_⟩:=I.hok p _ hk
     exact ⟨o,e,ex⟩
    ·obtain ⟨_,_,_,_,o,_,_,e,ex,_⟩:=I.hok p _ hk
     exact ⟨o,e,ex⟩
   obtain ⟨o,e,ex⟩:=z
   refine ⟨⟨o,e,ex.1⟩,fun a e2=>?_⟩
   cases e2
   exact ⟨o,e,ex.2.1⟩
  ·obtain ⟨o,_,_,_,e,ex,_⟩:=I.hok p _ hk
   refine ⟨⟨o,e,ex.1⟩,fun a e2=>?_⟩
   cases e2
   exact ⟨o,e,ex.2.1⟩
 | _=>exact False.elim ty
def tBM0 (K:PySem.W.Frag)(T:String)(r:V->List V->Hp->VK->Prop)(to:TE) : TE:=fun σ H Q=>to σ H fun x H1=>tyV K T x H1/\r x [] H1 Q
def tBM (K:PySem.W.Frag)(T:String)(r:V->List V->Hp->VK->Prop)(to:TE)(t:TA) : TE:=fun σ H Q=>to σ H fun x H1=>tyV K T x H1/\t σ H1 fun xs H2=>r x xs H2 Q
variable {o e:Expr}{es:List Expr}{to:TE}{t:TA}{name:Str}{apos cpos:Pos}{T id:String}{r:V->List V->Hp->VK->Prop}
theorem vS (pa:PlainAttrs T) (slot:Slot T name id) (hty:typeOf (.builtin id)=pure (.type "method_descriptor")) (hm:MtR X id r) (ho:PE X o to)
  (hbase:attributeBase o name X.env (eval o X.env)=eval o X.env:=by rfl) (hline:(apos.endLine == cpos.line)=true:=by rfl) : PE X (.Call (.Attribute o name apos) [] [] cpos) (tBM0 X.K T r to):=by
 intro pins s σ H Q I h
 refine wpAny_Call_method0_late hbase hline (cL (ho pins s σ H _ I h) fun v s1 ⟨x,H1,I1,r1,ty,q1⟩=>?_)
 obtain ⟨h1,h2⟩:=uJ I1 r1 ty
 exact ⟨T,id,pa,slot,hty,h1,h2,Calls.callWith_builtin rfl (PySem.evalArgs_none (hm pins s1 σ H1 x [] v [] Q I1 r1 .nil q1))⟩
theorem dU (pa:PlainAttrs T) (slot:Slot T name id) (hty:typeOf (.builtin id)=pure (.type "method_descriptor")) (hm:MtR X id r) (ho:PE X o to) (ha:PA X (e :: es) t)
  (hbase:attributeBase o name X.env (eval o X.env)=eval o X.env:=by rfl)
  (hfew:((backTo cpos (starEach (e :: es) X.env)).all (fun x => !x.1) && (backToKw cpos (keywordEach [] X.env)).all (fun x=>x.1.isSome)
   && decide ((e :: es).length + ([] : List Keyword).length + (if ([] : List Keyword).isEmpty then 0 else 1) < 30))=true:=by rfl)
  (hline:(apos.endLine == cpos.line)=true:=by rfl) (hs:starEach (e :: es) X.env=(false,eval e X.env) :: starEach es X.env:=by rfl) (hplain:(backTo cpos (starEach es X.env)).any (·.1)=false:=by rfl) :
  PE X (.Call (.Attribute o name apos) (e :: es) [] cpos) (tBM X.K T r to t):=by
 intro pins s σ H Q I h
 refine wpAny_Call_method_late hbase hfew hline rfl (cL (ho pins s σ H _ I h) fun v s1 ⟨x,H1,I1,r1,ty,q1⟩=>?_)
 obtain ⟨h1,h2⟩:=uJ I1 r1 ty
 refine ⟨T,id,pa,slot,hty,h1,h2,?_⟩
 have hA:=ha cpos pins s1 σ H1 _ I1 q1
 rw [hs] at hA ⊢
 refine Calls.callWith_builtin (by show (false || (backTo cpos (starEach es X.env)).any (·.1))=false; rw [hplain] <;> rfl) (Calls.evalArgs_plain ?_)
 exact cL hA fun us s2 ⟨vs,H2,I2,r2,q2⟩=>hm pins s2 σ H2 x vs v us Q I2 r1 r2 q2
end
def MtM (X:Cx)(id:String)(r:V->List V->Hp->VK->Prop) : Prop :=
 ∀ (pins:List (Addr × Obj)) (s:Shared) (σ:St) (H:Hp) (x:V) (xs:List V) (v:Value) (us:List Value) (Q:VK),Inv X pins σ H s->bX x v->bO xs us->r x xs H Q ->
  wpAny (model X.prog X.w) X.A (call (.builtin id) (v :: us)) (EP X pins σ Q) X.xe s
theorem bO.one:∀ {x:V}{us:List Value},bO [x] us->∃ u,us = [u]/\bX x u
 | _,_,.cons r .nil=>⟨_,rfl,r⟩
theorem bO.two:∀ {x y:V}{us:List Value},bO [x,y] us->∃ u v,us = [u,v]/\bX x u/\bX y v
 | _,_,_,.cons r (.cons q .nil)=>⟨_,_,rfl,r,q⟩
theorem bO.zero:∀ {us:List Value},bO [] us->us = []
 | _,.nil=>rfl
theorem bO.dropLast {xs:List V}{us:List Value}(h:bO xs us) : bO xs.dropLast us.dropLast:=by
 induction h with
 | nil=>exact .nil
 | cons r t ih =>
  cases t with
  | nil=>exact .nil
  | cons q t'=>exact .cons r ih
theorem qG {α:Type}(l:List α) : l.eraseIdx (l.length - 1)=l.dropLast:=by
 induction l with
 | nil=>rfl
 | cons a r ih =>
  cases r with
  | nil=>rfl
  | cons b r =>
   have e:(a :: b :: r).length - 1=((b :: r).length - 1) + 1:=by
    have h1:(a :: b :: r).length=r.length + 2:=rfl
    have h2:(b :: r).length=r.length + 1:=rfl
    omega
   rw [e,List.eraseIdx_cons_succ,ih]
   all_goals rfl
section
variable {X:Cx}{pins:List (Addr × Obj)}{σ:St}{H:Hp}{s:Shared}{l b:Addr}{xs ys zs:List V}
theorem Inv.lset {its its':List Value}{n:Nat}{f:Array Value->Array Value}{t':Nat}(I:Inv X pins σ H s) (hH:H l=some (.lst xs))
  (e:s.heap.get? l=some { cls:=.type "list", data:=.seq its.toArray n }) (hf:f its.toArray=its'.toArray) (hv:bO ys its') (hz:ys.length<=sizeLine) :
  Inv X pins σ (upd H l (.lst ys)) { s with heap:=s.heap.update l (Obj.mapSeq f),toks:=t' }:=by
 have q:=PySem.IsL.update e f
 rw [hf] at q
 refine I.write (x:=l) (e:=l) (by rw [hH]; exact trivial) (.inl rfl) (fun b' u hb hu=>(Heap.get?_update_other s.heap (Obj.mapSeq f) (Ne.symm hb)).trans hu) ⟨_,q⟩ ?_
 exact ⟨hz,its',_,hv,q⟩
theorem Inv.lnew {its:List Value}{t':Nat}(I:Inv X pins σ H s) (hv:bO ys its) (hz:ys.length<=sizeLine) :
  Inv X pins σ (upd H s.heap.objs.size (.lst ys)) { s with heap:=s.heap.push { cls:=.type "list", data:=.seq its.toArray },toks:=t' } :=
 I.laid (fun _ _ q=>Heap.get?_push_of_some _ q) (Nat.le_refl _) ⟨hz,its,0,hv,Heap.get?_push_size _ rfl⟩
theorem Inv.fresh (I:Inv X pins σ H s) : H s.heap.objs.size=none:=I.hok.fresh (Nat.le_refl _)
theorem Inv.lstM (I:Inv X pins σ H s)(hH:H l=some (.lst xs)) : xs.length<=sizeLine/\∃ (its:List Value) (n:Nat),bO xs its/\xs.length=its.length/\s.heap.get? l=some { cls:=.type "list", data:=.seq its.toArray n }:=by
 obtain ⟨z,its,n,r,e⟩:=I.hok l _ hH
 exact ⟨z,its,n,r,r.length,e⟩
theorem wD {n:Nat}(h:n<=sizeLine) : Builtin.List.listTooLong n=false:=by
 unfold Builtin.List.listTooLong
 exact decide_eq_false (by omega)
end
section
variable {X:Cx}
def rAppend:V->List V->Hp->VK->Prop:=fun x vs H Q=>∃ l xs y,x = .ref l/\vs = [y]/\H l=some (.lst xs)/\xs.length < sizeLine/\Q .non (upd H l (.lst (xs ++ [y])))
theorem cV:MtM X "list.append" rAppend:=by
 intro pins s σ H x vs v us Q I rx rv h
 obtain ⟨l,xs,y,rfl,rfl,hH,hz,q⟩:=h
 cases rx
 obtain ⟨u,rfl,ru⟩:=rv.one
 obtain ⟨z,its,n,r,hl,e⟩:=I.lstM hH
 refine call_meets F.slot_list_append ⟨_,e,rfl⟩ F.entry_list_append (F.args_list_append_2 _ _) (PySem.list_append l its.toArray n u (by rw [List.size_toArray]; omega)) ⟨e,?_⟩
 refine ⟨.non,_,I.lset (its':=its ++ [u]) hH e (by simp) (r.append (.cons ru .nil)) ?_,rfl,q⟩
 rw [List.length_append,List.length_singleton]
 omega
def rExtend:V->List V->Hp->VK->Prop:=fun x vs H Q=>∃ l b xs zs,x = .ref l/\vs = [.ref b]/\H l=some (.lst xs)/\H b=some (.lst zs)/\xs.length + zs.length<=sizeLine/\Q .non (upd H l (.lst (xs ++ zs)))
theorem tD:MtM X "list.extend" rExtend:=by
 intro pins s σ H x vs v us Q I rx rv h
 obtain ⟨l,b,xs,zs,rfl,rfl,hH,hB,hz,q⟩:=h
 cases rx
 obtain ⟨u,rfl,ru⟩:=rv.one
 cases ru
 obtain ⟨z,its,n,r,hl,e⟩:=I.lstM hH
 obtain ⟨z2,its2,n2,r2,hl2,e2⟩:=I.lstM hB
 have hsz:its.toArray.size + its2.toArray.size<=sizeLine:=by rw [List.size_toArray,List.size_toArray]; omega
 have hlong:¬ (!its.toArray.isEmpty && Builtin.List.listTooLong (its.toArray.size + its2.toArray.size))=true:=by
  rw [wD hsz,Bool.and_false]
  exact Bool.false_ne_true
 refine call_meets F.slot_list_extend ⟨_,e,rfl⟩ F.entry_list_extend (F.args_list_extend_2 _ _)
  (AutoSeq1.list_extend_list_list_0 l its.toArray n b its2.toArray n2 hlong (by rw [List.size_toArray]; omega) (by omega)) ⟨e,e2,?_⟩
 refine ⟨.non,_,I.lset (its':=its ++ its2) hH e (by simp) (r.append r2) ?_,rfl,q⟩
 rw [List.length_append]
 omega
def rPop:V->List V->Hp->VK->Prop:=fun x vs H Q=>∃ l xs y,x = .ref l/\vs = []/\H l=some (.lst xs)/\xs[xs.length - 1]? = some y/\Q y (upd H l (.lst xs.dropLast))
theorem wH:MtM X "list.pop" rPop:=by
 intro pins s σ H x vs v us Q I rx rv h
 obtain ⟨l,xs,y,rfl,rfl,hH,hy,q⟩:=h
 cases rx
 have hus:=rv.zero
 subst hus
 obtain ⟨z,its,n,r,hl,e⟩:=I.lstM hH
 obtain ⟨u,hu,ru⟩:=r.get hy
 have hy':its.toArray[its.toArray.size - 1]? = some u:=by
  show its.toArray[its.length - 1]? = some u
  rw [<- Array.getElem?_toList,<- hl]
  exact hu
 refine call_meets F.slot_list_pop ⟨_,e,rfl⟩ F.entry_list_pop (F.args_list_pop_1 _) (MeetsSeq.list_pop_last l its.toArray n u hy' (by rw [List.size_toArray]; omega)) ⟨e,?_⟩
 refine ⟨y,_,I.lset (its':=its.dropLast) hH e ?_ r.dropLast ?_,ru,q⟩
 ·show its.toArray.eraseIdxIfInBounds (its.toArray.size - 1)=its.dropLast.toArray
  rw [List.size_toArray,List.eraseIdxIfInBounds_toArray,qG]
 ·rw [List.length_dropLast]
  omega
def rCat:R2:=fun x y H Q=>∃ l b xs zs,x = .ref l/\y = .ref b/\H l=some (.lst xs)/\H b=some (.lst zs)/\xs.length + zs.length<=sizeLine/\∀ p,H p=none->Q (.ref p) (upd H p (.lst (xs ++ zs)))
theorem iN:gR X (binaryOp .Add) rCat:=by
 intro pins s σ H x y v u Q I rx ry h
 obtain ⟨l,b,xs,zs,rfl,rfl,hH,hB,hz,q⟩:=h
 cases rx
 cases ry
 obtain ⟨z,its,n,r,hl,e⟩:=I.lstM hH
 obtain ⟨z2,its2,n2,r2,hl2,e2⟩:=I.lstM hB
 refine PySem.P.add_list e e2 ?_ (by rw [List.size_toArray,List.size_toArray]; omega)
 have ea:its.toArray ++ its2.toArray=(its ++ its2).toArray:=by simp
 rw [ea]
 exact ⟨.ref _,_,I.lnew (t':=s.toks) (r.append r2) (by rw [List.length_append]; omega),rfl,q _ I.fresh⟩
end
section
variable {prog:Program}{w:World}{A:Around}{E:Value->Shared->Prop}{s:Shared}
end
section
variable {X:Cx}
end
end L2
namespace Att
open PySem PySem.W PySem.Calls PyProof.Rows
theorem i6 {P:Params}{h:Heap} : ∀ (ns:List Int) (vs:List Value),WellAll P h vs (ns.map WData.int)->IntsAre vs ns:=by
 intro ns
 induction ns with
 | nil =>
  intro vs w
  rw [List.map_nil] at w
  cases w
  exact .nil
 | cons n ns ih =>
  intro vs w
  rw [List.map_cons] at w
  cases w with
  | cons a b =>
   cases a
   exact .cons _ _ (ih _ b)
theorem sR {l:OpenLaw}{n:Nat}(hn:l.most=some n) {P:Params}{h:Heap}{args:List WData}{vals:List Value}
  (hpre:l.row.toRowW.claim.pre args=true) (hwl:WellAll P h vals args) :
  ∃ a vs ns,vals = [Value.ref a]/\args = [WData.list (ns.map WData.int)]/\h.get? a=some { cls:=.type "list", data:=.seq vs.toArray }/\IntsAre vs ns/\ns.length<=n:=by
 have hsh:WShape.hasAll [] args [.list .int] = true:=(pre_splitW hpre).1
 have hc:l.pre.holds [] { args:=args } = true:=(pre_splitW hpre).2
 obtain ⟨d,r,rfl,h1,h2⟩:=hasAllW_cons hsh
 obtain rfl:=hasAllW_nil h2
 obtain ⟨xs,rfl,h3⟩:=hasW_list h1
 obtain ⟨ns,rfl⟩:=items_int h3
 have hlen:ns.length<=n:=by
  unfold OpenLaw.pre at hc
  have h4:(WTm.not (.lt (.lit (.int (n:Int))) (.len (.arg 0)))).holds [] { args:=[.list (ns.map .int)] } = true:=by
   have h4:=(holds_andW hc).1
   rw [hn] at h4
   exact h4
  have h5:=condW_of h4 (w_not (w_lt w_lit (w_len_list (w_arg rfl))))
  rw [List.length_map] at h5
  refine Nat.le_of_not_lt fun q=>?_
  have q':(n:Int) < ((ns.length:Nat) : Int):=by omega
  first
   | (rw [decide_eq_true q'] at h5; exact absurd h5 (by decide))
   | (simp at h5; omega)
 cases hwl with
 | cons w1 w2 =>
  cases w2
  cases w1 with
  | list ho hall=>exact ⟨_,_,ns,rfl,rfl,ho,i6 ns _ hall,hlen⟩
theorem sW (l:OpenLaw)(args:List WData) : l.row.toRowW.claim.post args (.bool true) args=true :=
 postW_of (r:=l.row.toRowW) (X:=(true == true))
  (show WShape.has [] (.bool true) .bool=true by first | rfl | decide | simp [WShape.has,WShape.arms,WShape.armsAll])
  (show (WTm.eq .res (.lit (.bool true))).value [] { args:=args,res:=some (.bool true),after:=args } = some (.bool (true == true)) from w_eq_bool (w_res rfl) w_lit) rfl
theorem attach_call {l:OpenLaw}{n:Nat}{q:Program}{loose:List Str}{XP:(Str->Option Value)->Heap->Prop}{YP:World->Heap->Prop}{d:DefRec}
  (hn:l.most=some n) (hdf:d.params.defaults = [])
  (call:∀ (w:World) (s₀ s₁:Shared) (mg mb:Str->Option Value) (fa:Addr) (o:Obj) (pm cd doc:Value) (a:Addr) (vs:List Value) (ns:List Int),
   Ground q loose [] XP w s₀ mg mb s₁.heap->YP w s₁.heap ->
   s₁.heap.get? fa=some o->o.data = .func (docDef d.name d.params d.body d.scope pm cd doc)->s₁.heap.CodeRec cd d.name->mg d.name=some (.ref fa) ->
   s₁.heap.get? a=some { cls:=.type "list", data:=.seq vs.toArray }->IntsAre vs ns->ns.length<=n->s₁.gens = #[] ->
   codeAny (model l.prog w) callerA (.call (.ref fa) ⟨[.ref a],[]⟩) (fun r s'=>r = .ok (.ret (.bool true))/\OldK s₁.heap s'.heap/\s'.os=s₁.os/\AllBare s'.gens) s₁) :
  WalkO q loose XP YP l.row.toRowW d [] (fun f vs=>PySem.call f vs):=by
 intro w s₀ s₁ mg mb G Y fa o pm cd doc dV kV ho hd hcd hD hmg hg args vals as hpre hlay hrd hwl hlo
 obtain rfl:dV = .none:=Dflts.none hD hdf
 obtain rfl:kV = .none:=Dflts.noKw hD
 obtain ⟨a,vs,ns,rfl,rfl,hobj,hints,hlen⟩:=sR hn hpre hwl
 refine enter_call (codeAny_mono (call w s₀ s₁ mg mb fa o pm cd doc a vs ns G Y ho (fd_plain hd) hcd hmg hobj hints hlen hg) fun r s' hq=>?_)
 obtain ⟨rfl,h2,h3,h4⟩:=hq
 exact ⟨.inl ⟨.bool true,.bool true,[],rfl,fun _=>rfl,.bool true,sW l _,fun _=>⟨List.Pairwise.nil,fun _ hm=>(nomatch hm)⟩⟩,h2,h3,h4⟩
section
variable {prog:Program}{w:World}{A:Around}{E:Value->Shared->Prop}{s:Shared}{K:Frag}
end
end Att
namespace L2
open PySem PySem.Spec PyProof.Rows
theorem k6:∀ {vs:List Value}{ns:List Int},IntsAre vs ns->bO (ns.map V.int) vs
 | _,_,.nil=>.nil
 | _,_,.cons n t h=>.cons ⟨t,rfl⟩ (k6 h)
def xT (H:Hp) : Prop:=∀ b,H b=none\/∃ o xs,H b=some (.frz o (.lst xs))
theorem wR {P:Program}{w:World}{K:PySem.W.Frag}{mg mb:Str->Option Value}{CX:uD}{k:Nat}{fa a:Addr}{fd:FuncData}{x:Str}{sp:Sp}{s₁:Shared}{vs:List Value}{ns:List Int}
  (KX:K.In s₁.heap) (hns:s₁.heap.Ns mainGlobals mg) (hb:s₁.heap.Ns builtinsNs mb) (hbb:∀ x:Str,x ≠ "__name__" -> mb x=bootBuiltins x) (hlim:s₁.heap.NoLimit) (hg:s₁.gens = #[])
  (ha:s₁.heap.get? a=some { cls:=.type "list", data:=.seq vs.toArray }) (hi:IntsAre vs ns) (hl:ns.length<=sizeLine) (hr:Room k callerA)
  (F:∀ base:Heap,K.In base->base.Ns mainGlobals mg->FnOk P w K mg base CX k fa fd [x] sp) (hbind:∀ (s:Shared) (u:Value),BindsTo s fd ⟨[u],[]⟩ [(x,u)])
  (hsp:∀ H:Hp,xT H->c6 K H a (ns.map V.int)->sp [.ref a] H (fun v _=>v = .bl true) fun _ _ _=>False)
  (hCX:∀ H e s',CX [] H s₁ (fun _ _ _=>False) e s'->False) :
  codeAny (model P w) callerA (.call (.ref fa) ⟨[.ref a],[]⟩) (fun r s'=>r = .ok (.ret (.bool true))/\OldK s₁.heap s'.heap/\s'.os=s₁.os/\AllBare s'.gens) s₁:=by
 have rv:=k6 hi
 have lenV:=hi.length
 have core:∀ H:Hp,xT H->c6 K H a (ns.map V.int)->g9 P w H s₁.heap->(∀ b,H b ≠ none->b=a)->(H a ≠ none->K.lookup a=none) ->
   codeAny (model P w) callerA (.call (.ref fa) ⟨[.ref a],[]⟩) (fun r s'=>r = .ok (.ret (.bool true))/\OldK s₁.heap s'.heap/\s'.os=s₁.os/\AllBare s'.gens) s₁:=by
  intro H hO hS hok hA hK
  have base_of:∀ {b:Addr}{o:Obj},s₁.heap.get? b=some o->H b=none->(mS s₁.heap H).get? b=some o:=fun e n=>wV e n
  have noA:∀ {b:Addr}{o:Obj}{es:Array DictEntry}{ep:Nat},s₁.heap.get? b=some o->o.data = .dict es ep->H b=none:=fun {b o es ep} e d=>by
   cases q:H b with
   | none=>rfl
   | some u =>
    have e':b=a:=hA b (by rw [q]; simp)
    subst e'
    rw [ha] at e; cases e
    have d':Data.seq vs.toArray _=Data.dict es ep:=d
    cases d'
  have nsK:∀ {b:Addr}{m:Str->Option Value},s₁.heap.Ns b m->(mS s₁.heap H).Ns b m:=fun {b m} ⟨o,es,ep,e,d,r⟩=>⟨o,es,ep,base_of e (noA e d),d,r⟩
  have hKb:K.In (mS s₁.heap H):=fun b o e=>base_of (KX b o e) (by
   cases q:H b with
   | none=>rfl
   | some u =>
    have e':b=a:=hA b (by rw [q]; simp)
    subst e'
    rw [hK (by rw [q]; simp)] at e; cases e)
  have hM:Mod K mg (mS s₁.heap H):=⟨hKb,nsK hns,⟨mb,nsK hb,hbb⟩,let ⟨mc,h1,h2⟩:=hlim; ⟨mc,nsK h1,h2⟩⟩
  have e0:Env0 P w K mg (mS s₁.heap H) callerA [] s₁ H:=⟨rfl,hM,fun b o e=>of_hidT e,Nat.le_of_eq (tO _ _),trivial,fun b hb=>absurd (show b∈([] : List Addr) from hb) (by simp),hok,.of_eq hg⟩
  refine codeAny_mono ((F _ hKb (nsK hns)).run callerA [] s₁ H ⟨[.ref a],[]⟩ [.ref a] [.ref a] _ _ hr e0 (hbind s₁ (.ref a)) (.cons rfl .nil) (hsp H hO hS)) fun r s' h=>?_
  cases r with
  | error e=>exact (hCX H e s' h).elim
  | ok fl =>
   cases fl with
   | next=>exact False.elim h
   | brk=>exact False.elim h
   | cont=>exact False.elim h
   | ret u =>
    obtain ⟨v,H',os,bare,un,hok',r',q⟩:=h
    have q':v = .bl true:=q
    subst q'
    obtain rfl:u=Value.bool true:=r'
    refine ⟨rfl,OldK.of_keep fun b o e=>?_,os,bare⟩
    cases q:H b with
    | none=>exact un.keep b o e q (by intro z; exact absurd (show b∈([] : List Addr) from z) (by simp)) (by simp)
    | some u =>
     rcases hO b with z | ⟨ob,xs,z⟩
     ·rw [q] at z; cases z
     ·have z2:=un.frzs b ob _ z
      obtain ⟨e1,_⟩:=hok b _ z
      obtain ⟨e2,_⟩:=hok' b _ z2
      rw [e] at e1; cases e1
      exact e2
 cases hk:K.lookup a with
 | some o =>
  have e:=KX a o hk
  rw [ha] at e
  cases e
  refine core (fun _=>none) (fun _=>.inl rfl) (.inr ⟨_,vs.toArray,_,hk,rfl,rfl,rfl,by rw [List.size_toArray,lenV]; exact hl,by simpa using rv⟩) (fun b u z=>by have z':(none:Option HO)=some u:=z; cases z') (fun b z=>absurd rfl z) fun z=>absurd rfl z
 | none =>
  refine core (fun b=>if b=a then some (.frz { cls:=.type "list", data:=.seq vs.toArray } (.lst (ns.map V.int))) else none) (fun b=>?_) (.inl (.inr ⟨{ cls:=.type "list", data:=.seq vs.toArray },if_pos rfl⟩)) (fun b u z=>?_) (fun b z=>?_) fun _=>hk
  ·by_cases hb:b=a
   ·exact .inr ⟨_,_,if_pos hb⟩
   ·exact .inl (if_neg hb)
  ·by_cases hb:b=a
   ·have z':=(if_pos hb).symm.trans z
    cases z'
    subst hb
    exact ⟨ha,by rw [List.length_map]; exact hl,vs,_,rv,ha⟩
   ·have z':=(if_neg hb).symm.trans z
    cases z'
  ·by_cases hb:b=a
   ·exact hb
   ·exact absurd (if_neg hb) z
abbrev KOf {K:PySem.W.Frag}{h:Heap}(_:K.In h) : PySem.W.Frag:=K
theorem xY {l:PySem.W.OpenLaw}{n k:Nat}{q:Program}{loose:List Str}{XP:(Str->Option Value)->Heap->Prop}{YP:World->Heap->Prop}{d:DefRec}{K:Params->PySem.W.Frag}{CX:World->uD}{sp:World->Sp}{x:Str}
  (hn:l.most=some n) (hn2:n<=sizeLine) (hdf:d.params.defaults = []) (hr:Room k callerA)
  (hY:∀ (w:World) (h:Heap),YP w h->(K w.params).In h)
  (F:∀ (w:World) (mg:Str->Option Value) (fa:Addr) (h:Heap),(K w.params).In h->h.Ns mainGlobals mg->mg d.name=some (.ref fa) ->
   ∃ fd:FuncData,(∀ (s:Shared) (u:Value),BindsTo s fd ⟨[u],[]⟩ [(x,u)]) /\
    ∀ base:Heap,(K w.params).In base->base.Ns mainGlobals mg->FnOk l.prog w (K w.params) mg base (CX w) k fa fd [x] (sp w))
  (hsp:∀ (w:World) (H:Hp) (a:Addr) (ns:List Int),ns.length<=n->xT H->c6 (K w.params) H a (ns.map V.int)->sp w [.ref a] H (fun v _=>v = .bl true) fun _ _ _=>False)
  (hCX:∀ (w:World) (H:Hp) (s:Shared) (e:Value) (s':Shared),CX w [] H s (fun _ _ _=>False) e s'->False) :
  PySem.W.WalkO q loose XP YP l.row.toRowW d [] (fun f vs=>PySem.call f vs):=by
 refine Att.attach_call hn hdf fun w s₀ s₁ mg mb fa o pm cd doc a vs ns G Y ho hd hcd hmg hobj hints hlen hg=>?_
 have KX:=hY w _ Y
 obtain ⟨fd,hb,hF⟩:=F w mg fa _ KX G.T.g hmg
 exact wR KX G.T.g G.T.b G.T.builtins G.T.nolimit hg hobj hints (Nat.le_trans hlen hn2) hr hF hb (fun H hO hS=>hsp w H a ns hlen hO hS) fun H e s'=>hCX w H s₁ e s'
def iF (s:Stmt) : Arguments:=match s with
 | .FunctionDef _ a _ _ _ _ _ _ _ _=>a
 | _=>{ posonlyargs:=[],args:=[],vararg:=none,kwonlyargs:=[],kw_defaults:=[],kwarg:=none,defaults:=[] }
def gL (s:Stmt) : List Stmt:=match s with
 | .FunctionDef _ _ b _ _ _ _ _ _ _=>b
 | _=>[]
def aQ (s:Stmt) : Scope:=match s with
 | .FunctionDef _ _ _ _ _ _ sc _ _ _=>sc
 | _=>{ kind:=.function,names:=[],isGenerator:=false,isCoroutine:=false }
abbrev E0:XK:=fun _ _ _=>False
structure Fun (K:PySem.W.Frag) (x qual:Str) (st:Stmt) (f:Addr) (fd:FuncData) : Prop where
 ex:∃ (oc:Value) (od:Option Addr) (kV doc pm:Value) (an:Option Addr) (cdv ct:Value) (osl:Array (Option Value)),
  fd=PySem.W.fnOf x qual (iF st) (gL st) (aQ st) .none kV doc pm an cdv ct/\K.lookup f=some ⟨oc,od,.func fd,osl⟩/\PySem.W.codeIn K cdv qual=true
 kp:PySem.W.keepIn K (.ref f)=true
section
variable {P:Program}{w:World}{K:PySem.W.Frag}{mg:Str->Option Value}{base:Heap}
theorem Fun.binds {x qual:Str}{st:Stmt}{f:Addr}{fd:FuncData}{ps:List Str}(F:Fun K x qual st f fd)
  (h:∀ (kV doc pm:Value) (an:Option Addr) (cdv ct:Value) (us:List Value),us.length=ps.length->bindArgs (PySem.W.fnOf x qual (iF st) (gL st) (aQ st) .none kV doc pm an cdv ct) ⟨us,[]⟩=pure (ps.zip us)) : bJ K fd ps []:=by
 obtain ⟨oc,od,kV,doc,pm,an,cdv,ct,osl,rfl,lk,hcd⟩:=F.ex
 exact .all (h kV doc pm an cdv ct)
theorem bC {x qual:Str}{st:Stmt}{f:Addr}{oc:Value}{od an:Option Addr}{osl:Array (Option Value)}{kV doc pm cdv ct:Value}(l:K.lookup f=some ⟨oc,od,.func (PySem.W.fnOf x qual (iF st) (gL st) (aQ st) .none kV doc pm an cdv ct),osl⟩)
  (c:PySem.W.codeIn K cdv qual=true) (k:PySem.W.keepIn K (.ref f)=true) : Fun K x qual st f (PySem.W.fnOf x qual (iF st) (gL st) (aQ st) .none kV doc pm an cdv ct):=⟨⟨oc,od,kV,doc,pm,an,cdv,ct,osl,rfl,l,c⟩,k⟩
end
theorem aU {n:Nat}(h:n<=1000) : n < sizeLine:=Nat.lt_of_le_of_lt h (by decide)
section
variable {X:Cx}
theorem pv (i:Nat) {x:Str}{pos:Pos}(hN:X.N[i]? = some x:=by rfl) (hv:Vis X.env.scope x:=by first | exact Or.inl rfl | exact Or.inr (Or.inl rfl) | exact Or.inr (Or.inr rfl)) (hd:(x == ("__debug__" : Str))=false:=by decide)
  (hcd:(x == ("__classdict__" : Str))=false:=by decide) : PE X (.Name x pos) (tVar i):=pe_var hN hv hd hcd
end
theorem iteF {A B:Prop}(h:B) : if false=true then A else B:=by
 rw [if_neg Bool.false_ne_true]
 exact h
theorem iteT {A B:Prop}(h:A) : if true=true then A else B:=by
 rw [if_pos rfl]
 exact h
def aN (H H':Hp) : Prop:=∀ b o,H b=some o->H' b=some o
theorem aN.refl (H:Hp) : aN H H:=fun _ _ h=>h
theorem aN.trans {H H1 H2:Hp}(a:aN H H1)(b:aN H1 H2) : aN H H2:=fun c o h=>b c o (a c o h)
theorem aN.free {H H':Hp}(e:aN H H'){l:Addr}(h:H' l=Option.none) : H l=Option.none:=by
 cases q:H l with
 | none=>rfl
 | some o =>
  rw [e l o q] at h
  cases h
end L2
set_option maxHeartbeats 4000000
namespace L2
open PySem PySem.Spec PyProof.Rows
def Bz (n:Nat)(x:Int) : Prop:=x.natAbs < 2 ^ n
theorem Bz.mono {m n:Nat}{x:Int}(h:Bz m x)(hn:m<=n) : Bz n x:=Nat.lt_of_lt_of_le h (Nat.pow_le_pow_right (by decide) hn)
theorem Bz.bits {n:Nat}{x:Int}(h:Bz n x) : Builtin.Int.intBits x<=n:=PySem.intBits_le_iff.mpr h
theorem Bz.of_bits {n:Nat}{x:Int}(h:Builtin.Int.intBits x<=n) : Bz n x:=PySem.intBits_le_iff.mp h
theorem Bz.mulOk {m n:Nat}{x y:Int}(hx:Bz m x)(hy:Bz n y)(h:m + n<=134217728:=by decide) : IntMulOk x y:=PySem.IntMulOk.of_le hx.bits hy.bits h
theorem Bz.mul {m n:Nat}{x y:Int}(hx:Bz m x)(hy:Bz n y) : Bz (m + n) (x * y):=.of_bits (PySem.intBits_mul_le hx.bits hy.bits)
theorem Bz.neg {n:Nat}{x:Int}(hx:Bz n x) : Bz n (-x):=.of_bits (PySem.intBits_neg_le hx.bits)
theorem Bz.le {n:Nat}{x y:Int}(hx:Bz n x)(h:y.natAbs<=x.natAbs) : Bz n y:=Nat.lt_of_le_of_lt h hx
theorem Bz.fdiv {n:Nat}{x y:Int}(hx:Bz n x) : Bz n (x.fdiv y):=.of_bits (PySem.intBits_fdiv_le hx.bits)
theorem Bz.ediv {n:Nat}{x y:Int}(hx:Bz n x)(hy:0<=y) : Bz n (x / y):=by
 rw [<- Int.fdiv_eq_ediv_of_nonneg x hy]
 exact hx.fdiv
theorem Bz.w {x:Int}(h1 : -340282366920938463463374607431768211456 < x)(h2:x < 340282366920938463463374607431768211456) : Bz 128 x:=by
 show x.natAbs < 340282366920938463463374607431768211456
 omega
theorem Bz.log2 {n:Nat}{x:Int}(h:Bz n x)(hn:n<=9000:=by decide) : x.natAbs.log2 < 9000:=by
 by_cases h0:x.natAbs=0
 ·rw [h0]; decide +kernel
 ·exact (Nat.log2_lt h0).mpr (Nat.lt_of_lt_of_le h (Nat.pow_le_pow_right (by decide) hn))
def iL (_ j:Int) : Prop:=0 < j/\j.natAbs.log2 < 9000
def xU (_ j:Int) : Prop:=j ≠ 0/\j.natAbs.log2 < 9000
section
variable {X:Cx}
theorem bH:gR X (binaryOp .Mult) (rI IntMulOk fun i j=>.int (i * j)):=opI fun _ _ _ _ _ _ _ hc q=>mul_int q hc
theorem bQ:gR X (binaryOp .FloorDiv) (rI iL fun i j=>.int (i / j)):=opI fun i j _ _ _ _ _ hc q=>by
 have h1:(0:Int) < j:=hc.1
 exact floordiv_int (by omega) (by rw [Int.fdiv_eq_ediv_of_nonneg i (by omega)]; exact q) (.inl (PyProof.noPylong_of_log2 hc.2))
theorem n6:gR X (binaryOp .FloorDiv) (rI xU fun i j=>.int (i.fdiv j)):=opI fun i j _ _ _ _ _ hc q =>
 floordiv_int hc.1 q (.inl (PyProof.noPylong_of_log2 hc.2))
theorem ps_mid {st:Stmt}{t:TS}(h:PS X st t) : PS X st (fun D σ H=>∃ P:St->Hp->Prop,t { D with nx:=P } σ H/\∀ σ' H',P σ' H'->D.nx σ' H'):=by
 intro pins s σ H D I hw
 obtain ⟨P',hp,hk⟩:=hw
 refine cL (h pins s σ H _ I hp) fun f s1 q=>?_
 cases f with
 | next=>obtain ⟨σ',H',I',p⟩:=q; exact ⟨σ',H',I',hk _ _ p⟩
 | ret v=>exact q
 | brk=>exact q
 | cont=>exact q
theorem kE:eA X (.builtin "isinstance") (fun xs H Q=>∃ x n t b,xs = [x,.ty n]/\TyOf X.K H x t/\PySem.W.kitOne X.K t (.type n)=some b/\Q (.bl b) H):=by
 intro pins s σ H xs us Q I r h
 obtain ⟨x,n,t,b,rfl,ty,e,q⟩:=h
 obtain ⟨u,w',rfl,r1,r2⟩:=uI r
 cases r2
 exact tK I r1 ty e fun tk=>⟨.bl b,H,I.tok tk,rfl,q⟩
end
theorem kp {H:Hp}{a p:Addr}{o u:HO}(h:H a=some o)(hp:H p=none) : upd H p u a=some o:=by rw [aR (bE h hp)]; exact h
theorem iteN {c A B:Prop} [Decidable c](hc:¬ c)(h:B) : if decide c=true then A else B:=by
 rw [if_neg (fun z=>hc (of_decide_eq_true z))]
 exact h
theorem iteY {c A B:Prop} [Decidable c](hc:c)(h:A) : if decide c=true then A else B:=by
 rw [if_pos (decide_eq_true hc)]
 exact h
theorem dX {c A B:Prop} [Decidable c](h1:c->A)(h2:¬ c->B) : if decide c=true then A else B:=by
 by_cases h:c
 ·exact iteY h (h1 h)
 ·exact iteN h (h2 h)
theorem iteNo {c A B:Prop} [Decidable c](h1:¬ c->A)(h2:c->B) : if (!decide c)=true then A else B:=by
 by_cases h:c
 ·rw [decide_eq_true h]; exact iteF (h2 h)
 ·rw [decide_eq_false h]; exact iteT (h1 h)
theorem sz {n:Nat}(h:n<=1000:=by first | decide | (simp; done) | omega) : n<=sizeLine:=Nat.le_of_lt (aU h)
theorem at_ints {ns:List Int}{k:Int}(h0:0<=k)(h:k < (ns.length:Int)) : ∃ v:Int,gP (ns.map V.int) k=some (.int v):=by
 have hk:k.toNat < ns.length:=by omega
 have ek:k=((k.toNat:Nat) : Int):=by omega
 have q:gP (ns.map V.int) ((k.toNat:Nat) : Int)=some (.int ns[k.toNat]):=cX (by rw [List.getElem?_map,List.getElem?_eq_getElem hk]; rfl)
 rw [<- ek] at q
 exact ⟨_,q⟩
mutual
inductive DV (K:PySem.W.Frag) (H:Hp) : V->PyData->Prop
 | non:DV K H .non .none
 | bl (b:Bool) : DV K H (.bl b) (.bool b)
 | int (i:Int) : DV K H (.int i) (.int i)
 | str (x:Str) : DV K H (.str x) (.str x)
 | lst {a:Addr}{xs:List V}{ds:List PyData} : c6 K H a xs->DVs K H xs ds->DV K H (.ref a) (.list ds)
 | tup {a:Addr}{xs:List V}{ds:List PyData} : qP K H a xs->DVs K H xs ds->DV K H (.ref a) (.tuple ds)
inductive DVs (K:PySem.W.Frag) (H:Hp) : List V->List PyData->Prop
 | nil:DVs K H [] []
 | cons {x:V}{xs:List V}{d:PyData}{ds:List PyData} : DV K H x d->DVs K H xs ds->DVs K H (x :: xs) (d :: ds)
end
section
variable {X:Cx}{pins:List (Addr × Obj)}{σ:St}{H:Hp}{s:Shared}
mutual
theorem DV.reads (I:Inv X pins σ H s) : ∀ {x:V}{d:PyData}{u:Value},DV X.K H x d->bX x u->∃ as,Reads s.heap u d as
 | _,_,_,.non,r=>by cases r; exact ⟨_,.none⟩
 | _,_,_,.bl b,r=>by cases r; exact ⟨_,.bool b⟩
 | _,_,_,.int i,r=>by obtain ⟨t,rfl⟩:=r; exact ⟨_,.int i t⟩
 | _,_,_,.str x,r=>by obtain ⟨t,rfl⟩:=r; exact ⟨_,.str x t⟩
 | _,_,_,.lst h hs,r=>by
  cases r
  obtain ⟨its,rv,⟨o,n,e,c,_,dd⟩,_⟩:=I.list h
  obtain ⟨as,q⟩:=DVs.reads I hs rv
  exact ⟨_,.list e c dd (by simpa using q)⟩
 | _,_,_,.tup h hs,r=>by
  cases r
  obtain ⟨its,rv,⟨o,e,c,n,dd⟩,_⟩:=I.tuple h
  obtain ⟨as,q⟩:=DVs.reads I hs rv
  exact ⟨_,.tuple e c dd (by simpa using q)⟩
theorem DVs.reads (I:Inv X pins σ H s) : ∀ {xs:List V}{ds:List PyData}{us:List Value},DVs X.K H xs ds->bO xs us->∃ as,ReadsAll s.heap us ds as
 | _,_,_,.nil,r=>by cases r; exact ⟨_,.nil⟩
 | _,_,_,.cons h hs,r=>by
  cases r with
  | cons r rr =>
   obtain ⟨as,q⟩:=DV.reads I h r
   obtain ⟨bs,q'⟩:=DVs.reads I hs rr
   exact ⟨_,.cons q q'⟩
end
end
def rNeD (K:PySem.W.Frag) : R2:=fun x y H Q=>∃ dx dy,DV K H x dx/\DV K H y dy/\SeqAt.shaped dx=true/\SeqAt.shaped dy=true/\Q (.bl (!PyData.eqv dx dy)) H
section
variable {X:Cx}{e se:Expr}{te ts:TE}{pos p2:Pos}
theorem jX (hu:X.A.units + 64 < cLine) : gR X (compareOp .NotEq) (rNeD X.K):=by
 intro pins s σ H x y v u Q I rx ry h
 obtain ⟨dx,dy,hx,hy,sx,sy,q⟩:=h
 obtain ⟨as,r1⟩:=hx.reads I rx
 obtain ⟨bs,r2⟩:=hy.reads I ry
 exact ne_dataH r1 r2 sx sy hu ⟨.bl _,H,I,rfl,q⟩
end
def iP (K:PySem.W.Frag)(H:Hp)(a:Addr)(xs:List V) : Prop :=
 (∃ o,H a=some (.frz o (.lst xs)))\/∃ (o:Obj) (its:Array Value) (n:Nat),K.lookup a=some o/\o.cls = .type "list" /\ o.dict=none/\o.data = .seq its n/\its.size<=sizeLine/\bO xs its.toList
theorem iP.sq {K:PySem.W.Frag}{H:Hp}{a:Addr}{xs:List V}(h:iP K H a xs) : c6 K H a xs:=by
 rcases h with ⟨o,h⟩ | h
 ·exact .inl (.inr ⟨o,h⟩)
 ·exact .inr h
theorem iP.upd {K:PySem.W.Frag}{H:Hp}{a p:Addr}{xs:List V}{u:HO}(h:iP K H a xs)(hp:∀ o w,H p ≠ some (.frz o w)) : iP K (L2.upd H p u) a xs:=by
 rcases h with ⟨o,h⟩ | h
 ·refine .inl ⟨o,?_⟩
  rw [aR (fun e=>hp o _ (by rw [<- e]; exact h))]
  exact h
 ·exact .inr h
theorem iP.new {K:PySem.W.Frag}{H:Hp}{a p:Addr}{xs:List V}{u:HO}(h:iP K H a xs)(hp:H p=none) : iP K (L2.upd H p u) a xs:=h.upd fun o w e=>by rw [hp] at e; cases e
theorem iP.of_only {K:PySem.W.Frag}{H:Hp}{a:Addr}{xs:List V}(hO:xT H)(h:c6 K H a xs) : iP K H a xs:=by
 rcases h with (h | ⟨o,h⟩) | h
 ·rcases hO a with z | ⟨o,ys,z⟩
  ·rw [z] at h; cases h
  ·rw [z] at h; cases h
 ·exact .inl ⟨o,h⟩
 ·exact .inr h
theorem aM {H:Hp}{p:Addr}(h:H p=none)(o:HO) : aN H (L2.upd H p o):=fun b u q=>by rw [aR (bE q h)]; exact q
theorem iP.same {K:PySem.W.Frag}{H H':Hp}{a:Addr}{xs:List V}(h:iP K H a xs)(s:aN H H') : iP K H' a xs:=by
 rcases h with ⟨o,h⟩ | h
 ·exact .inl ⟨o,s _ _ h⟩
 ·exact .inr h
end L2
namespace L2
open PySem
theorem eJ:bootBuiltins "isinstance" = some (.builtin "isinstance"):=by decide +kernel
theorem xL:bootBuiltins "int" = some (.type "int"):=by decide +kernel
theorem bt_bool:bootBuiltins "bool" = some (.type "bool"):=by decide +kernel
theorem qJ:bootBuiltins "abs" = some (.builtin "abs"):=by decide +kernel
theorem sD:bootBuiltins "list" = some (.type "list"):=by decide +kernel
theorem xK:bootBuiltins "min" = some (.builtin "min"):=by decide +kernel
theorem bt_max:bootBuiltins "max" = some (.builtin "max"):=by decide +kernel
theorem bZ:bootBuiltins "len" = some (.builtin "len"):=by decide +kernel
theorem eW:bootBuiltins "sorted" = some (.builtin "sorted"):=by decide +kernel
theorem kG:bootBuiltins "set" = some (.type "set"):=by decide +kernel
end L2
namespace L2
open PySem PySem.Spec PyProof.Rows
section
variable {X:Cx}{e se:Expr}{te ts:TE}{pos p2:Pos}
end
end L2
namespace M
def G (a b:Int) : Int:=if Nat.gcd a.natAbs b.natAbs=0 then 1 else (Nat.gcd a.natAbs b.natAbs:Nat)
theorem G_pos (a b:Int) : 0 < G a b:=by
 unfold G
 split <;> omega
theorem G_eq {a b:Int}(h:b ≠ 0) : G a b=((Nat.gcd a.natAbs b.natAbs:Nat) : Int):=by
 have:0 < Nat.gcd a.natAbs b.natAbs:=Nat.gcd_pos_of_pos_right _ (by omega)
 unfold G
 rw [if_neg (by omega)]
structure Inv (a b x y:Int) : Prop where
 x0:0<=x
 y0:0<=y
 e:Nat.gcd x.natAbs y.natAbs=Nat.gcd a.natAbs b.natAbs
theorem qO (i:Int) : (if i < 0 then -i else i)=(i.natAbs:Int):=by
 split <;> omega
theorem Inv.start (a b:Int)(hb:0<=b) : Inv a b (if a < 0 then -a else a) b:=by
 rw [qO]
 exact ⟨by omega,hb,by simp⟩
theorem Inv.start2 (a b:Int) : Inv a b (if a < 0 then -a else a) (if b < 0 then -b else b):=by
 rw [qO,qO]
 exact ⟨by omega,by omega,by simp⟩
theorem Inv.turn {a b x y:Int}(h:Inv a b x y)(hy:0 < y) : Inv a b y (x % y):=by
 obtain ⟨x0,y0,e⟩:=h
 refine ⟨y0,Int.emod_nonneg x (by omega),?_⟩
 rw [<- e]
 have e1:(x % y).natAbs=x.natAbs % y.natAbs:=by
  obtain ⟨n,rfl⟩:=Int.eq_ofNat_of_zero_le x0
  obtain ⟨m,rfl⟩:=Int.eq_ofNat_of_zero_le y0
  exact congrArg Int.natAbs (Int.natCast_emod n m).symm
 rw [e1,Nat.gcd_comm x.natAbs y.natAbs]
 rw [Nat.gcd_comm y.natAbs (x.natAbs % y.natAbs),<- Nat.gcd_rec,Nat.gcd_comm]
theorem less {x y:Int}(hy:0 < y) : (x % y).toNat < y.toNat:=by
 have h1:=Int.emod_nonneg x (show y ≠ 0 by omega)
 have h2:=Int.emod_lt_of_pos x hy
 omega
theorem Inv.out {a b x y:Int}(h:Inv a b x y)(hy:y=0)(hb:b ≠ 0) : x=G a b:=by
 obtain ⟨x0,y0,e⟩:=h
 rw [G_eq hb,<- e,hy]
 simp
 omega
theorem G_dvd (a b:Int) : (G a b ∣ a)/\(G a b ∣ b):=by
 unfold G
 split
 ·exact ⟨Int.one_dvd _,Int.one_dvd _⟩
 ·exact ⟨Int.ofNat_dvd_left.mpr (Nat.gcd_dvd_left _ _),Int.ofNat_dvd_left.mpr (Nat.gcd_dvd_right _ _)⟩
theorem G_le {a b:Int}(h:b ≠ 0) : (G a b).natAbs<=b.natAbs:=by
 rw [G_eq h]
 exact Nat.le_of_dvd (by omega) (Nat.gcd_dvd_right _ _)
end M
namespace M
theorem num_low {t b:Int}(hb:0 < b) : t / G t b=(Rat.divInt t b).num:=by
 rw [Rat.num_divInt,G_eq (by omega),Int.sign_eq_one_of_pos hb,Int.one_mul]
 show t / _=t / ((Nat.gcd b.natAbs t.natAbs:Nat) : Int)
 rw [Nat.gcd_comm]
theorem den_low {t b:Int}(hb:0 < b) : b / G t b=((Rat.divInt t b).den:Int):=by
 rw [Rat.den_divInt,if_neg (by omega),G_eq (by omega)]
 show b / _=(((b.natAbs / Nat.gcd b.natAbs t.natAbs:Nat)) : Int)
 rw [Int.natCast_ediv,Nat.gcd_comm]
 congr 1
 omega
theorem num_neg {t b:Int}(hb:b < 0) : t.fdiv (-G t b)=(Rat.divInt t b).num:=by
 have e:Rat.divInt t b=Rat.divInt (-t) (-b):=(Rat.neg_divInt_neg t b).symm
 rw [e,<- num_low (by omega)]
 have g:G (-t) (-b)=G t b:=by unfold G; simp
 have h:=G_pos t b
 rw [g,<- Int.fdiv_eq_ediv_of_nonneg (-t) (Int.le_of_lt h)]
 rw [<- Int.neg_fdiv_neg,Int.neg_neg]
theorem den_neg {t b:Int}(hb:b < 0) : b.fdiv (-G t b)=((Rat.divInt t b).den:Int):=by
 have e:Rat.divInt t b=Rat.divInt (-t) (-b):=(Rat.neg_divInt_neg t b).symm
 rw [e,<- den_low (by omega)]
 have g:G (-t) (-b)=G t b:=by unfold G; simp
 have h:=G_pos t b
 rw [g,<- Int.fdiv_eq_ediv_of_nonneg (-b) (Int.le_of_lt h)]
 rw [<- Int.neg_fdiv_neg,Int.neg_neg]
theorem add_q (q r:Rat) : Rat.divInt (q.num * (r.den:Int) + r.num * (q.den:Int)) ((q.den:Int) * (r.den:Int))=q + r:=by
 have h1:=q.den_pos
 have h2:=r.den_pos
 rw [<- Rat.divInt_add_divInt _ _ (by omega) (by omega),Rat.num_divInt_den,Rat.num_divInt_den]
theorem div_q (q r:Rat) : Rat.divInt (q.num * (r.den:Int)) ((q.den:Int) * r.num)=q / r:=by
 rw [<- Rat.divInt_mul_divInt,Rat.num_divInt_den,Rat.div_def,Rat.inv_def]
end M
namespace M
abbrev D0:Int:=5342931457063200
def Item (r:Rat) : Prop:=∃ c:Int,r=Rat.divInt c D0 /\ -(100000000000 * D0)<=c/\c<=100000000000 * D0
def All (rs:List Rat) : Prop:=∀ r∈rs,Item r
end M
namespace M
theorem oX {n1 n2:Int}{a b:Nat}(h1:Nat.Coprime n1.natAbs a)(h2:Nat.Coprime b a) : Nat.Coprime (n1 * (b:Int) + n2 * (a:Int)).natAbs a:=by
 have da:=Nat.gcd_dvd_right (n1 * (b:Int) + n2 * (a:Int)).natAbs a
 have dt:=Nat.gcd_dvd_left (n1 * (b:Int) + n2 * (a:Int)).natAbs a
 show Nat.gcd _ _=1
 generalize Nat.gcd (n1 * (b:Int) + n2 * (a:Int)).natAbs a=d at da dt
 have e1:(d:Int) ∣ n1 * (b:Int) + n2 * (a:Int):=Int.ofNat_dvd_left.mpr dt
 have e2:(d:Int) ∣ n2 * (a:Int):=Int.dvd_trans (Int.ofNat_dvd.mpr da) (Int.dvd_mul_left _ _)
 have e3:(d:Int) ∣ n1 * (b:Int):=(Int.dvd_add_left e2).mp e1
 have e4:d ∣ n1.natAbs * b:=by
  have z:=Int.ofNat_dvd_left.mp e3
  rwa [Int.natAbs_mul,Int.natAbs_natCast] at z
 have c1:Nat.Coprime d n1.natAbs:=Nat.Coprime.symm (Nat.Coprime.coprime_dvd_right da h1)
 have e5:d ∣ b:=c1.dvd_of_dvd_mul_left e4
 have e6:d ∣ 1:=by
  rw [<- h2]
  exact Nat.dvd_gcd e5 da
 exact Nat.dvd_one.mp e6
theorem wY {n1 n2:Int}{g a b:Nat}(h1:Nat.Coprime n1.natAbs (g * a)) (h2:Nat.Coprime n2.natAbs (g * b)) (h3:Nat.Coprime a b) :
  Nat.gcd (n1 * (b:Int) + n2 * (a:Int)).natAbs (g * a * b)=Nat.gcd (n1 * (b:Int) + n2 * (a:Int)).natAbs g:=by
 have c1:=oX (n1:=n1) (n2:=n2) (h1.coprime_dvd_right (Nat.dvd_mul_left a g)) h3.symm
 have c2:=oX (n1:=n2) (n2:=n1) (h2.coprime_dvd_right (Nat.dvd_mul_left b g)) h3
 rw [Int.add_comm] at c2
 rw [Nat.Coprime.gcd_mul_right_cancel_right _ c2.symm,Nat.Coprime.gcd_mul_right_cancel_right _ c1.symm]
theorem plus_low (q r:Rat) :
  (q.num * ((r.den:Int) / G q.den r.den) + r.num * ((q.den:Int) / G q.den r.den)) / G (q.num * ((r.den:Int) / G q.den r.den) + r.num * ((q.den:Int) / G q.den r.den)) (G q.den r.den)=(q + r).num /\
  (q.den:Int) / G (q.num * ((r.den:Int) / G q.den r.den) + r.num * ((q.den:Int) / G q.den r.den)) (G q.den r.den) * ((r.den:Int) / G q.den r.den)=((q + r).den:Int):=by
 have p1:=q.den_pos
 have p2:=r.den_pos
 have hg:0 < Nat.gcd q.den r.den:=Nat.gcd_pos_of_pos_left _ p1
 have eg:G q.den r.den=((Nat.gcd q.den r.den:Nat) : Int):=by
  rw [G_eq (by omega)]
  simp
 obtain ⟨a,ea⟩:=Nat.gcd_dvd_left q.den r.den
 obtain ⟨b,eb⟩:=Nat.gcd_dvd_right q.den r.den
 have cab:Nat.Coprime a b:=by
  have z:=Nat.coprime_div_gcd_div_gcd (m:=q.den) (n:=r.den) hg
  have z1:q.den / Nat.gcd q.den r.den=a:=by
   conv=>lhs; lhs; rw [ea]
   exact Nat.mul_div_cancel_left _ hg
  have z2:r.den / Nat.gcd q.den r.den=b:=by
   conv=>lhs; lhs; rw [eb]
   exact Nat.mul_div_cancel_left _ hg
  rwa [z1,z2] at z
 rw [eg]
 have r1:=q.reduced
 have r2:=r.reduced
 have aq:=add_q q r
 generalize q + r=s at aq
 generalize Nat.gcd q.den r.den=g at *
 rw [ea] at r1 aq p1 ⊢
 rw [eb] at r2 aq p2 ⊢
 have d1:((g * a:Nat) : Int) / (g:Int)=(a:Int):=by
  rw [Int.natCast_mul]
  exact Int.mul_ediv_cancel_left _ (by omega)
 have d2:((g * b:Nat) : Int) / (g:Int)=(b:Int):=by
  rw [Int.natCast_mul]
  exact Int.mul_ediv_cancel_left _ (by omega)
 rw [d1,d2]
 have hb:0 < b:=by
  rcases Nat.eq_zero_or_pos b with h | h
  ·subst h; omega
  ·exact h
 have hD:(0:Int) < ((g * a * b:Nat) : Int):=by
  have:0 < g * a * b:=Nat.mul_pos p1 hb
  omega
 have gg:G (q.num * (b:Int) + r.num * (a:Int)) (g:Int)=G (q.num * (b:Int) + r.num * (a:Int)) ((g * a * b:Nat) : Int):=by
  rw [G_eq (by omega),G_eq (by omega),Int.natAbs_natCast,Int.natAbs_natCast,wY r1 r2 cab]
 have es:Rat.divInt (q.num * (b:Int) + r.num * (a:Int)) ((g * a * b:Nat) : Int)=s:=by
  rw [<- aq,<- Rat.divInt_mul_right (n:=q.num * (b:Int) + r.num * (a:Int)) (d:=((g * a * b:Nat) : Int)) (a:=(g:Int)) (by omega)]
  congr 1
  ·simp only [Int.natCast_mul,Int.add_mul]
   rw [Int.mul_assoc,Int.mul_assoc,Int.mul_comm (b:Int),Int.mul_comm (a:Int)]
  ·simp only [Int.natCast_mul]
   rw [Int.mul_assoc ((g:Int) * a),Int.mul_comm (b:Int)]
 have dv:G (q.num * (b:Int) + r.num * (a:Int)) (g:Int) ∣ ((g * a:Nat) : Int):=by
  rw [Int.natCast_mul]
  exact Int.dvd_trans (G_dvd _ _).2 (Int.dvd_mul_right _ _)
 refine ⟨?_,?_⟩
 ·rw [gg,num_low hD,es]
 ·rw [<- Int.mul_ediv_assoc' _ dv,gg,<- Int.natCast_mul,den_low hD,es]
end M
namespace L2
open PySem PySem.Spec PyProof.Rows
theorem cI.there {P:Program}{w:World}{H:Hp}{h:Heap}{a:Addr}{o:HO}(x:cI P w H h a o) : ∃ ob,h.get? a=some ob:=by
 cases o with
 | lst xs=>obtain ⟨_,_,_,_,e⟩:=x; exact ⟨_,e⟩
 | tup xs=>obtain ⟨_,_,_,ob,e,_⟩:=x; exact ⟨ob,e⟩
 | dK kvs=>obtain ⟨_,_,_,_,o,_,_,e,_⟩:=x; exact ⟨o,e⟩
 | dT kvs=>obtain ⟨_,_,_,_,o,_,_,e,_⟩:=x; exact ⟨o,e⟩
 | set S n=>obtain ⟨o,_,_,_,e,_⟩:=x; exact ⟨o,e⟩
 | ins C dx fs=>obtain ⟨_,_,_,e,_⟩:=x; exact ⟨_,e⟩
 | own y=>exact x
 | xd fs=>obtain ⟨_,⟨_,_,_,e,_⟩,_⟩:=x; exact ⟨_,e⟩
 | rng lo hi=>obtain ⟨_,_,_,e⟩:=x; exact ⟨_,e⟩
 | frz ob u=>obtain ⟨e,_⟩:=x; exact ⟨_,e⟩
 | tbl ps=>exact ⟨_,x⟩
 | met f y=>exact ⟨_,x⟩
 | ext φ=>obtain ⟨_,e,_⟩:=x; exact e
structure Fly (P:Program) (w:World) (outer:List Env) (H:Hp) (s:Shared) (cls:Value) (H':Hp) (ea:Addr) (B:Heap) (a0:Value) (s':Shared) : Prop where
 os:s'.os=s.os
 bare:AllBare s'.gens
 new:s.heap.get? ea=none
 un:Un (jI outer) [] H H' s.heap s'.heap
 hok:g9 P w H' s'.heap
 keepB:∀ b o,s.heap.get? b=some o->H b=none->b ∉ jI outer->B.get? b=some o
 tracked:∀ b u,H' b=some u->∃ o,s'.heap.get? b=some o/\B.get? b=some o
 thB:∀ b o,s.heap.get? b=some o->b ∉ jI outer->∃ o',B.get? b=some o'
 fly:Heap.FlyingW B outer ea cls a0 s'.heap
def cK (P:Program)(w:World) : uD:=fun outer H s E e s'=>∃ (ea:Addr) (cls:Value) (H':Hp) (B:Heap) (a0:Value),e = .ref ea/\Fly P w outer H s cls H' ea B a0 s'/\E cls none H'
section
variable {P:Program}{w:World}{outer:List Env}{H H':Hp}{s s':Shared}{cls a0:Value}{ea:Addr}{B h':Heap}
end
section
variable {X:Cx}{pins:List (Addr × Obj)}{σ:St}{H:Hp}{s s':Shared}{M:Model}{E:Value->Shared->Prop}{Q:Unit->Shared->Prop}
theorem Inv.notStk (I:Inv X pins σ H s){b:Addr}{o:Obj}(e:X.s₀.heap.get? b=some o)(hb:b ∉ X.fs) : b ∉ jI X.stack:=fun z =>
 (List.mem_cons.mp (I.stkSub b z)).elim (fun q=>absurd q (Nat.ne_of_lt (Nat.lt_of_lt_of_le (Heap.lt_size e) I.ok.above))) hb
theorem wK (I:Inv X pins σ H s) (hst:X.stack=X.env :: X.outer) (hf:X.env.frame=some X.env.locals) (hex:X.ex = []) {h1:Heap}{ea:Addr}{cls:Value}{args:List Value}(hx:Heap.MadeExcOf s.heap h1 ea cls args)
  (k:∀ h' a0,Fly X.prog X.w X.outer X.H₀ X.s₀ cls H ea (PySem.W.hideAll s.heap (jI X.stack)) a0 { s with heap:=h' }->Q () { s with heap:=h' }) :
  wpAny M X.A (leaving X.env (.ref ea)) Q E { s with heap:=h1 }:=by
 have noex:∀ b:Addr,b ∉ X.ex:=fun b z=>by rw [hex] at z; cases z
 have hin:∀ env∈X.stack,∀ a,env.frame=some a->a∈jI X.stack:=fun env he a ha=>List.mem_filterMap.mpr ⟨env,he,ha⟩
 have hl:s.heap.FunFrames (PySem.W.hideAll s.heap (jI X.stack)) (X.env :: X.outer):=by
  have z:=PySem.W.funFrames_hide I.stack hin
  rw [hst] at z ⊢
  exact z
 refine wpAny_leaves_madeW (base:=PySem.W.hideAll s.heap (jI X.stack)) (h:=s.heap) (by rw [I.ok.frames,hst]) hf (fun b o q=>PySem.W.of_hideAll _ q) hl hx fun h' t x1 _ _ x4=>k h' (.ref t) ?_
 have st:=x1.1
 have nstk:∀ b u,H b=some u->b ∉ jI X.stack:=fun b u e z=>by rw [I.stkFree b z] at e; cases e
 have tr:∀ b u,H b=some u->∃ o,s.heap.get? b=some o/\h'.get? b=some o/\(PySem.W.hideAll s.heap (jI X.stack)).get? b=some o:=fun b u e=>by
  obtain ⟨o,ho⟩:=(I.hok b u e).there
  have q:=PySem.W.hideAll_get (jI X.stack) ho (nstk b u e)
  exact ⟨o,ho,st b o q,q⟩
 refine ⟨I.os,I.bare,?_,⟨fun b o e n hb _=>?_,fun b o e n hb _=>?_,fun b o e n _=>I.base.free b o e n (noex b),fun b o e _=>?_,I.base.tups,I.base.frzs,I.base.tbls⟩,fun a u e=>?_,fun b o e n hb=>?_,fun b u e=>?_,fun b o e hb=>?_,x1⟩
 ·cases q:X.s₀.heap.get? ea with
  | none=>rfl
  | some o =>
   obtain ⟨o',e⟩:=I.base.there ea o q (noex ea)
   rw [hx.new] at e
   cases e
 ·exact st b o (PySem.W.hideAll_get _ (I.base.keep b o e n hb (noex b)) (I.notStk e hb))
 ·obtain ⟨sl,e1⟩:=I.base.slot b o e n hb (noex b)
  obtain ⟨_,o2,ho2,nf⟩:=I.funs.mem hb
  rw [e1] at ho2
  cases ho2
  obtain ⟨sl',e2⟩:=x4 b _ (hx.keeps b _ e1) nf
  exact ⟨sl',e2⟩
 ·by_cases hb:b∈X.fs
  ·obtain ⟨_,o2,ho2,nf⟩:=I.funs.mem hb
   obtain ⟨sl',e2⟩:=x4 b _ (hx.keeps b _ ho2) nf
   exact ⟨_,e2⟩
  ·obtain ⟨o',e'⟩:=I.base.there b o e (noex b)
   exact ⟨o',st b o' (PySem.W.hideAll_get _ e' (I.notStk e hb))⟩
 ·refine (I.hok a u e).stay (fun b v hb q=>?_) (fun _ q=>q) fun _ _ q=>q
  have z:∃ u',H b=some u':=by
   rcases hb with z | z
   ·rw [z]; exact ⟨u,e⟩
   ·exact ⟨_,z⟩
  obtain ⟨u',e'⟩:=z
  obtain ⟨o,e1,e2,_⟩:=tr b u' e'
  rw [q] at e1
  cases e1
  exact e2
 ·exact PySem.W.hideAll_get _ (I.base.keep b o e n hb (noex b)) (I.notStk e hb)
 ·obtain ⟨o,_,e2,e3⟩:=tr b u e
  exact ⟨o,e2,e3⟩
 ·obtain ⟨o',e'⟩:=I.base.there b o e (noex b)
  exact ⟨o',PySem.W.hideAll_get _ e' (I.notStk e hb)⟩
theorem fly_on (I:Inv X pins σ H s) (hst:X.stack=X.env :: X.outer) (hf:X.env.frame=some X.env.locals) (hex:X.ex = []) {H':Hp}{ea:Addr}{cls a0:Value}{B:Heap}(F:Fly X.prog X.w X.stack H s cls H' ea B a0 s')
  (k:∀ h',Fly X.prog X.w X.outer X.H₀ X.s₀ cls H' ea B a0 { s' with heap:=h' }->Q () { s' with heap:=h' }) : wpAny M X.A (leaving X.env (.ref ea)) Q E s':=by
 have noex:∀ b:Addr,b ∉ X.ex:=fun b z=>by rw [hex] at z; cases z
 have sub:∀ b∈X.fs,b∈jI X.stack:=fun b hb=>by
  rw [hst]
  obtain ⟨env,he,hf'⟩:=List.mem_filterMap.mp hb
  exact List.mem_filterMap.mpr ⟨env,List.mem_cons_of_mem _ he,hf'⟩
 refine wpAny_leaves_onW (by rw [I.ok.frames,hst]) hf (by have z:=F.fly; rw [hst] at z; exact z) fun h' x1 x2=>k h' ?_
 have st:=x1.1
 have ff:=F.fly.2.2.1
 refine ⟨F.os.trans I.os,F.bare,?_,⟨fun b o e n hb _=>?_,fun b o e n hb _=>?_,fun b o e n _=>?_,fun b o e _=>?_,fun b xs e=>F.un.tups b xs (I.base.tups b xs e),fun b o u e=>F.un.frzs b o u (I.base.frzs b o u e),fun b ps e=>?_⟩,fun a u e=>?_,fun b o e n hb=>?_,fun b u e=>?_,fun b o e hb=>?_,x1⟩
 ·cases q:X.s₀.heap.get? ea with
  | none=>rfl
  | some o =>
   obtain ⟨o',e⟩:=I.base.there ea o q (noex ea)
   rw [F.new] at e
   cases e
 ·exact st b o (F.keepB b o (I.base.keep b o e n hb (noex b)) (I.base.free b o e n (noex b)) (I.notStk e hb))
 ·obtain ⟨sl,e1⟩:=I.base.slot b o e n hb (noex b)
  obtain ⟨sl2,e2⟩:=F.un.slot b _ e1 (I.base.free b o e n (noex b)) (sub b hb) (by simp)
  obtain ⟨_,o2,ho2,nf⟩:=ff.mem (sub b hb)
  rw [e2] at ho2
  cases ho2
  obtain ⟨sl',e3⟩:=x2 b _ e2 nf
  exact ⟨sl',e3⟩
 ·obtain ⟨o',e'⟩:=I.base.there b o e (noex b)
  exact F.un.free b o' e' (I.base.free b o e n (noex b)) (by simp)
 ·by_cases hb:b∈X.fs
  ·obtain ⟨_,o2,ho2,nf⟩:=ff.mem (sub b hb)
   obtain ⟨sl',e3⟩:=x2 b _ ho2 nf
   exact ⟨_,e3⟩
  ·obtain ⟨o',e'⟩:=I.base.there b o e (noex b)
   obtain ⟨o2,e2⟩:=F.thB b o' e' (I.notStk e hb)
   exact ⟨o2,st b o2 e2⟩
 ·obtain ⟨m1,e1⟩:=I.base.tbls b ps e
  obtain ⟨m2,e2⟩:=F.un.tbls b _ e1
  exact ⟨m1 ++ m2,by rw [e2,Array.append_assoc]⟩
 ·refine (F.hok a u e).stay (fun b v hb q=>?_) (fun _ q=>q) fun _ _ q=>q
  have z:∃ u',H' b=some u':=by
   rcases hb with z | z
   ·rw [z]; exact ⟨u,e⟩
   ·exact ⟨_,z⟩
  obtain ⟨u',e'⟩:=z
  obtain ⟨o,e1,e2⟩:=F.tracked b u' e'
  rw [q] at e1
  cases e1
  exact st b v e2
 ·exact F.keepB b o (I.base.keep b o e n hb (noex b)) (I.base.free b o e n (noex b)) (I.notStk e hb)
 ·obtain ⟨o,_,e2⟩:=F.tracked b u e
  exact ⟨o,st b o e2,e2⟩
 ·obtain ⟨o',e'⟩:=I.base.there b o e (noex b)
  exact F.thB b o' e' (I.notStk e hb)
end
section
variable {P:Program}{w:World}{K:PySem.W.Frag}{mg:Str->Option Value}{base:Heap}
theorem aL {N:List Str}{qual:Str}{scope:Scope}{f:Addr}{cd:Value}{A:Around}{outer:List Env}{s:Shared}{H:Hp}{E E':XK}(hE:∀ cls H',E' cls none H'->E cls none H') :
  nF (cK P w) (iG (cK P w) P w K mg base N qual scope f cd A outer s H E) E':=fun pins σ H1 s1 e s' I h=>by
 obtain ⟨ea,cls,H',B,a0,rfl,F,q⟩:=h
 exact fly_on I rfl rfl rfl F fun h' F'=>⟨ea,cls,H',B,a0,rfl,F',hE _ _ q⟩
theorem Fun.okx {x qual:Str}{st:Stmt}{f:Addr}{fd:FuncData}{N ps:List Str}{k:Nat}{sp:Sp}(F:Fun K x qual st f fd) (S:FnScope N ps (aQ st)) (len:∀ vs H Q E,sp vs H Q E->vs.length=ps.length)
  (hbody:∀ (cdv:Value) (A:Around) (outer:List Env) (s:Shared) (H:Hp) (vs:List V) (Q:VK) (E:XK),Room k (A.deeper (envOfC qual (aQ st) s.heap.objs.size f cdv))->sp vs H Q E ->
   ∃ t,xX (iG (cK P w) P w K mg base N qual (aQ st) f cdv A outer s H E) (gL st) t/\t { nx:=fun _ H'=>Q .non H',rt:=Q } (start N vs) H) : FnOk P w K mg base (cK P w) (k + 1) f fd ps sp:=by
 obtain ⟨oc,od,kV,doc,pm,an,cdv,ct,osl,rfl,lk,hcd⟩:=F.ex
 refine fn_of lk hcd S len fun A outer s H vs Q E hr hsp=>?_
 exact hbody cdv A outer s H vs Q E hr hsp
end
structure Exc (K:PySem.W.Frag) (mg:Str->Option Value) (x:Str) (C:Addr) : Prop where
 at':mg x=some (.ref C)
 ex:PySem.W.excIn K C [.type "ValueError", .type "Exception", .type "BaseException", .type "object"] "ValueError.__new__" = true
theorem Exc.obj {K:PySem.W.Frag}{mg:Str->Option Value}{x:Str}{C:Addr}{h:Heap}(T:Exc K mg x C)(KX:K.In h) : OwnCls x C [.type "ValueError", .type "Exception", .type "BaseException", .type "object"] "ValueError.__new__" mg h:=by
 refine ⟨T.at',?_⟩
 have q:=T.ex
 unfold PySem.W.excIn at q
 split at q
 ·rename_i dd cd sl ho
  split at q
  ·rename_i CC bm k0 k1 k2 k3 nw k5 hm hs
   simp only [beq_iff_eq,Bool.and_eq_true,Bool.not_eq_true'] at q
   obtain ⟨⟨⟨⟨⟨r1,r2⟩,r3⟩,r4⟩,r5⟩,r6⟩:=q
   subst r1
   subst r2
   obtain ⟨nm,bs,mr,ns,qn,hd,sn,sub,ab,col,dl⟩:=cd
   dsimp only at hm r3 r5 r6
   subst hm
   subst r3
   have hsl:sl = #[k0,k1,k2,k3,some (.builtin "ValueError.__new__"),k5]:=by
    obtain ⟨l⟩:=sl
    simp only at hs
    rw [hs]
   subst hsl
   exact ⟨bm,ns,nm,qn,bs,hd,sn,sub,ab,col,dd,k0,k1,k2,k3,k5,_,KX _ _ ho,.of_isNs (PySem.W.isNs_of_in KX r5),PySem.W.nsMap_none_of_in KX r5 r6,PySem.W.tail_of_in KX r4⟩
  ·cases q
 ·cases q
def tRaise (t:TA)(C:Addr)(E:XK) : TS:=fun _ σ H=>t σ H fun vs H1=>vs.length<=sizeLine/\E (.ref C) none H1
section
variable {P:Program}{w:World}{K:PySem.W.Frag}{mg:Str->Option Value}{base:Heap}{N:List Str}{qual:Str}{scope:Scope}{f C:Addr}{cd:Value}{A:Around}{outer:List Env}{s₀:Shared}{H₀:Hp}{E:XK}{x:Str}{e:Expr}{es:List Expr}{t:TA}{np cpos pos:Pos}
theorem nV (T:Exc K mg x C) (hg:Gl (iG (cK P w) P w K mg base N qual scope f cd A outer s₀ H₀ E) x) (ha:PA (iG (cK P w) P w K mg base N qual scope f cd A outer s₀ H₀ E) (e :: es) t) (hd:(x == ("__debug__" : Str))=false:=by decide)
  (he:starEach (e :: es) (envOfC qual scope s₀.heap.objs.size f cd)=(false,eval e (envOfC qual scope s₀.heap.objs.size f cd)) :: starEach es (envOfC qual scope s₀.heap.objs.size f cd):=by rfl)
  (hpl:(backTo cpos (starEach es (envOfC qual scope s₀.heap.objs.size f cd))).any (·.1)=false:=by rfl) :
  PS (iG (cK P w) P w K mg base N qual scope f cd A outer s₀ H₀ E) (.Raise (some (.Call (.Name x np) (e :: es) [] cpos)) none pos) (tRaise t C E):=by
 intro pins s σ H D I h
 obtain ⟨tl,N',nm,q,bs,hdct,sn,sub,ab,col,dd,k0,k1,k2,k3,k5,mN,hC,hN,hni,TL⟩:=(T.obj I.ok.mod.kin).obj
 have hA:=ha cpos pins s σ H _ I h
 refine wpAny_Raise_call_subT (C:=C) (nm:=nm) (q:=q) (N:=N') (bs:=bs) (bm:=tl) (hdct:=hdct) (sn:=sn) (sub:=sub) (ab:=ab) (col:=col) (dd:=dd) (k0:=k0) (k1:=k1) (k2:=k2) (k3:=k3) (k5:=k5)
  PySem.F.excBase_ValueError (mN:=mN) (TL.hasType PySem.F.excBase_ValueError.hasBase) (I.ok.hd rfl) ?_ hni (rM I hg T.at' ⟨rfl,?_⟩ hd)
 ·show (backTo cpos (starEach (e :: es) (envOfC qual scope s₀.heap.objs.size f cd))).any (·.1)=false
  rw [he]
  show (false || (backTo cpos (starEach es (envOfC qual scope s₀.heap.objs.size f cd))).any (·.1))=false
  rw [hpl]
  rfl
 ·have hA':wpAny (model P w) (A.deeper (envOfC qual scope s₀.heap.objs.size f cd)) (spliced (backTo cpos (starEach (e :: es) (envOfC qual scope s₀.heap.objs.size f cd)))) _ _ s:=hA
  show wpAny (model P w) (A.deeper (envOfC qual scope s₀.heap.objs.size f cd)) (evalArgs (.ref C) true (backTo cpos (starEach (e :: es) (envOfC qual scope s₀.heap.objs.size f cd))) []) _ _ s
  rw [he] at hA' ⊢
  refine Calls.evalArgs_plain (wpAny_mono hA' (fun us s1 hq=>?_) fun _ _ y=>y)
  obtain ⟨vs,H1,I1,r1,z,q1⟩:=hq
  refine ⟨rfl,by rw [<- r1.length]; exact z,I1.bk _ _ hC,hN.keeps I1.bk,TL.keeps I1.bk,fun h' e' hm=>?_⟩
  exact wK I1 rfl rfl rfl hm fun h2 a0 F=>⟨e',.ref C,H1,_,a0,rfl,F,q1⟩
end
section
variable {X:Cx}{k:Nat}{f C:Addr}{fd:FuncData}{ps:List Str}{sp:Sp}{dvs:List V}{ds:List Value}{x m:Str}{p pos apos:Pos}{e o:Expr}{es:List Expr}{ta:TE}{t:TA}
end
structure ExcI (K:PySem.W.Frag) (C:Addr) : Prop where
 ga:PySem.W.findIn K (.ref C) "__getattribute__" = some (some (.builtin "BaseException.__getattribute__"))
 gt:PySem.W.findIn K (.ref C) "__getattr__" = some none
 cl:PySem.W.findIn K (.ref C) "__class__" = some (some (.builtin "object.__class__"))
 mb:PySem.W.mroIn K C (.type "BaseException")=some true
 mo:PySem.W.mroIn K C (.type "object")=some true
section
variable {prog:Program}{w:World}{A:Around}{E:Value->Shared->Prop}{h:Heap}{g:Array GenState}{d:Drawn}{t:Nat}{os:OsState}{a C:Addr}{o:Obj}{vs:Array Value}{K:PySem.W.Frag}
end
section
variable {X:Cx}
end
def eG (cells:List (Str × Addr)) : List (Str × NameKind)->List (Str × Addr)->List (Str × Addr)
 | [],acc=>acc
 | (n,k) :: r,acc=>if k == .free then (match cells.lookup n with | some c=>eG cells r ((n,c) :: acc) | none=>eG cells r acc) else eG cells r acc
theorem gD {cells:List (Str × Addr)} : ∀ {names:List (Str × NameKind)}{acc:List (Str × Addr)},(∀ x c,acc.lookup x=some c->cells.lookup x=some c)->∀ x c,(eG cells names acc).lookup x=some c->cells.lookup x=some c
 | [],_,h=>h
 | (n,k) :: r,acc,h=>by
  intro x c
  unfold eG
  split
  ·split
   ·rename_i c' hc
    refine gD (names:=r) (fun y d hy=>?_) x c
    rw [List.lookup_cons] at hy
    by_cases e:y == n
    ·rw [e] at hy
     cases hy
     rw [beq_iff_eq.mp e]
     exact hc
    ·rw [Bool.eq_false_iff.mpr e] at hy
     exact h y d hy
   ·exact gD (names:=r) h x c
  ·exact gD (names:=r) h x c
theorem gM {cells:List (Str × Addr)} : ∀ {names:List (Str × NameKind)}{acc:List (Str × Addr)}{x:Str},(∃ c,acc.lookup x=some c)->∃ c,(eG cells names acc).lookup x=some c
 | [],_,_,h=>h
 | (n,k) :: r,acc,x,h=>by
  unfold eG
  split
  ·split
   ·refine gM (names:=r) ?_
    rw [List.lookup_cons]
    by_cases e:x == n
    ·rw [e]; exact ⟨_,rfl⟩
    ·rw [Bool.eq_false_iff.mpr e]; exact h
   ·exact gM (names:=r) h
  ·exact gM (names:=r) h
theorem iI {cells:List (Str × Addr)} : ∀ {names:List (Str × NameKind)}{acc:List (Str × Addr)}{x:Str},(x,NameKind.free)∈names->(∃ c,cells.lookup x=some c)->∃ c,(eG cells names acc).lookup x=some c
 | [],_,_,h,_=>by cases h
 | (n,k) :: r,acc,x,h,hc=>by
  unfold eG
  rcases List.mem_cons.mp h with e | e
  ·cases e
   obtain ⟨c,hc⟩:=hc
   rw [hc]
   refine gM (names:=r) ⟨c,?_⟩
   rw [List.lookup_cons,beq_self_eq_true]
  ·split
   ·split
    ·exact iI (names:=r) e hc
    ·exact iI (names:=r) e hc
   ·exact iI (names:=r) e hc
theorem gS {scope:Scope}{env:Env}(h:∀ y∈scope.names,y.2 = .free->∃ c,env.cells.lookup y.1=some c) : closureFor scope env=pure (eG env.cells scope.names []):=by
 have gen:∀ (names:List (Str × NameKind)) (acc:List (Str × Addr)),(∀ y∈names,y.2 = .free->∃ c,env.cells.lookup y.1=some c) ->
   (forIn names acc fun (x:Str × NameKind) r=>(if x.2 == NameKind.free then do let c <- cellOf env x.1; pure (ForInStep.yield ((x.1,c) :: r)) else pure (ForInStep.yield r) : Sem (ForInStep (List (Str × Addr)))))=pure (eG env.cells names acc):=by
  intro names
  induction names with
  | nil=>intro acc _; rfl
  | cons y r ih =>
   intro acc h
   obtain ⟨n,k⟩:=y
   have hr:∀ y∈r,y.2 = .free->∃ c,env.cells.lookup y.1=some c:=fun y hy=>h y (List.mem_cons_of_mem _ hy)
   rw [List.forIn_cons]
   unfold eG
   by_cases e:(k == NameKind.free)=true
   ·obtain ⟨c,hc⟩:=h (n,k) List.mem_cons_self (by simpa using e)
    rw [if_pos e,hc]
    have hcell:cellOf env n=pure c:=by
     unfold cellOf
     rw [show env.cells.lookup n=some c from hc]
    simp only [if_pos e,hcell,pure_bind]
    exact ih _ hr
   ·rw [if_neg e]
    simp only [if_neg e,pure_bind]
    exact ih _ hr
 unfold closureFor
 have g:=gen scope.names [] h
 simp only [bind_pure]
 exact g
def rlb (env:Env)(names:List (Str × NameKind)) : List (Str × NameKind):=names.map fun (n,k)=>if (k == NameKind.free && env.scope.kind == .function && env.kindOf n == some .cell) then (n,NameKind.cell) else (n,k)
theorem jP {env:Env} : ∀ {names:List (Str × NameKind)}{x:Str},(rlb env names).lookup x=(names.lookup x).map fun k=>if (k == NameKind.free && env.scope.kind == .function && env.kindOf x == some .cell) then NameKind.cell else k
 | [],_=>rfl
 | (n,k) :: r,x=>by
  have ih := @jP env r x
  show List.lookup x ((if (k == NameKind.free && env.scope.kind == .function && env.kindOf n == some .cell)=true then (n,NameKind.cell) else (n,k)) :: rlb env r)=_
  rw [List.lookup_cons]
  cases hx:x == n with
  | true =>
   have e:=beq_iff_eq.mp hx
   subst e
   by_cases hc:(k == NameKind.free && env.scope.kind == .function && env.kindOf x == some .cell)=true
   ·rw [if_pos hc,List.lookup_cons,beq_self_eq_true]
    show _=some (if (k == NameKind.free && env.scope.kind == .function && env.kindOf x == some .cell)=true then NameKind.cell else k)
    rw [if_pos hc]
   ·rw [if_neg hc,List.lookup_cons,beq_self_eq_true]
    show _=some (if (k == NameKind.free && env.scope.kind == .function && env.kindOf x == some .cell)=true then NameKind.cell else k)
    rw [if_neg hc]
  | false =>
   by_cases hcond:(k == NameKind.free && env.scope.kind == .function && env.kindOf n == some .cell)=true
   ·rw [if_pos hcond,List.lookup_cons,hx]; exact ih
   ·rw [if_neg hcond,List.lookup_cons,hx]; exact ih
theorem eC {names:List (Str × NameKind)}{x:Str}{k:NameKind}(h:names.lookup x=some k) : (x,k)∈names:=PySem.mem_of_lookup h
def lcN (X:Cx)(ts:List Str)(js:List Nat) : List Str:=ts ++ js.map fun j=>X.N.getD j ""
def kW (ts:List Str)(js:List Nat)(σ:St) : St:=ts.map (fun _=>none) ++ js.map fun j=>(σ[j]?).join
abbrev Cx.lc (X:Cx) (scope:Scope) (ts:List Str) (js:List Nat) (C:Addr) (s2:Shared) (H2:Hp) (fp:List Addr) : Cx :=
 { X with N:=lcN X ts js,s₀:=s2,H₀:=H2,env:=compEnvC scope (eG X.env.cells scope.names []) C X.env,outer:=X.stack,ex:=fp,fn:=fun _=>false,pn:=[],xe:=fun _ _=>False }
structure LcOk (X:Cx) (scope:Scope) (js:List Nat) : Prop where
 kind:scope.kind = .function
 cell:∀ y∈scope.names,y.2 ≠ .cell
 names:∀ y∈scope.names,y.2 = .local->scope.names.lookup y.1=some .local
 free:∀ y∈scope.names,y.2 = .free->X.env.kindOf y.1=some .cell\/X.env.kindOf y.1=some .free
 cap:∀ j∈js,scope.names.lookup (X.N.getD j "")=some .free
section
variable {X:Cx}{scope:Scope}{ts:List Str}{js:List Nat}{pins:List (Addr × Obj)}{σ:St}{H H':Hp}{s:Shared}{h':Heap}
theorem wN {C:Addr}{fp:List Addr}{t':Nat}(L:LcOk X scope js) (I:Inv X pins σ H s) (hC:s.heap.objs.size<=C) (hns:h'.Ns C fun _=>none) (kept:∀ b o,s.heap.get? b=some o->h'.get? b=some o)
  (hfp:∀ b∈fp,hG X pins H b) (hob:∀ b∈fp,∃ o,s.heap.get? b=some o) : Inv (X.lc scope ts js C s H fp) [] (kW ts js σ) H { s with heap:=h',toks:=t' }:=by
 have sub:∀ x c,(eG X.env.cells scope.names []).lookup x=some c->X.env.cells.lookup x=some c:=gD (names:=scope.names) (acc:=[]) (fun _ _ z=>by cases z)
 have hasc:∀ x,scope.names.lookup x=some .free->∃ c,(eG X.env.cells scope.names []).lookup x=some c:=fun x hx =>
  iI (eC hx) (I.ok.has x (L.free _ (eC hx) rfl))
 have kinds:∀ x,(compEnvC scope (eG X.env.cells scope.names []) C X.env).kindOf x=(scope.names.lookup x).map fun k=>if (k == NameKind.free && X.env.scope.kind == .function && X.env.kindOf x == some .cell) then NameKind.cell else k:=fun x=>jP
 have ltC:∀ b o,s.heap.get? b=some o->b ≠ C:=fun b o e=>Nat.ne_of_lt (Nat.lt_of_lt_of_le (Heap.lt_size e) hC)
 have fromFree:∀ x,((compEnvC scope (eG X.env.cells scope.names []) C X.env).kindOf x=some .cell\/(compEnvC scope (eG X.env.cells scope.names []) C X.env).kindOf x=some .free)->scope.names.lookup x=some .free:=fun x hx=>by
  rw [kinds] at hx
  cases q:scope.names.lookup x with
  | none=>rw [q] at hx; rcases hx with z | z <;> cases z
  | some k =>
   rw [q] at hx
   have hk:k ≠ .cell:=L.cell _ (eC q)
   cases k with
   | free=>rfl
   | cell=>exact absurd rfl hk
   | _=>rcases hx with z | z <;> cases z
 refine ⟨⟨I.ok.mod,L.kind,I.ok.glob,I.ok.blt,hC,fun x y c h1 h2=>I.ok.inj x y c (sub x c h1) (sub y c h2),fun x hx=>hasc x (fromFree x hx),fun _ _ z=>Bool.noConfusion z,I.ok.hd,I.ok.frames,.inl rfl,fun b hb=>?_,I.bs,Nat.le_trans I.ok.bsz I.sz,fun b o e hb=>?_,fun b hb z=>?_,I.stack,I.stkFree⟩,
  rfl,I.bare,Un.kept kept,⟨_,hns,fun i x v h1 h2 h3=>?_⟩,fun x c e=>?_,I.hok.fresh hC,fun x c e=>I.freeC x c (sub x c e),fun p hp=>absurd (show p∈([] : List (Addr × Obj)) from hp) (by simp),I.hok.kept kept,?_⟩
 ·obtain ⟨o,e⟩:=hob b hb
  exact ⟨ltC b o e,fun x c q=>(hfp b hb).2.2.2.2.1 x c (sub x c q)⟩
 ·rcases (hfp b hb).2.2.2.1 with z | z
  ·exact I.ok.noex b o e z
  ·exact absurd (Nat.lt_of_lt_of_le (Heap.lt_size e) (Nat.le_trans I.ok.bsz z)) (Nat.lt_irrefl _)
 ·exact (List.mem_cons.mp (I.stkSub b z)).elim (hfp b hb).2.1 (hfp b hb).2.2.1
 ·have hi:¬ i < ts.length:=fun hi=>by
   have h2':(kW ts js σ)[i]? = some (some v):=h2
   unfold kW at h2'
   rw [List.getElem?_append_left (by simpa using hi),List.getElem?_map,List.getElem?_eq_getElem hi] at h2'
   cases h2'
  have h2':(kW ts js σ)[i]? = some (some v):=h2
  have h1':(lcN X ts js)[i]? = some x:=h1
  unfold kW at h2'
  unfold lcN at h1'
  rw [List.getElem?_append_right (by simpa using hi),List.getElem?_map,List.length_map] at h2'
  rw [List.getElem?_append_right (by omega),List.getElem?_map] at h1'
  cases q:js[i - ts.length]? with
  | none=>rw [q] at h1'; cases h1'
  | some j =>
   rw [q] at h1' h2'
   have e1:X.N.getD j "" = x:=Option.some.inj h1'
   have e2:(σ[j]?).join=some v:=Option.some.inj h2'
   have e3:σ[j]? = some (some v):=by
    cases z:σ[j]? with
    | none=>rw [z] at e2; cases e2
    | some o=>rw [z] at e2; exact congrArg some e2
   have hj:j < X.N.length:=by rw [<- I.len]; exact (List.getElem?_eq_some_iff.mp e3).1
   have e4:X.N[j]? = some x:=by
    rw [List.getElem?_eq_getElem hj,<- e1,List.getD_eq_getElem?_getD,List.getElem?_eq_getElem hj]; rfl
   have hf:=L.cap j (List.mem_of_getElem? q)
   rw [e1] at hf
   have hk:=L.free _ (eC hf) rfl
   obtain ⟨m,hn,hl⟩:=I.loc
   have vis:Vis X.env.scope x:=by
    rcases hk with z | z
    ·exact .inr (.inl z)
    ·exact .inr (.inr z)
   obtain ⟨u,r,l⟩:=hl j x v e4 e3 vis
   refine ⟨u,r,?_⟩
   rcases l with ⟨z,_⟩ | ⟨_,c,hc,hcell⟩
   ·have z':X.env.kindOf x=some .local:=z
    rcases hk with k | k
    ·rw [z'] at k; cases k
    ·rw [z'] at k; cases k
   ·obtain ⟨c',hc'⟩:=hasc x hf
    have e5:=sub x c' hc'
    rw [hc] at e5
    cases e5
    refine .inr ⟨?_,c,hc',?_⟩
    ·rw [kinds,hf]
     by_cases z:((NameKind.free == NameKind.free) && X.env.scope.kind == .function && X.env.kindOf x == some .cell)=true
     ·left; simp only [Option.map_some,if_pos z]
     ·right; simp only [Option.map_some,if_neg z]
    ·obtain ⟨o,ho,hd⟩:=hcell
     exact ⟨o,kept c o ho,hd⟩
 ·obtain ⟨v,o,ho,hd⟩:=I.cell x c (sub x c e)
  exact ⟨v,o,kept c o ho,hd⟩
 ·show (kW ts js σ).length=(lcN X ts js).length
  unfold kW lcN
  simp
end
def LcTurn (Mo:Model)(A:Around)(tgt elt:Expr)(tests:List Expr)(it lst:Value)(env:Env)(Fin:Shared->Prop)(Again:Shared->Prop)(s0:Shared) : Prop :=
 wpAny Mo A (pyNext it) (fun nx s1=>match nx with
  | none=>Fin s1
  | some v=>wpAny Mo A (letOwnedTupleGo tgt it v) (fun _ s2=>wpAny Mo A (assign tgt env v) (fun _ s3 =>
    wpAny Mo A (forIn tests true fun c ok=>if ok=true then (do let b <- isTrue c env (eval c env); pure (ForInStep.yield b)) else pure (ForInStep.yield ok)) (fun b s4 =>
     if b=true then wpAny Mo A (eval elt env) (fun y s5=>wpAny Mo A (call (.builtin "list.append") [lst,y]) (fun _ s6=>Again s6) (fun _ _=>False) s5) (fun _ _=>False) s4
     else Again s4) (fun _ _=>False) s3) (fun _ _=>False) s2) (fun _ _=>False) s1) (fun _ _=>False) s0
theorem oY {P:Program}{w:World}{A:Around}{R:Result->Shared->Prop}{s0:Shared}{elt tgt iter:Expr}{tests:List Expr}{scope:Scope}{pos:Pos}{it lst:Value}{env:Env}(Iv:Nat->Shared->Prop)
  (turn:∀ k sk,Iv k sk->LcTurn (model P w) A tgt elt tests it lst env (R (.ok .next)) (fun s'=>∃ j,j < k/\Iv j s') sk) (k0:Nat) (h0:Iv k0 s0) :
  codeAny (model P w) A (.compLoop (.ListComp elt [⟨tgt,iter,tests,0⟩] scope pos) 0 it lst env) R s0:=by
 refine codeAny_loop rfl Iv (fun k sk hk=>?_) k0 h0
 show wpAny (model P w) A ((compTurn (.ListComp elt [⟨tgt,iter,tests,0⟩] scope pos) 0 it lst env).onRaise fun ex=>do noteFrame ex env; theTreesLotGoes ex) _ _ sk
 refine wpAny_noted (wpAny_noRaise ?_)
 rw [compTurn_list]
 refine wpAny_bind (wpAny_standAt (wpAny_bind (cL (turn k sk hk) fun nx s1 q1=>?_)))
 cases nx with
 | none=>exact wpAny_pure q1
 | some v =>
  refine wpAny_bind (cL q1 fun _ s2 q2=>wpAny_bind (cL q2 fun _ s3 q3=>wpAny_bind (cL q3 fun b s4 q4=>?_)))
  cases b with
  | true=>exact wpAny_bind (wpAny_bind (cL q4 fun y s5 q5=>wpAny_bind (cL q5 fun _ s6 q6=>wpAny_pure (wpAny_pure ⟨rfl,q6⟩))))
  | false=>exact wpAny_pure ⟨rfl,q4⟩
def kK:St->St->Prop
 | [],[]=>True
 | none :: a,_ :: b=>kK a b
 | some v :: a,w :: b=>w=some v/\kK a b
 | [],_ :: _=>False
 | _ :: _,[]=>False
theorem kK.ok:∀ {a b:St},kK a b->a.length=b.length/\∀ (i:Nat) v,a[i]? = some (some v)->b[i]? = some (some v)
 | [],[],_=>⟨rfl,fun i v h=>by simp at h⟩
 | none :: a,_ :: b,h=>by
  obtain ⟨h1,h2⟩:=kK.ok (a:=a) (b:=b) h
  refine ⟨by simp [h1],fun i v hv=>?_⟩
  cases i with
  | zero=>simp at hv
  | succ i=>simpa using h2 i v (by simpa using hv)
 | some u :: a,w :: b,h=>by
  obtain ⟨h1,h2⟩:=kK.ok (a:=a) (b:=b) h.2
  refine ⟨by simp [h1],fun i v hv=>?_⟩
  cases i with
  | zero=>simpa [h.1] using hv
  | succ i=>simpa using h2 i v (by simpa using hv)
 | [],_ :: _,h=>False.elim h
 | none :: _,[],h=>False.elim h
 | some _ :: _,[],h=>False.elim h
def xS (X:Cx)(ifs:List Expr)(t:TT) : Prop :=
 ∀ (pins:List (Addr × Obj)) (s:Shared) (σ:St) (H:Hp) (Q:Bool->Hp->Prop),Inv X pins σ H s->t σ H Q ->
  wpAny (model X.prog X.w) X.A (forIn ifs true fun c r=>if r=true then do let ok <- isTrue c X.env (eval c X.env); pure (ForInStep.yield ok) else pure (ForInStep.yield r)) (TP X pins σ Q) X.xe s
def tYes:TT:=fun _ H Q=>Q true H
theorem d9 {X:Cx} : xS X [] tYes:=fun _ _ _ H _ I h=>wpAny_pure ⟨H,I,h⟩
theorem dJ {X:Cx}{c:Expr}{t:TT}(h:PT X c t) : xS X [c] t:=fun pins s σ H Q I hq=>by
 simp only [List.forIn_nil,List.forIn_cons,if_true]
 exact wpAny_bind (wpAny_bind (cL (h pins s σ H Q I hq) fun b s' hb=>wpAny_pure (wpAny_pure hb)))
def LcW (J:It)(ts:List Str)(js:List Nat)(g:TG)(tc:TT)(te:TE)(σ:St)(H1:Hp)(Q:VK) : Prop:=∃ (W:Nat->List V->Hp->Prop) (n:Nat),W 0 [] H1/\∀ i ys H,W i ys H ->
 (J.stop i H/\∀ p,H p=none->Q (.ref p) (upd H p (.lst ys))) \/
 (i < n/\J.go i H/\ys.length < sizeLine/\∀ x H',J.yld i H x H'->g x (kW ts js σ) H' fun σ2 H2=>kK (kW ts js σ) σ2/\tc σ2 H2 fun b H3=>if b=true then te σ2 H3 fun y H4=>W (i + 1) (ys ++ [y]) H4 else W (i + 1) ys H3)
abbrev Dp (α:Type):=Addr->Shared->Hp->List Addr->α
def tLc (wi:TI)(ts:List Str)(js:List Nat)(g:Dp TG)(tc:Dp TT)(te:Dp TE) : TE:=fun σ H Q=>wi σ H fun J H1=>∀ C s2 H2 fp,LcW J ts js (g C s2 H2 fp) (tc C s2 H2 fp) (te C s2 H2 fp) σ H1 Q
section
variable {X:Cx}{scope:Scope}{ts:List Str}{js:List Nat}{pins:List (Addr × Obj)}{σ:St}{H H':Hp}{s:Shared}{tg elt iter:Expr}{ifs:List Expr}{g:Dp TG}{tc:Dp TT}{te:Dp TE}{pos:Pos}{E:Value->Shared->Prop}
theorem Inv.track {D:Addr}{o:HO}(I:Inv X pins σ H s)(f:hG X pins H D)(hD:X.s₀.heap.objs.size<=D)(new:cI X.prog X.w (upd H D o) s.heap D o) : Inv X pins σ (upd H D o) s:=by
 obtain ⟨f0,f1,f2,f3,f4,f5⟩:=f
 have ne:∀ b u,H b=some u->b ≠ D:=fun b u e z=>by rw [z,f0] at e; cases e
 have ne0:∀ b ob,X.s₀.heap.get? b=some ob->b ≠ D:=fun b ob e=>Nat.ne_of_lt (Nat.lt_of_lt_of_le (Heap.lt_size e) hD)
 refine ⟨I.ok,I.os,I.bare,⟨I.base.keep,I.base.slot,fun b ob e n hx=>?_,I.base.there,fun b xs e=>?_,fun b ob u e=>?_,fun b ps e=>?_⟩,I.loc,I.cell,?_,fun x c e=>?_,fun p hp=>?_,fun a u e=>?_,I.len⟩
 ·rw [aR (ne0 b ob e)]; exact I.base.free b ob e n hx
 ·have q:=I.base.tups b xs e
  rw [aR (ne b _ q)]; exact q
 ·have q:=I.base.frzs b ob u e
  rw [aR (ne b _ q)]; exact q
 ·obtain ⟨m,q⟩:=I.base.tbls b ps e
  exact ⟨m,by rw [aR (ne b _ q)]; exact q⟩
 ·rw [aR (Ne.symm f1)]; exact I.free
 ·rw [aR (f4 x c e)]; exact I.freeC x c e
 ·obtain ⟨a1,a2,a3⟩:=I.pin p hp
  exact ⟨a1,by rw [aR (f5 p hp)]; exact a2,a3⟩
 ·by_cases ha:a=D
  ·subst ha
   rw [aE] at e
   cases e
   exact new
  ·rw [aR ha] at e
   refine (I.hok a u e).stay (fun _ _ _ q=>q) (fun b q=>?_) fun b xs q=>?_
   ·rw [aR (ne b _ q)]; exact q
   ·rw [aR (ne b _ q)]; exact q
theorem oM {it:Addr}{fp:List Addr}{tn:Nat->Heap->Prop}{J:It}{Q:VK}{RR:Value->Addr->Result->Shared->Prop}(L:LcOk X scope js) (hc:X.calm=true) (I:Inv X pins σ H s) (T:Turn X.prog X.w X.K tg J fp it tn) (st:tn 0 s.heap)
  (hf:∀ b∈fp,hG X pins H b) (hg:∀ C s H fp,PG (X.lc scope ts js C s H fp) tg (g C s H fp)) (hcs:∀ C s H fp,xS (X.lc scope ts js C s H fp) ifs (tc C s H fp)) (he:∀ C s H fp,PE (X.lc scope ts js C s H fp) elt (te C s H fp)) (hw:∀ C s2 H2 fp,LcW J ts js (g C s2 H2 fp) (tc C s2 H2 fp) (te C s2 H2 fp) σ H Q)
  (hRR:∀ D C s' H' ys m',Inv X pins σ (upd H' D (.lst ys)) s'->hG X pins (upd H' D (.lst ys)) C->s'.heap.Ns C m'->Q (.ref D) (upd H' D (.lst ys))->RR (.ref D) C (.ok .next) s') :
  wpAny (model X.prog X.w) X.A (newList []) (fun acc s₃=>wpAny (model X.prog X.w) X.A (newFunctionEnv scope X.env.globals (eG X.env.cells scope.names []) [] X.env.qual none .none (some X.env)) (fun cenv s₄ =>
   codeAny (model X.prog X.w) X.A (.compStart (.ListComp elt [⟨tg,iter,ifs,0⟩] scope pos) 0 (.ref it) acc { cenv with scope:=relabel scope X.env }) (RR acc cenv.locals) s₄) E s₃) E s:=by
 refine wpAny_newObj_type (wpAny_newFunctionEnv L.cell (by intro y hy; simp at hy) (fun h₁ hns₁ hsb₁=>?_) L.kind)
 dsimp only at hns₁ hsb₁ ⊢
 generalize hH2:s.heap.push { cls:=.type "list", dict:=none,data:=.seq ([] : List Value).toArray } = G2 at hns₁ hsb₁ ⊢
 have hC:G2.objs.size=s.heap.objs.size + 1:=by rw [<- hH2,Heap.size_push]
 generalize hCd:G2.objs.size=C at hns₁ hsb₁ hC ⊢
 obtain ⟨W,nn,w0,turn⟩:=hw C s H fp
 have hDC:s.heap.objs.size ≠ C:=by rw [hC]; exact Nat.ne_of_lt (Nat.lt_succ_self _)
 have hCle:s.heap.objs.size<=C:=by rw [hC]; exact Nat.le_succ _
 have below:∀ b,b < s.heap.objs.size->b ≠ C/\b ≠ s.heap.objs.size:=fun b hb=>⟨by rw [hC]; exact Nat.ne_of_lt (Nat.lt_succ_of_lt hb),Nat.ne_of_lt hb⟩
 have old:∀ b o,s.heap.get? b=some o->h₁.get? b=some o:=fun b o e=>hsb₁.extBut b o (below b (Heap.lt_size e)).1 (Heap.get?_push_of_some _ (hH2 ▸ Heap.get?_push_of_some _ e))
 have hacc:h₁.PlainList s.heap.objs.size #[]:=⟨_,hsb₁.extBut _ _ hDC (Heap.get?_push_of_some _ (hH2 ▸ Heap.get?_push_size _ rfl))⟩
 have hob:∀ b∈fp,∃ o,s.heap.get? b=some o:=fun b hb=>by obtain ⟨o,e,_⟩:=T.obj 0 _ st b hb; exact ⟨o,e⟩
 have st₁:tn 0 h₁:=T.keep 0 _ _ st fun b _ o e=>old b o e
 generalize hD:s.heap.objs.size=D at hacc hDC hCle below ⊢
 have I1:Inv (X.lc scope ts js C s H fp) [] (kW ts js σ) H { s with heap:=h₁,toks:=s.toks + ([] : List (Str × Value)).length }:=wN L I (by rw [hD]; exact hCle) hns₁ old hf hob
 have stk:∀ b∈jI X.stack,b < s.heap.objs.size:=fun b hb=>by obtain ⟨_,o,e,_⟩:=I.stack.mem hb; exact Heap.lt_size e
 have cells:∀ x c,(eG X.env.cells scope.names []).lookup x=some c->X.env.cells.lookup x=some c:=gD (names:=scope.names) (acc:=[]) (fun _ _ z=>by cases z)
 have stat:∀ {K:Hp},(∀ b∈D :: fp,K b=none)->∀ b∈D :: fp,hG (X.lc scope ts js C s H fp) [] K b:=fun {K} hn b hb=>by
  refine ⟨hn b hb,?_,?_,?_,?_,fun p hp=>absurd (show p∈([] : List (Addr × Obj)) from hp) (by simp)⟩
  ·rcases List.mem_cons.mp hb with z | z
   ·rw [z]; exact hDC
   ·obtain ⟨o,e⟩:=hob b z
    exact (below b (by rw [<- hD]; exact Heap.lt_size e)).1
  ·intro z
   rcases List.mem_cons.mp hb with q | q
   ·have:=stk b z
    rw [q,hD] at this
    exact Nat.lt_irrefl _ this
   ·exact (List.mem_cons.mp (I.stkSub b z)).elim (hf b q).2.1 (hf b q).2.2.1
  ·rcases List.mem_cons.mp hb with q | q
   ·right; rw [q]; exact Nat.le_of_eq hD
   ·exact .inl q
  ·intro x c e z
   rcases List.mem_cons.mp hb with q | q
   ·obtain ⟨v,qc⟩:=I.cell x c (cells x c e)
    have:=qc.lt
    rw [z,q,hD] at this
    exact Nat.lt_irrefl _ this
   ·exact (hf b q).2.2.2.2.1 x c (cells x c e) z
 have fr1:∀ b∈D :: fp,H b=none:=fun b hb=>by
  rcases List.mem_cons.mp hb with q | q
  ·rw [q]; exact I.hok.fresh (by rw [hD]; exact Nat.le_refl _)
  ·exact (hf b q).1
 have objs:∀ i (h:Heap) (its:Array Value),tn i h->h.PlainList D its->∀ b∈D :: fp,∃ o,h.get? b=some o/\∀ v,o.data ≠ .cell v:=fun i h its t p b hb=>by
  rcases List.mem_cons.mp hb with q | q
  ·subst q
   obtain ⟨n,e⟩:=p
   exact ⟨_,e,fun v z=>by cases z⟩
  ·exact T.obj i h t b q
 have loop:∀ s₃:Shared,s₃ = { s with heap:=h₁,toks:=s.toks + ([] : List (Str × Value)).length } ->
   codeAny (model X.prog X.w) X.A (.compLoop (.ListComp elt [⟨tg,iter,ifs,0⟩] scope pos) 0 (.ref it) (.ref D) (compEnvC scope (eG X.env.cells scope.names []) C X.env)) (RR (.ref D) C) s₃:=by
  rintro s₃ rfl
  refine oY (fun k s'=>∃ i ys its H',Inv (X.lc scope ts js C s H fp) [] (kW ts js σ) H' s'/\tn i s'.heap/\(∀ b∈D :: fp,H' b=none)/\s'.heap.PlainList D its/\bO ys its.toList/\ys.length<=sizeLine/\k=nn - i/\W i ys H') ?_ nn ⟨0,[],#[],H,I1,st₁,fr1,hacc,.nil,Nat.zero_le _,rfl,w0⟩
  rintro n s3 ⟨i,ys,its,H3,I3,st3,fr3,p3,v3,z3,rfl,w3⟩
  have I3':=I3.pinned (fp:=[D]) (fun b hb=>stat fr3 b (by rw [List.mem_singleton.mp hb]; exact List.mem_cons_self)) (fun b hb=>objs i _ its st3 p3 b (by rw [List.mem_singleton.mp hb]; exact List.mem_cons_self))
  have sp:∀ b∈fp,hG (X.lc scope ts js C s H fp) ([] ++ fI [D] s3.heap) H3 b:=fun b hb=>by
   obtain ⟨a0,a1,a2,a3,a4,a5⟩:=stat fr3 b (List.mem_cons_of_mem _ hb)
   refine ⟨a0,a1,a2,a3,a4,fun p hp z=>?_⟩
   obtain ⟨q,_⟩:=lF (show p∈fI [D] s3.heap from hp)
   have e:=List.mem_singleton.mp q
   obtain ⟨o,eo⟩:=hob b hb
   exact (below b (by rw [<- hD]; exact Heap.lt_size eo)).2 (by rw [<- z]; exact e)
  rcases turn i ys H3 w3 with ⟨stop,qn⟩ | ⟨hin,go,hz,step⟩
  ·refine cL (T.done (X.lc scope ts js C s H fp) rfl rfl rfl hc i _ s3 _ H3 _ I3' sp st3 stop) fun r s4 ⟨hr,I4⟩=>?_
   subst hr
   obtain ⟨n3,e3⟩:=p3
   have e4:s4.heap.get? D=some { cls:=.type "list", data:=.seq its n3 }:=(I4.pin (D,_) (List.mem_append_right _ (dM (List.mem_singleton.mpr rfl) e3))).1
   have I4':Inv (X.lc scope ts js C s H fp) [] (kW ts js σ) H3 s4:=Inv.unpinned (pins:=[]) I4
   have hlen:=v3.length
   have back:Inv X pins σ H3 s4:=I.call' (ch:=fp) I4'.os I4'.base I4'.hok I4'.bare fun b hb=>⟨(hf b hb).2.2.2.1,(hf b hb).2.1,(hf b hb).2.2.2.2.1,(hf b hb).2.2.2.2.2⟩
   have fD:hG X pins H3 D:=I.fpOk (Nat.le_of_eq hD) (fr3 D List.mem_cons_self)
   have ob:cI X.prog X.w (upd H3 D (.lst ys)) s4.heap D (.lst ys):=⟨z3,its.toList,n3,v3,by simpa using e4⟩
   have tr:=back.track fD (by rw [<- hD]; exact I.sz) ob
   obtain ⟨m4,n4,_⟩:=I4'.loc
   refine hRR D C s4 H3 ys m4 tr ?_ n4 (qn D (fr3 D List.mem_cons_self))
   refine I.fpOk (by rw [hD]; exact hCle) ?_
   rw [aR (Ne.symm hDC)]
   exact I4'.free
  ·refine cL (T.item (X.lc scope ts js C s H fp) rfl rfl rfl hc i _ s3 _ H3 _ I3' sp st3 go) fun r s4 ⟨u,hr,h4⟩=>?_
   subst hr
   refine cL h4 fun _ s5 ⟨x,H5,I5,r5,y5,st5,fr5⟩=>?_
   obtain ⟨n3,e3⟩:=p3
   have e5:=I5.pin (D,_) (List.mem_append_right _ (dM (List.mem_singleton.mpr rfl) e3))
   have fr5':∀ b∈D :: fp,H5 b=none:=fun b hb=>by
    rcases List.mem_cons.mp hb with q | q
    ·rw [q]; exact e5.2.1
    ·exact fr5 b q
   have p5:s5.heap.PlainList D its:=⟨n3,e5.1⟩
   have I5b:Inv (X.lc scope ts js C s H fp) [] (kW ts js σ) H5 s5:=Inv.unpinned (pins:=[]) I5
   have I5':=I5b.pinned (fp:=D :: fp) (stat fr5') (objs _ _ its st5 p5)
   refine cL (hg C s H fp _ s5 _ H5 x u _ I5' r5 (step x H5 y5)) fun _ s6 ⟨σ6,H6,I6,sub6,q6⟩=>?_
   refine cL (hcs C s H fp _ s6 σ6 H6 _ I6 q6) fun b s7 ⟨H7,I7,q7⟩=>?_
   have wk:∀ {H':Hp}{s':Shared},Inv (X.lc scope ts js C s H fp) ([] ++ fI (D :: fp) s5.heap) σ6 H' s'->Inv (X.lc scope ts js C s H fp) ([] ++ fI (D :: fp) s5.heap) (kW ts js σ) H' s':=fun I'=>I'.weak sub6.ok.1 sub6.ok.2
   have rec':∀ {H':Hp}{s':Shared},Inv (X.lc scope ts js C s H fp) ([] ++ fI (D :: fp) s5.heap) σ6 H' s'->Inv (X.lc scope ts js C s H fp) [] (kW ts js σ) H' s'/\tn (i + 1) s'.heap/\(∀ b∈D :: fp,H' b=none)/\s'.heap.PlainList D its:=fun {H' s'} I'=>by
    have pin:∀ b∈D :: fp,∀ o,s5.heap.get? b=some o->s'.heap.get? b=some o/\H' b=none:=fun b hb o e=>by
     have z:=I'.pin (b,o) (List.mem_append_right _ (List.mem_append_right _ (dM hb e)))
     exact ⟨z.1,z.2.1⟩
    refine ⟨Inv.unpinned (pins:=[]) (wk I'),T.keep _ _ _ st5 fun b hb o e=>(pin b (List.mem_cons_of_mem _ hb) o e).1,fun b hb=>?_,⟨n3,(pin D List.mem_cons_self _ e5.1).1⟩⟩
    obtain ⟨o,e,_⟩:=objs _ _ its st5 p5 b hb
    exact (pin b hb o e).2
   cases b with
   | false =>
    obtain ⟨j1,j2,j3,j4⟩:=rec' I7
    exact ⟨nn - (i + 1),by omega,i + 1,ys,its,H7,j1,j2,j3,j4,v3,z3,rfl,q7⟩
   | true =>
    refine cL (he C s H fp _ s7 σ6 H7 _ I7 q7) fun yv s8 ⟨y,H8,I8,r8,w8⟩=>?_
    obtain ⟨j1,j2,j3,j4⟩:=rec' I8
    have hlen:its.size=ys.length:=by have:=v3.length; simp at this; omega
    refine wpAny_list_append_plain (hsz:=by rw [hlen]; exact z3) j4 fun h9 p9 sb9=>?_
    obtain ⟨f0,f1,f2,f3,f4,f5⟩:=stat j3 D List.mem_cons_self
    refine ⟨nn - (i + 1),by omega,i + 1,ys ++ [y],its.push yv,H8,j1.turned (t':=s8.toks) (fun b o hb e=>(sb9.2 b hb).trans e) f0 f1 f3 f4 f5,T.keep _ _ _ j2 fun b hb o e=>(sb9.2 b ?_).trans e,j3,p9,?_,?_,rfl,w8⟩
    ·obtain ⟨o,eo⟩:=hob b hb
     exact (below b (by rw [<- hD]; exact Heap.lt_size eo)).2
    ·rw [Array.toList_push]
     exact v3.append (.cons r8 .nil)
    ·rw [List.length_append,List.length_singleton]; exact hz
 exact codeAny_compStart_list (loop _ rfl) (T.self _ 0 _ _ _ st₁ (loop _ rfl))
end
section
variable {X:Cx}{scope:Scope}{ts:List Str}{js:List Nat}{tg elt iter:Expr}{ifs:List Expr}{wi:TI}{g:Dp TG}{tc:Dp TT}{te:Dp TE}{pos:Pos}
theorem dH (L:LcOk X scope js) (hc:X.calm=true) (hi:PI X tg iter wi) (hg:∀ C s H fp,PG (X.lc scope ts js C s H fp) tg (g C s H fp)) (hcs:∀ C s H fp,xS (X.lc scope ts js C s H fp) ifs (tc C s H fp)) (he:∀ C s H fp,PE (X.lc scope ts js C s H fp) elt (te C s H fp))
  (hs:∀ x,foldedSetIterable iter X.env x=pure x:=by intro _; rfl) : PE X (.ListComp elt [⟨tg,iter,ifs,0⟩] scope pos) (tLc wi ts js g tc te):=by
 intro pins s σ H Q I h
 rw [eval_ListComp]
 refine wpAny_comprehension_free (use:=none) rfl hs (gS fun y hy hf=>I.ok.has y.1 (L.free y hy hf)) L.kind L.names (cL (hi pins s σ H _ I h) fun v s1 h1=>cL h1 fun itv s2 h2=>?_)
 obtain ⟨it,fp,tn,J,H2,rfl,I2,T,st2,f2,hw⟩:=h2
 refine oM (RR:=fun acc C=>compPost (model X.prog X.w) X.A X.xe none (EP X pins σ Q) acc C) L hc I2 T st2 f2 hg hcs he hw ?_
 intro D C s' H' ys m' I' fC hn hq
 obtain ⟨f0,f1,f2,f3,f4,f5⟩:=fC
 exact ⟨m',hn,fun h' hs'=>⟨.ref D,_,I'.turned (t':=s'.toks) (fun b o hb e=>(hs'.2 b hb).trans e) f0 f1 f3 f4 f5,rfl,hq⟩⟩
theorem eU {i:Nat}{x:Str}{pos' spos:Pos}(hN:X.N.Nodup) (hxi:X.N[i]? = some x) (hx:Loc X.env.scope x) (L:LcOk X scope js) (hc:X.calm=true) (hi:PI X tg iter wi) (hg:∀ C s H fp,PG (X.lc scope ts js C s H fp) tg (g C s H fp))
  (hcs:∀ C s H fp,xS (X.lc scope ts js C s H fp) ifs (tc C s H fp)) (he:∀ C s H fp,PE (X.lc scope ts js C s H fp) elt (te C s H fp))
  (hsw:swapsWith (.ListComp elt [⟨tg,iter,ifs,0⟩] scope pos) (some (.Name x pos')) spos.line X.env=pure true:=by rfl)
  (hs:∀ x,foldedSetIterable iter X.env x=pure x:=by intro _; rfl) (hf:X.fn x=true\/X.env.scope.names.lookup x=some .local:=by first | exact .inl rfl | exact .inr rfl | assumption) :
  PS X (.Assign [.Name x pos'] (.ListComp elt [⟨tg,iter,ifs,0⟩] scope pos) spos) (tAsg (tLc wi ts js g tc te) (wZ i)):=by
 intro pins s σ H D0 I h
 rw [exec_Assign_Name_used x pos' _ spos hsw]; refine wpAny_bind (wpAny_standAt ?_); refine wpAny_bind ?_
 show wpAny _ X.A (do let _ <- comprehension (.ListComp elt [⟨tg,iter,ifs,0⟩] scope pos) scope X.env _ (newList []) false (eval iter X.env) (some (assign (.Name x pos') X.env))) _ _ s
 refine wpAny_bind (wpAny_mono (wpAny_comprehension_free (use:=some (assign (.Name x pos') X.env)) (Q:=fun _ s'=>SP X pins D0 .next s') rfl hs (gS fun y hy hf=>I.ok.has y.1 (L.free y hy hf)) L.kind L.names
  (cL (hi pins s σ H _ I h) fun v s1 h1=>cL h1 fun itv s2 h2=>?_)) (fun _ s' hq=>wpAny_pure (wpAny_pure hq)) fun _ _ e=>e)
 obtain ⟨it,fp,tn,J,H2,rfl,I2,T,st2,f2,hw⟩:=h2
 refine oM (RR:=fun acc C=>compPost (model X.prog X.w) X.A X.xe (some (assign (.Name x pos') X.env)) (fun _ s'=>SP X pins D0 .next s') acc C) L hc I2 T st2 f2 hg hcs he hw ?_
 intro D C s' H' ys m' I' fC hn hq
 obtain ⟨oC,es,ep,hoC,hdC,rC⟩:=id hn
 have I'':=I'.pinned (fp:=[C]) (fun b hb=>by rw [List.mem_singleton.mp hb]; exact fC) (fun b hb=>by rw [List.mem_singleton.mp hb]; exact ⟨oC,hoC,fun v z=>by rw [hdC] at z; cases z⟩)
 show wpAny _ X.A (assign (.Name x pos') X.env (.ref D)) _ _ _
 refine wpAny_assign_Name (hJ I'' hN hxi hx (v:=.ref D) rfl (fun s7 I7=>?_) hf)
 have e7:=I7.pin (C,oC) (List.mem_append_right _ (List.mem_append_right _ (dM (List.mem_singleton.mpr rfl) hoC)))
 refine ⟨m',⟨oC,es,ep,e7.1,hdC,rC⟩,fun h9 sb9=>?_⟩
 obtain ⟨f0,f1,f2,f3,f4,f5⟩:=fC
 exact ⟨_,_,(Inv.unpinned I7).turned (t':=s7.toks) (fun b o hb e=>(sb9.2 b hb).trans e) e7.2.1 f1 f3 f4 f5,hq⟩
end
def lcOkB (scope:Scope)(ek:List (Str × NameKind))(N:List Str)(js:List Nat) : Bool :=
 scope.kind == .function && scope.names.all (fun y=>y.2 != .cell) && scope.names.all (fun y=>y.2 != .local || scope.names.lookup y.1 == some .local) &&
 scope.names.all (fun y=>y.2 != .free || ek.lookup y.1 == some .cell || ek.lookup y.1 == some .free) && js.all (fun j=>scope.names.lookup (N.getD j "") == some .free)
theorem LcOk.of {X:Cx}{scope:Scope}{js:List Nat}(h:lcOkB scope X.env.scope.names X.N js=true) : LcOk X scope js:=by
 unfold lcOkB at h
 simp only [Bool.and_eq_true,List.all_eq_true,Bool.or_eq_true,bne_iff_ne,beq_iff_eq] at h
 obtain ⟨⟨⟨⟨h1,h2⟩,h3⟩,h4⟩,h5⟩:=h
 refine ⟨h1,h2,fun y hy e=>?_,fun y hy e=>?_,h5⟩
 ·exact (h3 y hy).resolve_left fun z=>z e
 ·rcases h4 y hy with (z | z) | z
  ·exact absurd e z
  ·exact .inl z
  ·exact .inr z
theorem bK {l:List Str}(h:decide l.Nodup=true) : l.Nodup:=of_decide_eq_true h
theorem jW {X:Cx} : nF (cK X.prog X.w) X E0:=fun _ _ _ _ _ _ _ h=>by
 obtain ⟨_,_,_,_,_,_,_,z⟩:=h
 exact z.elim
theorem dS {P:Program}{w:World}{K:PySem.W.Frag}{mg:Str->Option Value}{base:Heap}{N:List Str}{qual:Str}{scope:Scope}{f:Addr}{cd:Value}{A:Around}{outer:List Env}{s:Shared}{H:Hp}{E:XK} :
  PassesOwn (model P w) (iG (cK P w) P w K mg base N qual scope f cd A outer s H E).A (iG (cK P w) P w K mg base N qual scope f cd A outer s H E).env (iG (cK P w) P w K mg base N qual scope f cd A outer s H E).xe:=PassesOwn.leaving
theorem uH {l:PySem.W.OpenLaw}{n k:Nat}{q:Program}{loose:List Str}{XP:(Str->Option Value)->Heap->Prop}{YP:World->Heap->Prop}{d:DefRec}{K:Params->PySem.W.Frag}{sp:PySem.W.Frag->Sp}{x:Str}
  (hn:l.most=some n) (hn2:n<=sizeLine) (hdf:d.params.defaults = []) (hr:Room k callerA)
  (hY:∀ (w:World) (h:Heap),YP w h->(K w.params).In h)
  (F:∀ (w:World) (mg:Str->Option Value) (fa:Addr) (h:Heap),(K w.params).In h->h.Ns mainGlobals mg->mg d.name=some (.ref fa) ->
   ∃ fd:FuncData,(∀ (s:Shared) (u:Value),BindsTo s fd ⟨[u],[]⟩ [(x,u)]) /\
    ∀ base:Heap,(K w.params).In base->base.Ns mainGlobals mg->FnOk l.prog w (K w.params) mg base (cK l.prog w) k fa fd [x] (sp (K w.params)))
  (hsp:∀ (K:PySem.W.Frag) (H:Hp) (a:Addr) (ns:List Int),ns.length<=n->xT H->c6 K H a (ns.map V.int)->sp K [.ref a] H (fun v _=>v = .bl true) fun _ _ _=>False) :
  PySem.W.WalkO q loose XP YP l.row.toRowW d [] (fun f vs=>PySem.call f vs) :=
 xY (K:=K) (CX:=fun w=>cK l.prog w) (sp:=fun w=>sp (K w.params)) hn hn2 hdf hr hY F (fun w H a ns h1 h2 h3=>hsp (K w.params) H a ns h1 h2 h3) fun _ H s e s' h=>by
  obtain ⟨_,_,_,_,_,_,_,z⟩:=h
  exact z
section
variable {X:Cx}
theorem gR.imp {f:Value->Value->Sem Value}{r r':R2}(h:gR X f r)(i:∀ x y H Q,r' x y H Q->r x y H Q) : gR X f r':=fun pins s σ H x y v u Q I rx ry hq=>h pins s σ H x y v u Q I rx ry (i _ _ _ _ hq)
theorem dD:gR X (compareOp .Eq) (rI0 fun i j=>.bl (decide (i=j))):=op_eq.imp fun x y H Q h=>by
 obtain ⟨i,j,rfl,rfl,q⟩:=h
 refine ⟨rfl,?_⟩
 have e:decide (V.int i=V.int j)=decide (i=j):=decide_eq_decide.mpr ⟨fun z=>V.int.inj z,fun z=>congrArg V.int z⟩
 rw [e]; exact q
theorem vX:gR X (compareOp .NotEq) (rI0 fun i j=>.bl (!decide (i=j))):=op_ne.imp fun x y H Q h=>by
 obtain ⟨i,j,rfl,rfl,q⟩:=h
 refine ⟨rfl,?_⟩
 have e:decide (V.int i=V.int j)=decide (i=j):=decide_eq_decide.mpr ⟨fun z=>V.int.inj z,fun z=>congrArg V.int z⟩
 rw [e]; exact q
def rS0 (g:Str->Str->V) : R2:=fun x y H Q=>∃ i j,x = .str i/\y = .str j/\Q (g i j) H
theorem dC:gR X (compareOp .Eq) (rS0 fun i j=>.bl (decide (i=j))):=op_eq.imp fun x y H Q h=>by
 obtain ⟨i,j,rfl,rfl,q⟩:=h
 refine ⟨rfl,?_⟩
 have e:decide (V.str i=V.str j)=decide (i=j):=decide_eq_decide.mpr ⟨fun z=>V.str.inj z,fun z=>congrArg V.str z⟩
 rw [e]; exact q
end
theorem ite3n {c A B:Prop} [Decidable c](h1:¬ c->A)(h2:c->B) : if (!decide c)=true then A else B:=iteNo h1 h2
theorem iteB {b:Bool}{A B:Prop}(h1:b=true->A)(h2:b=false->B) : if b=true then A else B:=by
 cases b with
 | true=>exact iteT (h1 rfl)
 | false=>exact iteF (h2 rfl)
theorem iteBn {b:Bool}{A B:Prop}(h1:b=false->A)(h2:b=true->B) : if (!b)=true then A else B:=by
 cases b with
 | true=>exact iteF (h2 rfl)
 | false=>exact iteT (h1 rfl)
theorem Bz.add' {m n:Nat}{x y:Int}(hx:Bz m x)(hy:Bz n y) : Bz (max m n + 1) (x + y):=.of_bits (PySem.intBits_add_le hx.bits hy.bits)
theorem Bz.sub' {m n:Nat}{x y:Int}(hx:Bz m x)(hy:Bz n y) : Bz (max m n + 1) (x - y):=.of_bits (PySem.intBits_sub_le hx.bits hy.bits)
theorem Bz.z (n:Nat) : Bz n 0:=by show (0:Nat) < 2 ^ n; exact Nat.two_pow_pos n
def SameB (b:Addr)(H H':Hp) : Prop:=∀ a o,a ≠ b->H a=some o->H' a=some o
theorem aN.upd {H H':Hp}{p:Addr}(s:aN H H')(h:H p=none)(o:HO) : aN H (upd H' p o):=fun b u q=>by rw [aR (bE q h)]; exact s b u q
theorem aN.new {H H':Hp}{p:Addr}(s:aN H H')(h:H' p=none)(o:HO) : aN H (L2.upd H' p o):=s.upd (s.free h) o
theorem q9 {X:Cx}{e:Expr}{t:TE}(v:V)(h:PE X e t)(c:∀ σ H Q,Q v H->t σ H Q) : PE X e (tC v):=fun pins s σ H Q I hq=>h pins s σ H Q I (c σ H Q hq)
end L2
structure Iv (p:Prop) : Prop where
 o:p
namespace L2
open PySem PySem.Spec PyProof.Rows
def Its (x:Str) : It:=⟨fun i _=>i < x.cps.size,fun i H v H'=>H'=H/\∃ c,x.cps[i]? = some c/\v = .str ⟨#[c]⟩,fun i _=>x.cps.size<=i⟩
theorem nM {P:Program}{w:World}{K:PySem.W.Frag}{tg:Expr}{it:Addr}{x:Str}{St:Nat->Heap->Prop}
  (W:∀ A':Around,A'.handled=none->Walks P w A' it [it] [it] x.cps.size (SignAt x) St)
  (ob:∀ i h,St i h->∃ (o:Obj) (n:String) (vs:Array Value),h.get? it=some o/\o.cls = .type n/\o.data = .fields vs/\["enumerate", "zip", "dict_itemiterator", "dict_reverseitemiterator", "odict_iterator", "itertools.zip_longest", "itertools.pairwise"].contains n=false)
  (sf:∀ (A:Around) (i:Nat) (s:Shared) (Q:Value->Shared->Prop) (E:Value->Shared->Prop),St i s.heap->Q (.ref it) s->wpAny (model P w) A (pyIter (.ref it)) Q E s) :
  Turn P w K tg (Its x) [it] it (fun i h=>St i h/\i<=x.cps.size) where
 mem:=by simp
 obj:=fun i h st b hb=>by
  have e:b=it:=by simpa using hb
  subst e
  obtain ⟨o,n,vs,e,_,d,_⟩:=ob i h st.1
  exact ⟨o,e,fun v z=>by rw [d] at z; cases z⟩
 keep:=fun i h h' st k=>⟨(W {} rfl).frame i h h' st.1 k,st.2⟩
 item:=by
  intro X hP hw hK hc i pins s σ H E I hf st hg
  subst hP hw hK
  obtain ⟨f0,f1,f2,f3,f4,f5⟩:=hf it (by simp)
  refine (W X.A (I.ok.hd hc)).item i s _ _ hg st.1 fun v h' tk hv st' kk=>?_
  obtain ⟨c,u,hcx,rfl⟩:=hv
  have I1:Inv X pins σ H { s with heap:=h',toks:=tk }:=I.turned (fun b o hb e=>kk b o (by simpa using hb) e) f0 f1 f3 f4 f5
  obtain ⟨o,n,vs,e,hcl,hd,hn⟩:=ob _ _ st'
  have hi:i < x.cps.size:=hg
  exact ⟨_,rfl,oP (s:={ s with heap:=h',toks:=tk }) e hcl hd hn ⟨.str ⟨#[c]⟩,H,I1,⟨u,rfl⟩,⟨rfl,c,hcx,rfl⟩,⟨st',hi⟩,fun b hb=>(hf b hb).1⟩⟩
 done:=by
  intro X hP hw hK hc i pins s σ H E I hf st hg
  subst hP hw hK
  obtain ⟨f0,f1,f2,f3,f4,f5⟩:=hf it (by simp)
  have e:i=x.cps.size:=Nat.le_antisymm st.2 hg
  subst e
  exact (W X.A (I.ok.hd hc)).done s _ _ st.1 fun h' tk kk=>⟨rfl,I.turned (fun b o hb e=>kk b o (by simpa using hb) e) f0 f1 f3 f4 f5⟩
 self:=fun A i s Q E st h=>sf A i s Q E st.1 h
section
variable {X:Cx}{tg:Expr}
def iStr (tl:TE) : TI:=fun σ H R=>tl σ H fun x H1=>∃ z,x = .str z/\R (Its z) H1
theorem pi_str {l:Expr}{tl:TE}(hl:PE X l tl) : PI X tg l (iStr tl):=by
 intro pins s σ H R I h
 refine cL (hl pins s σ H _ I h) fun v s1 ⟨x,H1,I1,r1,q1⟩=>?_
 obtain ⟨z,e,q⟩:=q1
 subst e
 obtain ⟨t,rfl⟩:=r1
 have fp:∀ b∈[s1.heap.objs.size],hG X pins H1 b:=fun b hb=>by
  have e:b=s1.heap.objs.size:=by simpa using hb
  subst e
  exact I1.fpOk (Nat.le_refl _) (I1.hok.fresh (Nat.le_refl _))
 cases ha:z.cps.all (· < 128)
 ·refine wpAny_pyIter_wide ha ?_
  refine ⟨s1.heap.objs.size,[s1.heap.objs.size],_,_,H1,rfl,I1.kept (t':=s1.toks) fun b o e=>Heap.get?_push_of_some _ e,
   nM (St:=fun i h=>h.IsStrIter s1.heap.objs.size "str_iterator" z t i) (fun A' hA=>Walks.strWide hA _ z t) (fun i h st=>?_) (fun A i s Q E st h=>wpAny_pyIter_striter_wide st h),⟨⟨_,Heap.get?_push_size _ rfl,rfl,rfl⟩,Nat.zero_le _⟩,fp,q⟩
  obtain ⟨o,e,c,d⟩:=st
  exact ⟨o,_,_,e,c,d,by decide⟩
 ·refine wpAny_pyIter_ascii ha ?_
  refine ⟨s1.heap.objs.size,[s1.heap.objs.size],_,_,H1,rfl,I1.kept (t':=s1.toks) fun b o e=>Heap.get?_push_of_some _ e,
   nM (St:=fun i h=>h.IsStrIter s1.heap.objs.size "str_ascii_iterator" z t i) (fun A' hA=>Walks.strAscii hA _ z t) (fun i h st=>?_) (fun A i s Q E st h=>wpAny_pyIter_striter_ascii st h),⟨⟨_,Heap.get?_push_size _ rfl,rfl,rfl⟩,Nat.zero_le _⟩,fp,q⟩
  obtain ⟨o,e,c,d⟩:=st
  exact ⟨o,_,_,e,c,d,by decide⟩
end
abbrev sg (c:Nat) : V:=.str ⟨#[c]⟩
theorem for_str {x:Str}{g:TG}{tb:TS}{D:Ends}{σ:St}{H:Hp}(Pv:Nat->St->Hp->Prop) (h0:Pv 0 σ H)
  (hs:∀ i c σ H,x.cps[i]? = some c->Pv i σ H->g (sg c) σ H fun σ2 H2=>tb { D with nx:=Pv (i + 1),ct:=Pv (i + 1),bk:=D.nx } σ2 H2) (hd:∀ σ H,Pv x.cps.size σ H->D.nx σ H) :
  ∃ W:Nat->Nat->St->Hp->Prop,(∃ m,W 0 m σ H)/\∀ i m σ H,W i m σ H ->
   ((Its x).stop i H/\D.nx σ H)\/((Its x).go i H/\∃ N:St->Hp->Prop,(∀ σ' H',N σ' H'->∃ m',m' < m/\W (i + 1) m' σ' H')/\∀ v H',(Its x).yld i H v H'->g v σ H' fun σ2 H2=>tb { D with nx:=N,ct:=N,bk:=D.nx } σ2 H2):=by
 refine ⟨fun i m σ H=>m=x.cps.size - i/\i<=x.cps.size/\Pv i σ H,⟨x.cps.size,by simp,Nat.zero_le _,h0⟩,?_⟩
 rintro i m σ H ⟨rfl,hi,p⟩
 by_cases hlt:i < x.cps.size
 ·refine .inr ⟨hlt,Pv (i + 1),fun σ' H' p'=>⟨x.cps.size - (i + 1),by omega,rfl,hlt,p'⟩,fun v H' y=>?_⟩
  obtain ⟨e,c,hc,ev⟩:=y
  subst e ev
  exact hs i c σ _ hc p
 ·have e:i=x.cps.size:=by omega
  subst e
  exact .inl ⟨Nat.le_refl _,hd σ H p⟩
section
variable {K:PySem.W.Frag}{ts:List Str}{js:List Nat}{g:TG}{tc:TT}{te:TE}{σ:St}{H:Hp}{Q:VK}
theorem c7 {a:Addr}{xs:List V}(Pv:Nat->List V->Hp->Prop) (h0:Pv 0 [] H) (hl:∀ i ys H,i<=xs.length->Pv i ys H->c6 K H a xs/\ys.length < sizeLine)
  (hs:∀ i x ys H,xs[i]? = some x->Pv i ys H->g x (kW ts js σ) H fun σ2 H2=>kK (kW ts js σ) σ2/\tc σ2 H2 fun b H3=>if b=true then te σ2 H3 fun y H4=>i + 1<=xs.length/\Pv (i + 1) (ys ++ [y]) H4 else i + 1<=xs.length/\Pv (i + 1) ys H3)
  (hd:∀ ys H,Pv xs.length ys H->∀ p,H p=none->Q (.ref p) (upd H p (.lst ys))) : LcW (Itl K a) ts js g tc te σ H Q:=by
 refine ⟨fun i ys H=>i<=xs.length/\Pv i ys H,xs.length,⟨Nat.zero_le _,h0⟩,?_⟩
 rintro i ys H ⟨hi,p⟩
 obtain ⟨q,hz⟩:=hl i ys H hi p
 by_cases hlt:i < xs.length
 ·refine .inr ⟨hlt,⟨xs,xs[i],q,by simp [hlt]⟩,hz,fun x H' y=>?_⟩
  obtain ⟨e,y⟩:=y
  subst e
  exact hs i x ys _ (y xs q) p
 ·have e:i=xs.length:=by omega
  subst e
  exact .inl ⟨⟨xs,q,Nat.le_refl _⟩,hd ys H p⟩
theorem wO {lo:Int}{n:Nat}(Pv:Nat->List V->Hp->Prop) (h0:Pv 0 [] H) (hl:∀ i ys H,i<=n->Pv i ys H->ys.length < sizeLine)
  (hs:∀ i ys H,i < n->Pv i ys H->g (.int (lo + i)) (kW ts js σ) H fun σ2 H2=>kK (kW ts js σ) σ2/\tc σ2 H2 fun b H3=>if b=true then te σ2 H3 fun y H4=>i + 1<=n/\Pv (i + 1) (ys ++ [y]) H4 else i + 1<=n/\Pv (i + 1) ys H3)
  (hd:∀ ys H,Pv n ys H->∀ p,H p=none->Q (.ref p) (upd H p (.lst ys))) : LcW (Itr lo n) ts js g tc te σ H Q:=by
 refine ⟨fun i ys H=>i<=n/\Pv i ys H,n,⟨Nat.zero_le _,h0⟩,?_⟩
 rintro i ys H ⟨hi,p⟩
 have hz:=hl i ys H hi p
 by_cases hlt:i < n
 ·refine .inr ⟨hlt,hlt,hz,fun x H' y=>?_⟩
  obtain ⟨e,y⟩:=y
  subst e y
  exact hs i ys _ hlt p
 ·have e:i=n:=by omega
  subst e
  exact .inl ⟨Nat.le_refl _,hd ys H p⟩
end
section
variable {X:Cx}
end
section
variable {X:Cx}{pins:List (Addr × Obj)}{σ:St}{H:Hp}{s:Shared}{h':Heap}
end
section
variable {X:Cx}
end
def dE (acc:List bG)(k:bG) : Bool:=acc.any fun x=>decide (x=k)
theorem dB {acc:List bG}{k:bG} : dE acc k=true↔k∈acc:=by
 unfold dE
 rw [List.any_eq_true]
 exact ⟨fun ⟨x,h,e⟩=>of_decide_eq_true e ▸ h,fun h=>⟨k,h,decide_eq_true rfl⟩⟩
def eZ (acc:List bG)(k:bG) : List bG:=if dE acc k=true then acc else acc ++ [k]
def dd (ks:List bG) : List bG:=ks.foldl eZ []
theorem xQ {acc:List bG}{k:bG} : (eZ acc k).length=if dE acc k=true then acc.length else acc.length + 1:=by
 unfold eZ
 split
 ·rfl
 ·rw [List.length_append,List.length_singleton]
theorem oQ:∀ (ks acc:List bG),(ks.foldl eZ acc).length<=acc.length + ks.length
 | [],acc=>Nat.le_refl _
 | k :: ks,acc=>by
  have h:=oQ ks (eZ acc k)
  have h2:(eZ acc k).length<=acc.length + 1:=by rw [xQ]; split <;> omega
  rw [List.foldl_cons,List.length_cons]
  omega
theorem dd_len (ks:List bG) : (dd ks).length<=ks.length:=by have:=oQ ks []; simpa [dd] using this
theorem dd_take {ks:List bG}{i:Nat}{k:bG}(h:ks[i]? = some k) : dd (ks.take (i + 1))=eZ (dd (ks.take i)) k:=by
 unfold dd
 rw [List.take_add_one,h,List.foldl_append]
 rfl
section
variable {P:Program}{w:World}{A:Around}{E:Value->Shared->Prop}{s:Shared}{R:Result->Shared->Prop}
end
abbrev fr (led:Bool) : Obj:={ cls:=.type "set", dict:=none,data:=.set #[] 0 (.fresh 0 0 led) }
section
variable {P:Program}{w:World}{A:Around}{E:Value->Shared->Prop}{s:Shared}
theorem made_by {T nw ini:String}{args:List Value}{Q Q1:Value->Shared->Prop}(ft:TypeCalled T nw ini) (c:checkTypeCall T ⟨args,[]⟩=pure ())
  (new:codeAny (model P w) A.in1 (.call (.builtin nw) ⟨.type T :: args,[]⟩) (wants Q1 E) s)
  (fst:∀ ob s1,Q1 ob s1->s1.TypeIs ob T/\codeAny (model P w) A.in1 (.call (.builtin ini) ⟨ob :: args,[]⟩) (wants (fun r s2=>r = .none/\Q ob s2) E) s1) :
  wpAny (model P w) A (call (.type T) args) Q E s:=by
 obtain ⟨k0,ks0,m0⟩:=ft.mro
 have m1:=ft.made
 have m2:=ft.sub
 have m3:=ft.notType
 have m4:=ft.canCreate
 have m5:=ft.init.lookup
 apply wpAny_call
 apply codeAny_of_tree
 show wpAny _ _ (pure _) _ _ _
 apply wpAny_pure
 have q0 : "type.__call__".startsWith "lifetime." = false:=by decide +kernel
 refine ⟨Code.quiet_builtin _ q0,?_⟩
 apply codeAny_builtin PySem.F.entry_type_call
 rw [Around.under_plain (by rfl) (by rfl)]
 wp_walk
 apply codeAny_mono new
 rintro (x | x) s1 g
 ·exact g
 rcases x with v | v | v | v
 all_goals first | exact g.elim | skip
 obtain ⟨ty,go⟩:=fst _ _ g
 have b:=ft.init.bind v
 wp_walk
 apply codeAny_mono go
 rintro (x | x) s2 g2
 ·exact g2
 rcases x with u | u | u | u
 all_goals first | exact g2.elim | skip
 obtain ⟨rfl,g3⟩:=g2
 wp_walk
 exact g3
end
theorem kZ {P:Program}{w:World} : ∀ {ks:List bG}{us:List Value}{i:Nat}{v:Value},bO (ks.map kV) us->us[i]? = some v->∃ k,ks[i]? = some k/\(aW P w).is k v=true/\v.scannable=true
 | [],_,i,v,r,e=>by cases r; simp at e
 | k :: ks,_,0,v,r,e=>by
  cases r with
  | cons h t =>
   refine ⟨k,rfl,?_⟩
   have e':v=_:=(Option.some.inj e).symm
   subst e'
   cases k with
   | inl n=>obtain ⟨t,rfl⟩:=h; exact ⟨iX P w n t,rfl⟩
   | inr x=>obtain ⟨t,rfl⟩:=h; exact ⟨iW P w x t,rfl⟩
 | k :: ks,_,i + 1,v,r,e=>by
  cases r with
  | cons h t=>simpa using kZ (ks:=ks) t (by simpa using e)
section
variable {X:Cx}
end
abbrev bI (x:Str) : List Nat:=x.cps.toList
abbrev tx (l:List Nat) : Str:=⟨l.toArray⟩
theorem uK (x:Str) : tx (bI x)=x:=by cases x; rfl
theorem c9 (x:Str) : (bI x).length=x.length:=by show x.cps.toList.length=x.cps.size; simp
theorem bT (x y:Str) : bI (x ++ y)=bI x ++ bI y:=by
 show (x.cps ++ y.cps).toList=_
 simp
theorem fE {x y:Str}(h:bI x=bI y) : x=y:=by rw [<- uK x,<- uK y,h]
section
variable {X:Cx}
end
def bF (H H':Hp) : Prop:=∀ a xs,H a=some (.tup xs)->H' a=some (.tup xs)
theorem bF.refl (H:Hp) : bF H H:=fun _ _ h=>h
theorem bF.trans {H H1 H2:Hp}(x:bF H H1)(y:bF H1 H2) : bF H H2:=fun a xs h=>y a xs (x a xs h)
theorem aN.t {H H':Hp}(s:aN H H') : bF H H':=fun a xs h=>s a _ h
theorem bF.new {H H':Hp}{p:Addr}(s:bF H H')(h:H' p=none)(o:HO) : bF H (upd H' p o):=fun a xs q=>by rw [aR (bE (s a xs q) h)]; exact s a xs q
theorem bF.lst {H H':Hp}{p:Addr}{ys:List V}(s:bF H H')(h:H' p=some (.lst ys))(o:HO) : bF H (upd H' p o):=fun a xs q=>by
 rw [aR (fQ (s a xs q) h (by intro z; cases z))]; exact s a xs q
mutual
inductive TV (K:PySem.W.Frag) (H:Hp) : V->PyData->Prop
 | non:TV K H .non .none
 | bl (b:Bool) : TV K H (.bl b) (.bool b)
 | int (i:Int) : TV K H (.int i) (.int i)
 | str (x:Str) : TV K H (.str x) (.str x)
 | tup {a:Addr}{xs:List V}{ds:List PyData} : H a=some (.tup xs)->TVs K H xs ds->TV K H (.ref a) (.tuple ds)
inductive TVs (K:PySem.W.Frag) (H:Hp) : List V->List PyData->Prop
 | nil:TVs K H [] []
 | cons {x:V}{xs:List V}{d:PyData}{ds:List PyData} : TV K H x d->TVs K H xs ds->TVs K H (x :: xs) (d :: ds)
end
section
variable {K:PySem.W.Frag}{H H':Hp}
mutual
theorem TV.mono (s:bF H H') : ∀ {x:V}{d:PyData},TV K H x d->TV K H' x d
 | _,_,.non=>.non
 | _,_,.bl b=>.bl b
 | _,_,.int i=>.int i
 | _,_,.str x=>.str x
 | _,_,.tup h hs=>.tup (s _ _ h) (TVs.mono s hs)
theorem TVs.mono (s:bF H H') : ∀ {xs:List V}{ds:List PyData},TVs K H xs ds->TVs K H' xs ds
 | _,_,.nil=>.nil
 | _,_,.cons h hs=>.cons (TV.mono s h) (TVs.mono s hs)
end
mutual
theorem TV.dv:∀ {x:V}{d:PyData},TV K H x d->DV K H x d
 | _,_,.non=>.non
 | _,_,.bl b=>.bl b
 | _,_,.int i=>.int i
 | _,_,.str x=>.str x
 | _,_,.tup h hs=>.tup (qP.of h) (TVs.dv hs)
theorem TVs.dv:∀ {xs:List V}{ds:List PyData},TVs K H xs ds->DVs K H xs ds
 | _,_,.nil=>.nil
 | _,_,.cons h hs=>.cons (TV.dv h) (TVs.dv hs)
end
theorem TVs.length:∀ {xs:List V}{ds:List PyData},TVs K H xs ds->xs.length=ds.length
 | _,_,.nil=>rfl
 | _,_,.cons _ hs=>by simp [TVs.length hs]
theorem TVs.append:∀ {xs ys:List V}{ds es:List PyData},TVs K H xs ds->TVs K H ys es->TVs K H (xs ++ ys) (ds ++ es)
 | _,_,_,_,.nil,s=>s
 | _,_,_,_,.cons h hs,s=>.cons h (TVs.append hs s)
theorem TVs.get:∀ {xs:List V}{ds:List PyData}{i:Nat}{x:V},TVs K H xs ds->xs[i]? = some x->∃ d,ds[i]? = some d/\TV K H x d
 | _,_,_,_,.nil,e=>by simp at e
 | _,_,0,_,.cons h _,e=>by
  obtain rfl:=Option.some.inj e
  exact ⟨_,rfl,h⟩
 | _,_,i + 1,_,.cons _ hs,e=>by simpa using TVs.get (i:=i) hs (by simpa using e)
theorem TV.pair {x:V}{a b:PyData}(h:TV K H x (.tuple [a,b])) : ∃ p u v,x = .ref p/\H p=some (.tup [u,v])/\TV K H u a/\TV K H v b:=by
 cases h with
 | tup e hs =>
  cases hs with
  | cons h1 hs =>
   cases hs with
   | cons h2 hs =>
    cases hs
    exact ⟨_,_,_,rfl,e,h1,h2⟩
theorem TV.strs {x:V}{s:Str}(h:TV K H x (.str s)) : x = .str s:=by cases h; rfl
theorem TV.ints {x:V}{s:Int}(h:TV K H x (.int s)) : x = .int s:=by cases h; rfl
theorem TVs.strs (ws:List Str) : TVs K H (ws.map V.str) (ws.map PyData.str):=by
 induction ws with
 | nil=>exact .nil
 | cons w ws ih=>exact .cons (.str w) ih
end
structure Hs (H:Hp) (L:List (Addr × HO)) : Prop where
 nd:(L.map (·.1)).Nodup
 at':∀ p∈L,H p.1=some p.2
namespace Hs
variable {H H':Hp}{L:List (Addr × HO)}{a p:Addr}{o o':HO}
end Hs
end L2
namespace L2
open PySem PySem.Spec PyProof.Rows
structure Shp (n:Nat) (d:PyData) : Prop where
 lay:d.canLay0=true
 dep:d.depth<=n
theorem Shp.mono {m n:Nat}{d:PyData}(h:Shp m d)(hn:m<=n) : Shp n d:=⟨h.lay,Nat.le_trans h.dep hn⟩
theorem rN {ds:List PyData}(h:∀ d∈ds,d.canLay0=true) : PyData.canLayAll0 ds=true:=by
 induction ds with
 | nil=>simp [PyData.canLayAll0]
 | cons d ds ih =>
  simp only [PyData.canLayAll0,Bool.and_eq_true]
  exact ⟨h d List.mem_cons_self,ih fun x hx=>h x (List.mem_cons_of_mem _ hx)⟩
theorem rX {n:Nat}{ds:List PyData}(h:∀ d∈ds,d.depth<=n) : PyData.depthAll ds<=n:=by
 induction ds with
 | nil=>simp [PyData.depthAll]
 | cons d ds ih =>
  simp only [PyData.depthAll]
  exact Nat.max_le.mpr ⟨h d List.mem_cons_self,ih fun x hx=>h x (List.mem_cons_of_mem _ hx)⟩
theorem Shp.tup {n:Nat}{ds:List PyData}(h:∀ d∈ds,Shp n d) : Shp (n + 1) (.tuple ds) :=
 ⟨by simp only [PyData.canLay0]; exact rN fun d hd=>(h d hd).lay,by simp only [PyData.depth]; exact Nat.succ_le_succ (rX fun d hd=>(h d hd).dep)⟩
theorem Shp.lst {n:Nat}{ds:List PyData}(h:∀ d∈ds,Shp n d) : Shp (n + 1) (.list ds) :=
 ⟨by simp only [PyData.canLay0]; exact rN fun d hd=>(h d hd).lay,by simp only [PyData.depth]; exact Nat.succ_le_succ (rX fun d hd=>(h d hd).dep)⟩
theorem Shp.int (n:Nat)(i:Int) : Shp n (.int i):=⟨by simp [PyData.canLay0],by simp [PyData.depth]⟩
theorem Shp.str (n:Nat){x:Str}(h:∀ c∈bI x,c < 128) : Shp n (.str x):=by
 refine ⟨?_,by simp [PyData.depth]⟩
 simp only [PyData.canLay0]
 unfold PyData.strOk
 rw [<- Array.all_toList,List.all_eq_true]
 intro c hc
 have:=h c hc
 exact decide_eq_true (by omega)
theorem Shp.shaped {d:PyData}(h:Shp 64 d) : SeqAt.shaped d=true:=by
 unfold SeqAt.shaped
 rw [Bool.and_eq_true,decide_eq_true_iff]
 exact ⟨h.lay,h.dep⟩
section
variable {K:PySem.W.Frag}{H:Hp}{x y:V}{d:PyData}{Q:VK}
theorem ned (hx:DV K H x d)(hy:DV K H y d)(s:Shp 64 d)(q:Q (.bl false) H) : rNeD K x y H Q:=⟨d,d,hx,hy,s.shaped,s.shaped,by rw [SeqAt.eqv_refl d s.lay]; exact q⟩
end
end L2
namespace L2
theorem aN.at' {H H':Hp}{a:PySem.Addr}{o:HO}(s:aN H H')(h:H a=some o) : H' a=some o:=s a o h
end L2
namespace L2
theorem hI {H:Hp}{a p:PySem.Addr}{o:HO}(h:upd H a o p=none) : p ≠ a/\H p=none:=by
 unfold upd at h
 by_cases e:p=a
 ·rw [if_pos e] at h; cases h
 ·rw [if_neg e] at h; exact ⟨e,h⟩
end L2
namespace L2
end L2
namespace L2
end L2
namespace L2
open PySem
theorem oH {H:Hp}{a b:Addr}{o:HO}(h':H b=none)(h:H a=some o) : a ≠ b:=bE h h'
theorem iP.nw {K:PySem.W.Frag}{H:Hp}{a p:Addr}{xs:List V}{u:HO}(hp:H p=none)(h:iP K H a xs) : iP K (L2.upd H p u) a xs:=h.new hp
theorem iP.sm {K:PySem.W.Frag}{H H':Hp}{a:Addr}{xs:List V}(s:aN H H')(h:iP K H a xs) : iP K H' a xs:=h.same s
namespace Hs
variable {H H':Hp}{L L':List (Addr × HO)}{a p:Addr}{o o':HO}
end Hs
end L2
namespace L2
theorem upd_at {H:Hp}{a b:PySem.Addr}{o u:HO}(n:b ≠ a)(h:H b=some o) : upd H a u b=some o:=by rw [aR n]; exact h
end L2
namespace L2
open PySem PySem.Spec PyProof.Rows
theorem qS:∀ {ws:List Str}{us:List Value},bO (ws.map V.str) us->StrsAre us ws
 | [],_,r=>by cases r; exact .nil
 | w :: ws,_,r=>by
  cases r with
  | cons h t =>
   obtain ⟨t',rfl⟩:=h
   exact .cons w t' (qS t)
theorem mM:∀ {ws:List Str}{us:List Value},StrsAre us ws->bO (ws.map V.str) us
 | _,_,.nil=>.nil
 | _,_,.cons w t r=>.cons ⟨t,rfl⟩ (mM r)
section
variable {X:Cx}
theorem iJ:eA X (.builtin "sorted") (fun xs H Q=>∃ (p:Addr) (ws:List Str),xs = [.ref p]/\c6 X.K H p (ws.map V.str)/\ws.length < 64/\∀ (q:Addr) (ws':List Str),H q=none->ws'.Perm ws->sortedS ws'=true->Q (.ref q) (upd H q (.lst (ws'.map V.str)))):=by
 intro pins s σ H xs us Q I r h
 obtain ⟨p,ws,rfl,hp,h64,q⟩:=h
 obtain ⟨u,rfl,ru⟩:=fO r
 cases ru
 obtain ⟨its,rv,pl,hz⟩:=I.list hp
 have hl:=rv.length
 rw [List.length_map] at hl hz
 refine sorted_strs pl.isList (qS rv) (by omega) fun out ws' a1 a2 a3=>?_
 obtain ⟨n,en⟩:=sortedAll_at s.heap its out
 have hq:H (s.heap.objs.size + 1)=none:=I.hok.fresh (Nat.le_succ _)
 refine ⟨.ref (s.heap.objs.size + 1),_,I.laid (t':=s.toks) (o:=.lst (ws'.map V.str)) (fun b o e=>sortedAll_old e) (Nat.le_succ _) ⟨?_,out.toList,n,mM a1,?_⟩,rfl,q _ ws' hq a2 a3⟩
 ·rw [List.length_map,a2.length_eq]
  omega
 ·simpa using en
end
def Itv (K:PySem.W.Frag)(a:Addr)(n:Nat) : It :=
 ⟨fun i H=>∃ xs,c6 K H a xs/\xs.length=n/\i < n,fun i H v H'=>H'=H/\∀ xs,c6 K H a xs->xs[n - 1 - i]? = some v,fun i _=>i=n⟩
theorem uL {P:Program}{w:World}{K:PySem.W.Frag}{tg:Expr}(a it:Addr)(n:Nat) : Turn P w K tg (Itv K a n) [it] it (fun i h=>h.IsRevIter it a ((n:Int) - 1 - (i:Int))) where
 mem:=List.mem_singleton.mpr rfl
 obj:=fun i h st b hb=>by
  obtain rfl:=List.mem_singleton.mp hb
  obtain ⟨o,e,_,d⟩:=st
  exact ⟨o,e,fun v z=>by rw [d] at z; cases z⟩
 keep:=fun i h h' st k=>st.at fun o e=>k it (List.mem_singleton.mpr rfl) o e
 item:=by
  intro X hP hw hK hc i pins s σ H E I hf st hg
  subst hP hw hK
  obtain ⟨xs,hq,hn,hi⟩:=hg
  obtain ⟨its,rv,pl,hz⟩:=I.list hq
  obtain ⟨x,hx⟩ : ∃ x,xs[n - 1 - i]? = some x:=⟨_,List.getElem?_eq_getElem (by omega)⟩
  obtain ⟨u,hu,ru⟩:=rv.get hx
  obtain ⟨f0,f1,f2,f3,f4,f5⟩:=hf it (List.mem_singleton.mpr rfl)
  have e1:(n:Int) - 1 - (i:Int)=((n - 1 - i:Nat) : Int):=by omega
  rw [e1] at st
  refine wpAny_pyNext_rev_item st pl.isList (x:=u) (by simpa using hu) fun h' st' sb=>?_
  have e2:((n - 1 - i:Nat) : Int) - 1=(n:Int) - 1 - ((i + 1:Nat) : Int):=by omega
  rw [e2] at st'
  obtain ⟨o,e,c,d⟩:=id st'
  refine ⟨u,rfl,oP (s:={ s with heap:=h' }) e c d (by decide) ⟨x,H,I.turned (t':=s.toks) (fun b o hb e=>(sb.2 b hb).trans e) f0 f1 f3 f4 f5,ru,⟨rfl,fun ys hy=>?_⟩,st',fun b hb=>(hf b hb).1⟩⟩
  rw [I.list_inj hy hq]
  exact hx
 done:=by
  intro X hP hw hK hc i pins s σ H E I hf st hg
  subst hP hw hK
  obtain ⟨f0,f1,f2,f3,f4,f5⟩:=hf it (List.mem_singleton.mpr rfl)
  have hg:i=n:=hg
  have e1:(n:Int) - 1 - (i:Int) = -1:=by omega
  rw [e1] at st
  exact wpAny_pyNext_rev_end (I.ok.hd hc) st fun h' eb=>⟨rfl,I.turned (t':=s.toks) (fun b o hb e=>eb b o hb e) f0 f1 f3 f4 f5⟩
 self:=fun _ _ _ _ _ st h=>wpAny_pyIter_revIter st h
section
variable {X:Cx}{tg:Expr}
def iRev (K:PySem.W.Frag)(ta:TA) : TI:=fun σ H R=>ta σ H fun vs H1=>∃ a xs,vs = [.ref a]/\c6 K H1 a xs/\R (Itv K a xs.length) H1
theorem o7:bootBuiltins "reversed" = some (.type "reversed"):=by decide +kernel
theorem vO {a:Expr}{ta:TA}{p pos:Pos}(hg:Gl X "reversed") (hm:X.mg "reversed" = none) (ha:PA X [a] ta) (hs:starEach [a] X.env = [(false,eval a X.env)]:=by rfl) :
  PI X tg (.Call (.Name "reversed" p) [a] [] pos) (iRev X.K ta):=by
 intro pins s σ H R I h
 refine Call_ (j7 I hg hm o7 (PyProof.Rows.callWith_type1 (cL (ha pos pins s σ H _ I h) fun us s1 ⟨vs,H1,I1,r1,q1⟩=>?_) hs rfl))
 obtain ⟨l,xs,e,hq,q⟩:=q1
 subst e
 obtain ⟨u,rfl,ru⟩:=fO r1
 cases ru
 obtain ⟨its,rv,pl,hz⟩:=I1.list hq
 have hl:its.toArray.size=xs.length:=by simp [rv.length]
 refine call_reversed_list pl.isList ?_
 have ri:(s1.heap.push (revObj l ((its.toArray.size:Int) - 1))).IsRevIter s1.heap.objs.size l ((its.toArray.size:Int) - 1):=⟨_,Heap.get?_push_size _ rfl,rfl,rfl⟩
 refine wpAny_pyIter_revIter ri ?_
 refine ⟨s1.heap.objs.size,_,_,_,H1,rfl,I1.kept (t':=s1.toks) fun b o e=>Heap.get?_push_of_some _ e,uL l _ xs.length,?_,fun b hb=>?_,q⟩
 ·have e1:(its.toArray.size:Int) - 1=(xs.length:Int) - 1 - ((0:Nat) : Int):=by rw [hl]; simp
  rw [<- e1]
  exact ri
 ·obtain rfl:=List.mem_singleton.mp hb
  exact I1.fpOk (Nat.le_refl _) (I1.hok.fresh (Nat.le_refl _))
theorem rT {K:PySem.W.Frag}{a:Addr}{xs:List V}{g:TG}{tb:TS}{D:Ends}{σ:St}{H:Hp}(Pv:Nat->St->Hp->Prop) (h0:Pv 0 σ H) (hl:∀ i σ H,i<=xs.length->Pv i σ H->c6 K H a xs)
  (hs:∀ i x σ H,xs.reverse[i]? = some x->Pv i σ H->g x σ H fun σ2 H2=>tb { D with nx:=Pv (i + 1),ct:=Pv (i + 1),bk:=D.nx } σ2 H2) (hd:∀ σ H,Pv xs.length σ H->D.nx σ H) :
  ∃ W:Nat->Nat->St->Hp->Prop,(∃ m,W 0 m σ H)/\∀ i m σ H,W i m σ H ->
   ((Itv K a xs.length).stop i H/\D.nx σ H)\/((Itv K a xs.length).go i H/\∃ N:St->Hp->Prop,(∀ σ' H',N σ' H'->∃ m',m' < m/\W (i + 1) m' σ' H')/\∀ x H',(Itv K a xs.length).yld i H x H'->g x σ H' fun σ2 H2=>tb { D with nx:=N,ct:=N,bk:=D.nx } σ2 H2):=by
 refine ⟨fun i m σ H=>m + i=xs.length/\Pv i σ H,⟨xs.length,rfl,h0⟩,?_⟩
 rintro i m σ H ⟨hm,p⟩
 cases m with
 | zero =>
  obtain rfl:i=xs.length:=by omega
  exact .inl ⟨rfl,hd σ H p⟩
 | succ m =>
  refine .inr ⟨⟨xs,hl i σ H (by omega) p,rfl,by omega⟩,Pv (i + 1),fun σ' H' p'=>⟨m,Nat.lt_succ_self _,by omega,p'⟩,?_⟩
  rintro x H' ⟨rfl,k⟩
  refine hs i x σ _ ?_ p
  rw [List.getElem?_reverse (by omega)]
  exact k xs (hl i σ _ (by omega) p)
end
def kept:List Value->Array Value
 | [] => #[]
 | v :: _ => #[v,v]
section
variable {P:Program}{w:World}{A:Around}{s:Shared}{R:Result->Shared->Prop}
theorem iH {id:String}{B:Builtin}{args:Args}(e:entryFor table id=some B) (p:plainId id=true) (h:wpAny (model P w) A.in1 (B args)
  (fun fin s'=>match fin with | .done f=>R (.ok f) s' | .again c'=>c'.quiet=true/\codeAny (model P w) A c' R s') (fun e s'=>R (.error e) s') s) : codeAny (model P w) A (.builtin id args) R s :=
 codeAny_builtin e (by rw [Around.under_plainId p]; exact h)
end
section
variable {X:Cx}{k:Str}
end
section
variable {X:Cx}
end
section
variable {X:Cx}
theorem cQ (x y:Str) : (x ++ y).length=x.length + y.length:=strLen_append x y
end
end L2
namespace L2
theorem jM {n:Nat}(h:n<=1000000) : n<=PySem.sizeLine:=Nat.le_trans h (by decide)
end L2
namespace L2
open PySem
theorem dI {c:Const}{j:Nat}{p:Pos}{es:List Expr}{env:Env} : starEach (.Constant c j p :: es) env=(false,eval (.Constant c j p) env) :: starEach es env:=rfl
end L2
namespace L2
open PySem PySem.Spec PyProof.Rows
section
variable {X:Cx}{k:Nat}{f C:Addr}{fd:FuncData}{ps:List Str}{sp:Sp}{dvs:List V}{ds:List Value}{x:Str}{p pos:Pos}{e:Expr}{es:List Expr}{t:TA}
end
section
variable {X:Cx}{k:Nat}{f C:Addr}{fd:FuncData}{ps:List Str}{sp:Sp}{dvs:List V}{ds:List Value}{m:Str}{pos apos:Pos}{e o:Expr}{es:List Expr}{ta:TE}{t:TA}
end
section
variable {X:Cx}
end
section
variable {X:Cx}
end
end L2
namespace PySem
section
variable {prog:Program}{w:World}{A:Around}{E:Value->Shared->Prop}{s:Shared}
end
end PySem
namespace L2
open PySem PySem.Spec PyProof.Rows
section
variable {X:Cx}{tg:Expr}
end
section
variable {P:Program}{w:World}{A:Around}{s:Shared}{R:Result->Shared->Prop}
end
section
variable {X:Cx}{k:Str}
end
section
variable {κ:Type} [DecidableEq κ]
def fR (kvs:List (κ × V))(k:κ) : Option V:=(kvs.find? fun kv=>decide (kv.1=k)).map (·.2)
def fF (kvs:List (κ × V))(k:κ)(v:V) : List (κ × V) :=
 if (kvs.any fun kv=>decide (kv.1=k))=true then kvs.map (fun kv=>if kv.1=k then (kv.1,v) else kv) else kvs ++ [(k,v)]
theorem fS {p:κ × V}{r:List (κ × V)}{k:κ}(e:p.1=k) : fR (p :: r) k=some p.2:=by simp [fR,List.find?_cons,e]
theorem d7 {p:κ × V}{r:List (κ × V)}{k:κ}(e:¬ p.1=k) : fR (p :: r) k=fR r k:=by simp [fR,List.find?_cons,e]
theorem jK (k:κ) : ∀ kvs:List (κ × V),(kvs.any fun kv=>decide (kv.1=k))=(fR kvs k).isSome
 | []=>rfl
 | p :: r=>by
  rw [List.any_cons]
  by_cases e:p.1=k
  ·simp only [fS e,decide_eq_true e,Bool.true_or,Option.isSome_some]
  ·rw [d7 e,decide_eq_false e,Bool.false_or]; exact jK k r
theorem iY (kvs:List (κ × V))(k:κ)(v:V) : (fF kvs k v).length<=kvs.length + 1:=by
 unfold fF
 split
 ·rw [List.length_map]; omega
 ·rw [List.length_append,List.length_cons,List.length_nil]; omega
theorem hX {kvs:List (κ × V)}{k:κ}(v:V)(h:fR kvs k=none) : fF kvs k v=kvs ++ [(k,v)]:=by
 unfold fF
 rw [jK,h]
 exact if_neg (by decide)
theorem kM.isSome_eq {o:Option V}{u:Option Value}(r:kM o u) : o.isSome=u.isSome:=by
 cases o with
 | none=>cases u with
  | none=>rfl
  | some _=>exact (show False from r).elim
 | some _=>cases u with
  | none=>exact (show False from r).elim
  | some _=>rfl
theorem KV.val {kvs:List (κ × V)}{vs:List (κ × Value)}(r:KV kvs vs)(k:κ) : kM (fR kvs k) (valueAt vs k):=by
 unfold KV at r
 induction r with
 | nil=>exact True.intro
 | @cons p q ps qs h t ih =>
  obtain ⟨h1,h2⟩:=h
  by_cases e:p.1=k
  ·have e':q.1=k:=h1.symm.trans e
   have b:valueAt (q :: qs) k=some q.2:=by simp [valueAt,List.find?_cons,e']
   rw [fS e,b]; exact h2
  ·have e':¬ q.1=k:=fun z=>e (h1.trans z)
   have b:valueAt (q :: qs) k=valueAt qs k:=by simp [valueAt,List.find?_cons,e']
   rw [d7 e,b]; exact ih
theorem KV.any {kvs:List (κ × V)}{vs:List (κ × Value)}(r:KV kvs vs)(k:κ) : (kvs.any fun kv=>decide (kv.1=k))=vs.any fun kv=>decide (kv.1=k):=by
 unfold KV at r
 induction r with
 | nil=>rfl
 | cons h t ih=>rw [List.any_cons,List.any_cons,ih,h.1]
theorem KV.repl {kvs:List (κ × V)}{vs:List (κ × Value)}(r:KV kvs vs) (k:κ) {y:V}{u:Value}(ry:bX y u) :
  KV (kvs.map fun kv=>if kv.1=k then (kv.1,y) else kv) (vs.map fun kv=>if kv.1=k then (kv.1,u) else kv):=by
 unfold KV at r ⊢
 induction r with
 | nil=>exact .nil
 | @cons p q ps qs h t ih =>
  rw [List.map_cons,List.map_cons]
  refine .cons ?_ ih
  obtain ⟨h1,h2⟩:=h
  by_cases e:p.1=k
  ·rw [if_pos e,if_pos (h1.symm.trans e)]; exact ⟨h1,ry⟩
  ·rw [if_neg e,if_neg (fun z=>e (h1.trans z))]; exact ⟨h1,h2⟩
theorem KV.put {kvs:List (κ × V)}{vs:List (κ × Value)}(r:KV kvs vs)(k:κ){y:V}{u:Value}(ry:bX y u) : KV (fF kvs k y) (stored vs k u):=by
 unfold fF stored
 rw [r.any k]
 by_cases e:(vs.any fun kv=>decide (kv.1=k))=true
 ·rw [if_pos e,if_pos e]; exact r.repl k ry
 ·rw [if_neg e,if_neg e]; exact Paired.snoc r ⟨rfl,ry⟩
theorem KV.length {kvs:List (κ × V)}{vs:List (κ × Value)}(r:KV kvs vs) : kvs.length=vs.length:=Paired.length r
end
theorem wS {P:Program}{w:World}{k:bG}{u:Value}(r:bX (kV k) u) : (aW P w).is k u=true:=by
 cases k with
 | inl i=>obtain ⟨t,e⟩:=(show ∃ t,u=Value.int i t from r); subst e; exact iX P w i t
 | inr x=>obtain ⟨t,e⟩:=(show ∃ t,u=Value.str x t from r); subst e; exact iW P w x t
theorem lK {P:Program}{w:World} : ∀ {ks:List bG}{us:List Value},bO (ks.map kV) us->ItemsAre (aW P w) ks us
 | [],_,r=>by rw [List.map_nil] at r; cases r; exact .nil
 | k :: ks,_,r=>by
  rw [List.map_cons] at r
  cases r with
  | cons h t=>exact .cons (wS h) (lK t)
abbrev KT (H:Hp) : List (List bG × V)->List (List bG × Addr × Value)->Prop:=Paired fun p q=>p.1=q.1/\H q.2.1=some (.tup (p.1.map kV))/\bX p.2 q.2.2
theorem KT.val {H:Hp}{kvs:List (List bG × V)}{xs:List (List bG × Addr × Value)}(r:KT H kvs xs)(k:List bG) : kM (fR kvs k) ((atKey xs k).map (·.2)):=by
 induction r with
 | nil=>exact True.intro
 | @cons p q ps qs h t ih =>
  obtain ⟨h1,_,h2⟩:=h
  by_cases e:p.1=k
  ·have e':q.1=k:=h1.symm.trans e
   have b:atKey (q :: qs) k=some q.2:=by simp [atKey,List.find?_cons,e']
   rw [fS e,b]; exact h2
  ·have e':¬ q.1=k:=fun z=>e (h1.trans z)
   have b:atKey (q :: qs) k=atKey qs k:=by simp [atKey,List.find?_cons,e']
   rw [d7 e,b]; exact ih
theorem KT.repl {H:Hp}{kvs:List (List bG × V)}{xs:List (List bG × Addr × Value)}(r:KT H kvs xs) (k:List bG) {y:V}{u:Value}(ry:bX y u) :
  KT H (kvs.map fun kv=>if kv.1=k then (kv.1,y) else kv) (xs.map (putAt k u)):=by
 induction r with
 | nil=>exact .nil
 | @cons p q ps qs h t ih =>
  rw [List.map_cons,List.map_cons]
  refine .cons ?_ ih
  obtain ⟨h1,h2,h3⟩:=h
  unfold putAt
  by_cases e:p.1=k
  ·rw [if_pos e,if_pos (h1.symm.trans e)]; exact ⟨h1,h2,ry⟩
  ·rw [if_neg e,if_neg (fun z=>e (h1.trans z))]; exact ⟨h1,h2,h3⟩
theorem KT.put {H:Hp}{kvs:List (List bG × V)}{xs:List (List bG × Addr × Value)}(r:KT H kvs xs) (k:List bG) {b:Addr}{y:V}{u:Value}(hb:H b=some (.tup (k.map kV))) (ry:bX y u) :
  KT H (fF kvs k y) (storedH xs k b u):=by
 have e:(kvs.any fun kv=>decide (kv.1=k))=(atKey xs k).isSome:=by
  rw [jK,(r.val k).isSome_eq,Option.isSome_map]
 unfold fF storedH
 rw [e]
 by_cases q:(atKey xs k).isSome=true
 ·rw [if_pos q,if_pos q]; exact r.repl k ry
 ·rw [if_neg q,if_neg q]; exact Paired.snoc r ⟨rfl,hb,ry⟩
theorem KT.keeps {H H':Hp}{kvs:List (List bG × V)}{xs:List (List bG × Addr × Value)}(r:KT H kvs xs)(ht:∀ b ys,H b=some (.tup ys)->H' b=some (.tup ys)) : KT H' kvs xs :=
 Paired.mapP r fun _ _ z=>⟨z.1,ht _ _ z.2.1,z.2.2⟩
section
variable {P:Program}{w:World}{H:Hp}{h:Heap}{a:Addr}
theorem rd_of {u:HO}(ok:g9 P w H h)(e:Rd H a u) : cI P w H h a u:=e.ok ok
theorem xC {kvs:List (bG × V)}(ok:g9 P w H h)(e:Rd H a (.dK kvs)) : kvs.length<=sizeLine/\(a == sysModules)=false/\∃ vs,KV kvs vs/\h.DictOf (aW P w) a vs :=
 show cI P w H h a (.dK kvs) from rd_of ok e
theorem xD {kvs:List (bG × V)}(ok:g9 P w H h)(e:H a=some (.dK kvs)) : kvs.length<=sizeLine/\(a == sysModules)=false/\∃ vs,KV kvs vs/\h.DictOf (aW P w) a vs:=xC ok (.inl e)
theorem qD {ks:List bG}(ok:g9 P w H h)(e:H a=some (.tup (ks.map kV))) : (tupleKind (aW P w)).is h ks a:=by
 obtain ⟨_,its,r,o,h1,h2,n,h3⟩:=(show cI P w H h a (.tup (ks.map kV)) from ok a _ e)
 exact ⟨o,its.toArray,n,h1,h2,h3,by simpa using lK r⟩
theorem xA {kvs:List (List bG × V)}(ok:g9 P w H h)(e:Rd H a (.dT kvs)) : kvs.length<=sizeLine/\(a == sysModules)=false /\
  ∃ xs,KT H kvs xs/\h.DictOfH (tupleKind (aW P w)) a xs:=by
 obtain ⟨z,y,xs,r,o,es,ep,h1,h2,h3,h4,h5⟩:=(show cI P w H h a (.dT kvs) from rd_of ok e)
 refine ⟨z,y,xs,r,o,es,ep,h1,h2,h3,h4,fun x hx=>?_,h5⟩
 have all:∀ {l:List (List bG × V)}{m:List (List bG × Addr × Value)},KT H l m->∀ x∈m,(tupleKind (aW P w)).is h x.1 x.2.1:=by
  intro l m q
  induction q with
  | nil=>intro x hx; exact nomatch hx
  | @cons p q ps qs hq t ih =>
   intro x hx
   rcases List.mem_cons.mp hx with e | hx
   ·subst e
    exact qD ok (by rw [<- hq.1]; exact hq.2.1)
   ·exact ih x hx
 exact all r x hx
theorem dt_of {kvs:List (List bG × V)}(ok:g9 P w H h)(e:H a=some (.dT kvs)) : kvs.length<=sizeLine/\(a == sysModules)=false /\
  ∃ xs,KT H kvs xs/\h.DictOfH (tupleKind (aW P w)) a xs:=xA ok (.inl e)
end
def gH (H:Hp)(a:Addr)(y:V)(r:Option V) : Prop :=
 (∃ kvs k,Rd H a (.dK kvs)/\y=kV k/\r=fR kvs k)\/∃ kvs k b,Rd H a (.dT kvs)/\y = .ref b/\H b=some (.tup (k.map kV))/\r=fR kvs k
def kN (H:Hp)(a:Addr)(y v:V)(H':Hp) : Prop :=
 (∃ kvs k,H a=some (.dK kvs)/\y=kV k/\kvs.length < sizeLine/\H'=upd H a (.dK (fF kvs k v))) \/
 ∃ kvs k b,H a=some (.dT kvs)/\y = .ref b/\H b=some (.tup (k.map kV))/\kvs.length < sizeLine/\H'=upd H a (.dT (fF kvs k v))
theorem gH.k {H:Hp}{a:Addr}{kvs:List (bG × V)}{k:bG}(e:H a=some (.dK kvs)) : gH H a (kV k) (fR kvs k):=.inl ⟨kvs,k,.inl e,rfl,rfl⟩
theorem kN.k {H:Hp}{a:Addr}{kvs:List (bG × V)}{k:bG}{v:V}(e:H a=some (.dK kvs))(hl:kvs.length < sizeLine) : kN H a (kV k) v (upd H a (.dK (fF kvs k v))):=.inl ⟨kvs,k,e,rfl,hl,rfl⟩
section
variable {X:Cx}{pins:List (Addr × Obj)}{σ:St}{H:Hp}{s:Shared}{a:Addr}{y v:V}{u r:Value}{o:Option V}{A:Around}{E:Value->Shared->Prop}
theorem Inv.big (I:Inv X pins σ H s) : sysModules < s.heap.objs.size:=by
 have h:mainGlobals < s.heap.objs.size:=(I.mod.glob.keeps I.bk).lt
 exact Nat.lt_trans (by decide) h
theorem tZ {Q:Value->Shared->Prop}(hu:A.units + 1 < cLine) (I:Inv X pins σ H s) (g:gH H a y (some v)) (ry:bX y u) (h:∀ w' s',Inv X pins σ H s'->bX v w'->Q w' s') :
  wpAny (model X.prog X.w) A (getItem (.ref a) u) Q E s:=by
 rcases g with ⟨kvs,k,e,ey,l⟩ | ⟨kvs,k,b,e,ey,eb,l⟩
 ·subst ey
  obtain ⟨z,hd,vs,rel,dd⟩:=xC I.hok e
  obtain ⟨w',hw,rw'⟩:=kM.some_of (v:=v) (o:=valueAt vs k) (by rw [l]; exact rel.val k)
  exact wpAny_getItem_of (wS ry) dd.mapOf hw (h w' _ (I.tok _) rw')
 ·subst ey
  cases (show u=Value.ref b from ry)
  obtain ⟨z,hd,xs,rel,dd⟩:=xA I.hok e
  obtain ⟨w',hw,rw'⟩:=kM.some_of (v:=v) (o:=(atKey xs k).map (·.2)) (by rw [l]; exact rel.val k)
  obtain ⟨p,hp,hp2⟩:=Option.map_eq_some_iff.mp hw
  refine wpAny_getItem_heap (tupleKind_room_in1 hu) (qD I.hok eb) dd hp ?_
  rw [hp2]
  exact h w' _ (I.tok _) rw'
theorem m6 {h':Heap}{t':Nat}{ob:HO}(I:Inv X pins σ H s) (mu:Mut (H a)) (hs:Heap.SameBut a s.heap h') (he:∃ q,h'.get? a=some q) (new:cI X.prog X.w (upd H a ob) h' a ob) :
  Inv X pins σ (upd H a ob) { s with heap:=h',toks:=t' } :=
 I.write (x:=a) (e:=a) mu (.inl rfl) (fun b q hb z=>(hs.2 b hb).trans z) he new
theorem dk_new {P:Program}{w:World}{H':Hp}{h':Heap}{kvs:List (bG × V)}{vs:List (bG × Value)}(z:kvs.length<=sizeLine) (hd:(a == sysModules)=false) (rel:KV kvs vs) (dd:h'.DictOf (aW P w) a vs) :
  cI P w H' h' a (.dK kvs):=⟨z,hd,vs,rel,dd⟩
theorem tY {H':Hp}{Q:Unit->Shared->Prop}(hu:A.units + 1 < cLine) (I:Inv X pins σ H s) (g:kN H a y v H') (ry:bX y u) (rv:bX v r) (h:∀ s',Inv X pins σ H' s'->Q () s') :
  wpAny (model X.prog X.w) A (setItem (.ref a) u r) Q E s:=by
 rcases g with ⟨kvs,k,e,ey,l,eH⟩ | ⟨kvs,k,b,e,ey,eb,l,eH⟩
 ·subst ey eH
  obtain ⟨z,hd,vs,rel,dd⟩:=xD I.hok e
  have hz:vs.length<=sizeLine:=by rw [<- rel.length]; exact z
  have hl:(fF kvs k v).length<=sizeLine:=by have:=iY kvs k v; omega
  refine wpAny_setItem_pairs (hsz:=hz) (wS ry) dd fun h' dd' hs=>h _ ?_
  have he:∃ q,h'.get? a=some q:=let ⟨q,_,_,hq,_⟩:=dd'; ⟨q,hq⟩
  exact m6 I (by rw [e]; exact True.intro) hs he (dk_new hl hd (rel.put k rv) dd')
 ·subst ey eH
  cases (show u=Value.ref b from ry)
  obtain ⟨z,hd,xs,rel,dd⟩:=dt_of I.hok e
  have hz:xs.length<=sizeLine:=by rw [<- Paired.length rel]; exact z
  have hl:(fF kvs k v).length<=sizeLine:=by have:=iY kvs k v; omega
  refine wpAny_setItem_heap (hsz:=hz) (tupleKind_room_in1 hu) (qD I.hok eb) dd fun h' dd' hs=>h _ ?_
  obtain ⟨q,es,ep,hq,h2,h3,h4,_,h5⟩:=dd'
  refine m6 I (by rw [e]; exact True.intro) hs ⟨q,hq⟩ ⟨hl,hd,_,(rel.put k eb rv).keeps fun c ys ec=>?_,q,es,ep,hq,h2,h3,h4,h5⟩
  rw [aR (fQ ec e (fun z=>nomatch z))]
  exact ec
end
section
variable {X:Cx}{pins:List (Addr × Obj)}{σ:St}{H:Hp}{s:Shared}{a:Addr}{kvs:List (bG × V)}{k:bG}{u:Value}{A:Around}{E:Value->Shared->Prop}
end
def NoSl (i:Expr) : Prop:=∀ ov iv,subscripted i false ov iv=operate [ov,iv] (getItem ov iv)
theorem x9 {prog:Program}{w:World}{A:Around}{E:Value->Shared->Prop}{s:Shared}{env:Env}{value slice:Expr}{pos:Pos}{T id:String}{Q:Value->Shared->Prop}
  (hl:typeLookup (.type T) "__getitem__" = pure (some (.builtin id))) (hs:NoSl slice)
  (h:wpAny (model prog w) A (eval value env) (fun o s₁=>wpAny (model prog w) A (eval slice env) (fun i s₂=>s₂.TypeIs o T/\wpAny (model prog w) A (getItem o i) Q E s₂) E s₁) E s) :
  wpAny (model prog w) A (eval (.Subscript value slice pos) env) Q E s:=by
 refine Subscript_ (wpAny_mono h (fun o s₁ h₁=>wpAny_mono h₁ (fun i s₂ h₂=>?_) fun _ _ x=>x) fun _ _ x=>x)
 obtain ⟨hT,h₂⟩:=h₂
 unfold subscriptTail
 refine wpAny_bind ?_
 rw [getitemInPython_of_ne hT.not_modules]
 refine wpAny_bind (wpAny_specialOf hT hl ?_)
 have fin:wpAny (model prog w) A (subscripted slice false o i) (fun r s₃=>wpAny (model prog w) A (letTemporaryGo value o r >>= fun _=>pure r) Q E s₃) E s₂:=by
  rw [hs o i]
  exact wpAny_operating (wpAny_mono h₂ (fun r s₃ h₃=>wpAny_bind (wpAny_letTemporaryGo (wpAny_pure h₃))) fun _ _ x=>x)
 first
  | exact wpAny_pure (wpAny_bind fin)
  | exact wpAny_bind (wpAny_pure (wpAny_bind fin))
  | exact wpAny_bind fin
theorem oU {X:Cx}{pins:List (Addr × Obj)}{σ:St}{H:Hp}{s:Shared}{a:Addr}{y:V}{o:Option V}(I:Inv X pins σ H s)(g:gH H a y o) : s.TypeIs (.ref a) "dict" := by
 rcases g with ⟨kvs,k,e,_,_⟩ | ⟨kvs,k,b,e,_,_,_⟩
 ·obtain ⟨_,_,vs,_,dd⟩:=xC I.hok e
  exact dd.typeIs
 ·obtain ⟨_,_,xs,_,dd⟩:=xA I.hok e
  exact dd.typeIs
def tDGet (td ty:TE) : TE:=fun σ H Q=>td σ H fun x H1=>ty σ H1 fun y H2=>∃ a v,x = .ref a/\gH H2 a y (some v)/\Q v H2
def sDPut (td ty tv:TE) : TS:=fun D σ H=>tv σ H fun v H1=>td σ H1 fun x H2=>ty σ H2 fun y H3=>∃ a H4,x = .ref a/\kN H3 a y v H4/\D.nx σ H4
section
variable {X:Cx}{o i e value:Expr}{pos pos' tpos:Pos}{td ty tv:TE}
theorem dW (hu:X.A.units + 1 < cLine)(ho:PE X o td)(hi:PE X i ty)(hs:NoSl i) : PE X (.Subscript o i pos) (tDGet td ty):=by
 intro pins s σ H Q I h
 refine x9 PySem.F.slot_dict_getitem.lookup hs (cL (ho pins s σ H _ I h) fun u s1 ⟨x,H1,I1,rx,q1⟩=>cL (hi pins s1 σ H1 _ I1 q1) fun iv s2 ⟨y,H2,I2,ry,a,v,ex,g,q2⟩=>?_)
 subst ex
 obtain rfl:u=Value.ref a:=rx
 exact ⟨oU I2 g,tZ hu I2 g ry fun w' s3 I3 rw'=>⟨v,H2,I3,rw',q2⟩⟩
theorem hZ (hu:X.A.units + 1 < cLine) (ho:PE X o td) (hi:PE X i ty) (hv:PE X value tv) (hs:swapsWith value (some (.Subscript o i pos')) pos.line X.env=pure false) :
  PS X (.Assign [.Subscript o i pos'] value pos) (sDPut td ty tv):=by
 intro pins s σ H D I h
 refine wpAny_Assign_Subscript (cL (hv pins s σ H _ I h) fun r s1 ⟨v,H1,I1,rv,q1⟩=>cL (ho pins s1 σ H1 _ I1 q1) fun u s2 ⟨x,H2,I2,rx,q2⟩=>cL (hi pins s2 σ H2 _ I2 q2) fun iv s3 ⟨y,H3,I3,ry,a,H4,ex,g,q3⟩=>?_) hs
 subst ex
 obtain rfl:u=Value.ref a:=rx
 exact tY hu I3 g ry rv fun s4 I4=>⟨σ,H4,I4,q3⟩
end
theorem xE {P:Program}{w:World}{H:Hp}(h:Heap)(hb:sysModules < h.objs.size) : cI P w H (h.push { cls:=.type "dict", data:=.dict #[] }) h.objs.size (.dK []) :=
 ⟨Nat.zero_le _,beq_eq_false_iff_ne.mpr (Ne.symm (Nat.ne_of_lt hb)),[],.nil,Heap.DictOf.new h⟩
def tDNewK:TE:=fun _ H Q=>∀ p,H p=none->Q (.ref p) (upd H p (.dK []))
section
variable {X:Cx}{pos:Pos}
theorem iB:PE X (.Dict [] [] pos) tDNewK:=fun pins s σ H Q I h =>
 wpAny_Dict_empty ⟨.ref s.heap.objs.size,_,I.laid (a:=s.heap.objs.size) (o:=.dK []) (t':=s.toks) (fun _ _ q=>Heap.get?_push_of_some _ q) (Nat.le_refl _) (xE s.heap I.big),rfl,h _ (I.hok.fresh (Nat.le_refl _))⟩
end
structure M1 (X:Cx) (o:Expr) (m:Str) (apos:Pos) (e:Expr) (cpos:Pos) : Prop where
 base:attributeBase o m X.env (eval o X.env)=eval o X.env
 few:((backTo cpos (starEach [e] X.env)).all (fun x => !x.1) && (backToKw cpos (keywordEach [] X.env)).all (fun x=>x.1.isSome)
  && decide (([e] : List Expr).length + ([] : List Keyword).length + (if ([] : List Keyword).isEmpty then 0 else 1) < 30))=true
 line:(apos.endLine == cpos.line)=true
 trees:backTo cpos (starEach [e] X.env) = [(false,eval e X.env)]
structure M2 (X:Cx) (o:Expr) (m:Str) (apos:Pos) (e f:Expr) (cpos:Pos) : Prop where
 base:attributeBase o m X.env (eval o X.env)=eval o X.env
 few:((backTo cpos (starEach [e,f] X.env)).all (fun x => !x.1) && (backToKw cpos (keywordEach [] X.env)).all (fun x=>x.1.isSome)
  && decide (([e,f] : List Expr).length + ([] : List Keyword).length + (if ([] : List Keyword).isEmpty then 0 else 1) < 30))=true
 line:(apos.endLine == cpos.line)=true
 trees:backTo cpos (starEach [e,f] X.env) = [(false,eval e X.env),(false,eval f X.env)]
section
variable {X:Cx}{pins:List (Addr × Obj)}{σ:St}{H:Hp}{s:Shared}{a:Addr}{y d:V}{u r:Value}{o:Option V}{A:Around}{E:Value->Shared->Prop}
end
section
variable {X:Cx}{o e f:Expr}{apos cpos:Pos}{td ty tx:TE}
end
section
variable {X:Cx}{pins:List (Addr × Obj)}{σ:St}{H:Hp}{s:Shared}{a:Addr}{kvs:List (bG × V)}{A:Around}{E:Value->Shared->Prop}
end
section
variable {X:Cx}{pins:List (Addr × Obj)}{σ:St}{H:Hp}{s:Shared}{a:Addr}{y:V}{u:Value}{A:Around}{E:Value->Shared->Prop}
end
section
variable {κ:Type} [DecidableEq κ]
end
theorem key_rel {k:bG}{u:Value}(h:gB k u=true) : bX (kV k) u:=by
 rcases bP h with ⟨i,t,rfl,rfl⟩ | ⟨x,t,rfl,rfl⟩
 ·exact ⟨t,rfl⟩
 ·exact ⟨t,rfl⟩
abbrev nH (P:Program) (w:World) (a:Addr) (kvs:List (bG × V)) (ep:Nat) : HO:=.ext fun h=>∃ vs,KV kvs vs/\h.DictAt (aW P w) a vs ep/\(a == sysModules)=false
theorem Inv.freeze {X:Cx}{pins:List (Addr × Obj)}{σ:St}{H:Hp}{s:Shared}{a:Addr}{kvs:List (bG × V)}(I:Inv X pins σ H s) (e:H a=some (.dK kvs)) :
  ∃ ep vs,KV kvs vs/\s.heap.DictAt (aW X.prog X.w) a vs ep/\(a == sysModules)=false/\Inv X pins σ (upd H a (nH X.prog X.w a kvs ep)) s:=by
 obtain ⟨z,hd,vs,rel,dd⟩:=xD I.hok e
 obtain ⟨ep,da⟩:=dd.dictAt
 obtain ⟨o,es,ho,r⟩:=id da
 refine ⟨ep,vs,rel,da,hd,?_⟩
 exact m6 (t':=s.toks) I (by rw [e]; exact True.intro) ⟨rfl,fun _ _=>rfl⟩ ⟨o,ho⟩ ⟨⟨vs,rel,da,hd⟩,⟨o,ho⟩,fun h1 h2 ⟨us,r1,d1,l1⟩ k=>⟨us,r1,d1.at' k,l1⟩⟩
section
variable {X:Cx}{tg:Expr}
end
section
variable {X:Cx}
def rStarts:V->List V->Hp->VK->Prop:=fun x vs H Q=>∃ a b,x = .str a/\vs = [.str b]/\Q (.bl (Txt.startswith a b)) H
theorem dA:MtR X "str.startswith" rStarts:=by
 intro pins s σ H x vs v us Q I rx rv h
 obtain ⟨a,b,rfl,rfl,q⟩:=h
 obtain ⟨t,rfl⟩:=rx
 obtain ⟨u,rfl,ru⟩:=fO rv
 obtain ⟨t',rfl⟩:=ru
 exact SC.startswith ⟨.bl _,H,I,rfl,q⟩
end
theorem bU (a b:Str) : Txt.startswith a b=true↔bI b <+: bI a:=by
 unfold Txt.startswith
 rw [Bool.and_eq_true,decide_eq_true_eq,StrLaws.subAt_eq,List.drop_zero,beq_iff_eq,Nat.zero_add]
 show b.length<=a.length/\(bI a).take b.length=bI b↔_
 rw [<- c9 b,List.prefix_iff_eq_take]
 constructor
 ·rintro ⟨_,h⟩
  exact h.symm
 ·intro h
  refine ⟨?_,h.symm⟩
  have:=congrArg List.length h
  rw [List.length_take,c9] at this
  rw [c9]
  rw [c9] at this
  omega
section
variable {X:Cx}
end
section
variable {X:Cx}
end
end L2
namespace L2
open PySem PySem.Spec PyProof.Rows PySem.W
end L2
namespace L2
open PySem PySem.Spec PyProof.Rows PySem.W
section
variable {prog:Program}{w:World}{A:Around}{E:Value->Shared->Prop}{s:Shared}
end
section
variable {X:Cx}
end
end L2
namespace L2
open PySem
structure Lit (t:SetTable) : Prop where
 up:t.place.toList.Pairwise (· < ·)
 no:t.dummies = #[]
theorem jQ {xs:Array Nat}(h:xs.toList.Pairwise (· < ·)){i j:Nat}(ij:i < j)(hj:j < xs.size)(d:Nat) : xs.getD i d < xs.getD j d:=by
 have hi:i < xs.size:=Nat.lt_trans ij hj
 have e1:xs.getD i d=xs[i]:=by simp [Array.getD,hi]
 have e2:xs.getD j d=xs[j]:=by simp [Array.getD,hj]
 rw [e1,e2]
 have:=List.pairwise_iff_getElem.mp h i j (by simpa using hi) (by simpa using hj) ij
 simpa using this
theorem kI {xs:Array Nat}{j:Nat}(h:xs.toList.Pairwise (· < ·)) : ∀ (fuel lo hi:Nat),lo<=hi->hi<=xs.size->hi - lo<=fuel ->
  (∀ i,i < lo->xs.getD i j < j)->(∀ i,hi<=i->i < xs.size->j<=xs.getD i j) ->
  SetTable.below.go xs j fuel lo hi<=xs.size/\(∀ i,i < SetTable.below.go xs j fuel lo hi->xs.getD i j < j)/\(∀ i,SetTable.below.go xs j fuel lo hi<=i->i < xs.size->j<=xs.getD i j)
 | 0,lo,hi,l1,l2,l3,a,b=>by
  have e:lo=hi:=by omega
  subst e
  exact ⟨l2,a,b⟩
 | fuel + 1,lo,hi,l1,l2,l3,a,b=>by
  unfold SetTable.below.go
  split
  ·rename_i lt
   have m1:lo<=(lo + hi) / 2:=by omega
   have m2:(lo + hi) / 2 < hi:=by omega
   dsimp only
   split
   ·rename_i c
    refine kI h fuel _ hi (by omega) l2 (by omega) (fun i hi'=>?_) b
    rcases Nat.lt_or_eq_of_le (Nat.le_of_lt_succ hi') with z | z
    ·exact Nat.lt_trans (jQ h z (by omega) j) c
    ·rw [z]; exact c
   ·rename_i c
    refine kI h fuel lo _ m1 (by omega) (by omega) a (fun i hi' hs=>?_)
    rcases Nat.lt_or_eq_of_le hi' with z | z
    ·exact Nat.le_trans (Nat.le_of_not_lt c) (Nat.le_of_lt (jQ h z hs j))
    ·rw [<- z]; exact Nat.le_of_not_lt c
  ·have e:lo=hi:=by omega
   subst e
   exact ⟨l2,a,b⟩
theorem kJ {xs:Array Nat}(h:xs.toList.Pairwise (· < ·))(j:Nat) : SetTable.below xs j<=xs.size/\(∀ i,i < SetTable.below xs j->xs.getD i j < j)/\(∀ i,SetTable.below xs j<=i->i < xs.size->j<=xs.getD i j) :=
 kI h xs.size 0 xs.size (Nat.zero_le _) (Nat.le_refl _) (by omega) (fun i hi=>absurd hi (Nat.not_lt_zero _)) (fun i h1 h2=>absurd h2 (Nat.not_lt.mpr h1))
theorem oO (j:Nat) : SetTable.has #[] j=false:=by
 unfold SetTable.has
 simp
theorem qM {xs:Array Nat}(h:xs.toList.Pairwise (· < ·)){i:Nat}(hi:i < xs.size) : SetTable.below xs (xs.getD i 0 + 1)=i + 1:=by
 obtain ⟨a,b,c⟩:=kJ h (xs.getD i 0 + 1)
 have ge:∀ k d,k < xs.size->xs.getD k d=xs.getD k 0:=fun k d hk=>by simp [Array.getD,hk]
 rcases Nat.lt_trichotomy (SetTable.below xs (xs.getD i 0 + 1)) (i + 1) with z | z | z
 ·have:=c i (Nat.le_of_lt_succ z) hi
  rw [ge i (xs.getD i 0 + 1) hi] at this
  omega
 ·exact z
 ·have k:i + 1 < xs.size:=Nat.lt_of_lt_of_le z a
  have b1:=b (i + 1) z
  rw [ge (i + 1) (xs.getD i 0 + 1) k] at b1
  have b2:=jQ h (show i < i + 1 from Nat.lt_succ_self i) k 0
  omega
theorem qL {xs:Array Nat}(h:xs.toList.Pairwise (· < ·)) : SetTable.below xs 0=0:=by
 obtain ⟨a,b,c⟩:=kJ h 0
 rcases Nat.eq_zero_or_pos (SetTable.below xs 0) with z | z
 ·exact z
 ·exact absurd (b 0 z) (Nat.not_lt_zero _)
theorem x6 {xs:Array Nat}{p j:Nat}(hp:p<=xs.size)(h:∀ i,i < p->xs.getD i j < j) : ∀ x∈xs.toList.take p,x < j:=by
 intro x hx
 obtain ⟨i,hi,rfl⟩:=List.mem_iff_getElem.mp hx
 have l1:i < p:=by rw [List.length_take] at hi; omega
 have l2:i < xs.size:=by omega
 have:=h i l1
 simpa [Array.getD,l2] using this
theorem drop_ge {xs:Array Nat}{p j:Nat}(h:∀ i,p<=i->i < xs.size->j<=xs.getD i j) : ∀ x∈xs.toList.drop p,j<=x:=by
 intro x hx
 obtain ⟨i,hi,rfl⟩:=List.mem_iff_getElem.mp hx
 rw [List.length_drop,Array.length_toList] at hi
 have l2:p + i < xs.size:=by omega
 have:=h (p + i) (Nat.le_add_right _ _) l2
 simpa [Array.getD,l2] using this
theorem tM {xs:Array Nat}{j:Nat}(h:xs.toList.Pairwise (· < ·))(n:xs[SetTable.below xs j]? ≠ some j) : (SetTable.insertAt xs (SetTable.below xs j) j).toList.Pairwise (· < ·):=by
 obtain ⟨a,b,c⟩:=kJ h j
 generalize SetTable.below xs j=p at *
 rw [SetTable.toList_insertAt]
 have t1:=x6 a b
 have t2:=drop_ge c
 have sp:xs.toList=xs.toList.take p ++ xs.toList.drop p:=(List.take_append_drop p xs.toList).symm
 have h':=h
 rw [sp,List.pairwise_append] at h'
 obtain ⟨w1,w2,w3⟩:=h'
 have gt:∀ x∈xs.toList.drop p,j < x:=by
  intro x hx
  rcases Nat.lt_or_eq_of_le (t2 x hx) with z | z
  ·exact z
  ·exfalso
   subst z
   obtain ⟨i,hi,e⟩:=List.mem_iff_getElem.mp hx
   cases i with
   | zero =>
    apply n
    rw [List.length_drop,Array.length_toList] at hi
    have:p < xs.size:=by omega
    rw [Array.getElem?_eq_getElem this]
    simpa using e
   | succ i =>
    have l0:0 < (xs.toList.drop p).length:=Nat.lt_of_le_of_lt (Nat.zero_le _) hi
    have lt:=List.pairwise_iff_getElem.mp w2 0 (i + 1) l0 hi (Nat.succ_pos _)
    rw [e] at lt
    exact absurd (t2 _ (List.getElem_mem l0)) (Nat.not_le.mpr lt)
 rw [List.pairwise_append,List.pairwise_cons]
 refine ⟨w1,⟨gt,w2⟩,fun x hx y hy=>?_⟩
 rcases List.mem_cons.mp hy with rfl | hy
 ·exact t1 x hx
 ·exact w3 x hx y hy
theorem Lit.slot {t:SetTable}(h:Lit t)(j:Nat) : t.slot j ≠ .dummy/\(t.slot j = .empty->t.place[SetTable.below t.place j]? ≠ some j):=by
 unfold SetTable.slot
 rw [h.no,oO]
 dsimp only
 split
 ·exact ⟨fun z=>(by cases z),fun z=>(by cases z)⟩
 ·rename_i c
  refine ⟨fun z=>?_,fun _ e=>c (by rw [e]; exact beq_self_eq_true _)⟩
  rw [if_neg Bool.false_ne_true] at z
  cases z
theorem Lit.probe {t:SetTable}(L:Lit t)(h:Int) : ∀ (fuel:Nat) (p:SetTable.Probe),p.dummy=none->∀ m,SetTable.probe.go t (fun _=>h + 1) h fuel p=some m->∃ j,m = .empty j none/\t.slot j = .empty
 | 0,p,_,m,e=>by cases e
 | fuel + 1,p,d,m,e=>by
  unfold SetTable.probe.go at e
  have adv:(t.advance p).dummy=none:=by
   unfold SetTable.advance
   split
   ·exact d
   ·exact d
  split at e
  ·rename_i z
   obtain rfl:=Option.some.inj e
   exact ⟨p.j,by rw [d],z⟩
  ·rename_i z
   exact absurd z (L.slot _).1
  ·rename_i i z
   rw [if_neg (fun z=>absurd (eq_of_beq z) (by omega))] at e
   exact Lit.probe L h fuel _ adv m e
theorem Lit.free {t:SetTable}(L:Lit t){h:Int}{j:Nat}{b:Bool}(e:t.freeSlot h=some (j,b)) : t.place[SetTable.below t.place j]? ≠ some j:=by
 unfold SetTable.freeSlot at e
 split at e
 ·rename_i k d z
  obtain ⟨j',e1,e2⟩:=L.probe h _ _ rfl _ z
  cases e1
  cases e
  exact (L.slot _).2 e2
 ·cases e
theorem eB (t:SetTable)(n:Nat) : Lit (t.standIn n)/\(t.standIn n).led=t.led :=
 ⟨⟨by show (Array.range n).toList.Pairwise (· < ·); rw [Array.toList_range]; exact List.pairwise_lt_range,rfl⟩,rfl⟩
theorem kU {t:SetTable}(L:Lit t)(n:Nat) : Lit (t.orStandIn n)/\(t.orStandIn n).led=t.led:=by
 unfold SetTable.orStandIn
 split
 ·exact ⟨L,rfl⟩
 ·exact eB t n
theorem put_lit {t:SetTable}(L:Lit t){j:Nat}(n:t.place[SetTable.below t.place j]? ≠ some j) : Lit (t.put j).1/\(t.put j).1.led=t.led:=by
 refine ⟨⟨tM L.up n,?_⟩,rfl⟩
 show (if SetTable.has t.dummies j=true then _ else t.dummies)=_
 rw [L.no,oO]
 rfl
theorem qC {t:SetTable}(L:Lit t)(es:Array (Int × Value))(h:Int)(x:Value) : Lit (layNew t es h x).2.1/\(layNew t es h x).2.1.led=t.led:=by
 unfold layNew
 split
 ·rename_i j b e
  obtain ⟨a,c⟩:=put_lit L (L.free e)
  obtain ⟨a2,c2⟩:=kU a (SetTable.insertAt es (t.put j).2 (h,x)).size
  exact ⟨a2,c2.trans c⟩
 ·exact eB t _
theorem rL (f:Nat->Option Nat) : ∀ l:List Nat,l.Pairwise (· < ·)->((l.filterMap fun j=>(f j).map fun k=>(j,k)).map (·.1)).Pairwise (· < ·)
 | [],_=>List.Pairwise.nil
 | a :: l,h=>by
  obtain ⟨h1,h2⟩:=List.pairwise_cons.mp h
  have ih:=rL f l h2
  rw [List.filterMap_cons]
  cases e:f a with
  | none=>exact ih
  | some k =>
   show (List.map _ ((a,k) :: _)).Pairwise _
   rw [List.map_cons,List.pairwise_cons]
   refine ⟨fun b hb=>?_,ih⟩
   obtain ⟨q,hq,rfl⟩:=List.mem_map.mp hb
   obtain ⟨c,hc,e2⟩:=List.mem_filterMap.mp hq
   obtain ⟨k2,_,rfl⟩:=Option.map_eq_some_iff.mp e2
   exact h1 _ hc
theorem mG (t:SetTable)(es:Array (Int × Value))(n:Nat) : Lit (relayAll t es n).2.1/\(relayAll t es n).2.1.led=t.led:=by
 unfold relayAll
 split
 ·rename_i t' order e
  dsimp only
  split
  ·unfold SetTable.relaid SetTable.laid at e
   obtain ⟨owner,_,e⟩:=Option.bind_eq_some_iff.mp e
   cases e
   refine ⟨⟨?_,rfl⟩,rfl⟩
   exact rL (fun j=>owner.getD j none) _ List.pairwise_lt_range
  ·exact eB t _
 ·exact eB t _
theorem tP (f m:Nat)(led:Bool) : Lit (SetTable.fresh f m led):=⟨List.Pairwise.nil,rfl⟩
theorem sZ {t:SetTable}(L:Lit t)(b:Bool) : Lit { t with plain:=b }:=⟨L.up,L.no⟩
end L2
namespace L2
open PySem PySem.Spec PyProof.Rows
inductive EK (P:Program) (w:World) : List (Int × Value)->List bG->Prop
 | nil:EK P w [] []
 | cons {x:Value}{k:bG}{es:List (Int × Value)}{ks:List bG} : (aW P w).is k x=true->x.scannable=true->EK P w es ks->EK P w (((aW P w).hash k,x) :: es) (k :: ks)
section
variable {P:Program}{w:World}
theorem EK.length {es:List (Int × Value)}{ks:List bG}(h:EK P w es ks) : es.length=ks.length:=by
 induction h with
 | nil=>rfl
 | cons _ _ _ ih=>rw [List.length_cons,List.length_cons,ih]
theorem EK.elems {es:List (Int × Value)}{ks:List bG}(h:EK P w es ks) : ElemsOf (aW P w) es:=by
 induction h with
 | nil=>exact fun e he=>(by cases he)
 | cons h1 h2 _ ih =>
  intro e he
  rcases List.mem_cons.mp he with rfl | he
  ·exact ⟨⟨_,h1,rfl⟩,h2⟩
  ·exact ih e he
theorem EK.mem {es:List (Int × Value)}{ks:List bG}(h:EK P w es ks)(k:bG) : k∈ks↔∃ e∈es,(aW P w).is k e.2=true:=by
 induction h with
 | nil=>exact ⟨fun z=>(by cases z),fun ⟨e,z,_⟩=>(by cases z)⟩
 | @cons x k' es ks h1 _ _ ih =>
  rw [List.mem_cons,ih]
  constructor
  ·rintro (rfl | ⟨e,he,q⟩)
   ·exact ⟨_,List.mem_cons_self,h1⟩
   ·exact ⟨e,List.mem_cons_of_mem _ he,q⟩
  ·rintro ⟨e,he,q⟩
   rcases List.mem_cons.mp he with rfl | he
   ·exact .inl ((aW P w).inj x k k' q h1)
   ·exact .inr ⟨e,he,q⟩
theorem EK.perm {es es':List (Int × Value)}(p:es'.Perm es) : ∀ {ks:List bG},EK P w es ks->∃ ks',ks'.Perm ks/\EK P w es' ks':=by
 induction p with
 | nil=>exact fun h=>⟨_,.refl _,h⟩
 | cons u _ ih =>
  intro ks h
  cases h with
  | cons h1 h2 h =>
   obtain ⟨ks',p',h'⟩:=ih h
   exact ⟨_ :: ks',p'.cons _,.cons h1 h2 h'⟩
 | swap u v l =>
  intro ks h
  cases h with
  | cons h1 h2 h =>
   cases h with
   | cons h3 h4 h=>exact ⟨_,.swap _ _ _,.cons h3 h4 (.cons h1 h2 h)⟩
 | trans _ _ ih1 ih2 =>
  intro ks h
  obtain ⟨k1,p1,h1⟩:=ih2 h
  obtain ⟨k2,p2,h2⟩:=ih1 h1
  exact ⟨k2,p2.trans p1,h2⟩
theorem EK.snoc {es:List (Int × Value)}{ks:List bG}{x:Value}{k:bG}(h:EK P w es ks)(h1:(aW P w).is k x=true)(h2:x.scannable=true) : EK P w (es ++ [((aW P w).hash k,x)]) (ks ++ [k]):=by
 induction h with
 | nil=>exact .cons h1 h2 .nil
 | cons a b _ ih=>exact .cons a b ih
abbrev gY (w:World) : Bool:=w.params.followText "set-order"
def gQ (P:Program)(w:World)(h:Heap)(a:Addr)(ds:List bG) : Prop :=
 ∃ o es ep t ks,h.get? a=some o/\o.ExactSet/\o.data = .set es ep t/\EK P w es.toList ks/\ks.Perm ds/\es.size < scanBound/\t.fits es.size=true/\Lit t/\t.led = !gY w
theorem gQ.moved {h h':Heap}{a:Addr}{ds:List bG}(x:gQ P w h a ds)(k:∀ o,h.get? a=some o->h'.get? a=some o) : gQ P w h' a ds:=by
 obtain ⟨o,es,ep,t,ks,ho,rest⟩:=x
 exact ⟨o,es,ep,t,ks,k o ho,rest⟩
def eK (P:Program)(w:World)(h:Heap)(a:Addr)(ds:List bG) : Prop :=
 ∃ o es ep t ks,h.get? a=some o/\o.ExactSet/\o.data = .set es ep t/\EK P w es.toList ks/\ks.Perm ds/\es.size < scanBound/\t.fits es.size=true/\t.place.toList.Pairwise (· < ·)/\t.led = !gY w
theorem gQ.y {h:Heap}{a:Addr}{ds:List bG}(x:gQ P w h a ds) : eK P w h a ds:=by
 obtain ⟨o,es,ep,t,ks,h1,h2,h3,h4,h5,h6,h7,L,h8⟩:=x
 exact ⟨o,es,ep,t,ks,h1,h2,h3,h4,h5,h6,h7,L.up,h8⟩
theorem eK.setOf {h:Heap}{a:Addr}{ds:List bG}(x:eK P w h a ds) : h.SetOf (aW P w) a (dE ds) ds.length:=by
 obtain ⟨o,es,ep,t,ks,ho,hex,hd,ek,pm,hb,hf,_,_⟩:=x
 refine ⟨o,es,ep,t,ho,hex,hd,ek.elems,fun k=>?_,hb,hf,?_⟩
 ·rw [dB,<- pm.mem_iff]
  exact ek.mem k
 ·rw [<- Array.length_toList,ek.length,pm.length_eq]
theorem eK.moved {h h':Heap}{a:Addr}{ds:List bG}(x:eK P w h a ds)(k:∀ o,h.get? a=some o->h'.get? a=some o) : eK P w h' a ds:=by
 obtain ⟨o,es,ep,t,ks,ho,rest⟩:=x
 exact ⟨o,es,ep,t,ks,k o ho,rest⟩
variable {A:Around}{E:Value->Shared->Prop}{s:Shared}
theorem vE {a:Addr}{o:Obj}{es es':Array (Int × Value)}{ep:Nat}{t t':SetTable}{Q:Unit->Shared->Prop}(ho:s.heap.get? a=some o) (hd:o.data = .set es ep t) (hb:es'.size < scanBound)
  (h:∀ h',Heap.SameBut a s.heap h'->h'.get? a=some { o with data:=.set es' (ep + 1) t' }->Q () { s with heap:=h' }) : wpAny (model P w) A (storeSet a es' t') Q E s:=by
 have e:=putSet_of es' t' hd
 refine wpAny_storeSet_of ho hd (h _ (Heap.SameBut.update s.heap a _) ?_) (fits_of_scanBound hb)
 rw [Heap.get?_update_self (Obj.putSet es' t') ho (by rw [e]; rfl),e]
theorem add_x {a:Addr}{ds:List bG}{k:bG}{x:Value}{Q:Bool->Shared->Prop}(hk:(aW P w).is k x=true) (hx:x.scannable=true) (S:gQ P w s.heap a ds) (hr:ds.length + 1 < scanBound)
  (h:∀ b h',Heap.SameBut a s.heap h'->gQ P w h' a (eZ ds k)->Q b { s with heap:=h' }) : wpAny (model P w) A (setAddHashed a x ((aW P w).hash k)) Q E s:=by
 obtain ⟨o,es,ep,t,ks,ho,hex,hd,ek,pm,hb,hf,L,led⟩:=S
 have hel:=ek.elems
 have sz:es.size=ds.length:=by rw [<- Array.length_toList,ek.length,pm.length_eq]
 have gw:∀ (b:Bool) (s1:Shared) (Q':Unit->Shared->Prop),Q' () s1 ->
   wpAny (model P w) A (match b with
    | true=>rule "set.scan.the-table-gave-way"
    | false=>pure ()) Q' E s1:=fun b s1 Q' q=>by
  cases b
  ·exact wpAny_pure q
  ·exact wpAny_rule q
 unfold setAddHashed setAddHashedIn
 refine wpAny_holding (wpAny_bind (wpAny_setState_of ho hd hf ?_))
 dsimp only
 rw [byScan_of hx hb hel,if_pos rfl]
 unfold setAddByScan
 refine wpAny_bind (wpAny_bind (wpAny_rule (wpAny_bind (wpAny_setScan_of hk ho hd hf hel ?_))))
 cases hr2:es.toList.findIdx? fun e=>(aW P w).is k e.2 with
 | some j =>
  have km:k∈ds:=by
   obtain ⟨hj,pj,_⟩:=List.findIdx?_eq_some_iff_getElem.mp hr2
   exact pm.mem_iff.mp ((ek.mem k).mpr ⟨_,List.getElem_mem hj,pj⟩)
  have ea:eZ ds k=ds:=by unfold eZ; rw [if_pos (dB.mpr km)]
  refine wpAny_pure (wpAny_pure ?_)
  exact h false s.heap (Heap.SameBut.refl a s.heap) (by rw [ea]; exact ⟨o,es,ep,t,ks,ho,hex,hd,ek,pm,hb,hf,L,led⟩)
 | none =>
  have km:k ∉ ds:=fun z=>by
   obtain ⟨e,he,q⟩:=(ek.mem k).mp (pm.mem_iff.mpr z)
   have:=List.findIdx?_eq_none_iff.mp hr2 e he
   rw [q] at this
   cases this
  have ea:eZ ds k=ds ++ [k]:=by unfold eZ; rw [if_neg (fun z=>km (dB.mp z))]
  obtain ⟨L1,led1⟩:=qC L es ((aW P w).hash k) x
  have p1:=layNew_perm t es ((aW P w).hash k) x
  have f1:=layNew_fits t es ((aW P w).hash k) x
  dsimp only
  generalize layNew t es ((aW P w).hash k) x=Z at L1 led1 p1 f1 ⊢
  obtain ⟨es1,t1,wd,gv⟩:=Z
  dsimp only at L1 led1 p1 f1 ⊢
  rw [Array.toList_push] at p1
  obtain ⟨ks1,q1,ek1⟩:=(ek.snoc hk hx).perm p1
  have c1:ks1.Perm (eZ ds k):=by rw [ea]; exact q1.trans (pm.append_right [k])
  have s1:es1.size=ds.length + 1:=by rw [<- Array.length_toList,ek1.length,c1.length_eq,ea,List.length_append]; rfl
  have b1:es1.size < scanBound:=by omega
  have led2:=led1.trans led
  refine wpAny_bind (gw gv _ _ ?_)
  have fin:∀ t2:SetTable,Lit t2->t2.led=(!gY w)->t2.fits es1.size=true->wpAny (model P w) A (do
    storeSet a es1 t2
    if (!wd && t2.tooFull)=true then
     let (es3,t3,gave):=relayAll t2 es1 (SetTable.grown es1.size)
     (match gave with | true=>rule "set.scan.the-table-gave-way" | false=>pure () : Sem Unit)
     storeSet a es3 t3
    return some true) (fun r s'=>wpAny (model P w) A (match r with | some added=>pure added | none=>setAddHashedIn a x ((aW P w).hash k) 99999) Q E s') E s:=by
   intro t2 L2 led2 f2
   refine wpAny_bind (vE ho hd b1 fun h1 sb1 e1=>?_)
   split
   ·obtain ⟨L3,led3⟩:=mG t2 es1 (SetTable.grown es1.size)
    have p3:=relayAll_perm t2 es1 (SetTable.grown es1.size)
    have f3:=relayAll_fits t2 es1 (SetTable.grown es1.size)
    generalize relayAll t2 es1 (SetTable.grown es1.size)=Z at L3 led3 p3 f3 ⊢
    obtain ⟨es3,t3,g3⟩:=Z
    dsimp only at L3 led3 p3 f3 ⊢
    obtain ⟨ks3,q3,ek3⟩:=ek1.perm p3
    have b3:es3.size < scanBound:=by rw [<- Array.length_toList,p3.length_eq,Array.length_toList]; exact b1
    refine wpAny_bind (gw g3 _ _ (wpAny_bind (vE (s:={ s with heap:=h1 }) e1 rfl b3 fun h3 sb3 e3=>?_)))
    exact wpAny_pure (wpAny_pure (h true h3 (sb1.trans sb3) ⟨_,es3,_,t3,ks3,e3,hex,rfl,ek3,q3.trans c1,b3,f3,L3,led3.trans led2⟩))
   ·exact wpAny_pure (wpAny_pure (h true h1 sb1 ⟨_,es1,_,t2,ks1,e1,hex,rfl,ek1,c1,b1,f2,L2,led2⟩))
  split
  ·rw [hashByValue_scannable 8 hx]
   refine wpAny_bind (wpAny_pure ?_)
   split
   ·exact fin t1 L1 led2 f1
   ·exact fin _ (sZ L1 false) led2 (SetTable.fits_plain_off f1)
  ·refine wpAny_bind (wpAny_pure ?_)
   rw [if_pos rfl]
   exact fin t1 L1 led2 f1
end
theorem bS:Slot "set_iterator" "__next__" "set_iterator.__next__" := .of (owner := "set_iterator") (n := "__next__") (by rw [typeLookup_type,builtinLookup_eq_fast]; kernel_rfl) (by decide +kernel) (by decide +kernel) (by decide +kernel) (by first | exact .inl (by decide +kernel) | exact .inr (by decide +kernel)) (by rw [isSubtype_type]; kernel_rfl)
theorem hR:Slot "set_iterator" "__iter__" "set_iterator.__iter__" := .of (owner := "set_iterator") (n := "__iter__") (by rw [typeLookup_type,builtinLookup_eq_fast]; kernel_rfl) (by decide +kernel) (by decide +kernel) (by decide +kernel) (by first | exact .inl (by decide +kernel) | exact .inr (by decide +kernel)) (by rw [isSubtype_type]; kernel_rfl)
theorem dP:entryFor table "set_iterator.__next__" = some Builtin.«set_iterator.__next__» := entryFor_of_tree (by kernel_rfl)
theorem kX:entryFor table "set_iterator.__iter__" = some Builtin.«dict_keyiterator.__iter__» := entryFor_alias (id' := "dict_keyiterator.__iter__") (by kernel_rfl) rfl (by decide +kernel) (by kernel_rfl)
theorem nZ:Manifest.owners.lookup (String.ofList ['r','o','t','a','r','e','t','i','_','t','e','s'].reverse)=some Manifest.sig_set_iterator:=by kernel_rfl
theorem dZ (a:Value) : argsOk "set_iterator.__next__" ⟨[a],[]⟩:=by unfold argsOk; rw [signature?_of (id := "set_iterator.__next__") (n:=['_','_','t','x','e','n','_','_']) (o:=['r','o','t','a','r','e','t','i','_','t','e','s']) (by kernel_rfl) nZ]; kernel_rfl
theorem nD (a:Value) : argsOk "set_iterator.__iter__" ⟨[a],[]⟩:=by unfold argsOk; rw [signature?_of (id := "set_iterator.__iter__") (n:=['_','_','r','e','t','i','_','_']) (o:=['r','o','t','a','r','e','t','i','_','t','e','s']) (by kernel_rfl) nZ]; kernel_rfl
theorem mU:entryFor table "set.__iter__" = some Builtin.«frozenset.__iter__» := entryFor_alias (id' := "frozenset.__iter__") (by kernel_rfl) rfl (by decide +kernel) (by kernel_rfl)
def nE (h:Heap)(it S:Addr)(f:Value)(i n ep:Nat) : Prop:=∃ o,h.get? it=some o/\o.cls = .type "set_iterator" /\ o.data = .fields #[f,.int i 0,.ref S,.int n 0,.int ep 0]
def pA (h:Heap)(S:Addr)(es:Array (Int × Value))(ep:Nat)(t:SetTable) : Prop:=∃ o,h.get? S=some o/\o.ExactSet/\o.data = .set es ep t/\t.fits es.size=true
theorem nE.at {h h':Heap}{it S:Addr}{f:Value}{i n ep:Nat}(x:nE h it S f i n ep)(k:∀ o,h.get? it=some o->h'.get? it=some o) : nE h' it S f i n ep:=let ⟨o,e,r⟩:=x; ⟨o,k o e,r⟩
theorem pA.at {h h':Heap}{S:Addr}{es:Array (Int × Value)}{ep:Nat}{t:SetTable}(x:pA h S es ep t)(k:∀ o,h.get? S=some o->h'.get? S=some o) : pA h' S es ep t:=let ⟨o,e,r⟩:=x; ⟨o,k o e,r⟩
theorem nE.ty {s:Shared}{it S:Addr}{f:Value}{i n ep:Nat}(x:nE s.heap it S f i n ep) : s.TypeIs (.ref it) "set_iterator" := let ⟨o,e,c,_⟩:=x; ⟨o,e,c⟩
section
variable {P:Program}{w:World}{A:Around}{E:Value->Shared->Prop}{s:Shared}
theorem qU {it S:Addr}{f:Value}{i n ep:Nat}{Q:Value->Shared->Prop}(x:nE s.heap it S f i n ep)(h:Q (.ref it) s) : wpAny (model P w) A (pyIter (.ref it)) Q E s:=by
 refine wpAny_pyIter_slot x.ty hR (wpAny_call_entry hR x.ty kX ?_ (nD _))
 show wpAny _ _ (ret (.ref it)) _ _ s
 exact wpAny_pure ⟨_,rfl, "set_iterator", _,x.ty,bS.lookup,h⟩
theorem nE.set {h:Heap}{it:Addr}{o:Obj}{vs:Array Value}{j:Nat}{v:Value}(ho:h.get? it=some o) (hc:o.cls = .type "set_iterator") (hd:o.data = .fields vs) :
  ∃ o',(h.update it (Obj.mapFields (·.setIfInBounds j v))).get? it=some o'/\o'.cls = .type "set_iterator" /\ o'.data = .fields (vs.setIfInBounds j v) :=
 ⟨_,Heap.get?_update_self _ ho (Obj.isFreed_of_fields (Obj.data_mapFields hd _)),(Obj.cls_mapFields ..).trans hc,Obj.data_mapFields hd _⟩
theorem yH {it S:Addr}{a b i n ep:Nat}{es:Array (Int × Value)}{t:SetTable}{v:Value}{Q:Option Value->Shared->Prop}(x:nE s.heap it S (.int a 0) i n ep) (y:pA s.heap S es ep t) (hn:es.size=n)
  (st:∀ (A:Around) (E:Value->Shared->Prop) (Q:Option (Value × Nat)->Shared->Prop),Q (some (v,b)) s->wpAny (model P w) A (setNext S a i ep) Q E s)
  (h:∀ h',Heap.SameBut it s.heap h'->nE h' it S (.int b 0) (i + 1) n ep->Q (some v) { s with heap:=h' }) : wpAny (model P w) A (pyNext (.ref it)) Q E s:=by
 obtain ⟨o,ho,hc,hd⟩:=id x
 obtain ⟨oS,hoS,_,hdS,hfS⟩:=id y
 unfold pyNext
 refine wpAny_bind (wpAny_attempt (wpAny_callSpecial?_slot (name:=Str.ofString "__next__") x.ty bS (wpAny_call_entry bS x.ty dP ?_ (dZ _))))
 unfold Builtin.«set_iterator.__next__»
 refine wpAny_bind (m:=slotArgs "__next__" 0 _) (wpAny_pure (wpAny_bind (wpAny_fieldsOf ho hd ?_)))
 dsimp only
 refine wpAny_bind (wpAny_setEntries_of hoS hdS hfS ?_)
 rw [if_neg (by rw [hn]; simp)]
 dsimp only [Int.toNat_natCast]
 refine wpAny_bind (st _ _ _ ?_)
 dsimp only
 obtain ⟨o1,e1,c1,d1⟩:=nE.set (j:=0) (v:=rawInt b) ho hc hd
 refine wpAny_bind (wpAny_setField ho hd (by simp) (wpAny_bind (wpAny_setField e1 d1 (by simp) ?_)))
 obtain ⟨o2,e2,c2,d2⟩:=nE.set (j:=1) (v:=rawInt ((i:Int) + 1)) e1 c1 d1
 exact wpAny_pure ⟨_,rfl,wpAny_pure (h _ ((Heap.SameBut.update ..).trans (Heap.SameBut.update ..)) ⟨o2,e2,c2,by rw [d2]; simp [rawInt]⟩)⟩
theorem si_end {it S:Addr}{a i n ep:Nat}{es:Array (Int × Value)}{t:SetTable}{Q:Option Value->Shared->Prop}(hh:A.handled=none) (x:nE s.heap it S (.int a 0) i n ep) (y:pA s.heap S es ep t) (hn:es.size=n)
  (st:∀ (A:Around) (E:Value->Shared->Prop) (Q:Option (Value × Nat)->Shared->Prop),Q none s->wpAny (model P w) A (setNext S a i ep) Q E s)
  (h:∀ h',Heap.ExtBut it s.heap h'->Q none { s with heap:=h' }) : wpAny (model P w) A (pyNext (.ref it)) Q E s:=by
 obtain ⟨o,ho,hc,hd⟩:=id x
 obtain ⟨oS,hoS,_,hdS,hfS⟩:=id y
 unfold pyNext
 refine wpAny_bind (wpAny_attempt (wpAny_callSpecial?_slot (name:=Str.ofString "__next__") x.ty bS (wpAny_call_entry bS x.ty dP ?_ (dZ _))))
 unfold Builtin.«set_iterator.__next__»
 refine wpAny_bind (m:=slotArgs "__next__" 0 _) (wpAny_pure (wpAny_bind (wpAny_fieldsOf ho hd ?_)))
 dsimp only
 refine wpAny_bind (wpAny_setEntries_of hoS hdS hfS ?_)
 rw [if_neg (by rw [hn]; simp)]
 dsimp only [Int.toNat_natCast]
 refine wpAny_bind (st _ _ _ ?_)
 dsimp only
 refine wpAny_bind (wpAny_setField ho hd (by simp) ?_)
 refine wpAny_bind ?_
 simp only [newExc,newTuple]
 refine wpAny_bind (wpAny_newObj_type ?_ (by size_fits))
 refine wpAny_bind (m:=firstArgMember _ _) (wpAny_of_eq (a:=Value.none) (by first | rfl | (simp only [firstArgMember]; rfl)) (wpAny_newObj_type ?_ (by size_fits)))
 simp only [raiseNew]
 refine wpAny_bind (wpAny_handled ?_)
 rw [show A.in1.handled=none from hh]
 refine wpAny_bind (m:=pure _) (wpAny_pure (wpAny_throw ?_))
 refine wpAny_bind (m:=isInstance _ _) (wpAny_isInstance (T := "StopIteration") (b:=true) ⟨_,Heap.get?_push_size _ rfl,rfl⟩ isSubtype_stop ?_)
 exact wpAny_pure (h _ (((Heap.SameBut.update ..).extBut.push _).push _))
def PAt (h:Heap)(tp:Addr)(ps:List Nat) : Prop:=∃ o k,h.get? tp=some o/\o.data = .seq (ps.map fun (i:Nat)=>rawInt i).toArray k
theorem PAt.at {h h':Heap}{tp:Addr}{ps:List Nat}(x:PAt h tp ps)(k:∀ o,h.get? tp=some o->h'.get? tp=some o) : PAt h' tp ps:=let ⟨o,n,e,r⟩:=x; ⟨o,n,k o e,r⟩
theorem u9 {it S tp:Addr}{i n ep p:Nat}{ps:List Nat}{es:Array (Int × Value)}{t:SetTable}{e:Int × Value}{Q:Option Value->Shared->Prop}(x:nE s.heap it S (.ref tp) i n ep) (y:pA s.heap S es ep t) (z:PAt s.heap tp ps) (hn:es.size=n)
  (hp:ps[i]? = some p) (he:es[p]? = some e)
  (h:∀ h',Heap.SameBut it s.heap h'->nE h' it S (.ref tp) (i + 1) n ep->Q (some e.2) { s with heap:=h' }) : wpAny (model P w) A (pyNext (.ref it)) Q E s:=by
 obtain ⟨o,ho,hc,hd⟩:=id x
 obtain ⟨oS,hoS,_,hdS,hfS⟩:=id y
 obtain ⟨oT,kT,hoT,hdT⟩:=z
 unfold pyNext
 refine wpAny_bind (wpAny_attempt (wpAny_callSpecial?_slot (name:=Str.ofString "__next__") x.ty bS (wpAny_call_entry bS x.ty dP ?_ (dZ _))))
 unfold Builtin.«set_iterator.__next__»
 refine wpAny_bind (m:=slotArgs "__next__" 0 _) (wpAny_pure (wpAny_bind (wpAny_fieldsOf ho hd ?_)))
 dsimp only
 refine wpAny_bind (wpAny_setEntries_of hoS hdS hfS ?_)
 rw [if_neg (by rw [hn]; simp)]
 dsimp only [Int.toNat_natCast]
 refine wpAny_bind (wpAny_seqItems hoT hdT ?_)
 have e0:((ps.map fun (i:Nat)=>rawInt i).toArray)[i]? = some (rawInt p):=by simp [hp]
 dsimp only
 rw [e0]
 dsimp only [rawInt]
 have nd:∀ (A:Around) (E:Value->Shared->Prop) (Q:Value->Shared->Prop),Q e.2 s->wpAny (model P w) A (setNextDrawn S p ep) Q E s:=fun A E Q q=>by
  unfold setNextDrawn
  refine wpAny_bind (wpAny_setState_of hoS hdS hfS ?_)
  dsimp only
  rw [if_neg (by simp),he]
  exact wpAny_pure q
 refine wpAny_bind (nd _ _ _ (wpAny_bind (wpAny_setField ho hd (by simp) ?_)))
 obtain ⟨o2,e2,c2,d2⟩:=nE.set (j:=1) (v:=rawInt ((i:Int) + 1)) ho hc hd
 exact wpAny_pure ⟨_,rfl,wpAny_pure (h _ (Heap.SameBut.update ..) ⟨o2,e2,c2,by rw [d2]; simp [rawInt]⟩)⟩
theorem mF {it S tp:Addr}{i n ep:Nat}{ps:List Nat}{es:Array (Int × Value)}{t:SetTable}{Q:Option Value->Shared->Prop}(hh:A.handled=none) (x:nE s.heap it S (.ref tp) i n ep) (y:pA s.heap S es ep t) (z:PAt s.heap tp ps) (hn:es.size=n)
  (hp:ps.length<=i) (h:∀ h',Heap.ExtBut it s.heap h'->Q none { s with heap:=h' }) : wpAny (model P w) A (pyNext (.ref it)) Q E s:=by
 obtain ⟨o,ho,hc,hd⟩:=id x
 obtain ⟨oS,hoS,_,hdS,hfS⟩:=id y
 obtain ⟨oT,kT,hoT,hdT⟩:=z
 unfold pyNext
 refine wpAny_bind (wpAny_attempt (wpAny_callSpecial?_slot (name:=Str.ofString "__next__") x.ty bS (wpAny_call_entry bS x.ty dP ?_ (dZ _))))
 unfold Builtin.«set_iterator.__next__»
 refine wpAny_bind (m:=slotArgs "__next__" 0 _) (wpAny_pure (wpAny_bind (wpAny_fieldsOf ho hd ?_)))
 dsimp only
 refine wpAny_bind (wpAny_setEntries_of hoS hdS hfS ?_)
 rw [if_neg (by rw [hn]; simp)]
 dsimp only [Int.toNat_natCast]
 refine wpAny_bind (wpAny_seqItems hoT hdT ?_)
 have e0:((ps.map fun (i:Nat)=>rawInt i).toArray)[i]? = none:=by simp [hp]
 dsimp only
 rw [e0]
 dsimp only
 obtain ⟨o2,e2,c2,d2⟩:=nE.set (j:=0) (v:=rawInt 0) ho hc hd
 refine wpAny_bind (wpAny_setField ho hd (by simp) (wpAny_bind (wpAny_setField e2 d2 (by simp) ?_)))
 refine wpAny_bind ?_
 simp only [newExc,newTuple]
 refine wpAny_bind (wpAny_newObj_type ?_ (by size_fits))
 refine wpAny_bind (m:=firstArgMember _ _) (wpAny_of_eq (a:=Value.none) (by first | rfl | (simp only [firstArgMember]; rfl)) (wpAny_newObj_type ?_ (by size_fits)))
 simp only [raiseNew]
 refine wpAny_bind (wpAny_handled ?_)
 rw [show A.in1.handled=none from hh]
 refine wpAny_bind (m:=pure _) (wpAny_pure (wpAny_throw ?_))
 refine wpAny_bind (m:=isInstance _ _) (wpAny_isInstance (T := "StopIteration") (b:=true) ⟨_,Heap.get?_push_size _ rfl,rfl⟩ isSubtype_stop ?_)
 exact wpAny_pure (h _ ((((Heap.SameBut.update ..).trans (Heap.SameBut.update ..)).extBut.push _).push _))
end
theorem jL {α:Type} : ∀ {l:List α}{i:Nat}(h:i < l.length),(l[i] :: l.eraseIdx i).Perm l
 | _ :: _,0,_=>.refl _
 | x :: l,i + 1,h=>(List.Perm.swap x (l[i]'(Nat.lt_of_succ_lt_succ h)) (l.eraseIdx i)).trans ((jL (Nat.lt_of_succ_lt_succ h)).cons x)
theorem qZ {α:Type}(next:Nat->Nat) : ∀ (fuel k:Nat) (left:List α) (out:Array α),left.length=fuel->(pickOrder.go next fuel k left out).toList.Perm (out.toList ++ left)
 | 0,_,left,out,hl=>by
  obtain rfl:=List.length_eq_zero_iff.mp hl
  rw [List.append_nil]
  exact .refl _
 | fuel + 1,k,left,out,hl=>by
  have lt:next k % left.length < left.length:=Nat.mod_lt _ (by omega)
  unfold pickOrder.go
  rw [List.getElem?_eq_getElem lt]
  dsimp only
  have ih:=qZ next fuel (k + 1) (left.eraseIdx (next k % left.length)) (out.push left[next k % left.length]) (by rw [List.length_eraseIdx_of_lt lt,hl]; rfl)
  refine ih.trans ?_
  rw [Array.toList_push,List.append_assoc]
  exact List.Perm.append_left _ (jL lt)
theorem lA {α:Type}(next:Nat->Nat)(xs:Array α) : (pickOrder next xs).toList.Perm xs.toList:=by
 have:=qZ next xs.size 0 xs.toList #[] (by simp)
 simpa [pickOrder] using this
section
variable {P:Program}{w:World}{A:Around}{E:Value->Shared->Prop}{s:Shared}
theorem cT {α:Type}{c:Prop} [Decidable c]{m1 m2:Sem α}{Q:α->Shared->Prop}(h:¬ c)(q:wpAny (model P w) A m2 Q E s) : wpAny (model P w) A (if c then m1 else m2) Q E s:=by
 rw [if_neg h]
 exact q
theorem qI {n:Nat}{src:Source}{Q:Nat->Shared->Prop}(hn:n ≠ 0)(h:∀ i d,i < n->Q i { s with drawn:=d }) : wpAny (model P w) A (choose src n) Q E s:=fun _ _ _=>⟨hn,h _ _ (Nat.mod_lt _ (Nat.pos_of_ne_zero hn))⟩
theorem lQ {α:Type} : ∀ (n:Nat) (xs:List α) (s:Shared) (Q:List α->Shared->Prop),xs.length=n->(∀ ys d,ys.Perm xs->Q ys { s with drawn:=d })->wpAny (model P w) A (drawOrder n xs) Q E s
 | 0,xs,s,Q,hl,h=>by
  obtain rfl:=List.length_eq_zero_iff.mp hl
  exact wpAny_pure (h [] s.drawn (.refl _))
 | n + 1,[],s,Q,hl,h=>by cases hl
 | n + 1,x :: xs,s,Q,hl,h=>by
  unfold drawOrder
  refine wpAny_bind (qI (by simp) fun i d lt=>?_)
  rw [List.getElem?_eq_getElem lt]
  dsimp only
  refine wpAny_bind (lQ n _ _ _ (by rw [List.length_eraseIdx_of_lt lt,hl]; rfl) fun ys d' p=>?_)
  exact wpAny_pure (h _ d' ((p.cons _).trans (jL lt)))
theorem fN {Q:Bool->Shared->Prop}(h:Q (gY w) s) : wpAny (model P w) A setsByText Q E s:=by
 unfold setsByText
 exact wpAny_bind (wpAny_askSetting (wpAny_pure h))
theorem lH {S:Addr}{es:Array (Int × Value)}{ep i a:Nat}{t:SetTable}{Q:Option (Value × Nat)->Shared->Prop}(ht:gY w=true) (y:pA s.heap S es ep t)
  (q:Q ((pickOrder (w.params.setOrder S ep) es)[i]?.map fun e=>(e.2,a)) s) : wpAny (model P w) A (setNext S a i ep) Q E s:=by
 obtain ⟨o,ho,_,hd,hf⟩:=y
 unfold setNext
 refine wpAny_bind (wpAny_setState_of ho hd hf (wpAny_bind (fN ?_)))
 rw [ht]
 dsimp only
 rw [if_pos rfl,if_neg (by simp)]
 refine wpAny_bind ?_
 unfold setWalk
 refine wpAny_bind (wpAny_setState_of ho hd hf (wpAny_bind (fN ?_)))
 rw [ht,if_pos rfl]
 exact wpAny_bind (wpAny_askSetting (wpAny_pure (wpAny_pure q)))
theorem j5 {S:Addr}{es:Array (Int × Value)}{ep i a:Nat}{t:SetTable}{Q:Option (Value × Nat)->Shared->Prop}(ht:gY w=false) (y:pA s.heap S es ep t) (np:(!t.plain && decide (es.size > 1))=false) (led:t.led=true)
  (q:Q (match es[SetTable.below t.place a]?,t.place[SetTable.below t.place a]? with | some (_,x),some j=>some (x,j + 1) | _,_=>none) s) : wpAny (model P w) A (setNext S a i ep) Q E s:=by
 obtain ⟨o,ho,_,hd,hf⟩:=y
 unfold setNext
 refine wpAny_bind (wpAny_setState_of ho hd hf (wpAny_bind (fN ?_)))
 rw [ht]
 dsimp only
 rw [if_neg (by simp)]
 refine cT (fun z=>absurd (show (!t.plain && decide (es.size > 1))=true from z) (by rw [np]; simp)) ?_
 exact wpAny_bind (cT (fun z=>absurd (show (!t.led && !es.isEmpty)=true from z) (by rw [led]; simp)) (wpAny_pure (wpAny_pure q)))
theorem pB {it S:Addr}{n ep:Nat}{es:Array (Int × Value)}{t:SetTable}{sl:Nat->Nat}{order:List Value}(hn:es.size=n) (ne:S ≠ it) (hh:A.handled=none) (ol:order.length=n)
  (st:∀ i v,order[i]? = some v->∀ (s:Shared) (A:Around) (E:Value->Shared->Prop) (Q:Option (Value × Nat)->Shared->Prop),pA s.heap S es ep t->Q (some (v,sl (i + 1))) s->wpAny (model P w) A (setNext S (sl i) i ep) Q E s)
  (en:∀ (s:Shared) (A:Around) (E:Value->Shared->Prop) (Q:Option (Value × Nat)->Shared->Prop),pA s.heap S es ep t->Q none s->wpAny (model P w) A (setNext S (sl n) n ep) Q E s) :
  WalksS P w A it [it,S] [it] (fun a b=>b=a) n (fun i v=>order[i]? = some v) (fun i s=>nE s.heap it S (.int (sl i) 0) i n ep/\pA s.heap S es ep t) where
 sub:=fun b hb=>by rw [List.mem_singleton.mp hb]; exact List.mem_cons_self
 grefl:=fun _=>rfl
 gtrans:=fun _ _ _ x y=>y.trans x
 frame:=fun i s h' tk x _ k=>⟨x.1.at fun o e=>k it List.mem_cons_self o e,x.2.at fun o e=>k S (List.mem_cons_of_mem _ (List.mem_singleton.mpr rfl)) o e⟩
 item:=fun i s Q E hi x q=>by
  have e:=List.getElem?_eq_getElem (l:=order) (i:=i) (by omega)
  refine yH x.1 x.2 hn (fun A E Q q=>st i _ e s A E Q x.2 q) fun h' sb x'=>?_
  exact q _ _ e ⟨x',x.2.at fun o e=>(sb.2 S ne).trans e⟩ ⟨fun b o nb e=>(sb.2 b fun z=>nb (List.mem_singleton.mpr z)).trans e,rfl,rfl,rfl,Nat.le_refl _⟩
 done:=fun s Q E x q=>si_end hh x.1 x.2 hn (fun A E Q q=>en s A E Q x.2 q) fun h' xb=>q _ ⟨fun b o nb e=>xb b o (fun z=>nb (List.mem_singleton.mpr z)) e,rfl,rfl,rfl,Nat.le_refl _⟩
 self:=fun i s Q E x q=>qU x.1 q
theorem pC {it S tp:Addr}{n ep:Nat}{es:Array (Int × Value)}{t:SetTable}{ps:List Nat}{order:List Value}(hn:es.size=n) (ne:S ≠ it) (nt:tp ≠ it) (hh:A.handled=none) (pl:ps.length=n)
  (st:∀ i,i < n->∃ p e,ps[i]? = some p/\es[p]? = some e/\order[i]? = some e.2) :
  WalksS P w A it [it,S,tp] [it] (fun a b=>b=a) n (fun i v=>order[i]? = some v) (fun i s=>nE s.heap it S (.ref tp) i n ep/\pA s.heap S es ep t/\PAt s.heap tp ps) where
 sub:=fun b hb=>by rw [List.mem_singleton.mp hb]; exact List.mem_cons_self
 grefl:=fun _=>rfl
 gtrans:=fun _ _ _ x y=>y.trans x
 frame:=fun i s h' tk x _ k=>⟨x.1.at fun o e=>k it List.mem_cons_self o e,x.2.1.at fun o e=>k S (List.mem_cons_of_mem _ List.mem_cons_self) o e,x.2.2.at fun o e=>k tp (List.mem_cons_of_mem _ (List.mem_cons_of_mem _ List.mem_cons_self)) o e⟩
 item:=fun i s Q E hi x q=>by
  obtain ⟨p,e,e1,e2,e3⟩:=st i hi
  refine u9 x.1 x.2.1 x.2.2 hn e1 e2 fun h' sb x'=>?_
  exact q _ _ e3 ⟨x',x.2.1.at fun o e=>(sb.2 S ne).trans e,x.2.2.at fun o e=>(sb.2 tp nt).trans e⟩ ⟨fun b o nb e=>(sb.2 b fun z=>nb (List.mem_singleton.mpr z)).trans e,rfl,rfl,rfl,Nat.le_refl _⟩
 done:=fun s Q E x q=>mF hh x.1 x.2.1 x.2.2 hn (by omega) fun h' xb=>q _ ⟨fun b o nb e=>xb b o (fun z=>nb (List.mem_singleton.mpr z)) e,rfl,rfl,rfl,Nat.le_refl _⟩
 self:=fun i s Q E x q=>qU x.1 q
def WalkX (P:Program)(w:World)(s:Shared)(S it:Addr)(ds:List bG)(s':Shared) : Prop :=
 ∃ (fp:List Addr) (St:Nat->Shared->Prop) (es:List (Int × Value)) (ks:List bG),EK P w es ks/\ks.Perm ds/\(∀ b∈fp,b=S\/s.heap.objs.size<=b)/\s.heap.objs.size<=it/\St 0 s' /\
  (∀ A:Around,A.handled=none->WalksS P w A it fp [it] (fun a b=>b=a) ds.length (fun i v=>(es.map (·.2))[i]? = some v) St) /\
  (∀ b o,s.heap.get? b=some o->s'.heap.get? b=some o)/\s'.gens=s.gens/\s'.os=s.os/\s'.toks=s.toks
theorem pD {t:SetTable}{n:Nat}(h:t.fits n=true) : t.place.size=n:=by
 unfold SetTable.fits at h
 rw [Bool.and_eq_true,beq_iff_eq] at h
 exact h.1
theorem iter_x {S:Addr}{ds:List bG}{Q:Value->Shared->Prop}(X:eK P w s.heap S ds)(h:∀ it s',WalkX P w s S it ds s'->Q (.ref it) s') : wpAny (model P w) A (pyIter (.ref S)) Q E s:=by
 obtain ⟨o,es,ep,t,ks,ho,hex,hd,ek,pm,hb,hf,L,led⟩:=X
 have hn:es.size=ds.length:=by rw [<- Array.length_toList,ek.length,pm.length_eq]
 have hT:s.TypeIs (.ref S) "set" := ⟨o,ho,hex.1⟩
 have y:pA s.heap S es ep t:=⟨o,ho,hex,hd,hf⟩
 have lt:=Heap.lt_size ho
 refine wpAny_pyIter_slot hT F.slot_set_iter (wpAny_call_entry F.slot_set_iter hT mU ?_ (F.args_set_iter_1 _))
 unfold Builtin.«frozenset.__iter__» Builtin.Frozenset.slot0 Builtin.Frozenset.sizeOf
 refine wpAny_bind (m:=_) (wpAny_bind (m:=slotArgs "__iter__" 0 _) (wpAny_pure (wpAny_pure ?_)))
 refine wpAny_bind (wpAny_bind (wpAny_setEntries_of ho hd hf (wpAny_pure ?_)))
 have dr:∀ (A:Around) (E:Value->Shared->Prop) (Q:Bool->Shared->Prop),Q (!gY w && (!t.plain && decide (es.size > 1))) s->wpAny (model P w) A (setDrawn S) Q E s:=fun A E Q q=>by
  unfold setDrawn
  exact wpAny_bind (wpAny_setState_of ho hd hf (wpAny_bind (fN (wpAny_pure q))))
 refine wpAny_bind (dr _ _ _ ?_)
 have slots:∀ (sl:Nat->Nat) (es':List (Int × Value)) (ks':List bG),EK P w es' ks'->ks'.Perm ds->sl 0=0 ->
   (∀ i v,(es'.map (·.2))[i]? = some v->∀ (s:Shared) (A:Around) (E:Value->Shared->Prop) (Q:Option (Value × Nat)->Shared->Prop),pA s.heap S es ep t->Q (some (v,sl (i + 1))) s->wpAny (model P w) A (setNext S (sl i) i ep) Q E s) ->
   (∀ (s:Shared) (A:Around) (E:Value->Shared->Prop) (Q:Option (Value × Nat)->Shared->Prop),pA s.heap S es ep t->Q none s->wpAny (model P w) A (setNext S (sl ds.length) ds.length ep) Q E s) ->
   Q (.ref s.heap.objs.size) { s with heap:=s.heap.push { cls:=.type "set_iterator", data:=.fields #[rawInt 0,rawInt 0,.ref S,rawInt es.size,rawInt ep] } }:=by
  intro sl es' ks' ek' pm' s0 st en
  have hl:(es'.map (·.2)).length=ds.length:=by rw [List.length_map,ek'.length,pm'.length_eq]
  refine h _ _ ⟨_,_,es',ks',ek',pm',?_,Nat.le_refl _,⟨⟨_,Heap.get?_push_size _ rfl,rfl,?_⟩,y.at fun o e=>Heap.get?_push_of_some _ e⟩,fun A hh=>pB hn (Nat.ne_of_lt lt) hh hl st en,fun b o e=>Heap.get?_push_of_some _ e,rfl,rfl,rfl⟩
  ·intro b hb
   rcases List.mem_cons.mp hb with rfl | hb
   ·exact .inr (Nat.le_refl _)
   ·exact .inl (List.mem_singleton.mp hb)
  ·rw [s0,hn]
   rfl
 cases bt:gY w with
 | true =>
  rw [Bool.not_true,Bool.false_and,if_neg Bool.false_ne_true]
  refine wpAny_bind (m:=pure _) (wpAny_pure ?_)
  refine wpAny_bind (wpAny_setEpoch_of ho hd hf ?_)
  refine wpAny_bind (m:=newFields _ _) ?_
  unfold newFields
  refine wpAny_newObj_type (wpAny_pure ⟨_,rfl, "set_iterator", _,⟨_,Heap.get?_push_size _ rfl,rfl⟩,bS.lookup,?_⟩)
  have pp:=lA (w.params.setOrder S ep) es
  obtain ⟨ks',p',ek'⟩:=ek.perm pp
  have pl:(pickOrder (w.params.setOrder S ep) es).size=ds.length:=by rw [<- Array.length_toList,pp.length_eq,Array.length_toList,hn]
  refine slots (fun _=>0) _ ks' ek' (p'.trans pm) rfl (fun i v e s A E Q y q=>lH bt y ?_) (fun s A E Q y q=>lH bt y ?_)
  ·rw [List.getElem?_map] at e
   obtain ⟨x,ex,rfl⟩:=Option.map_eq_some_iff.mp e
   rw [<- Array.getElem?_toList,ex]
   exact q
  ·rw [Array.getElem?_eq_none (by omega)]
   exact q
 | false =>
  rw [Bool.not_false,Bool.true_and]
  have ld:t.led=true:=by rw [led,bt]; rfl
  cases np:(!t.plain && decide (es.size > 1)) with
  | false =>
   rw [if_neg Bool.false_ne_true]
   refine wpAny_bind (m:=pure _) (wpAny_pure ?_)
   refine wpAny_bind (wpAny_setEpoch_of ho hd hf ?_)
   refine wpAny_bind (m:=newFields _ _) ?_
   unfold newFields
   refine wpAny_newObj_type (wpAny_pure ⟨_,rfl, "set_iterator", _,⟨_,Heap.get?_push_size _ rfl,rfl⟩,bS.lookup,?_⟩)
   have pz:=pD hf
   have bl:∀ i,i<=es.size->SetTable.below t.place (match i with | 0=>0 | j + 1=>t.place.getD j 0 + 1)=i:=fun i hi=>by
    cases i with
    | zero=>exact qL L
    | succ j=>exact qM L (by omega)
   refine slots (fun i=>match i with | 0=>0 | j + 1=>t.place.getD j 0 + 1) es.toList ks ek pm rfl (fun i v e s A E Q y q=>j5 bt y np ld ?_) (fun s A E Q y q=>j5 bt y np ld ?_)
   ·rw [List.getElem?_map] at e
    obtain ⟨⟨hx,x⟩,ex,rfl⟩:=Option.map_eq_some_iff.mp e
    rw [Array.getElem?_toList] at ex
    have li:i < es.size:=(Array.getElem?_eq_some_iff.mp ex).1
    have lp:i < t.place.size:=by omega
    rw [bl i (Nat.le_of_lt li),ex,Array.getElem?_eq_getElem lp]
    dsimp only
    have eg:t.place.getD i 0=t.place[i]:=by simp [Array.getD,lp]
    rw [<- eg]
    exact q
   ·rw [bl ds.length (by omega),Array.getElem?_eq_none (by omega)]
    exact q
  | true =>
   rw [if_pos rfl]
   refine wpAny_bind (lQ es.size (List.range es.size) _ _ List.length_range fun ps d p=>?_)
   have pl:ps.length=ds.length:=by rw [p.length_eq,List.length_range,hn]
   refine wpAny_bind (wpAny_newTuple ?_ (by rw [List.length_map,pl]; exact fits_of_scanBound (by omega)))
   have ho1:=Heap.get?_push_of_some { cls:=.type "tuple", data:=.seq (ps.map fun (i:Nat)=>rawInt i).toArray } ho
   refine wpAny_bind (wpAny_setEpoch_of ho1 hd hf ?_)
   refine wpAny_bind (m:=newFields _ _) ?_
   unfold newFields
   refine wpAny_newObj_type (wpAny_pure ⟨_,rfl, "set_iterator", _,⟨_,Heap.get?_push_size _ rfl,rfl⟩,bS.lookup,?_⟩)
   have pe:(ps.filterMap fun i=>es[i]?).Perm es.toList:=by
    have:=p.filterMap fun i=>es[i]?
    rwa [filterMap_getElem?_range] at this
   obtain ⟨ks',p',ek'⟩:=ek.perm pe
   have at1:∀ (q:List Nat) (i:Nat),(∀ x∈q,x < es.size)->i < q.length->∃ x e,q[i]? = some x/\es[x]? = some e/\((q.filterMap fun i=>es[i]?).map (·.2))[i]? = some e.2:=by
    intro q
    induction q with
    | nil=>exact fun i _ hi=>absurd hi (Nat.not_lt_zero _)
    | cons x q ih =>
     intro i hq hi
     have ex:=Array.getElem?_eq_getElem (hq x List.mem_cons_self)
     rw [List.filterMap_cons_some ex]
     cases i with
     | zero=>exact ⟨x,_,rfl,ex,rfl⟩
     | succ i=>exact ih i (fun y hy=>hq y (List.mem_cons_of_mem _ hy)) (Nat.lt_of_succ_lt_succ hi)
   have lq:∀ x∈ps,x < es.size:=fun x hx=>List.mem_range.mp (p.mem_iff.mp hx)
   refine h _ _ ⟨_,_,_,ks',ek',p'.trans pm,?_,?_,⟨⟨_,Heap.get?_push_size _ rfl,rfl,?_⟩,y.at fun o e=>Heap.get?_push_of_some _ (Heap.get?_push_of_some _ e),⟨_,_,Heap.get?_push_of_some _ (Heap.get?_push_size _ rfl),rfl⟩⟩,fun A hh=>pC hn ?_ ?_ hh pl fun i hi=>at1 ps i lq (by omega),fun b o e=>Heap.get?_push_of_some _ (Heap.get?_push_of_some _ e),rfl,rfl,rfl⟩
   ·intro b hb
    rcases List.mem_cons.mp hb with rfl | hb
    ·exact .inr (by rw [Heap.size_push]; exact Nat.le_succ _)
    ·rcases List.mem_cons.mp hb with rfl | hb
     ·exact .inl rfl
     ·rw [List.mem_singleton.mp hb]
      exact .inr (Nat.le_refl _)
   ·rw [Heap.size_push]
    exact Nat.le_succ _
   ·rw [Heap.size_push]
    exact Nat.ne_of_lt (Nat.lt_succ_of_lt lt)
   ·rw [Heap.size_push]
    exact Nat.ne_of_lt (Nat.lt_succ_self _)
   ·rw [hn]
    rfl
end
section
variable {P:Program}{w:World}{A:Around}{E:Value->Shared->Prop}{s:Shared}{R:Result->Shared->Prop}
theorem fill_x {It S:Addr}{fp wr:List Addr}{ks:List bG}{Pv:Nat->Value->Prop}{St:Nat->Shared->Prop}(W:WalksS P w A.in1 It fp wr (fun a b=>b=a) ks.length Pv St) (hS:S ∉ fp)
  (hv:∀ i v,Pv i v->∃ k,ks[i]? = some k/\(aW P w).is k v=true/\v.scannable=true) (hb:ks.length + 1 < scanBound) :
  ∀ (m i:Nat) (s:Shared),ks.length - i=m->i<=ks.length->St i s->gQ P w s.heap S (dd (ks.take i)) ->
   (∀ s',Moved (S :: wr) (fun a b=>b=a) s s'->gQ P w s'.heap S (dd ks)->R (.ok (.ret .none)) s') ->
   codeAny (model P w) A (.builtin "set.update.loop" ⟨[.ref S,.ref It],[]⟩) R s:=by
 have sw:S ∉ wr:=fun q=>hS (W.sub _ q)
 have wider:∀ b∈wr,b∈S :: wr:=fun b q=>List.mem_cons_of_mem _ q
 intro m
 induction m with
 | zero =>
  intro i s hm hi st X fin
  obtain rfl:i=ks.length:=by omega
  refine codeAny_builtin PyProof.Rows.F.entry_set_update_loop ?_
  rw [Around.under_plainId PyProof.Rows.F.plain_set_update_loop _]
  refine wpAny_bind (m:=pyNext (.ref It)) (W.done s _ _ st fun s' mv=>?_)
  rw [List.take_length] at X
  exact wpAny_pure (fin s' (mv.mono wider) (X.moved fun o e=>mv.heap S o sw e))
 | succ m ih =>
  intro i s hm hi st X fin
  have lt:i < ks.length:=by omega
  refine codeAny_builtin PyProof.Rows.F.entry_set_update_loop ?_
  rw [Around.under_plainId PyProof.Rows.F.plain_set_update_loop _]
  refine wpAny_bind (m:=pyNext (.ref It)) (W.item i s _ _ lt st fun v s' hP st' mv=>?_)
  obtain ⟨k,hk,his,hsc⟩:=hv i v hP
  have X':=X.moved (fun o e=>mv.heap S o sw e)
  refine wpAny_bind (m:=holding [v] (setAdd S v)) (wpAny_holding ?_)
  unfold setAdd
  refine wpAny_holding (wpAny_bind ((aW P w).pyHash (k:=k) his ?_))
  have room:(dd (ks.take i)).length + 1 < scanBound:=by
   have h1:=dd_len (ks.take i)
   rw [List.length_take] at h1
   omega
  refine add_x (s:={ s' with toks:=s'.toks + 1 }) his hsc X' room fun _ h' sb X2=>?_
  rw [<- dd_take hk] at X2
  refine wpAny_pure ⟨plainId_quiet PyProof.Rows.F.plain_set_update_loop _,ih (i + 1) _ (by omega) lt (W.frame _ s' _ _ st' (Nat.le_succ _) fun b q o e=>?_) X2 fun s2 mv2 fin2=>?_⟩
  ·exact (sb.2 b fun (z:b=S)=>hS (z ▸ q)).trans e
  ·refine fin s2 (Moved.trans W.gtrans ((mv.mono wider).then_heap (Nat.le_succ _) fun b o q e=>?_) mv2) fin2
   exact (sb.2 b fun (z:b=S)=>q (by rw [z]; exact List.mem_cons_self)).trans e
theorem tU {id:String}{S l:Addr}{its:Array Value}{ks:List bG}{Q:Unit->Shared->Prop}(hh:A.handled=none) (hS:s.heap.get? S=some (fr (!gY w))) (hl:s.heap.IsList l its) (hn:its.size=ks.length)
  (hv:∀ (i:Nat) v,its[i]? = some v->∃ k,ks[i]? = some k/\(aW P w).is k v=true/\v.scannable=true) (hb:ks.length + 1 < scanBound)
  (h:∀ (h':Heap) (tk:Nat),gQ P w h' S (dd ks)->(∀ b o,b ≠ S->s.heap.get? b=some o->h'.get? b=some o)->Q () { s with heap:=h',toks:=tk }) :
  wpAny (model P w) A (Builtin.Frozenset.updateFrom id S (.ref l)) Q E s:=by
 obtain ⟨⟨_,od,_,osl⟩,ol,rfl,nl,rfl⟩:=hl
 have l1:s.heap.IsList l its:=⟨_,ol,rfl,nl,rfl⟩
 have n1:=PySem.F.sub_list_set
 have n2:=PySem.F.sub_list_frozenset
 have n3:(Value.type "list" == Value.type "dict")=false:=rfl
 unfold Builtin.Frozenset.updateFrom
 generalize e:pyIter=I
 wp_walk
 subst e
 have lt:=Heap.lt_size ol
 refine wpAny_pyIter_list l1 (wpAny_bind (wpAny_runValue ?_))
 have it:=(Walks.list (prog:=P) (w:=w) (A:=A.in1) hh s.heap.objs.size l (Nat.ne_of_lt lt) its).toS
 rw [hn] at it
 have sS:S < s.heap.objs.size:=Heap.lt_size hS
 have sl:S ≠ l:=fun z=>by
  subst z
  have z2:some (Value.type "set")=some (Value.type "list"):=congrArg (Option.map Obj.cls) (hS.symm.trans ol)
  exact absurd z2 (by decide)
 refine fill_x it (fun q=>?_) hv hb _ 0 _ rfl (Nat.zero_le _) ⟨⟨_,Heap.get?_push_size _ rfl,rfl,rfl⟩,l1.push _⟩ ?_ ?_
 ·rcases q with _ | ⟨_,_ | ⟨_,q⟩⟩
  ·exact Nat.lt_irrefl _ sS
  ·exact sl rfl
  ·cases q
 ·exact ⟨_,#[],0,_,[],Heap.get?_push_of_some _ hS,⟨rfl,rfl,rfl⟩,rfl,.nil,.refl _,by decide,by rfl,tP 0 0 _,rfl⟩
 ·rintro ⟨h',g',d',tk',os'⟩ ⟨mv1,mv2,mv3,mv4⟩ fin
  dsimp only at mv1 mv2 mv3 mv4 fin
  subst mv2 mv3 mv4
  refine wpAny_pure (h _ _ fin fun b o nb e=>mv1 b o (fun q=>?_) (Heap.get?_push_of_some _ e))
  have lb:=Heap.lt_size e
  rcases q with _ | ⟨_,_ | ⟨_,q⟩⟩
  ·exact nb rfl
  ·exact Nat.lt_irrefl _ lb
  ·cases q
theorem new_x (a:Value){Q:Value->Shared->Prop}(h:Q (.ref s.heap.objs.size) { s with heap:=s.heap.push (fr (!gY w)) }) : codeAny (model P w) A (.call (.builtin "set.__new__") ⟨[.type "set", a],[]⟩) (wants Q E) s:=by
 refine codeAny_of_tree ?_
 show wpAny _ A.in1 (checkBuiltinCall "set.__new__" _ >>= fun _=>again (.builtin "set.__new__" ⟨[.type "set", a],[]⟩)) _ _ s
 refine wpAny_bind (wpAny_of_eq (PySem.F.newCall_set_1 a) (wpAny_pure ⟨plainId_quiet PySem.F.plain_set_new _,codeAny_builtin PySem.F.entry_set_new ?_⟩))
 rw [Around.under_plainId PySem.F.plain_set_new _]
 unfold Builtin.«set.__new__» Builtin.Frozenset.newClass
 have hsub:=sub_set_self
 obtain ⟨hp,g,d,tk,os⟩:=s
 dsimp only at h ⊢
 wp_walk
 refine wpAny_askSetting (wpAny_pure ?_)
 dsimp only
 unfold newObj
 exact wpAny_bind (wpAny_alloc (wpAny_pure (wpAny_pure h)))
theorem made_x {l:Addr}{its:Array Value}{ks:List bG}{Q:Value->Shared->Prop}(hh:A.handled=none) (hl:s.heap.IsList l its) (hn:its.size=ks.length)
  (hv:∀ (i:Nat) v,its[i]? = some v->∃ k,ks[i]? = some k/\(aW P w).is k v=true/\v.scannable=true) (hb:ks.length + 1 < scanBound)
  (h:∀ (h':Heap) (tk:Nat),gQ P w h' s.heap.objs.size (dd ks)->(∀ b o,s.heap.get? b=some o->h'.get? b=some o)->Q (.ref s.heap.objs.size) { s with heap:=h',toks:=tk }) :
  wpAny (model P w) A (call (.type "set") [.ref l]) Q E s:=by
 refine made_by PySem.F.called_set (PySem.F.typeCall_set_1 _) (new_x _ (Q:=fun v s1=>v = .ref s.heap.objs.size/\s1 = { s with heap:=s.heap.push (fr (!gY w)) }) ⟨rfl,rfl⟩) ?_
 rintro _ _ ⟨rfl,rfl⟩
 have at0:(s.heap.push (fr (!gY w))).get? s.heap.objs.size=some (fr (!gY w)):=Heap.get?_push_size _ rfl
 have ty:Shared.TypeIs { s with heap:=s.heap.push (fr (!gY w)) } (.ref s.heap.objs.size) "set" := ⟨_,at0,rfl⟩
 refine ⟨ty,codeAny_call_builtin PySem.F.called_set.init.plain PySem.F.entry_set_init (check_set_init_1 ty ?_)⟩
 unfold Builtin.«set.__init__» noKeywords
 generalize e : @Builtin.Frozenset.updateFrom=U
 wp_walk
 subst e
 refine tU (by simp [hh]) at0 (hl.push _) hn hv hb fun h' tk fin kp'=>?_
 exact wpAny_pure ⟨rfl,h h' tk fin fun b o e=>kp' b o (Nat.ne_of_lt (Heap.lt_size e)) (Heap.get?_push_of_some _ e)⟩
theorem wU {r:Addr}{Q:Bool->Shared->Prop}(hT:s.TypeIs (.ref r) "set")(h:Q false s) : wpAny (model P w) A (Builtin.List.listLengthHint (.ref r)) Q E s:=by
 unfold Builtin.List.listLengthHint
 refine wpAny_bind (wpAny_specialOf hT PySem.F.slot_set_len.lookup ?_)
 have sp:splitId "set.__len__" = some ("set", "__len__"):=by decide +kernel
 simp only [sp]
 refine wpAny_bind (wpAny_isInstance (T := "set") (b:=true) hT (by rw [isSubtype_type]; kernel_rfl) ?_)
 rw [if_neg (by decide)]
 first
 | rw [if_pos (by decide +kernel)]
 | rw [if_pos (by rfl)]
 refine wpAny_bind (wpAny_typeOf hT ?_)
 exact wpAny_pure h
theorem fM {α:Type}{c:Prop} [Decidable c]{m1 m2:Sem α}{Q:α->Shared->Prop}(h:c)(q:wpAny (model P w) A m1 Q E s) : wpAny (model P w) A (if c then m1 else m2) Q E s:=by
 rw [if_pos h]
 exact q
theorem t5 {S:Addr}{ds:List bG}{Q:List Value->Shared->Prop}(hh:A.handled=none) (X:eK P w s.heap S ds) (hn:ds.length<=sizeLine)
  (h:∀ (s':Shared) (es:List (Int × Value)) (ks:List bG),EK P w es ks->ks.Perm ds->(∀ b o,s.heap.get? b=some o->s'.heap.get? b=some o)->s.heap.objs.size < s'.heap.objs.size->s'.gens=s.gens->s'.os=s.os->Q (es.map (·.2)) s') : wpAny (model P w) A (collect (.ref S)) Q E s:=by
 have tS:s.TypeIs (.ref S) "set" := by
  obtain ⟨o,_,_,_,_,ho,hex,_⟩:=X
  exact ⟨o,ho,hex.1⟩
 have lS:S < s.heap.objs.size:=by
  obtain ⟨o,_,_,_,_,ho,_⟩:=X
  exact Heap.lt_size ho
 have at0:(s.heap.push { cls:=.type "list", data:=.seq #[] }).get? s.heap.objs.size=some { cls:=.type "list", data:=.seq #[] }:=Heap.get?_push_size _ rfl
 have X1:eK P w (s.heap.push { cls:=.type "list", data:=.seq #[] }) S ds:=X.moved fun o e=>Heap.get?_push_of_some _ e
 have t1:Shared.TypeIs { s with heap:=s.heap.push { cls:=.type "list", data:=.seq #[] } } (.ref S) "set" := by
  obtain ⟨o,_,_,_,_,ho,hex,_⟩:=X1
  exact ⟨o,ho,hex.1⟩
 unfold collect
 refine wpAny_bind (wpAny_runValue (iH entry_proto_collect' PySem.F.plain_proto_collect (wpAny_bind (m:=newList []) (wpAny_newList (wpAny_pure ⟨plainId_quiet PySem.F.plain_list_iadd _,iH entry_list_iadd' PySem.F.plain_list_iadd ?_⟩) (Nat.zero_le _)))))
 show wpAny _ _ (Builtin.List.listExtendWith (.ref s.heap.objs.size) (.ref S) (.ref s.heap.objs.size)) _ _ _
 unfold Builtin.List.listExtendWith
 have ns:Builtin.List.listSameRef (.ref s.heap.objs.size) (.ref S)=false:=by simp [Builtin.List.listSameRef,Nat.ne_of_gt lS]
 refine wpAny_bind (wpAny_typeOf t1 ?_)
 rw [ns]
 refine wpAny_bind (iter_x (s:={ s with heap:=s.heap.push { cls:=.type "list", data:=.seq #[] } }) X1 fun it s1 ⟨fp,St,es,ks,ek,pm,hfp,hit,st,W,kp1,g1,o1,k1⟩=>?_)
 have t2:s1.TypeIs (.ref S) "set" := by
  obtain ⟨o,_,_,_,_,ho,hex,_⟩:=X1
  exact ⟨o,kp1 _ _ ho,hex.1⟩
 refine wpAny_bind (wpAny_holding (wU t2 ?_))
 have L1:=kp1 _ _ at0
 have nf:s.heap.objs.size ∉ fp:=fun q=>by
  rcases hfp _ q with e | e
  ·rw [e] at lS
   exact Nat.lt_irrefl _ lS
  ·rw [Heap.size_push] at e
   exact Nat.not_succ_le_self _ e
 have ni:s.heap.objs.size < it:=by
  rw [Heap.size_push] at hit
  exact hit
 refine fM (by decide +kernel) (wpAny_bind (wpAny_rule (wpAny_bind ?_)))
 show wpAny _ _ (updateSeq s.heap.objs.size (·.push .none) >>= fun _=>updateSeq s.heap.objs.size (·.pop)) _ _ _
 refine wpAny_bind (wpAny_updateSeq L1 rfl ?_)
 have L2:=Heap.get?_update_self (Obj.mapSeq (·.push Value.none)) L1 rfl
 refine wpAny_updateSeq (hz:=by seq_fits) L2 rfl ?_
 have L3:=Heap.get?_update_self (Obj.mapSeq (·.pop)) L2 rfl
 have W1:=W A.in1 (by simpa using hh)
 have keep:∀ b o,b ≠ s.heap.objs.size->s1.heap.get? b=some o->((s1.heap.update s.heap.objs.size (Obj.mapSeq (·.push Value.none))).update s.heap.objs.size (Obj.mapSeq (·.pop))).get? b=some o:=fun b o nb e=>(Heap.get?_update_other _ _ (Ne.symm nb)).trans ((Heap.get?_update_other _ _ (Ne.symm nb)).trans e)
 refine wpAny_pure ⟨plainId_quiet PySem.F.plain_extend_loop _,codeAny_extend_loopS W1 hn _ nf _ ds.length 0 _ _ _ rfl (Nat.zero_le _) (W1.frame 0 s1 _ s1.toks st (Nat.le_refl _) fun b hb o e=>keep b o (fun z=>nf (z ▸ hb)) e) L3 (ItemsOf.nil _) fun s' acc c mv hS' hacc=>?_⟩
 have ea:acc.toList=es.map (·.2):=by
  apply List.ext_getElem?
  intro j
  have ls:(es.map (·.2)).length=ds.length:=by rw [List.length_map,ek.length,pm.length_eq]
  by_cases lj:j < acc.size
  ·have e:=Array.getElem?_eq_getElem lj
   rw [Array.getElem?_toList,e,hacc.2 j _ e]
  ·rw [List.getElem?_eq_none (by rw [Array.length_toList]; omega),List.getElem?_eq_none (by rw [ls,<- hacc.1]; omega)]
 refine wpAny_bind (wpAny_load hS' (wpAny_pure ?_))
 rw [ea]
 refine h s' es ks ek pm (fun b o e=>?_) (Heap.lt_size hS') (mv.gens.trans g1) (mv.os.trans o1)
 have lb:=Heap.lt_size e
 refine mv.heap b o (fun q=>?_) (keep b o (Nat.ne_of_lt lb) (kp1 _ _ (Heap.get?_push_of_some _ e)))
 rcases List.mem_cons.mp q with z | z
 ·exact Nat.ne_of_lt lb z
 ·exact Nat.ne_of_lt (Nat.lt_trans lb ni) (List.mem_singleton.mp z)
end
abbrev gG (P:Program) (w:World) (a:Addr) (ds:List bG) : HO:=.ext fun h=>eK P w h a ds
def ddS (ws:List Str) : List Str:=ws.foldl (fun acc w=>if w∈acc then acc else acc ++ [w]) []
theorem xG {α:Type} [DecidableEq α](f:α->bG)(inj:∀ x y,f x=f y->x=y) : ∀ (ws acc:List α),(ws.map f).foldl eZ (acc.map f)=(ws.foldl (fun acc w=>if w∈acc then acc else acc ++ [w]) acc).map f
 | [],acc=>rfl
 | x :: ws,acc=>by
  rw [List.map_cons,List.foldl_cons,List.foldl_cons]
  have m:dE (acc.map f) (f x)=true↔x∈acc:=by
   rw [dB,List.mem_map]
   exact ⟨fun ⟨y,hy,e⟩=>inj _ _ e ▸ hy,fun h=>⟨x,h,rfl⟩⟩
  by_cases h:x∈acc
  ·have e:eZ (acc.map f) (f x)=acc.map f:=by unfold eZ; rw [if_pos (m.mpr h)]
   rw [e,if_pos h]
   exact xG f inj ws acc
  ·have e:eZ (acc.map f) (f x)=(acc ++ [x]).map f:=by unfold eZ; rw [if_neg (fun z=>h (m.mp z)),List.map_append]; rfl
   rw [e,if_neg h]
   exact xG f inj ws _
theorem dd_strs (ws:List Str) : dd (ws.map Sum.inr)=(ddS ws).map Sum.inr:=xG Sum.inr (fun _ _ e=>Sum.inr.inj e) ws []
theorem jY {α:Type} [DecidableEq α] : ∀ (ws acc:List α),acc.Nodup->(ws.foldl (fun acc w=>if w∈acc then acc else acc ++ [w]) acc).Nodup
 | [],acc,h=>h
 | y :: ws,acc,h=>by
  rw [List.foldl_cons]
  refine jY ws _ ?_
  split
  ·exact h
  ·rename_i n
   rw [List.nodup_append]
   exact ⟨h,List.nodup_cons.mpr ⟨List.not_mem_nil,List.nodup_nil⟩,fun a ha b hb e=>n (by rw [List.mem_singleton.mp hb] at e; rw [<- e]; exact ha)⟩
theorem lC {α:Type} [DecidableEq α] : ∀ (ws acc:List α),(acc ++ ws).Nodup->ws.foldl (fun acc w=>if w∈acc then acc else acc ++ [w]) acc=acc ++ ws
 | [],acc,_=>(List.append_nil _).symm
 | y :: ws,acc,h=>by
  have n:y ∉ acc:=fun z=>(List.nodup_append.mp h).2.2 y z y List.mem_cons_self rfl
  rw [List.foldl_cons,if_neg n,lC ws _ (by rw [List.append_assoc]; exact h),List.append_assoc]
  rfl
theorem n9 {α:Type} [DecidableEq α] : ∀ (ws acc:List α),(ws.foldl (fun acc w=>if w∈acc then acc else acc ++ [w]) acc).length<=acc.length + ws.length
 | [],acc=>Nat.le_refl _
 | y :: ws,acc=>by
  rw [List.foldl_cons,List.length_cons]
  have h:=n9 ws (if y∈acc then acc else acc ++ [y])
  have h2:(if y∈acc then acc else acc ++ [y]).length<=acc.length + 1:=by
   split
   ·exact Nat.le_succ _
   ·rw [List.length_append]; exact Nat.le_refl _
  omega
theorem iO (ws:List Str) : (ddS ws).Nodup:=jY ws [] List.nodup_nil
theorem kB {ws:List Str}(h:ws.Nodup) : ddS ws=ws:=lC ws [] h
theorem mZ (ws:List Str) : (ddS ws).length<=ws.length:=by have:=n9 ws []; rwa [List.length_nil,Nat.zero_add] at this
def wX:bG->Option Str
 | .inr x=>some x
 | .inl _=>none
theorem s9 {ks:List bG}{ws:List Str}(p:ks.Perm (ws.map Sum.inr)) : ∃ vs:List Str,ks=vs.map Sum.inr/\vs.Perm ws:=by
 have key:∀ k∈ks,∃ x,k=Sum.inr x:=fun k hk=>by
  obtain ⟨x,_,e⟩:=List.mem_map.mp (p.mem_iff.mp hk)
  exact ⟨x,e.symm⟩
 have e:ks=(ks.filterMap wX).map Sum.inr:=by
  clear p
  induction ks with
  | nil=>rfl
  | cons k ks ih =>
   obtain ⟨x,rfl⟩:=key k List.mem_cons_self
   rw [show List.filterMap wX (Sum.inr x :: ks)=x :: List.filterMap wX ks from rfl,List.map_cons,<- ih fun k hk=>key k (List.mem_cons_of_mem _ hk)]
 refine ⟨_,e,?_⟩
 have q:=p.filterMap wX
 rw [List.filterMap_map] at q
 have e2:ws.filterMap (wX ∘ Sum.inr)=ws:=List.filterMap_some
 rwa [e2] at q
section
variable {P:Program}{w:World}
theorem EK.strs:∀ {ws:List Str}{es:List (Int × Value)},EK P w es (ws.map Sum.inr)->StrsAre (es.map (·.2)) ws
 | [],_,h=>by cases h; exact .nil
 | x :: ws,_,h=>by
  cases h with
  | cons h1 h2 h =>
   rcases bP (show gB (Sum.inr x) _=true from h1) with ⟨i,t,e,_⟩ | ⟨y,t,e,rfl⟩
   ·cases e
   ·cases e
    exact .cons x t (EK.strs h)
end
theorem Inv.other {X:Cx}{pins:List (Addr × Obj)}{σ:St}{H:Hp}{s:Shared}(I:Inv X pins σ H s)(d:Drawn) : Inv X pins σ H { s with drawn:=d }:=⟨I.ok,I.os,I.bare,I.base,I.loc,I.cell,I.free,I.freeC,I.pin,I.hok,I.len⟩
section
variable {X:Cx}
theorem t6 (hc:X.calm=true) : eA X (.type "set") (fun xs H Q=>∃ (p:Addr) (ks:List bG),xs = [.ref p]/\c6 X.K H p (ks.map kV)/\ks.length<=4000/\∀ q,H q=none->Q (.ref q) (upd H q (gG X.prog X.w q (dd ks)))):=by
 intro pins s σ H xs us Q I r h
 obtain ⟨p,ks,rfl,hp,hz,q⟩:=h
 obtain ⟨u,rfl,ru⟩:=fO r
 cases ru
 obtain ⟨its,rv,pl,_⟩:=I.list hp
 have hl:=rv.length
 rw [List.length_map] at hl
 refine made_x (ks:=ks) (I.ok.hd hc) pl.isList (by simp [<- hl]) (fun i v e=>kZ rv (by simpa using e)) (by unfold scanBound; omega) fun h' tk set kp=>?_
 refine ⟨.ref s.heap.objs.size,_,I.laid (t':=tk) (o:=gG X.prog X.w s.heap.objs.size (dd ks)) kp (Nat.le_refl _) ?_,rfl,q _ (I.hok.fresh (Nat.le_refl _))⟩
 refine ⟨set.y,?_,fun h1 h2 a b=>eK.moved a b⟩
 obtain ⟨o,_,_,_,_,e,_⟩:=set
 exact ⟨o,e⟩
theorem eV (hc:X.calm=true) : eA X (.type "set") (fun xs H Q=>∃ (p:Addr) (ws:List Str),xs = [.ref p]/\c6 X.K H p (ws.map V.str)/\ws.length<=4000/\∀ q,H q=none->Q (.ref q) (upd H q (gG X.prog X.w q ((ddS ws).map Sum.inr)))):=by
 intro pins s σ H xs us Q I r h
 obtain ⟨p,ws,rfl,hp,hz,q⟩:=h
 refine t6 hc pins s σ H _ us Q I r ⟨p,ws.map Sum.inr,rfl,?_,by rw [List.length_map]; exact hz,fun y hy=>?_⟩
 ·rw [List.map_map]
  exact hp
 ·rw [dd_strs]
  exact q y hy
theorem eI (hc:X.calm=true) : eA X (.builtin "sorted") (fun xs H Q=>∃ (p:Addr) (ws:List Str),xs = [.ref p]/\H p=some (gG X.prog X.w p (ws.map Sum.inr))/\ws.length < 64/\∀ (q:Addr) (ws':List Str),H q=none->ws'.Perm ws->sortedS ws'=true->Q (.ref q) (upd H q (.lst (ws'.map V.str)))):=by
 intro pins s σ H xs us Q I r h
 obtain ⟨p,ws,rfl,hp,h64,q⟩:=h
 obtain ⟨u,rfl,ru⟩:=fO r
 cases ru
 obtain ⟨sx,_⟩:=I.hok p _ hp
 refine Calls.call_function_entry kind_sorted plain_sorted entry_sorted (args_sorted1 _) ?_
 unfold Builtin.«sorted»
 refine wpAny_bind (m:=checkCount _ _ _ _) (wpAny_pure (wpAny_bind (t5 (A:=X.A.in1) (I.ok.hd hc) sx (by rw [List.length_map]; exact jM (by omega)) fun s' es ks ek pm kp' hz hg ho=>?_)))
 obtain ⟨vs,rfl,pv⟩:=s9 pm
 have hS:=ek.strs
 have la:(es.map (·.2)).length=vs.length:=by rw [List.length_map,ek.length,List.length_map]
 have lv:=pv.length_eq
 obtain ⟨h',g',d',tk,os'⟩:=s'
 dsimp only at kp' hz hg ho
 subst hg ho
 have I2:=I.other d'
 refine wpAny_bind (wpAny_newList ?_ (by rw [la]; exact jM (by omega)))
 have hL:(h'.push (seqObj "list" (es.map (·.2)).toArray 0)).get? h'.objs.size=some (seqObj "list" (es.map (·.2)).toArray 0):=Heap.get?_push_size _ rfl
 have hz:=Nat.le_of_lt hz
 refine wpAny_bind (wpAny_holding (wpAny_call_entry slot_list_sort ⟨_,hL,rfl⟩ entry_list_sort (list_sort_treeK strKind_oneLt hL hS.keysOf (fun a b rest e=>keyKind_strs (by rw [<- e]; exact hS)) (by omega) fun st' a1 a2=>⟨_,rfl,?_⟩) (args_list_sort _)))
 obtain ⟨ws',b1,b2,b3⟩:=sorted_out_str hS a1 a2
 obtain ⟨n,en⟩:=sortedHeap_at (out:=(arrOf st').map (·.2)) hL
 refine wpAny_pure ⟨_,rfl,.ref h'.objs.size,_,I2.laid (t':=tk) (o:=.lst (ws'.map V.str)) (fun b o e=>?_) hz ⟨?_,_,n,mM b1,?_⟩,rfl,q _ ws' (I.hok.fresh hz) (b2.trans pv) b3⟩
 ·have lt:=Heap.lt_size (kp' b o e)
  rw [sortedHeap_old (Nat.ne_of_lt lt) (by rw [Heap.size_push]; exact Nat.lt_succ_of_lt lt)]
  exact Heap.get?_push_of_some _ (kp' b o e)
 ·rw [List.length_map,b2.length_eq,lv]
  exact jM (by omega)
 ·rw [Array.toArray_toList]
  exact en
end
def Kin (ds:List bG) : Prop:=(∃ ws:List Str,ds=ws.map Sum.inr)\/(∃ ns:List Int,ds=ns.map Sum.inl)
end L2
namespace L2
open PySem PySem.Spec PyProof.Rows PySem.W
def ev {α:Type}(lt:Nat->Nat->Bool) : KasT α->α
 | .ret a=>a
 | .ask i j k=>ev lt (k (lt i j))
structure Sto (n:Nat) (lt:Nat->Nat->Bool) : Prop where
 tr:∀ i j k,lt i j=true->lt j k=true->lt i k=true
 irr:∀ i,lt i i=false
 tot:∀ i j,i < n->j < n->i ≠ j->lt i j=true\/lt j i=true
section
variable {n:Nat}{lt:Nat->Nat->Bool}
def Dn (lt:Nat->Nat->Bool)(p:Array Nat)(k:Nat) : Prop:=∀ i j,i < j->j < k->lt (p.getD j 0) (p.getD i 0)=true
end
end L2
namespace L2
open PySem PySem.Spec PyProof.Rows PySem.W
section
variable {prog:Program}{w:World}{A:Around}{E:Value->Shared->Prop}{s:Shared}
end
section
variable {X:Cx}
end
end L2
namespace L2
open PySem PySem.Spec PyProof.Rows
theorem KV.at {kvs:List (bG × V)}{vs:List (bG × Value)}(h:KV kvs vs){i:Nat}{k:bG}{u:Value}(e:vs[i]? = some (k,u)) : ∃ x,kvs[i]? = some (k,x)/\bX x u:=by
 induction h generalizing i with
 | nil=>cases i <;> cases e
 | @cons p q _ _ a _ ih =>
  cases i with
  | zero =>
   obtain rfl:q=(k,u):=Option.some.inj e
   refine ⟨p.2,?_,a.2⟩
   show some p=some (k,p.2)
   rw [<- show p.1=k from a.1]
  | succ i=>exact ih e
def Iti (P:Program)(w:World)(a:Addr)(kvs:List (bG × V))(ep:Nat) : It :=
 ⟨fun i H=>H a=some (nH P w a kvs ep)/\i < kvs.length,fun i H v H'=>∃ T k x,H T=none/\v = .ref T/\kvs[i]? = some (k,x)/\H'=upd H T (.tup [kV k,x]),fun i H=>H a=some (nH P w a kvs ep)/\kvs.length<=i⟩
theorem w5:entryFor table "dict_itemiterator.__iter__" = some Builtin.«dict_keyiterator.__iter__» := entryFor_alias (id' := "dict_keyiterator.__iter__") (by kernel_rfl) rfl (by decide +kernel) (by kernel_rfl)
theorem pF {P:Program}{w:World}{K:PySem.W.Frag}{elts:List Expr}{kk:Nat}{pos:Pos}(a it:Addr) (kvs:List (bG × V)) (ep:Nat) :
  Turn P w K (.Tuple elts kk pos) (Iti P w a kvs ep) [it] it (fun i h=>∃ ok ov,IsItemIter h it a i kvs.length ep ok ov) where
 mem:=List.mem_singleton.mpr rfl
 obj:=fun i h st b hb=>by
  obtain rfl:=List.mem_singleton.mp hb
  obtain ⟨ok,ov,e⟩:=st
  exact ⟨_,e,fun v z=>by cases z⟩
 keep:=fun i h h' st k=>by
  obtain ⟨ok,ov,e⟩:=st
  exact ⟨ok,ov,k it (List.mem_singleton.mpr rfl) _ e⟩
 item:=by
  intro X hP hw hK hc i pins s σ H E I hf st hg
  subst hP hw hK
  obtain ⟨e,hi⟩:=hg
  obtain ⟨⟨vs,rel,da,lo⟩,_,_⟩:=I.hok a _ e
  have hl:=KV.length rel
  obtain ⟨ok,ov,st⟩:=st
  rw [hl] at st
  obtain ⟨⟨k,u⟩,hx⟩ : ∃ p,vs[i]? = some p:=⟨_,List.getElem?_eq_getElem (by omega)⟩
  obtain ⟨x,hkx,rx⟩:=KV.at rel hx
  obtain ⟨f0,f1,f2,f3,f4,f5⟩:=hf it (List.mem_singleton.mpr rfl)
  refine wpAny_pyNext_items_item st da hx fun key h' hkey a1 a2 a3 a4=>?_
  refine ⟨_,rfl,wpAny_letOwnedTupleGo_items (s:={ s with heap:=h' }) a1 fun h2 st' sb=>?_⟩
  have I1:Inv X pins σ H { s with heap:=h' }:=I.turned (t':=s.toks) (fun b o hb e=>a4 b o hb e) f0 f1 f3 f4 f5
  have hT0:=I.hok.fresh (Nat.le_refl s.heap.objs.size)
  have fT:hG X pins H s.heap.objs.size:=I.fpOk (Nat.le_refl _) hT0
  have I2:Inv X pins σ (upd H s.heap.objs.size (.tup [kV k,x])) { s with heap:=h' }:=I1.track fT I.sz ⟨(show 2<=sizeLine from sz),[key,u],.cons (key_rel hkey) (.cons rx .nil),⟨_,a2,rfl,_,rfl⟩⟩
  have ne':it ≠ s.heap.objs.size:=fun q=>absurd (Heap.lt_size st) (by rw [q]; exact Nat.lt_irrefl _)
  refine ⟨.ref s.heap.objs.size,_,I2.turned (t':=s.toks) (fun c o hc e=>(sb.2 c hc).trans e) (by rw [aR ne']; exact f0) f1 f3 f4 f5,rfl,⟨_,k,x,hT0,rfl,hkx,rfl⟩,⟨_,_,by rw [hl]; exact st'⟩,fun c hc=>?_⟩
  obtain rfl:=List.mem_singleton.mp hc
  rw [aR ne']
  exact f0
 done:=by
  intro X hP hw hK hc i pins s σ H E I hf st hg
  subst hP hw hK
  obtain ⟨e,hi⟩:=hg
  obtain ⟨⟨vs,rel,da,lo⟩,_,_⟩:=I.hok a _ e
  have hl:=KV.length rel
  obtain ⟨ok,ov,st⟩:=st
  rw [hl] at st
  obtain ⟨f0,f1,f2,f3,f4,f5⟩:=hf it (List.mem_singleton.mpr rfl)
  exact wpAny_pyNext_items_end (I.ok.hd hc) st da (List.getElem?_eq_none (by omega)) fun h' eb=>⟨rfl,I.turned (t':=s.toks) (fun b o hb e=>eb b o hb e) f0 f1 f3 f4 f5⟩
 self:=fun A i s Q E st h=>by
  obtain ⟨ok,ov,e⟩:=st
  have ty:s.TypeIs (.ref it) "dict_itemiterator" := ⟨_,e,rfl⟩
  refine wpAny_pyIter_slot ty PySem.F.slot_dict_itemiterator_iter (wpAny_call_entry PySem.F.slot_dict_itemiterator_iter ty w5 ?_ (PySem.F.args_dict_itemiterator_iter_1 _))
  show wpAny _ _ (ret (.ref it)) _ _ s
  exact wpAny_pure ⟨_,rfl, "dict_itemiterator", _,ty,PySem.F.slot_dict_itemiterator_next.lookup,h⟩
def Itw (P:Program)(w:World)(a:Addr)(kvs:List (bG × V))(ep:Nat) : It :=
 ⟨fun i H=>H a=some (nH P w a kvs ep)/\i < kvs.length,fun i H v H'=>H'=H/\∃ k,kvs[i]? = some (k,v),fun i H=>H a=some (nH P w a kvs ep)/\kvs.length<=i⟩
theorem nL {P:Program}{w:World}{K:PySem.W.Frag}{tg:Expr}(a it:Addr)(kvs:List (bG × V))(ep:Nat) : Turn P w K tg (Itw P w a kvs ep) [it] it (fun i h=>h.IsValIter it a i kvs.length ep) where
 mem:=List.mem_singleton.mpr rfl
 obj:=fun i h st b hb=>by
  obtain rfl:=List.mem_singleton.mp hb
  obtain ⟨o,e,_,d⟩:=st
  exact ⟨o,e,fun v z=>by rw [d] at z; cases z⟩
 keep:=fun i h h' st k=>by
  obtain ⟨o,e,r⟩:=st
  exact ⟨o,k it (List.mem_singleton.mpr rfl) o e,r⟩
 item:=by
  intro X hP hw hK hc i pins s σ H E I hf st hg
  subst hP hw hK
  obtain ⟨e,hi⟩:=hg
  obtain ⟨⟨vs,rel,da,lo⟩,_,_⟩:=I.hok a _ e
  have hl:=KV.length rel
  rw [hl] at st
  obtain ⟨⟨k,u⟩,hx⟩ : ∃ p,vs[i]? = some p:=⟨_,List.getElem?_eq_getElem (by omega)⟩
  obtain ⟨x,hkx,rx⟩:=KV.at rel hx
  obtain ⟨f0,f1,f2,f3,f4,f5⟩:=hf it (List.mem_singleton.mpr rfl)
  refine wpAny_pyNext_values_item st da hx fun h' st' sb=>?_
  obtain ⟨o,e1,c,d⟩:=id st'
  rw [<- hl] at st'
  exact ⟨u,rfl,oP (s:={ s with heap:=h' }) e1 c d (by decide) ⟨x,H,I.turned (t':=s.toks) (fun b o hb e=>(sb.2 b hb).trans e) f0 f1 f3 f4 f5,rx,⟨rfl,k,hkx⟩,st',fun b hb=>(hf b hb).1⟩⟩
 done:=by
  intro X hP hw hK hc i pins s σ H E I hf st hg
  subst hP hw hK
  obtain ⟨e,hi⟩:=hg
  obtain ⟨⟨vs,rel,da,lo⟩,_,_⟩:=I.hok a _ e
  have hl:=KV.length rel
  rw [hl] at st
  obtain ⟨f0,f1,f2,f3,f4,f5⟩:=hf it (List.mem_singleton.mpr rfl)
  exact wpAny_pyNext_values_end (I.ok.hd hc) st da (List.getElem?_eq_none (by omega)) fun h' eb=>⟨rfl,I.turned (t':=s.toks) (fun b o hb e=>eb b o hb e) f0 f1 f3 f4 f5⟩
 self:=fun _ _ _ _ _ st h=>wpAny_pyIter_valiter st h
section
variable {X:Cx}
def iDict (P:Program)(w:World)(J:Addr->List (bG × V)->Nat->It)(tl:TE) : TI:=fun σ H R=>tl σ H fun x H1=>∃ a kvs,x = .ref a/\((H1 a=some (.dK kvs)/\∀ ep,R (J a kvs ep) (upd H1 a (nH P w a kvs ep)))\/∃ ep,H1 a=some (nH P w a kvs ep)/\R (J a kvs ep) H1)
theorem jU {elts:List Expr}{kk:Nat}{tpos:Pos}{l:Expr}{tl:TE}{apos pos:Pos}(hl:PE X l tl) (hb:attributeBase l "items" X.env (eval l X.env)=eval l X.env) (hn:(apos.endLine == pos.line)=true) :
  PI X (.Tuple elts kk tpos) (.Call (.Attribute l "items" apos) [] [] pos) (iDict X.prog X.w (Iti X.prog X.w) tl):=by
 intro pins s σ H R I h
 refine wpAny_Call_method (T := "dict") (id := "dict.items") hb rfl hn PySem.F.plainAttrs_dict PySem.F.slot_dict_items PySem.F.type_dict_items (cL (hl pins s σ H _ I h) fun v s1 ⟨x,H1,I1,r1,q1⟩=>?_)
 obtain ⟨a,kvs,e,q⟩:=q1
 subst e
 cases r1
 have fin:∀ (ep:Nat) (H2:Hp),Inv X pins σ H2 s1->H2 a=some (nH X.prog X.w a kvs ep)->R (Iti X.prog X.w a kvs ep) H2 ->
   s1.TypeIs (.ref a) "dict" /\ (∀ b,Value.ref a = .ref b->∃ ob,s1.heap.get? b=some ob/\ob.dict=none)/\wpAny (model X.prog X.w) X.A (callWith pos (.builtin "dict.items") [.ref a] [] []) (fun v s2=>wpAny (model X.prog X.w) X.A (pyIter v) (PIE X pins σ (.Tuple elts kk tpos) R) X.xe s2) X.xe s1:=by
  intro ep H2 I2 hq r
  obtain ⟨⟨vs,rel,da,lo⟩,_,_⟩:=I2.hok a _ hq
  refine ⟨da.dictOf.typeIs,da.dictOf.mapOf.noDict,?_⟩
  refine method_meetsIn PySem.F.slot_dict_items PySem.F.entry_dict_items rfl (PySem.evalArgs_none ⟨rfl,da.dictOf.typeIs,PySem.F.args_dict_items_1 _,_,meets_dict_items (aW X.prog X.w) a lo,⟨vs,da.dictOf⟩,?_⟩)
  refine wpAny_pyIter_items (knd:=aW X.prog X.w) ⟨_,Heap.get?_push_size _ rfl,rfl,rfl⟩ (da.push _) ?_
  have k2:∀ b o,s1.heap.get? b=some o->((s1.heap.push { cls:=.type "dict_items", data:=.fields #[.ref a] }).push { cls:=.type "dict_itemiterator", data:=.fields #[.none,.bool false,.ref a,.int 0 0,.int vs.length 0,.int ep 0,.none,.none] }).get? b=some o:=fun b o e=>Heap.get?_push_of_some _ (Heap.get?_push_of_some _ e)
  refine ⟨_,_,_,_,H2,rfl,I2.kept (t':=s1.toks) k2,pF a _ kvs ep,⟨.none,.none,?_⟩,fun b hb=>?_,r⟩
  ·rw [KV.length rel]
   exact Heap.get?_push_size _ rfl
  ·obtain rfl:=List.mem_singleton.mp hb
   have le:s1.heap.objs.size<=(s1.heap.push { cls:=.type "dict_items", data:=.fields #[.ref a] }).objs.size:=by rw [Heap.size_push]; exact Nat.le_succ _
   exact I2.fpOk le (I2.hok.fresh le)
 rcases q with ⟨hq,q⟩ | ⟨ep,hq,q⟩
 ·obtain ⟨ep,vs,rel,da,lo,I2⟩:=I1.freeze hq
  exact fin ep _ I2 aE (q ep)
 ·exact fin ep H1 I1 hq q
theorem lB {tg:Expr}{l:Expr}{tl:TE}{apos pos:Pos}(hl:PE X l tl) (hb:attributeBase l "values" X.env (eval l X.env)=eval l X.env) (hn:(apos.endLine == pos.line)=true) :
  PI X tg (.Call (.Attribute l "values" apos) [] [] pos) (iDict X.prog X.w (Itw X.prog X.w) tl):=by
 intro pins s σ H R I h
 refine wpAny_Call_method (T := "dict") (id := "dict.values") hb rfl hn PySem.F.plainAttrs_dict PySem.F.slot_dict_values PySem.F.type_dict_values (cL (hl pins s σ H _ I h) fun v s1 ⟨x,H1,I1,r1,q1⟩=>?_)
 obtain ⟨a,kvs,e,q⟩:=q1
 subst e
 cases r1
 have fin:∀ (ep:Nat) (H2:Hp),Inv X pins σ H2 s1->H2 a=some (nH X.prog X.w a kvs ep)->R (Itw X.prog X.w a kvs ep) H2 ->
   s1.TypeIs (.ref a) "dict" /\ (∀ b,Value.ref a = .ref b->∃ ob,s1.heap.get? b=some ob/\ob.dict=none)/\wpAny (model X.prog X.w) X.A (callWith pos (.builtin "dict.values") [.ref a] [] []) (fun v s2=>wpAny (model X.prog X.w) X.A (pyIter v) (PIE X pins σ tg R) X.xe s2) X.xe s1:=by
  intro ep H2 I2 hq r
  obtain ⟨⟨vs,rel,da,lo⟩,_,_⟩:=I2.hok a _ hq
  refine ⟨da.dictOf.typeIs,da.dictOf.mapOf.noDict,?_⟩
  refine method_meetsIn PySem.F.slot_dict_values PySem.F.entry_dict_values rfl (PySem.evalArgs_none ⟨rfl,da.dictOf.typeIs,PySem.F.args_dict_values_1 _,_,meets_dict_values (aW X.prog X.w) a lo,⟨vs,da.dictOf⟩,?_⟩)
  refine wpAny_pyIter_values (knd:=aW X.prog X.w) ⟨_,Heap.get?_push_size _ rfl,rfl,rfl⟩ (da.push _) ?_
  have k2:∀ b o,s1.heap.get? b=some o->((s1.heap.push { cls:=.type "dict_values", data:=.fields #[.ref a] }).push { cls:=.type "dict_valueiterator", data:=.fields #[.ref a,.int 0 0,.int vs.length 0,.int ep 0] }).get? b=some o:=fun b o e=>Heap.get?_push_of_some _ (Heap.get?_push_of_some _ e)
  refine ⟨_,_,_,_,H2,rfl,I2.kept (t':=s1.toks) k2,nL a _ kvs ep,?_,fun b hb=>?_,r⟩
  ·rw [KV.length rel]
   exact ⟨_,Heap.get?_push_size _ rfl,rfl,rfl⟩
  ·obtain rfl:=List.mem_singleton.mp hb
   have le:s1.heap.objs.size<=(s1.heap.push { cls:=.type "dict_values", data:=.fields #[.ref a] }).objs.size:=by rw [Heap.size_push]; exact Nat.le_succ _
   exact I2.fpOk le (I2.hok.fresh le)
 rcases q with ⟨hq,q⟩ | ⟨ep,hq,q⟩
 ·obtain ⟨ep,vs,rel,da,lo,I2⟩:=I1.freeze hq
  exact fin ep _ I2 aE (q ep)
 ·exact fin ep H1 I1 hq q
theorem oK {P:Program}{w:World}{a:Addr}{kvs:List (bG × V)}{ep:Nat}{ts:List Str}{js:List Nat}{g:TG}{tc:TT}{te:TE}{σ:St}{H:Hp}{Q:VK}(Pv:Nat->List V->Hp->Prop) (h0:Pv 0 [] H) (hl:∀ i ys H,i<=kvs.length->Pv i ys H->H a=some (nH P w a kvs ep)/\ys.length < sizeLine)
  (hs:∀ i k x T ys H,kvs[i]? = some (k,x)->Pv i ys H->H T=none->g (.ref T) (kW ts js σ) (upd H T (.tup [kV k,x])) fun σ2 H2=>kK (kW ts js σ) σ2/\tc σ2 H2 fun b H3=>if b=true then te σ2 H3 fun y H4=>i + 1<=kvs.length/\Pv (i + 1) (ys ++ [y]) H4 else i + 1<=kvs.length/\Pv (i + 1) ys H3)
  (hd:∀ ys H,Pv kvs.length ys H->∀ p,H p=none->Q (.ref p) (upd H p (.lst ys))) : LcW (Iti P w a kvs ep) ts js g tc te σ H Q:=by
 refine ⟨fun i ys H=>i<=kvs.length/\Pv i ys H,kvs.length,⟨Nat.zero_le _,h0⟩,fun i ys H ⟨hi,p⟩=>?_⟩
 obtain ⟨hf,hz⟩:=hl i ys H hi p
 by_cases e:i=kvs.length
 ·rw [e] at p ⊢
  exact .inl ⟨⟨hf,Nat.le_refl _⟩,hd ys H p⟩
 ·have hlt:i < kvs.length:=Nat.lt_of_le_of_ne hi e
  refine .inr ⟨hlt,⟨hf,hlt⟩,hz,fun x H' y=>?_⟩
  obtain ⟨T,k,x1,hT,rfl,hk,rfl⟩:=y
  exact hs i k x1 T ys H hk p hT
theorem tT {P:Program}{w:World}{a:Addr}{kvs:List (bG × V)}{ep:Nat}{g:TG}{tb:TS}{D:Ends}{σ:St}{H:Hp}(Pv:Nat->St->Hp->Prop) (h0:Pv 0 σ H) (hl:∀ i σ H,i<=kvs.length->Pv i σ H->H a=some (nH P w a kvs ep))
  (hs:∀ i k x T σ H,kvs[i]? = some (k,x)->Pv i σ H->H T=none->g (.ref T) σ (upd H T (.tup [kV k,x])) fun σ2 H2=>tb { D with nx:=Pv (i + 1),ct:=Pv (i + 1),bk:=D.nx } σ2 H2) (hd:∀ σ H,Pv kvs.length σ H->D.nx σ H) :
  ∃ W:Nat->Nat->St->Hp->Prop,(∃ m,W 0 m σ H)/\∀ i m σ H,W i m σ H ->
   ((Iti P w a kvs ep).stop i H/\D.nx σ H)\/((Iti P w a kvs ep).go i H/\∃ N:St->Hp->Prop,(∀ σ' H',N σ' H'->∃ m',m' < m/\W (i + 1) m' σ' H')/\∀ x H',(Iti P w a kvs ep).yld i H x H'->g x σ H' fun σ2 H2=>tb { D with nx:=N,ct:=N,bk:=D.nx } σ2 H2):=by
 refine ⟨fun i m σ H=>m + i=kvs.length/\Pv i σ H,⟨kvs.length,rfl,h0⟩,fun i m σ H ⟨hm,p⟩=>?_⟩
 have q1:=hl i σ H (by omega) p
 rcases Nat.eq_zero_or_pos m with z | z
 ·exact .inl ⟨⟨q1,by omega⟩,hd σ H ((show i=kvs.length by omega) ▸ p)⟩
 ·refine .inr ⟨⟨q1,by omega⟩,Pv (i + 1),fun σ' H' p'=>⟨m - 1,by omega,by omega,p'⟩,fun x H' y=>?_⟩
  obtain ⟨T,k,x1,hT,rfl,hk,rfl⟩:=y
  exact hs i k x1 T σ H hk p hT
theorem j8 {P:Program}{w:World}{a:Addr}{kvs:List (bG × V)}{ep:Nat}{g:TG}{tb:TS}{D:Ends}{σ:St}{H:Hp}(Pv:Nat->St->Hp->Prop) (h0:Pv 0 σ H) (hl:∀ i σ H,i<=kvs.length->Pv i σ H->H a=some (nH P w a kvs ep))
  (hs:∀ i k x σ H,kvs[i]? = some (k,x)->Pv i σ H->g x σ H fun σ2 H2=>tb { D with nx:=Pv (i + 1),ct:=Pv (i + 1),bk:=D.nx } σ2 H2) (hd:∀ σ H,Pv kvs.length σ H->D.nx σ H) :
  ∃ W:Nat->Nat->St->Hp->Prop,(∃ m,W 0 m σ H)/\∀ i m σ H,W i m σ H ->
   ((Itw P w a kvs ep).stop i H/\D.nx σ H)\/((Itw P w a kvs ep).go i H/\∃ N:St->Hp->Prop,(∀ σ' H',N σ' H'->∃ m',m' < m/\W (i + 1) m' σ' H')/\∀ x H',(Itw P w a kvs ep).yld i H x H'->g x σ H' fun σ2 H2=>tb { D with nx:=N,ct:=N,bk:=D.nx } σ2 H2):=by
 refine ⟨fun i m σ H=>m + i=kvs.length/\Pv i σ H,⟨kvs.length,rfl,h0⟩,fun i m σ H ⟨hm,p⟩=>?_⟩
 have q1:=hl i σ H (by omega) p
 rcases Nat.eq_zero_or_pos m with z | z
 ·exact .inl ⟨⟨q1,by omega⟩,hd σ H ((show i=kvs.length by omega) ▸ p)⟩
 ·refine .inr ⟨⟨q1,by omega⟩,Pv (i + 1),fun σ' H' p'=>⟨m - 1,by omega,by omega,p'⟩,fun x H' y=>?_⟩
  obtain ⟨rfl,k,hk⟩:=y
  exact hs i k x σ _ hk p
end
section
variable {X:Cx}
end
section
variable {X:Cx}
theorem rQ:PGet X (rIxL X.K):=by
 intro pins s σ H x y v u Q I rx ry h
 obtain ⟨p,xs,i,z,rfl,rfl,hq,he,q⟩:=h
 cases rx
 obtain ⟨t,rfl⟩:=ry
 obtain ⟨its,r,pl,hz⟩:=I.list hq
 obtain ⟨j,h1,h2,h3,h4,h5⟩:=nC he
 obtain ⟨w,ew,rw'⟩:=r.get h2
 have len:=r.length
 have big:=j6
 have out:EP X pins σ Q w s:=⟨z,H,I,rw',q⟩
 by_cases h0:0<=i
 ·have hj:i.toNat=j:=Option.some.inj ((seqIndex_of h0 h5).symm.trans h1)
  exact wpAny_getItem_list pl.isList h0 (by omega) (by rw [hj]; simpa using ew) out
 ·have hj:(i + (its.toArray.size:Int)).toNat=j:=by
   have h1':=(seqIndex_neg (by omega) h4).symm.trans h1
   rw [List.size_toArray,<- len]
   exact Option.some.inj h1'
  exact wpAny_getItem_list_neg pl.isList (by omega) (by rw [List.size_toArray]; omega) (by omega) (by rw [hj]; simpa using ew) out
end
end L2
namespace L2
open PySem PySem.Spec PyProof.Rows PySem.W
section
variable {prog:Program}{w:World}{A:Around}{E:Value->Shared->Prop} {κ:SortKind}{it:Array Keyed}{s:Shared}
end
section
variable {X:Cx}
end
end L2
namespace L2
open PySem
def lp (m i:Nat) : Nat:=(i * 5 + 1) % m
def xV (m:Nat) : Nat->Nat->Nat
 | 0,i=>i
 | n + 1,i=>xV m n (lp m i)
theorem jF (m:Nat) : ∀ a b i,xV m (a + b) i=xV m b (xV m a i)
 | 0,b,i=>by rw [Nat.zero_add]; rfl
 | a + 1,b,i=>by rw [Nat.add_right_comm]; exact jF m a b _
def Msk (mask:Nat) : Prop:=mask=7\/mask=15\/mask=31\/mask=63\/mask=127
theorem lp_zero {mask:Nat}(h:Msk mask) : (∀ j,j < mask + 1->∃ n,n < mask + 1/\xV (mask + 1) n 0=j)/\xV (mask + 1) (mask + 1) 0=0:=by
 have key:∀ k:Nat,(List.range (k + 1)).all (fun j=>(List.range (k + 1)).any fun n=>xV (k + 1) n 0 == j)=true->∀ j,j < k + 1->∃ n,n < k + 1/\xV (k + 1) n 0=j:=fun k e j hj=>by
  have:=List.all_eq_true.mp e j (List.mem_range.mpr hj)
  obtain ⟨n,hn,q⟩:=List.any_eq_true.mp this
  exact ⟨n,List.mem_range.mp hn,eq_of_beq q⟩
 rcases h with rfl | rfl | rfl | rfl | rfl
 ·exact ⟨key 7 (by decide +kernel),by decide +kernel⟩
 ·exact ⟨key 15 (by decide +kernel),by decide +kernel⟩
 ·exact ⟨key 31 (by decide +kernel),by decide +kernel⟩
 ·exact ⟨key 63 (by decide +kernel),by decide +kernel⟩
 ·exact ⟨key 127 (by decide +kernel),by decide +kernel⟩
theorem lp_all {mask:Nat}(h:Msk mask){i j:Nat}(hi:i < mask + 1)(hj:j < mask + 1) : ∃ n,n < mask + 1/\xV (mask + 1) n i=j:=by
 obtain ⟨z,e0⟩:=lp_zero h
 obtain ⟨a,ha,ea⟩:=z i hi
 obtain ⟨b,hb,eb⟩:=z j hj
 by_cases c:a<=b
 ·refine ⟨b - a,by omega,?_⟩
  rw [<- ea,<- jF,show a + (b - a)=b by omega,eb]
 ·refine ⟨mask + 1 - a + b,by omega,?_⟩
  rw [<- ea,<- jF,show a + (mask + 1 - a + b)=(mask + 1) + b by omega,jF,e0,eb]
theorem leap0 (mask i:Nat) : SetTable.leap mask i 0=(lp (mask + 1) i,0):=by unfold SetTable.leap lp; simp
theorem qE {p:Nat->Bool}{n k:Nat}(h:(List.range n).find? p=some k) : k < n/\p k=true:=⟨List.mem_range.mp (List.mem_of_find?_eq_some h),List.find?_some h⟩
theorem rS {mask:Nat}{owner:Array (Option Nat)} : ∀ (fuel i pt j:Nat),SetTable.layClean.free mask owner fuel i pt=some j->(owner.getD j (some 0)).isNone=true
 | 0,_,_,_,h=>by cases h
 | fuel + 1,i,pt,j,h=>by
  unfold SetTable.layClean.free at h
  split at h
  ·rename_i k e
   obtain rfl:=Option.some.inj h
   exact (qE e).2
  ·exact rS fuel _ _ _ h
theorem free_at {mask:Nat}{owner:Array (Option Nat)}{fuel i pt:Nat}(h:(owner.getD i (some 0)).isNone=true) : ∃ j,SetTable.layClean.free mask owner (fuel + 1) i pt=some j:=by
 unfold SetTable.layClean.free
 have:∃ k,(List.range (SetTable.runEnd mask i + 1 - i)).find? (fun k=>(owner.getD (i + k) (some 0)).isNone)=some k:=by
  have l:0 < SetTable.runEnd mask i + 1 - i:=by unfold SetTable.runEnd; split <;> omega
  refine Option.isSome_iff_exists.mp (List.find?_isSome.mpr ⟨0,List.mem_range.mpr l,?_⟩)
  rw [Nat.add_zero]
  exact h
 obtain ⟨k,e⟩:=this
 rw [e]
 exact ⟨_,rfl⟩
theorem lM {mask:Nat}{owner:Array (Option Nat)}{fuel i pt:Nat}(h:∃ j,SetTable.layClean.free mask owner fuel (SetTable.leap mask i pt).1 (SetTable.leap mask i pt).2=some j) : ∃ j,SetTable.layClean.free mask owner (fuel + 1) i pt=some j:=by
 unfold SetTable.layClean.free
 split
 ·exact ⟨_,rfl⟩
 ·exact h
theorem lL {mask:Nat}{owner:Array (Option Nat)}{j0:Nat}(hj:(owner.getD j0 (some 0)).isNone=true) : ∀ (n fuel i:Nat),xV (mask + 1) n i=j0->∃ j,SetTable.layClean.free mask owner (n + 1 + fuel) i 0=some j
 | 0,fuel,i,e=>by
  have e:i=j0:=e
  rw [e,Nat.add_comm]
  exact free_at hj
 | n + 1,fuel,i,e=>by
  rw [show n + 1 + 1 + fuel=(n + 1 + fuel) + 1 by omega]
  refine lM ?_
  rw [leap0]
  exact lL hj n fuel _ e
theorem leap_lt (mask i pt:Nat) : (SetTable.leap mask i pt).1 < mask + 1:=Nat.mod_lt _ (Nat.succ_pos _)
theorem leap_pt (mask i pt:Nat) : (SetTable.leap mask i pt).2=pt / 32:=rfl
theorem lN {mask:Nat}(hm:Msk mask){owner:Array (Option Nat)}{j0:Nat}(hj:(owner.getD j0 (some 0)).isNone=true)(h0:j0 < mask + 1) : ∀ (n i pt:Nat),i < mask + 1->pt < 32 ^ n->∀ fuel,n + (mask + 1)<=fuel->∃ j,SetTable.layClean.free mask owner fuel i pt=some j
 | 0,i,pt,hi,hp,fuel,hf=>by
  obtain rfl:pt=0:=by have:pt < 1:=hp; omega
  obtain ⟨n,hn,e⟩:=lp_all hm hi h0
  have:=lL hj n (fuel - (n + 1)) i e
  rwa [show n + 1 + (fuel - (n + 1))=fuel by omega] at this
 | n + 1,i,pt,hi,hp,fuel,hf=>by
  obtain ⟨f,rfl⟩ : ∃ f,fuel=f + 1:=⟨fuel - 1,by omega⟩
  refine lM (lN hm hj h0 n _ _ (leap_lt _ _ _) ?_ f (by omega))
  rw [leap_pt]
  rw [Nat.pow_succ] at hp
  exact Nat.div_lt_of_lt_mul (by rw [Nat.mul_comm]; exact hp)
theorem tQ {mask:Nat}(hm:Msk mask){owner:Array (Option Nat)}{j0:Nat}(hj:(owner.getD j0 (some 0)).isNone=true)(h0:j0 < mask + 1)(h:Int) : ∃ j,SetTable.layClean.free mask owner (SetTable.turns mask) (SetTable.bits h % (mask + 1)) (SetTable.bits h)=some j:=by
 refine lN hm hj h0 13 _ _ (Nat.mod_lt _ (Nat.succ_pos _)) ?_ _ (by unfold SetTable.turns; omega)
 have:SetTable.bits h < 2 ^ 64:=by
  unfold SetTable.bits
  have:=Int.emod_lt_of_pos h (show (0:Int) < 2 ^ 64 by decide)
  have:=Int.emod_nonneg h (show (2 ^ 64:Int) ≠ 0 by decide)
  omega
 exact Nat.lt_of_lt_of_le this (by decide)
structure Own (mask n:Nat) (owner:Array (Option Nat)) : Prop where
 sz:owner.size=mask + 1
 pm:(owner.toList.filterMap id).Perm (List.range n)
theorem own_new (mask:Nat) : Own mask 0 (Array.replicate (mask + 1) none):=⟨by simp,by simp⟩
theorem vV {mask n:Nat}{owner:Array (Option Nat)}(h:Own mask n owner)(hn:n<=mask) : ∃ j0,j0 < mask + 1/\(owner.getD j0 (some 0)).isNone=true:=by
 apply Classical.byContradiction
 intro c
 have all:∀ x∈owner.toList,x.isSome=true:=fun x hx=>by
  obtain ⟨i,hi,e⟩:=List.mem_iff_getElem.mp hx
  rw [Array.length_toList] at hi
  cases x with
  | some _=>rfl
  | none =>
   exfalso
   refine c ⟨i,by rw [<- h.sz]; exact hi,?_⟩
   have e2:owner[i] = none:=by simpa using e
   simp [Array.getD,hi,e2]
 have l:(owner.toList.filterMap id).length=owner.toList.length:=by
  generalize owner.toList=l at all
  induction l with
  | nil=>rfl
  | cons x l ih =>
   have hx:=all x List.mem_cons_self
   obtain ⟨y,rfl⟩:=Option.isSome_iff_exists.mp hx
   rw [List.filterMap_cons_some (f:=id) (b:=y) rfl,List.length_cons,List.length_cons,ih fun z hz=>all z (List.mem_cons_of_mem _ hz)]
 rw [h.pm.length_eq,List.length_range,Array.length_toList,h.sz] at l
 omega
theorem fm_set {l:List (Option Nat)}{j k:Nat}(hj:l[j]? = some none) : ((l.set j (some k)).filterMap id).Perm (k :: l.filterMap id):=by
 induction l generalizing j with
 | nil=>cases hj
 | cons x l ih =>
  cases j with
  | zero =>
   obtain rfl:x=none:=Option.some.inj hj
   exact List.Perm.refl _
  | succ j =>
   rw [List.set_cons_succ]
   cases x with
   | none=>exact ih hj
   | some y =>
    rw [List.filterMap_cons_some (f:=id) (b:=y) rfl,List.filterMap_cons_some (f:=id) (b:=y) rfl]
    exact ((ih hj).cons y).trans (.swap _ _ _)
theorem vU {mask n j:Nat}{owner:Array (Option Nat)}(h:Own mask n owner)(hj:(owner.getD j (some 0)).isNone=true) : Own mask (n + 1) (owner.setIfInBounds j (some n)):=by
 have lt:j < owner.size:=by
  apply Classical.byContradiction
  intro c
  simp [Array.getD,c] at hj
 have e:owner.toList[j]? = some none:=by
  rw [Array.getElem?_toList,Array.getElem?_eq_getElem lt]
  simp [Array.getD,lt] at hj
  rw [hj]
 refine ⟨by rw [Array.size_setIfInBounds]; exact h.sz,?_⟩
 rw [Array.toList_setIfInBounds,List.range_succ]
 exact (fm_set e).trans ((h.pm.cons n).trans (List.perm_append_singleton n _).symm)
theorem wQ {mask:Nat}(hm:Msk mask) : ∀ (hs:List Int) (n:Nat) (owner:Array (Option Nat)),Own mask n owner->n + hs.length<=mask->∃ o2,hs.foldl (fun acc h=>do
  let (owner,k) <- acc
  let j <- SetTable.layClean.free mask owner (SetTable.turns mask) (SetTable.bits h % (mask + 1)) (SetTable.bits h)
  pure (owner.setIfInBounds j (some k),k + 1)) (some (owner,n))=some (o2,n + hs.length)/\Own mask (n + hs.length) o2
 | [],n,owner,h,_=>⟨owner,rfl,h⟩
 | x :: hs,n,owner,h,hl=>by
  rw [List.length_cons] at hl
  obtain ⟨j0,h0,hj0⟩:=vV h (by omega)
  obtain ⟨j,ej⟩:=tQ hm hj0 h0 x
  have st:=vU h (rS _ _ _ _ ej)
  obtain ⟨o2,e2,g⟩:=wQ hm hs (n + 1) _ st (by omega)
  refine ⟨o2,?_,by rw [List.length_cons,show n + (hs.length + 1)=n + 1 + hs.length by omega]; exact g⟩
  rw [List.foldl_cons,List.length_cons,show n + (hs.length + 1)=n + 1 + hs.length by omega,<- e2]
  congr 1
  show (SetTable.layClean.free mask owner (SetTable.turns mask) (SetTable.bits x % (mask + 1)) (SetTable.bits x)).bind _=_
  rw [ej]
  rfl
theorem wP {mask:Nat}(hm:Msk mask)(hs:Array Int)(hl:hs.size<=mask) : ∃ owner,SetTable.layClean mask hs=some owner/\Own mask hs.size owner:=by
 obtain ⟨o2,e,g⟩:=wQ hm hs.toList 0 _ (own_new mask) (by rw [Array.length_toList]; omega)
 rw [Nat.zero_add,Array.length_toList] at g e
 refine ⟨o2,?_,g⟩
 unfold SetTable.layClean
 rw [<- Array.foldl_toList]
 rw [e]
 rfl
theorem lJ {mask:Nat}(hm:Msk mask)(fi mo:Nat)(led plain:Bool)(hs:Array Int)(hl:hs.size<=mask) : ∃ t order,SetTable.laid mask fi mo led plain hs=some (t,order)/\t.mask=mask/\t.dummies = #[]/\t.led=led/\t.place.toList.Pairwise (· < ·)/\t.place.size=hs.size/\order.toList.Perm (List.range hs.size):=by
 obtain ⟨owner,e,g⟩:=wP hm hs hl
 have ef:∀ (l:List (Option Nat)) (b:Nat) (w:Array (Option Nat)),(∀ i,i < l.length->w.getD (b + i) none=l.getD i none)->((List.range' b l.length).filterMap fun j=>(w.getD j none).map (j,·)).map (·.2)=l.filterMap id:=by
  intro l
  induction l with
  | nil=>intro b w _; rfl
  | cons x l ih =>
   intro b w hw
   have h0:=hw 0 (Nat.succ_pos _)
   have ih2:=ih (b + 1) w fun i hi=>by rw [show b + 1 + i=b + (i + 1) by omega]; exact hw (i + 1) (Nat.succ_lt_succ hi)
   rw [List.length_cons,List.range'_succ]
   have h0:w.getD b none=x:=h0
   cases x with
   | none=>rw [List.filterMap_cons_none (by rw [h0]; rfl)]; exact ih2
   | some y=>rw [List.filterMap_cons_some (b:=(b,y)) (by rw [h0]; rfl),List.map_cons,ih2]; rfl
 have e2:=ef owner.toList 0 owner fun i hi=>by
  rw [Array.length_toList] at hi
  simp [Array.getD,hi]
 rw [Array.length_toList,g.sz,<- List.range_eq_range'] at e2
 refine ⟨_,_,by unfold SetTable.laid; rw [e]; rfl,rfl,rfl,rfl,?_,?_,?_⟩
 ·show ((List.map (·.1) ((List.range (mask + 1)).filterMap fun j=>(owner.getD j none).map (j,·))).toArray).toList.Pairwise (· < ·)
  rw [List.toList_toArray]
  have up:(List.range (mask + 1)).Pairwise (· < ·):=List.pairwise_lt_range
  generalize List.range (mask + 1)=l at up
  clear e2 ef
  induction l with
  | nil=>exact .nil
  | cons a l ih =>
   obtain ⟨h1,h2⟩:=List.pairwise_cons.mp up
   have ih:=ih h2
   cases c:(owner.getD a none).map (a,·) with
   | none=>rw [List.filterMap_cons_none (f:=fun j=>(owner.getD j none).map (j,·)) c]; exact ih
   | some z =>
    rw [List.filterMap_cons_some (f:=fun j=>(owner.getD j none).map (j,·)) c,List.map_cons]
    refine List.pairwise_cons.mpr ⟨fun y hy=>?_,ih⟩
    obtain ⟨q,hq,rfl⟩:=List.mem_map.mp hy
    obtain ⟨j,hj,ej⟩:=List.mem_filterMap.mp hq
    obtain ⟨v,_,rfl⟩:=Option.map_eq_some_iff.mp ej
    obtain ⟨v2,_,rfl⟩:=Option.map_eq_some_iff.mp c
    exact h1 j hj
 ·show ((List.map (·.1) ((List.range (mask + 1)).filterMap fun j=>(owner.getD j none).map (j,·))).toArray).size=hs.size
  have:=congrArg List.length e2
  rw [List.length_map,g.pm.length_eq,List.length_range] at this
  rw [List.size_toArray,List.length_map]
  exact this
 ·show ((List.map (·.2) ((List.range (mask + 1)).filterMap fun j=>(owner.getD j none).map (j,·))).toArray).toList.Perm _
  rw [List.toList_toArray,e2]
  exact g.pm
theorem pY {α:Type}(es:Array α){order:Array Nat}(p:order.toList.Perm (List.range es.size)) : (order.filterMap (es[·]?)).toList.Perm es.toList:=by
 rw [Array.toList_filterMap]
 have:=p.filterMap (es[·]?)
 rwa [filterMap_getElem?_range] at this
end L2
namespace L2
open PySem PySem.Spec PyProof.Rows
section
variable {P:Program}{w:World}{A:Around}{E:Value->Shared->Prop}{s:Shared}
def cC (P:Program)(w:World)(h:Heap)(a:Addr)(es:Array (Int × Value))(ep:Nat)(t:SetTable)(ks:List bG) : Prop :=
 ∃ o,h.get? a=some o/\o.ExactSet/\o.data = .set es ep t/\EK P w es.toList ks/\es.size < scanBound/\t.fits es.size=true/\t.place.toList.Pairwise (· < ·)/\t.led = !gY w
theorem cC.y {h:Heap}{a:Addr}{es:Array (Int × Value)}{ep:Nat}{t:SetTable}{ks ds:List bG}(x:cC P w h a es ep t ks)(p:ks.Perm ds) : eK P w h a ds:=by
 obtain ⟨o,h1,h2,h3,h4,h5,h6,h7,h8⟩:=x
 exact ⟨o,es,ep,t,ks,h1,h2,h3,h4,p,h5,h6,h7,h8⟩
theorem eK.z {h:Heap}{a:Addr}{ds:List bG}(x:eK P w h a ds) : ∃ es ep t ks,cC P w h a es ep t ks/\ks.Perm ds:=by
 obtain ⟨o,es,ep,t,ks,h1,h2,h3,h4,p,h5,h6,h7,h8⟩:=x
 exact ⟨es,ep,t,ks,⟨o,h1,h2,h3,h4,h5,h6,h7,h8⟩,p⟩
theorem cC.moved {h h':Heap}{a:Addr}{es:Array (Int × Value)}{ep:Nat}{t:SetTable}{ks:List bG}(x:cC P w h a es ep t ks)(k:∀ o,h.get? a=some o->h'.get? a=some o) : cC P w h' a es ep t ks:=by
 obtain ⟨o,ho,rest⟩:=x
 exact ⟨o,k o ho,rest⟩
theorem cC.ty {a:Addr}{es:Array (Int × Value)}{ep:Nat}{t:SetTable}{ks:List bG}(x:cC P w s.heap a es ep t ks) : s.TypeIs (.ref a) "set" := by
 obtain ⟨o,ho,ex,_⟩:=x
 exact ⟨o,ho,ex.1⟩
theorem cC.state {a:Addr}{es:Array (Int × Value)}{ep:Nat}{t:SetTable}{ks:List bG}{Q:(Array (Int × Value) × Nat × SetTable)->Shared->Prop}(x:cC P w s.heap a es ep t ks)(h:Q (es,ep,t) s) : wpAny (model P w) A (setState a) Q E s:=by
 obtain ⟨o,ho,_,hd,_,_,hf,_⟩:=x
 exact wpAny_setState_of ho hd hf h
theorem cC.size {a:Addr}{h:Heap}{es:Array (Int × Value)}{ep:Nat}{t:SetTable}{ks:List bG}(x:cC P w h a es ep t ks) : es.size=ks.length:=by
 obtain ⟨o,ho,_,hd,ek,_⟩:=x
 rw [<- Array.length_toList,ek.length]
theorem cC.entries {a:Addr}{es:Array (Int × Value)}{ep:Nat}{t:SetTable}{ks:List bG}{Q:Array (Int × Value)->Shared->Prop}(x:cC P w s.heap a es ep t ks)(h:Q es s) : wpAny (model P w) A (setEntries a) Q E s:=by
 unfold setEntries
 exact wpAny_bind (x.state (wpAny_pure h))
theorem cC.epoch {a:Addr}{es:Array (Int × Value)}{ep:Nat}{t:SetTable}{ks:List bG}{Q:Nat->Shared->Prop}(x:cC P w s.heap a es ep t ks)(h:Q ep s) : wpAny (model P w) A (setEpoch a) Q E s:=by
 unfold setEpoch
 exact wpAny_bind (x.state (wpAny_pure h))
theorem cC.put {a:Addr}{es es':Array (Int × Value)}{ep:Nat}{t t':SetTable}{ks ks':List bG}{Q:Unit->Shared->Prop}(x:cC P w s.heap a es ep t ks) (ek:EK P w es'.toList ks') (hb:es'.size < scanBound) (hf:t'.fits es'.size=true) (up:t'.place.toList.Pairwise (· < ·)) (led:t'.led = !gY w)
  (h:∀ h',Heap.SameBut a s.heap h'->cC P w h' a es' (ep + 1) t' ks'->Q () { s with heap:=h' }) : wpAny (model P w) A (storeSet a es' t') Q E s:=by
 obtain ⟨o,ho,ex,hd,_⟩:=x
 exact vE ho hd hb fun h' sb e=>h h' sb ⟨_,e,ex,rfl,ek,hb,hf,up,led⟩
theorem rB {Q:Value->Shared->Prop}(h:∀ h',s.heap.objs.size + 1=h'.objs.size->(∀ b o,s.heap.get? b=some o->h'.get? b=some o)->cC P w h' s.heap.objs.size #[] 0 (.fresh 0 0 (!gY w)) []->Q (.ref s.heap.objs.size) { s with heap:=h' }) : wpAny (model P w) A (newSet (.type "set")) Q E s:=by
 unfold newSet
 refine wpAny_bind (fN ?_)
 dsimp only
 simp only [newObj]
 exact wpAny_bind (wpAny_alloc (wpAny_pure (h _ (by rw [Heap.size_push]) (fun b o e=>Heap.get?_push_of_some _ e) ⟨_,Heap.get?_push_size _ rfl,⟨rfl,rfl,rfl⟩,rfl,.nil,by decide,rfl,.nil,rfl⟩)))
theorem rP {v:Value}{Q:Bool->Shared->Prop}(hT:s.TypeIs v "set")(h:Q true s) : wpAny (model P w) A (isInstance v (.type "set")) Q E s:=wpAny_isInstance hT sub_set_self h
theorem iK {v:Value}{Q:Bool->Shared->Prop}(hT:s.TypeIs v "set")(h:Q true s) : wpAny (model P w) A (Builtin.Frozenset.isAnySet v) Q E s:=by
 unfold Builtin.Frozenset.isAnySet
 refine wpAny_bind (rP hT ?_)
 exact wpAny_pure h
theorem o8 {a:Addr}{Q:Value->Shared->Prop}(hT:s.TypeIs (.ref a) "set")(h:Q (.type "set") s) : wpAny (model P w) A (Builtin.Frozenset.baseOf a) Q E s:=by
 unfold Builtin.Frozenset.baseOf
 exact wpAny_bind (rP hT (wpAny_pure h))
theorem eR {a:Addr}{es:Array (Int × Value)}{ep:Nat}{t:SetTable}{ks:List bG}{Q:Nat->Shared->Prop}(x:cC P w s.heap a es ep t ks)(h:Q es.size s) : wpAny (model P w) A (Builtin.Frozenset.sizeOf a) Q E s:=by
 unfold Builtin.Frozenset.sizeOf
 exact wpAny_bind (x.entries (wpAny_pure h))
theorem unch {id:String}{a:Addr}{es:Array (Int × Value)}{ep:Nat}{t:SetTable}{ks:List bG}{Q:Unit->Shared->Prop}(x:cC P w s.heap a es ep t ks)(h:Q () s) : wpAny (model P w) A (Builtin.Frozenset.unchanged id a ep) Q E s:=by
 unfold Builtin.Frozenset.unchanged
 refine wpAny_bind (x.epoch ?_)
 rw [bne_self_eq_false]
 exact wpAny_pure h
theorem vD {es:List (Int × Value)}{ks:List bG}(h:EK P w es ks) : ∀ e∈es,∀ b,e.2 ≠ .ref b:=fun e he b z=>by
 have:=(h.elems e he).2
 rw [z] at this
 cases this
theorem pT {sets:List Addr}{Q:Bool->Shared->Prop}(hs:∀ a∈sets,∃ es ep t ks,cC P w s.heap a es ep t ks)(h:Q true s) : wpAny (model P w) A (setsQuiet sets) Q E s:=by
 unfold setsQuiet
 refine wpAny_bind (m:=forIn sets _ _) (wpAny_forIn_list _ (fun rest b s'=>b.1=none/\s'=s/\∀ a∈rest,∃ es ep t ks,cC P w s.heap a es ep t ks) _ ?_ ?_ _ _ ⟨rfl,rfl,hs⟩)
 ·rintro a rest b s' ⟨hb,rfl,hr⟩
  obtain ⟨es,ep,t,ks,z⟩:=hr a List.mem_cons_self
  refine wpAny_bind (z.entries ?_)
  obtain ⟨o,_,_,_,ek,_⟩:=id z
  have nq:=vD ek
  refine wpAny_bind (m:=forIn es _ _) (PySem.MeetsSeq2.wpAny_forIn_array _ (fun rest b s2=>b.1=none/\s2=s'/\∀ e∈rest,∀ b,e.2 ≠ .ref b) _ ?_ ?_ _ _ ⟨rfl,rfl,nq⟩)
  ·rintro ⟨hsh,x⟩ rest2 b2 s2 ⟨hb2,rfl,hr2⟩
   have nx:=hr2 _ List.mem_cons_self
   cases x with
   | ref c=>exact absurd rfl (nx c)
   | _=>exact wpAny_pure ⟨rfl,rfl,fun e he=>hr2 e (List.mem_cons_of_mem _ he)⟩
  ·rintro ⟨b2,u⟩ s2 ⟨hb2,rfl,_⟩
   dsimp only at hb2
   subst hb2
   exact wpAny_pure ⟨rfl,rfl,fun c hc=>hr c (List.mem_cons_of_mem _ hc)⟩
 ·rintro ⟨b,u⟩ s' ⟨hb,rfl,_⟩
  dsimp only at hb
  subst hb
  exact wpAny_pure h
theorem walk_z {a:Addr}{es:Array (Int × Value)}{ep:Nat}{t:SetTable}{ks:List bG}{Q:Array (Int × Value)->Shared->Prop}(z:cC P w s.heap a es ep t ks) (hd:gY w=true\/(t.led && t.plain)=true\/es.size<=1)
  (h:∀ es' d,es'.toList.Perm es.toList->Q es' { s with drawn:=d }) : wpAny (model P w) A (setWalk a) Q E s:=by
 unfold setWalk
 refine wpAny_bind (z.state (wpAny_bind (fN ?_)))
 cases hT:gY w with
 | true =>
  rw [if_pos rfl]
  exact wpAny_bind (wpAny_askSetting (wpAny_pure (h _ s.drawn (lA _ _))))
 | false =>
  have led:t.led=true:=by obtain ⟨o,_,_,_,_,_,_,_,led⟩:=z; rw [led,hT]; rfl
  have dn:(!t.plain && decide (es.size > 1))=false:=by
   rcases hd with q | q | q
   ·rw [hT] at q; cases q
   ·rw [led,Bool.true_and] at q
    rw [q]; rfl
   ·rw [decide_eq_false (by omega),Bool.and_false]
  rw [if_neg Bool.false_ne_true]
  refine cT (fun q=>?_) ?_
  ·have q:(!t.plain && decide (es.size > 1))=true:=q
   rw [dn] at q
   cases q
  refine wpAny_bind ?_
  show wpAny (model P w) A (if (!t.led && decide (es.size > 1))=true then (unsupported "set:maker-not-led" : Sem Unit) else pure ()) _ E s
  rw [led]
  exact wpAny_pure (wpAny_pure (h es s.drawn (.refl _)))
theorem nJ {a:Addr}{others:List Addr}{filled:Option Addr}{es:Array (Int × Value)}{ep:Nat}{t:SetTable}{ks:List bG}{Q:Array (Int × Value)->Shared->Prop}(z:cC P w s.heap a es ep t ks) (ho:∀ b∈others,∃ es ep t ks,cC P w s.heap b es ep t ks)
  (h0:∀ es' d,es'.toList.Perm es.toList->Q es' { s with drawn:=d })
  (hf:filled=none\/∃ f ef epf tf kf,filled=some f/\cC P w s.heap f ef epf tf kf/\∀ h' t',Heap.SameBut f s.heap h'->cC P w h' f ef (epf + 1) t' kf->t'.dummies=tf.dummies->Q es { s with heap:=h' }) : wpAny (model P w) A (setWalkUnseen a others filled) Q E s:=by
 unfold setWalkUnseen
 refine wpAny_bind (z.state (wpAny_bind (fN ?_)))
 dsimp only
 by_cases c:gY w=true\/(t.led && t.plain)=true\/es.size<=1
 ·refine fM ?_ (walk_z z c h0)
  rcases c with c | c | c
  ·rw [c]; rfl
  ·rw [c]; simp
  ·simp [c]
 ·have n1:gY w=false:=by cases e:gY w with | true=>exact absurd (.inl e) c | false=>rfl
  have n2:(t.led && t.plain)=false:=by cases e:(t.led && t.plain) with | true=>exact absurd (.inr (.inl e)) c | false=>rfl
  have n3:¬ es.size<=1:=fun q=>c (.inr (.inr q))
  refine cT (by rw [n1,n2]; simp [n3]) ?_
  refine wpAny_bind (pT (fun b hb=>?_) ?_)
  ·rcases List.mem_cons.mp hb with rfl | hb
   ·exact ⟨_,_,_,_,z⟩
   ·exact ho b hb
  refine cT (by simp) ?_
  refine wpAny_bind (wpAny_rule ?_)
  rcases hf with rfl | ⟨f,ef,epf,tf,kf,rfl,zf,h1⟩
  ·exact wpAny_pure (h0 es s.drawn (.refl _))
  ·dsimp only
   refine wpAny_bind (zf.state ?_)
   dsimp only
   split
   ·obtain ⟨of',g1,g2,g3,g4,g5,g6,g7,g8⟩:=id zf
    have tl:t.led = !gY w:=by obtain ⟨o,_,_,_,_,_,_,_,led⟩:=z; exact led
    refine wpAny_bind (zf.put (ks':=kf) g4 g5 g6 g7 (by show (tf.led && t.led)=_; rw [g8,tl,Bool.and_self]) fun h' sb zf'=>?_)
    exact wpAny_pure (h1 h' _ sb zf' rfl)
   ·exact wpAny_pure (h0 es s.drawn (.refl _))
theorem cC.x {h:Heap}{a:Addr}{es:Array (Int × Value)}{ep:Nat}{t:SetTable}{ks ds:List bG}(z:cC P w h a es ep t ks)(p:ks.Perm ds)(d:t.dummies = #[]) : gQ P w h a ds:=by
 obtain ⟨o,h1,h2,h3,h4,h5,h6,h7,h8⟩:=z
 exact ⟨o,es,ep,t,ks,h1,h2,h3,h4,p,h5,h6,⟨h7,d⟩,h8⟩
theorem EK.split {e:Int × Value}{es:List (Int × Value)}{ks:List bG}(h:EK P w (e :: es) ks) : ∃ k kr,ks=k :: kr/\(aW P w).is k e.2=true/\e.2.scannable=true/\e.1=(aW P w).hash k/\EK P w es kr:=by
 cases h with
 | cons h1 h2 h3=>exact ⟨_,_,rfl,h1,h2,rfl,h3⟩
theorem xP {ds:List bG}{k:bG}(h:k ∉ ds) : eZ ds k=ds ++ [k]:=by unfold eZ; rw [if_neg (fun z=>h (dB.mp z))]
theorem oR {nm:String}{a o:Addr}{es eo:Array (Int × Value)}{ep epo:Nat}{t tb:SetTable}{ks ds ko dso:List bG}{Q:Value->Shared->Prop}(z:cC P w s.heap a es ep t ks) (pk:ks.Perm ds) (nd:ds.Nodup) (zo:cC P w s.heap o eo epo tb ko) (po:ko.Perm dso)
  (h:∀ s',s'.gens=s.gens->s'.os=s.os->s'.toks=s.toks->s.heap.objs.size < s'.heap.objs.size->(∀ b o,s.heap.get? b=some o->s'.heap.get? b=some o)->eK P w s'.heap s.heap.objs.size (ds.filter fun k => !dE dso k)->Q (.ref s.heap.objs.size) s') (hsz:ks.length < 1000) (sm:¬ es.size / 4 > eo.size) :
  wpAny (model P w) A (Builtin.Frozenset.difference nm a (.ref o)) Q E s:=by
 unfold Builtin.Frozenset.difference
 dsimp only
 refine wpAny_bind (iK zo.ty ?_)
 refine cT (by simp) ?_
 refine wpAny_bind (wpAny_pure ?_)
 refine cT (by simp) (fM rfl ?_)
 refine wpAny_bind (eR zo (wpAny_bind (eR z ?_)))
 refine cT sm ?_
 refine wpAny_bind (o8 z.ty (wpAny_bind (rB fun h1 hz1 old1 zr=>?_)))
 refine wpAny_bind (wpAny_pure ?_)
 have lt:∀ {b x},s.heap.get? b=some x->b ≠ s.heap.objs.size:=fun e=>Nat.ne_of_lt (Heap.lt_size e)
 have z1:cC P w h1 a es ep t ks:=z.moved fun x e=>old1 a x e
 have zo1:cC P w h1 o eo epo tb ko:=zo.moved fun x e=>old1 o x e
 have na:a ≠ s.heap.objs.size:=by obtain ⟨x,e,_⟩:=id z; exact lt e
 have no:o ≠ s.heap.objs.size:=by obtain ⟨x,e,_⟩:=id zo; exact lt e
 refine wpAny_bind (cC.epoch (s:={ s with heap:=h1 }) z1 ?_)
 refine wpAny_bind (m:=holding _ _) (wpAny_holding ?_)
 refine wpAny_bind (fM rfl ?_)
 have nk:ks.Nodup:=pk.nodup_iff.mpr nd
 have fin:∀ (es':Array (Int × Value)) (h2:Heap) (d2:Drawn),es'.toList.Perm es.toList->h2.objs.size=h1.objs.size->(∀ b,b ≠ s.heap.objs.size->h2.get? b=h1.get? b)->gQ P w h2 s.heap.objs.size [] ->
   wpAny (model P w) A (do
    forIn es' PUnit.unit fun x __s=>do
     holding [x.snd]
      (if true=true then do
       let __do_lift <- setFind o x.snd x.fst
       let there <- pure __do_lift.isSome
       if (!there)=true then do
         let _ <- setAddHashed s.heap.objs.size x.snd x.fst
         pure ()
        else pure ()
      else do
       let __do_lift <- dictFind o x.snd x.fst
       let there <- pure __do_lift.isSome
       if (!there)=true then do
         let _ <- setAddHashed s.heap.objs.size x.snd x.fst
         pure ()
        else pure ())
     Builtin.Frozenset.unchanged nm a ep
     pure (ForInStep.yield PUnit.unit)
    pure ()) (fun _ s'=>wpAny (model P w) A (pure (Value.ref s.heap.objs.size)) Q E s') E { s with heap:=h2,drawn:=d2 }:=by
  intro es' h2 d2 pe hz2 same2 x2
  obtain ⟨o1,_,_,_,ek,_⟩:=id z
  obtain ⟨ka,pa,eka⟩:=ek.perm pe
  have nka:ka.Nodup:=pa.nodup_iff.mpr nk
  have la:ka.length < 1000:=by rw [pa.length_eq]; exact hsz
  refine wpAny_bind (m:=forIn es' _ _) (PySem.MeetsSeq2.wpAny_forIn_array _ (fun rest _ s'=>∃ h' d' kp kr,s' = { s with heap:=h',drawn:=d' }/\ka=kp ++ kr/\EK P w rest kr/\h'.objs.size=h1.objs.size/\(∀ b,b ≠ s.heap.objs.size->h'.get? b=h1.get? b)/\gQ P w h' s.heap.objs.size (kp.filter fun k => !dE dso k)) _ ?_ ?_ _ _ ⟨h2,d2,[],ka,rfl,rfl,eka,hz2,same2,x2⟩)
  ·rintro ⟨hh,x⟩ rest u s' ⟨h',d',kp,kr,rfl,ek2,er,hz',same',x'⟩
   obtain ⟨k,kr',rfl,i1,i2,i3,er'⟩:=er.split
   dsimp only at i1 i2 i3
   subst i3
   have zo':cC P w h' o eo epo tb ko:=zo1.moved fun x e=>by rw [same' o no]; exact e
   have z':cC P w h' a es ep t ks:=z1.moved fun x e=>by rw [same' a na]; exact e
   have kn:k ∉ kp:=fun q=>by
    rw [ek2] at nka
    exact (List.nodup_append.mp nka).2.2 k q k List.mem_cons_self rfl
   have lk:(kp.filter fun k => !dE dso k).length + 1 < scanBound:=by
    have:=List.length_filter_le (fun k => !dE dso k) kp
    rw [ek2,List.length_append] at la
    exact Nat.lt_of_le_of_lt (show _<=1000 by omega) (by decide)
   refine wpAny_bind (m:=holding _ _) (wpAny_holding (fM rfl ?_))
   dsimp only
   have so:Heap.SetOf (aW P w) h' o (dE dso) dso.length:=eK.setOf (zo'.y po)
   refine wpAny_bind (wpAny_setFind_of (knd:=aW P w) (k:=k) (x:=x) (S:=dE dso) (n:=dso.length) i1 i2 so fun r hr=>?_)
   refine wpAny_bind (wpAny_pure ?_)
   have step:∀ h3,h3.objs.size=h1.objs.size->(∀ b,b ≠ s.heap.objs.size->h3.get? b=h1.get? b)->gQ P w h3 s.heap.objs.size ((kp ++ [k]).filter fun k => !dE dso k)->∃ h' dd kp kr,({ s with heap:=h3,drawn:=d' } : Shared) = { s with heap:=h',drawn:=dd }/\ka=kp ++ kr/\EK P w rest kr/\h'.objs.size=h1.objs.size/\(∀ b,b ≠ s.heap.objs.size->h'.get? b=h1.get? b)/\gQ P w h' s.heap.objs.size (kp.filter fun k => !dE dso k):=fun h3 hz3 same3 x3=>⟨h3,d',kp ++ [k],kr',rfl,by rw [ek2,List.append_assoc]; rfl,er',hz3,same3,x3⟩
   have z3:∀ h3:Heap,(∀ b,b ≠ s.heap.objs.size->h3.get? b=h1.get? b)->cC P w h3 a es ep t ks:=fun h3 same3=>z1.moved fun x e=>by rw [same3 a na]; exact e
   cases c:dE dso k with
   | true =>
    rw [hr,c]
    refine cT (by simp) (wpAny_pure ?_)
    refine wpAny_bind (unch (s:={ s with heap:=h',drawn:=d' }) (z3 h' same') (wpAny_pure (step h' hz' same' ?_)))
    rw [List.filter_append,show [k].filter (fun k => !dE dso k) = [] by simp [c],List.append_nil]
    exact x'
   | false =>
    rw [hr,c]
    refine fM rfl (wpAny_bind (add_x i1 i2 x' lk fun b h3 sb x3=>wpAny_pure ?_))
    have same3:∀ b,b ≠ s.heap.objs.size->h3.get? b=h1.get? b:=fun b hb=>(sb.2 b hb).trans (same' b hb)
    refine wpAny_bind (unch (s:={ s with heap:=h3,drawn:=d' }) (z3 h3 same3) (wpAny_pure (step h3 (sb.1.trans hz') same3 ?_)))
    rw [xP fun q=>kn (List.mem_filter.mp q).1] at x3
    rw [List.filter_append,show [k].filter (fun k => !dE dso k) = [k] by simp [c]]
    exact x3
  ·rintro u s' ⟨h',d',kp,kr,rfl,ek2,er,hz',same',x'⟩
   cases er
   rw [List.append_nil] at ek2
   subst ek2
   refine wpAny_pure (wpAny_pure (h _ rfl rfl rfl (by show _ < h'.objs.size; omega) (fun b x e=>?_) ?_))
   ·show h'.get? b=some x
    rw [same' b (lt e)]
    exact old1 b x e
   ·have y:=x'.y
    obtain ⟨o2,es2,ep2,t2,ks2,y1,y2,y3,y4,y5,y6⟩:=y
    exact ⟨o2,es2,ep2,t2,ks2,y1,y2,y3,y4,y5.trans ((pa.trans pk).filter _),y6⟩
 refine nJ (s:={ s with heap:=h1 }) z1 (fun b hb=>?_) (fun es' d pe=>?_) (.inr ⟨_,_,_,_,_,rfl,zr,fun h2 t2 sb z2 d2=>?_⟩)
 ·rcases List.mem_cons.mp hb with rfl | hb
  ·exact ⟨_,_,_,_,zo1⟩
  ·rw [List.mem_singleton.mp hb]
   exact ⟨_,_,_,_,zr⟩
 ·exact fin es' h1 d pe rfl (fun _ _=>rfl) (zr.x (.refl _) rfl)
 ·exact fin es h2 s.drawn (.refl _) sb.1 (fun b hb=>sb.2 b hb) (z2.x (.refl _) d2)
theorem wI:∀ n,n < 64->5<=n->Msk (SetTable.sizeAbove (n * 2) - 1)/\n<=SetTable.sizeAbove (n * 2) - 1/\SetTable.sizeAbove (n * 2)<=1000:=by
 have h:∀ n:Fin 64,5<=n.val->((SetTable.sizeAbove (n.val * 2) - 1=7\/SetTable.sizeAbove (n.val * 2) - 1=15\/SetTable.sizeAbove (n.val * 2) - 1=31\/SetTable.sizeAbove (n.val * 2) - 1=63\/SetTable.sizeAbove (n.val * 2) - 1=127)/\n.val<=SetTable.sizeAbove (n.val * 2) - 1/\SetTable.sizeAbove (n.val * 2)<=1000):=by decide +kernel
 exact fun n hn=>h ⟨n,hn⟩
theorem room_z {a:Addr}{ep n:Nat}{t:SetTable}{Q:Unit->Shared->Prop}(z:cC P w s.heap a #[] ep t []) (ht:t = .fresh 0 0 (!gY w)) (hn:n < 64)
  (h:∀ h' ep' t',Heap.SameBut a s.heap h'->cC P w h' a #[] ep' t' []->Msk t'.mask->n<=t'.mask->t'.place = #[]->t'.dummies = #[]->Q () { s with heap:=h' }) : wpAny (model P w) A (setRoomFor a n) Q E s:=by
 unfold setRoomFor
 refine wpAny_bind (z.state ?_)
 subst ht
 by_cases c:5<=n
 ·obtain ⟨m1,m2,m3⟩:=wI n hn c
  have e:(SetTable.fresh 0 0 (!gY w)).roomFor n=some (n * 2):=by
   unfold SetTable.roomFor SetTable.fill SetTable.fresh
   dsimp only
   rw [if_pos (by show (0 + 0 + n) * 5 >= 7 * 3; omega)]
   show some ((0 + n) * 2)=some (n * 2)
   rw [Nat.zero_add]
  dsimp only
  rw [e]
  dsimp only
  unfold setRelay
  refine wpAny_bind (z.state ?_)
  refine cT (fun q=>?_) ?_
  ·exact absurd (Nat.le_trans m3 (by decide:1000<=sizeLine)) (Nat.not_le.mpr q)
  obtain ⟨t2,order,e2,tm,td,tl,tu,ts,to⟩:=lJ m1 0 (SetTable.movedTo (.fresh 0 0 (!gY w)) (SetTable.sizeAbove (n * 2) - 1)) (!gY w) true #[] (Nat.zero_le _)
  have e3:(SetTable.fresh 0 0 (!gY w)).relaid ((#[] : Array (Int × Value)).map (·.1)) (n * 2)=some (t2,order):=by unfold SetTable.relaid; rw [Array.map_empty]; exact e2
  rw [e3]
  have oe:order = #[]:=by
   have:=to.length_eq
   rw [Array.length_toList] at this
   exact Array.size_eq_zero_iff.mp this
  subst oe
  have pe:t2.place = #[]:=Array.size_eq_zero_iff.mp ts
  refine wpAny_bind (wpAny_pure ?_)
  refine z.put (ks':=[]) .nil (by decide) ?_ (by rw [pe]; exact .nil) tl fun h' sb z'=>h h' _ t2 sb z' (by rw [tm]; exact m1) (by rw [tm]; exact m2) pe td
  unfold SetTable.fits SetTable.fill
  rw [pe,td]
  simp
 ·have e:(SetTable.fresh 0 0 (!gY w)).roomFor n=none:=by
   unfold SetTable.roomFor SetTable.fill SetTable.fresh
   dsimp only
   rw [if_neg (by show ¬ (0 + 0 + n) * 5 >= 7 * 3; omega)]
  dsimp only
  rw [e]
  exact wpAny_pure (h s.heap _ _ (Heap.SameBut.refl a s.heap) z (.inl rfl) (by show n<=7; omega) rfl rfl)
theorem merge_z {a r:Addr}{es:Array (Int × Value)}{ep:Nat}{t:SetTable}{ks:List bG}{Q:Unit->Shared->Prop}(z:cC P w s.heap a es ep t ks) (zr:cC P w s.heap r #[] 0 (.fresh 0 0 (!gY w)) []) (ne:a ≠ r) (h0:0 < ks.length) (hn:ks.length < 64)
  (h:∀ h' er ep' t' kr,Heap.SameBut r s.heap h'->cC P w h' r er ep' t' kr->kr.Perm ks->t'.dummies = #[]->Q () { s with heap:=h' }) : wpAny (model P w) A (setMerge r a (pure ())) Q E s:=by
 have sz:=z.size
 unfold setMerge
 refine cT (fun q=>ne (eq_of_beq q).symm) ?_
 refine wpAny_bind (z.state ?_)
 refine cT (fun q=>by have q:=Array.isEmpty_iff_size_eq_zero.mp q; omega) ?_
 refine wpAny_bind (room_z zr rfl (by omega) fun h1 ep1 t1 sb1 z1 m1 m2 pe de=>?_)
 refine wpAny_bind (cC.state (s:={ s with heap:=h1 }) z1 ?_)
 have za:cC P w h1 a es ep t ks:=z.moved fun x e=>(sb1.2 a ne).trans e
 obtain ⟨o1,_,_,_,ek,hb,hf,up,led⟩:=id za
 have l1:t1.led = !gY w:=by obtain ⟨o,_,_,_,_,_,_,_,led⟩:=z1; exact led
 dsimp only
 have fl:t1.fill=0:=by unfold SetTable.fill; rw [pe,de]; rfl
 unfold SetTable.road
 rw [fl]
 rw [if_neg (by decide)]
 by_cases c:(t1.mask == t.mask && t.dummies.isEmpty)=true
 ·rw [if_pos c]
  have dm:t.dummies = #[]:=by
   have:=(Bool.and_eq_true_iff.mp c).2
   simpa using this
  refine cC.put (s:={ s with heap:=h1 }) (ks':=ks) z1 ek hb hf up (by show (t1.led && t.led)=_; rw [l1,led,Bool.and_self]) fun h2 sb2 z2=>h h2 _ _ _ _ ⟨sb2.1.trans sb1.1,fun b hb=>(sb2.2 b hb).trans (sb1.2 b hb)⟩ z2 (.refl _) dm
 ·rw [if_neg c]
  obtain ⟨t2,order,e2,tm,td,tl,tu,ts,to⟩:=lJ m1 t1.finger t1.moves (t1.led && t.led) (t1.plain && t.plain) (es.map (·.1)) (by rw [Array.size_map]; exact m2)
  dsimp only
  rw [e2]
  rw [Array.size_map] at to ts
  have op:=pY es to
  have os:(order.filterMap (es[·]?)).size=es.size:=by rw [<- Array.length_toList,op.length_eq,Array.length_toList]
  obtain ⟨kr,pk,ekr⟩:=ek.perm op
  refine wpAny_bind ?_
  show wpAny (model P w) A (if ((order.filterMap (es[·]?)).size != es.size)=true then _ else pure (order.filterMap (es[·]?),t2)) _ E _
  refine cT (by rw [os]; simp) (wpAny_pure ?_)
  refine cC.put (s:={ s with heap:=h1 }) (ks':=kr) z1 ekr (by rw [os]; exact hb) ?_ tu (by rw [tl,l1,led,Bool.and_self]) fun h2 sb2 z2=>h h2 _ _ _ _ ⟨sb2.1.trans sb1.1,fun b hb=>(sb2.2 b hb).trans (sb1.2 b hb)⟩ z2 pk td
  unfold SetTable.fits SetTable.fill
  rw [os,ts,td,tm,beq_self_eq_true]
  simp
  omega
theorem dY {α:Type}(xs:Array α)(i:Nat) : (SetTable.eraseAt xs i).toList=xs.toList.eraseIdx i:=by
 unfold SetTable.eraseAt
 rw [Array.toList_append,Array.toList_extract,Array.toList_extract,List.eraseIdx_eq_take_drop_succ]
 simp [List.extract]
 exact List.take_of_length_le (by rw [List.length_drop,Array.length_toList]; exact Nat.le_refl _)
theorem EK.eraseIdx {es:List (Int × Value)}{ks:List bG}(h:EK P w es ks) : ∀ i,EK P w (es.eraseIdx i) (ks.eraseIdx i):=by
 induction h with
 | nil=>intro i; exact .nil
 | cons h1 h2 h3 ih =>
  intro i
  cases i with
  | zero=>exact h3
  | succ i=>exact .cons h1 h2 (ih i)
theorem EK.at' {es:List (Int × Value)}{ks:List bG}(h:EK P w es ks) : ∀ {i:Nat}{e:Int × Value},es[i]? = some e->∃ k,ks[i]? = some k/\(aW P w).is k e.2=true:=by
 induction h with
 | nil=>intro i e q; cases q
 | cons h1 h2 h3 ih =>
  intro i e q
  cases i with
  | zero=>obtain rfl:=Option.some.inj q; exact ⟨_,rfl,h1⟩
  | succ i=>exact ih q
theorem is_one {k k':bG}{x:Value}(h:(aW P w).is k x=true)(h':(aW P w).is k' x=true) : k=k':=by
 rcases bP (show gB k x=true from h) with ⟨i,t,rfl,rfl⟩ | ⟨y,t,rfl,rfl⟩
 ·rcases bP (show gB k' (.int i t)=true from h') with ⟨i',t',rfl,e⟩ | ⟨y',t',_,e⟩
  ·injection e with e _; rw [e]
  ·cases e
 ·rcases bP (show gB k' (.str y t)=true from h') with ⟨i',t',_,e⟩ | ⟨y',t',rfl,e⟩
  ·cases e
  ·injection e with e _; rw [e]
theorem lG {l:List bG}{k:bG}(h:k ∉ l) : l.filter (fun q=>decide (q ≠ k))=l:=List.filter_eq_self.mpr fun q hq=>decide_eq_true fun (e:q=k)=>h (e ▸ hq)
theorem iC:∀ {l:List bG}{j:Nat}{k:bG},l.Nodup->l[j]? = some k->l.eraseIdx j=l.filter (fun q=>decide (q ≠ k))
 | [],_,_,_,e=>by cases e
 | a :: l,0,k,n,e=>by
  obtain rfl:a=k:=Option.some.inj e
  have n2:=List.nodup_cons.mp n
  rw [List.filter_cons_of_neg (by simp),lG n2.1]
  rfl
 | a :: l,j + 1,k,n,e=>by
  have n2:=List.nodup_cons.mp n
  have e:l[j]? = some k:=e
  have ne:a ≠ k:=fun z=>n2.1 (z ▸ List.mem_of_getElem? e)
  rw [List.filter_cons_of_pos (p:=fun q=>decide (q ≠ k)) (decide_eq_true ne),<- iC n2.2 e]
  rfl
theorem tW {r:Addr}{er:Array (Int × Value)}{ep:Nat}{t:SetTable}{kr:List bG}{k:bG}{x:Value}{Q:Bool->Shared->Prop}(z:cC P w s.heap r er ep t kr) (nd:kr.Nodup) (i1:(aW P w).is k x=true) (i2:x.scannable=true)
  (h:∀ b h' er' ep' t' kr',Heap.SameBut r s.heap h'->cC P w h' r er' ep' t' kr'->kr'=kr.filter (fun q=>decide (q ≠ k))->t'.mask=t.mask->t'.dummies.size<=t.dummies.size + 1->Q b { s with heap:=h' }) : wpAny (model P w) A (setDiscardHashed r x ((aW P w).hash k)) Q E s:=by
 obtain ⟨o,ho,hex,hd,ek,hb,hf,up,led⟩:=id z
 have hel:=ek.elems
 unfold setDiscardHashed
 refine wpAny_bind (m:=setFind _ _ _) ?_
 unfold setFind setFindIn
 refine wpAny_bind (z.state ?_)
 dsimp only
 rw [byScan_of i2 hb hel,if_pos rfl]
 refine wpAny_bind (wpAny_rule (wpAny_bind (wpAny_setScan_of i1 ho hd hf hel ?_)))
 cases e:er.toList.findIdx? fun e=>(aW P w).is k e.2 with
 | none =>
  have kn:k ∉ kr:=fun q=>by
   obtain ⟨y,hy,q⟩:=(ek.mem k).mp q
   have:=List.findIdx?_eq_none_iff.mp e y hy
   rw [q] at this
   cases this
  refine wpAny_pure (wpAny_pure ?_)
  refine h false s.heap er ep t kr (Heap.SameBut.refl r s.heap) z ?_ rfl (Nat.le_succ _)
  exact (lG kn).symm
 | some j =>
  obtain ⟨hj,pj,_⟩:=List.findIdx?_eq_some_iff_getElem.mp e
  obtain ⟨k',ek',ik'⟩:=ek.at' (List.getElem?_eq_getElem hj)
  obtain rfl:k=k':=is_one pj ik'
  obtain ⟨kj,ekj⟩:=List.getElem?_eq_some_iff.mp ek'
  have sp:t.place.size=er.size:=pD hf
  have jp:j < t.place.size:=by rw [sp,<- Array.length_toList]; exact hj
  dsimp only
  rw [Nat.zero_add]
  refine wpAny_pure (wpAny_bind (z.state ?_))
  dsimp only
  have de:t.drop j = { t with place:=SetTable.eraseAt t.place j,dummies:=SetTable.insertAt t.dummies (SetTable.below t.dummies t.place[j]) t.place[j] }:=by
   unfold SetTable.drop
   rw [Array.getElem?_eq_getElem jp]
  have l1:(SetTable.eraseAt er j).size=er.size - 1:=by rw [<- Array.length_toList,dY,List.length_eraseIdx,if_pos hj,Array.length_toList]
  have l2:(SetTable.eraseAt t.place j).size=t.place.size - 1:=by rw [<- Array.length_toList,dY,List.length_eraseIdx,if_pos (by rw [Array.length_toList]; exact jp),Array.length_toList]
  have l3:(SetTable.insertAt t.dummies (SetTable.below t.dummies t.place[j]) t.place[j]).size=t.dummies.size + 1:=by
   have:=(SetTable.insertAt_perm t.dummies (SetTable.below t.dummies t.place[j]) t.place[j]).length_eq
   rw [Array.length_toList,Array.length_toList,Array.size_push] at this
   exact this
  have fm:t.fill<=t.mask:=by
   unfold SetTable.fits at hf
   have:=(Bool.and_eq_true_iff.mp hf).2
   exact of_decide_eq_true this
  have ek2:=ek.eraseIdx j
  rw [<- dY] at ek2
  refine wpAny_bind (z.put (ks':=kr.eraseIdx j) (t':=t.drop j) ek2 (by rw [l1]; omega) ?_ ?_ (by rw [de]; exact led) fun h' sb z'=>?_)
  ·rw [de]
   unfold SetTable.fits SetTable.fill
   dsimp only
   rw [l1,l2,l3,sp,beq_self_eq_true,Bool.true_and]
   unfold SetTable.fill at fm
   exact decide_eq_true (by omega)
  ·rw [de]
   show (SetTable.eraseAt t.place j).toList.Pairwise (· < ·)
   rw [dY]
   exact up.sublist (List.eraseIdx_sublist _ _)
  ·refine wpAny_bind (wpAny_point (wpAny_pure (h true h' _ _ _ _ sb z' ?_ (by rw [de]) (by rw [de]; show (SetTable.insertAt _ _ _).size<=_; rw [l3]; exact Nat.le_refl _))))
   exact iC nd ek'
theorem tX {nm:String}{a o:Addr}{es eo:Array (Int × Value)}{ep epo:Nat}{t tb:SetTable}{ks ds ko dso:List bG}{Q:Value->Shared->Prop}(z:cC P w s.heap a es ep t ks) (pk:ks.Perm ds) (nd:ds.Nodup) (zo:cC P w s.heap o eo epo tb ko) (po:ko.Perm dso)
  (h:∀ s',s'.gens=s.gens->s'.os=s.os->s'.toks=s.toks->s.heap.objs.size < s'.heap.objs.size->(∀ b o,s.heap.get? b=some o->s'.heap.get? b=some o)->eK P w s'.heap s.heap.objs.size (ds.filter fun k => !dE dso k)->Q (.ref s.heap.objs.size) s') (hsz:ks.length < 64) (sm:es.size / 4 > eo.size) :
  wpAny (model P w) A (Builtin.Frozenset.difference nm a (.ref o)) Q E s:=by
 have sz:=z.size
 have szo:=zo.size
 unfold Builtin.Frozenset.difference
 dsimp only
 refine wpAny_bind (iK zo.ty ?_)
 refine cT (by simp) ?_
 refine wpAny_bind (wpAny_pure ?_)
 refine cT (by simp) (fM rfl ?_)
 refine wpAny_bind (eR zo (wpAny_bind (eR z ?_)))
 refine fM sm (wpAny_bind (wpAny_rule ?_))
 have lt:∀ {b x},s.heap.get? b=some x->b ≠ s.heap.objs.size:=fun e=>Nat.ne_of_lt (Heap.lt_size e)
 have na:a ≠ s.heap.objs.size:=by obtain ⟨x,e,_⟩:=id z; exact lt e
 have no:o ≠ s.heap.objs.size:=by obtain ⟨x,e,_⟩:=id zo; exact lt e
 refine wpAny_bind (m:=Builtin.Frozenset.copyOf a) ?_
 unfold Builtin.Frozenset.copyOf
 refine wpAny_bind (o8 z.ty (wpAny_bind (rB fun h1 hz1 old1 zr=>?_)))
 refine wpAny_bind (wpAny_pure ?_)
 have z1:cC P w h1 a es ep t ks:=z.moved fun x e=>old1 a x e
 refine wpAny_bind (merge_z (s:={ s with heap:=h1 }) z1 zr na (by omega) hsz fun h2 er ep2 t2 kr sb2 z2 pr dm=>wpAny_pure ?_)
 refine wpAny_bind (wpAny_pure ?_)
 have zo2:cC P w h2 o eo epo tb ko:=zo.moved fun x e=>by rw [sb2.2 o no]; exact old1 o x e
 have nkr:kr.Nodup:=(pr.trans pk).nodup_iff.mpr nd
 refine wpAny_bind (m:=holding _ _) (wpAny_holding ?_)
 unfold Builtin.Frozenset.differenceUpdate
 refine cT (fun q=>by have:=eq_of_beq q; injection this with this; exact no this) ?_
 refine wpAny_bind (iK (s:={ s with heap:=h2 }) zo2.ty ?_)
 refine fM rfl ?_
 refine wpAny_bind (wpAny_pure ?_)
 refine wpAny_bind (eR (s:={ s with heap:=h2 }) zo2 (wpAny_bind (eR (s:={ s with heap:=h2 }) z2 ?_)))
 have szr:=z2.size
 have lkr:=pr.length_eq
 dsimp only
 refine cT (by omega) ?_
 refine wpAny_bind (cC.epoch (s:={ s with heap:=h2 }) zo2 ?_)
 refine wpAny_bind (m:=holding _ _) (wpAny_holding (wpAny_bind ?_))
 have fmask:kr.length<=t2.mask:=by
  obtain ⟨_,_,_,_,_,_,hf,_⟩:=id z2
  have f1:=pD hf
  have f2:t2.fill<=t2.mask:=by
   unfold SetTable.fits at hf
   exact of_decide_eq_true (Bool.and_eq_true_iff.mp hf).2
  unfold SetTable.fill at f2
  omega
 refine nJ (s:={ s with heap:=h2 }) zo2 (fun b hb=>?_) (fun eo' d2 pe=>?_) (.inl rfl)
 ·rw [List.mem_singleton.mp hb]
  exact ⟨_,_,_,_,z2⟩
 obtain ⟨o1,_,_,_,eko,_⟩:=id zo2
 obtain ⟨ka,pa,eka⟩:=eko.perm pe
 refine wpAny_bind (m:=forIn eo' _ _) (PySem.MeetsSeq2.wpAny_forIn_array _ (fun rest _ s'=>∃ h' kp kq er' ep' t',s' = { s with heap:=h',drawn:=d2 }/\ka=kp ++ kq/\EK P w rest kq/\Heap.SameBut s.heap.objs.size h2 h'/\cC P w h' s.heap.objs.size er' ep' t' (kr.filter fun k => !dE kp k)/\t'.mask=t2.mask/\t'.dummies.size<=kp.length) _ ?_ ?_ _ _ ⟨h2,[],ka,er,ep2,t2,rfl,rfl,eka,Heap.SameBut.refl _ _,?_,rfl,by rw [dm]; exact Nat.le_refl _⟩)
 ·rintro ⟨hh,x⟩ rest u s' ⟨h',kp,kq,er',ep',t',rfl,e1,er1,sb',z',tm,td⟩
  obtain ⟨k,kq',rfl,i1,i2,i3,er2⟩:=er1.split
  dsimp only at i1 i2 i3
  subst i3
  dsimp only
  refine wpAny_bind (m:=holding _ _) (wpAny_holding (tW (s:={ s with heap:=h',drawn:=d2 }) z' (nkr.filter _) i1 i2 fun b h3 er3 ep3 t3 kr3 sb3 z3 e3 m3 d3=>?_))
  have sb4:Heap.SameBut s.heap.objs.size h2 h3:=⟨sb3.1.trans sb'.1,fun c hc=>(sb3.2 c hc).trans (sb'.2 c hc)⟩
  have zo3:cC P w h3 o eo epo tb ko:=zo2.moved fun x e=>(sb4.2 o no).trans e
  refine wpAny_bind (unch (s:={ s with heap:=h3,drawn:=d2 }) zo3 (wpAny_pure ⟨h3,kp ++ [k],kq',er3,ep3,t3,rfl,by rw [e1,List.append_assoc]; rfl,er2,sb4,?_,m3.trans tm,by rw [List.length_append]; show _<=kp.length + 1; omega⟩))
  have ef:(kr.filter fun q => !dE (kp ++ [k]) q)=kr3:=by
   rw [e3,List.filter_filter]
   refine List.filter_congr fun q _=>?_
   have m1:=dB (acc:=kp ++ [k]) (k:=q)
   have m2:=dB (acc:=kp) (k:=q)
   rw [Bool.eq_iff_iff]
   simp only [Bool.not_eq_true',Bool.and_eq_true,decide_eq_true_eq,<- Bool.not_eq_true,m1,m2,List.mem_append,List.mem_singleton,not_or]
   exact ⟨fun ⟨a,b⟩=>⟨b,a⟩,fun ⟨a,b⟩=>⟨b,a⟩⟩
  rw [ef]
  exact z3
 ·rintro u s' ⟨h',kp,kq,er',ep',t',rfl,e1,er1,sb',z',tm,td⟩
  cases er1
  rw [List.append_nil] at e1
  subst e1
  refine wpAny_pure ?_
  unfold setTidy
  refine wpAny_bind (cC.state (s:={ s with heap:=h',drawn:=d2 }) z' ?_)
  have la:=pa.length_eq
  refine cT (fun q=>?_) ?_
  ·have q:(decide (t'.dummies.size > t'.mask / 4))=true:=q
   have q:=of_decide_eq_true q
   rw [tm] at q
   omega
  refine wpAny_pure (wpAny_pure (h _ rfl rfl rfl (by show _ < h'.objs.size; rw [sb'.1,sb2.1]; show _ < h1.objs.size; omega) (fun b x e=>?_) ?_))
  ·show h'.get? b=some x
   rw [sb'.2 b (lt e),sb2.2 b (lt e)]
   exact old1 b x e
  ·refine z'.y ?_
   have ef:(kr.filter fun q => !dE ka q)=kr.filter fun q => !dE dso q:=List.filter_congr fun q _=>by
    have m1:=dB (acc:=ka) (k:=q)
    have m2:=dB (acc:=dso) (k:=q)
    congr 1
    rw [Bool.eq_iff_iff,m1,m2]
    exact (pa.trans po).mem_iff
   rw [ef]
   exact (pr.trans pk).filter _
 ·have ef:(kr.filter fun k => !dE [] k)=kr:=List.filter_eq_self.mpr fun q _=>rfl
  rw [ef]
  exact z2
theorem kY:entryFor table "set.__sub__" = some Builtin.«frozenset.__sub__» := entryFor_alias (id' := "frozenset.__sub__") (by kernel_rfl) rfl (by decide +kernel) (by kernel_rfl)
end
section
variable {X:Cx}
theorem pZ:gR X (binaryOp .Sub) (fun x y H Q=>∃ (p q:Addr) (ds es:List bG),x = .ref p/\y = .ref q/\H p=some (gG X.prog X.w p ds)/\H q=some (gG X.prog X.w q es)/\ds.Nodup/\ds.length < 64/\∀ r,H r=none->Q (.ref r) (upd H r (gG X.prog X.w r (ds.filter fun k => !dE es k)))):=by
 intro pins s σ H x y v u Q I rx ry h
 obtain ⟨p,q,ds,dso,rfl,rfl,hp,hq,nd,l64,k⟩:=h
 cases (show v=PySem.Value.ref p from rx)
 cases (show u=PySem.Value.ref q from ry)
 obtain ⟨sx,_⟩:=I.hok p _ hp
 obtain ⟨sy,_⟩:=I.hok q _ hq
 obtain ⟨es,ep,t,ks,z,pk⟩:=eK.z sx
 obtain ⟨eo,epo,tb,ko,zo,po⟩:=eK.z sy
 refine wpAny_binaryOp_same (T := "set") (id := "set.__sub__") z.ty zo.ty PySem.F.fills_set_sub PySem.F.slot_set_sub ?_
 refine wpAny_call_entry PySem.F.slot_set_sub z.ty kY ?_ (PySem.F.args_set_sub_2 _ _)
 unfold Builtin.«frozenset.__sub__»
 have fin:∀ s':Shared,s'.gens=s.gens->s'.os=s.os->s'.toks=s.toks->s.heap.objs.size < s'.heap.objs.size->(∀ b o,s.heap.get? b=some o->s'.heap.get? b=some o)->eK X.prog X.w s'.heap s.heap.objs.size (ds.filter fun k => !dE dso k)->Value.ref s.heap.objs.size ≠ .notImplemented/\EP X pins σ Q (.ref s.heap.objs.size) s':=fun s' h1 h2 h3 h4 h5 h6=>by
  refine ⟨(by intro z; cases z),?_⟩
  obtain ⟨h',g',d',tk,os'⟩:=s'
  dsimp only at h1 h2 h3 h4 h5 h6
  subst h1 h2 h3
  refine ⟨.ref s.heap.objs.size,_,(I.other d').laid (t':=s.toks) (o:=gG X.prog X.w s.heap.objs.size (ds.filter fun k => !dE dso k)) h5 (Nat.le_refl _) ⟨h6,?_,fun h1 h2 a b=>eK.moved a b⟩,rfl,k _ (I.hok.fresh (Nat.le_refl _))⟩
  obtain ⟨o,_,_,_,_,e,_⟩:=h6
  exact ⟨o,e⟩
 have body:wpAny (model X.prog X.w) X.A.in1 (Builtin.Frozenset.difference (toString "frozenset." ++ toString "__sub__") p (.ref q)) (fun v s'=>v ≠ .notImplemented/\EP X pins σ Q v s') X.xe s:=by
  by_cases c:es.size / 4 > eo.size
  ·exact tX z pk nd zo po fin (by rw [pk.length_eq]; exact l64) c
  ·exact oR z pk nd zo po fin (by rw [pk.length_eq]; omega) c
 show wpAny (model X.prog X.w) X.A.in1 (Builtin.Frozenset.slot1 "__sub__" ⟨[.ref p,.ref q],[]⟩ >>= _) _ _ s
 refine wpAny_bind (wpAny_of_eq (show Builtin.Frozenset.slot1 "__sub__" ⟨[.ref p,.ref q],[]⟩=pure (Value.ref p,Value.ref q) from rfl) ?_)
 dsimp only
 refine wpAny_bind (m:=andM _ _) ?_
 unfold andM
 refine wpAny_bind (iK z.ty ?_)
 refine iK zo.ty ?_
 refine cT (by simp) (wpAny_bind (wpAny_pure (wpAny_bind (wpAny_mono body (fun v s' g=>?_) fun _ _ g=>g))))
 exact wpAny_pure ⟨v,rfl,g.1,g.2⟩
theorem iU:gR X (binaryOp .Sub) (fun x y H Q=>∃ (p q:Addr) (as bs:List Str),x = .ref p/\y = .ref q/\H p=some (gG X.prog X.w p (as.map Sum.inr))/\H q=some (gG X.prog X.w q (bs.map Sum.inr))/\as.Nodup/\as.length < 64/\∀ r,H r=none->Q (.ref r) (upd H r (gG X.prog X.w r ((as.filter fun x=>decide (x ∉ bs)).map Sum.inr)))):=by
 intro pins s σ H x y v u Q I rx ry h
 obtain ⟨p,q,as,bs,e1,e2,hp,hq,nd,l64,k⟩:=h
 have inj:∀ a b:Str,(Sum.inr a:bG)=Sum.inr b->a=b:=fun a b e=>Sum.inr.inj e
 refine pZ pins s σ H x y v u Q I rx ry ⟨p,q,as.map Sum.inr,bs.map Sum.inr,e1,e2,hp,hq,List.Pairwise.map _ (fun a b ne e=>ne (inj a b e)) nd,by rw [List.length_map]; exact l64,fun r hr=>?_⟩
 have ef:((as.map Sum.inr).filter fun k => !dE (bs.map Sum.inr) k)=(as.filter fun x=>decide (x ∉ bs)).map (Sum.inr:Str->bG):=by
  rw [List.filter_map]
  congr 1
  refine List.filter_congr fun x _=>?_
  show (!dE (bs.map Sum.inr) (Sum.inr x))=decide (x ∉ bs)
  have m:=dB (acc:=bs.map (Sum.inr:Str->bG)) (k:=Sum.inr x)
  have m2:(Sum.inr x:bG)∈bs.map (Sum.inr:Str->bG)↔x∈bs:=by
   rw [List.mem_map]
   exact ⟨fun ⟨y,hy,e⟩=>inj _ _ e ▸ hy,fun h=>⟨x,h,rfl⟩⟩
  rw [m2] at m
  by_cases c:x∈bs
  ·rw [m.mpr c]; simp [c]
  ·have:dE (bs.map Sum.inr) (Sum.inr x)=false:=by cases e:dE (bs.map (Sum.inr:Str->bG)) (Sum.inr x) with | true=>exact absurd (m.mp e) c | false=>rfl
   rw [this]; simp [c]
 rw [ef]
 exact k r hr
end
def xW (h:Heap)(c:Addr × Int × Int) : Prop:=∃ o n t u,h.get? c.1=some o/\o.cls = .type "tuple" /\ o.data = .seq #[.int c.2.1 t,.int c.2.2 u] n
section
variable {P:Program}{w:World}{A:Around}{E:Value->Shared->Prop}{s:Shared}
theorem nN {c d:Addr × Int × Int}{R:PySem.Fin->Shared->Prop}(hx:xW s.heap c) (hy:xW s.heap d) (h:R (.done (.ret (.bool (decide (c.2.1 < d.2.1\/c.2.1=d.2.1/\c.2.2 < d.2.2))))) s) :
  wpAny (model P w) A (Builtin.«tuple.__lt__» ⟨[.ref c.1,.ref d.1],[]⟩) R E s:=by
 obtain ⟨oa,na,t1,t2,hoa,hca,hda⟩:=hx
 obtain ⟨ob,nb,u1,u2,hob,hcb,hdb⟩:=hy
 show wpAny _ _ (isInstance (.ref d.1) (.type "tuple") >>= _) _ _ s
 refine wpAny_bind (wpAny_isInstance ⟨_,hob,hcb⟩ isSubtype_tuple_tuple ?_)
 simp only [Bool.not_true,Bool.false_eq_true,if_false]
 refine wpAny_bind (wpAny_tupleItemsOf hoa hda ?_)
 refine wpAny_bind (wpAny_tupleItemsOf hob hdb ?_)
 refine wpAny_bind ?_
 show wpAny _ _ (forIn [(Value.int c.2.1 t1,Value.int d.2.1 u1),(Value.int c.2.2 t2,Value.int d.2.2 u2)] _ _) _ _ s
 rw [List.forIn_cons]
 refine wpAny_bind (wpAny_bind (wpAny_eqBool_int ?_))
 by_cases e1:c.2.1=d.2.1
 ·rw [beq_iff_eq.mpr e1]
  simp only [Bool.not_true,Bool.false_eq_true,if_false]
  refine wpAny_pure ?_
  show wpAny _ _ (forIn [(Value.int c.2.2 t2,Value.int d.2.2 u2)] _ _) _ _ s
  rw [List.forIn_cons]
  refine wpAny_bind (wpAny_bind (wpAny_eqBool_int ?_))
  by_cases e2:c.2.2=d.2.2
  ·rw [beq_iff_eq.mpr e2]
   simp only [Bool.not_true,Bool.false_eq_true,if_false]
   refine wpAny_pure ?_
   show wpAny _ _ (forIn [] _ _) _ _ s
   rw [List.forIn_nil]
   refine wpAny_pure (wpAny_pure ?_)
   rw [decide_eq_false (by omega)] at h
   exact h
  ·rw [beq_eq_false_iff_ne.mpr e2]
   simp only [Bool.not_false,if_true]
   refine wpAny_bind (wpAny_rule (wpAny_bind (PySem.P.lt_int ?_)))
   have:decide (c.2.1 < d.2.1\/c.2.1=d.2.1/\c.2.2 < d.2.2)=decide (c.2.2 < d.2.2):=decide_eq_decide.mpr (by omega)
   rw [this] at h
   exact wpAny_bind (wpAny_pure (wpAny_pure (wpAny_pure (wpAny_pure h))))
 ·rw [beq_eq_false_iff_ne.mpr e1]
  simp only [Bool.not_false,if_true]
  refine wpAny_bind (wpAny_rule (wpAny_bind (PySem.P.lt_int ?_)))
  have:decide (c.2.1 < d.2.1\/c.2.1=d.2.1/\c.2.2 < d.2.2)=decide (c.2.1 < d.2.1):=decide_eq_decide.mpr (by omega)
  rw [this] at h
  exact wpAny_bind (wpAny_pure (wpAny_pure (wpAny_pure (wpAny_pure h))))
theorem tup_lt {c d:Addr × Int × Int}{Q:Value->Shared->Prop}(hu:A.units < cLine) (hx:xW s.heap c) (hy:xW s.heap d) (h:Q (.bool (decide (c.2.1 < d.2.1\/c.2.1=d.2.1/\c.2.2 < d.2.2))) s) :
  wpAny (model P w) A (richCompare .Lt (.ref c.1) (.ref d.1)) Q E s:=by
 have tx:s.TypeIs (.ref c.1) "tuple" := by obtain ⟨o,_,_,_,ho,hc,_⟩:=hx; exact ⟨_,ho,hc⟩
 have ty:s.TypeIs (.ref d.1) "tuple" := by obtain ⟨o,_,_,_,ho,hc,_⟩:=hy; exact ⟨_,ho,hc⟩
 exact wpAny_richCompare_same_room (op:=.Lt) tx ty F.slot_tuple_lt (wpAny_call_entry F.slot_tuple_lt tx F.entry_tuple_lt (nN hx hy ⟨_,rfl,(fun e=>nomatch e),h⟩) (F.args_tuple_lt_2 _ _)) hu
end
section
variable {P:Program}{w:World}{A:Around}{s:Shared}{R:Result->Shared->Prop}
theorem xW.at {h h':Heap}{c:Addr × Int × Int}(x:xW h c)(k:∀ o,h.get? c.1=some o->h'.get? c.1=some o) : xW h' c:=by
 obtain ⟨o,n,t,u,e,r⟩:=x
 exact ⟨o,n,t,u,k o e,r⟩
theorem tE {It S l:Addr}{us:Array Value}(hh:A.handled=none) (hu:A.units + 20 < cLine) (n1:l ≠ It) (n2:S ≠ It) (n3:S ≠ l) :
  ∀ (rs:List (Addr × Int × Int)) (i:Nat) (s:Shared) (m:Addr × Int × Int) (c:Nat),(∀ (j:Nat) n,rs[j]? = some n->us[i + j]? = some (.ref n.1))->(∀ n∈m :: rs,xW s.heap n/\n.1 ≠ It/\n.1 ≠ S)->i + rs.length=us.size->s.heap.IsListIter It l i->s.heap.IsList l us ->
   s.heap.get? S=some { cls:=.type "list", dict:=none,data:=.seq #[.ref m.1,.ref m.1] c,slots := #[] } ->
   (∀ (n:Addr × Int × Int) (h':Heap) (tk:Nat),n∈m :: rs->(∀ x∈m :: rs,n.2.1<=x.2.1)->(∀ a o,a ≠ It->a ≠ S->s.heap.get? a=some o->h'.get? a=some o)->R (.ok (.ret (.ref n.1))) { s with heap:=h',toks:=tk }) ->
   codeAny (model P w) A (.builtin "min.loop" ⟨[.ref It,.none,.ref S],[]⟩) R s:=by
 intro rs
 have nm:(toString "min" ++ toString ".loop" : String) = "min.loop" := by decide
 induction rs with
 | nil =>
  intro i s m c hv ht hn hi hl hS fin
  refine iH PySem.F.entry_min_loop PySem.F.plain_min_loop (wpAny_bind (m:=seqItems? (.ref S)) (wpAny_seqItems hS rfl ?_))
  refine wpAny_bind (m:=tryCatch (pyNext (.ref It)) _) (wpAny_tryCatch (wpAny_pyNext_list_end (by simpa using hh) hi hl (by simp; simp at hn; omega) fun h' eb=>?_))
  have hS':=eb S _ n2 hS
  refine wpAny_bind (m:=updateSeq S fun _ => #[]) (wpAny_updateSeq hS' rfl ?_ (show 2<=sizeLine from sz))
  refine wpAny_bind (m:=letGo _ _) (wpAny_letGo (wpAny_pure ?_))
  exact fin m _ s.toks List.mem_cons_self (fun x hx=>by rw [List.mem_singleton.mp hx]; exact Int.le_refl _) fun a o x y e=>(Heap.get?_update_other _ _ (Ne.symm y)).trans (eb a o x e)
 | cons n ns ih =>
  intro i s m c hv ht hn hi hl hS fin
  have htn:=hv 0 n rfl
  refine iH PySem.F.entry_min_loop PySem.F.plain_min_loop (wpAny_bind (m:=seqItems? (.ref S)) (wpAny_seqItems hS rfl ?_))
  refine wpAny_bind (m:=tryCatch (pyNext (.ref It)) _) (wpAny_tryCatch (wpAny_pyNext_list_item hi hl htn fun h' hi' sb=>?_))
  have hS':=(sb.2 S n2).trans hS
  have hl':=hl.at fun o e=>(sb.2 l n1).trans e
  have hv':∀ (j:Nat) m,ns[j]? = some m->us[i + 1 + j]? = some (.ref m.1):=fun j m e=>by
   rw [<- hv (j + 1) m (by simpa using e)]
   congr 1
   omega
  have hn':i + 1 + ns.length=us.size:=by simp at hn; omega
  have tt:∀ x∈m :: n :: ns,xW h' x/\x.1 ≠ It/\x.1 ≠ S:=fun x hx=>⟨(ht x hx).1.at fun o e=>(sb.2 _ (ht x hx).2.1).trans e,(ht x hx).2⟩
  have tm:=(tt m List.mem_cons_self).1
  have tn:=(tt n (List.mem_cons_of_mem _ List.mem_cons_self)).1
  refine wpAny_bind (m:=tryCatch (holding [.ref n.1,.ref n.1] _) _) (wpAny_tryCatch (wpAny_holding (wpAny_bind (m:=richCompare .Lt (.ref n.1) (.ref m.1)) (tup_lt (by first | omega | (simp; omega)) tn tm ?_))))
  generalize hd:decide (n.2.1 < m.2.1\/n.2.1=m.2.1/\n.2.2 < m.2.2)=b
  refine wpAny_bind (m:=holding [.bool b] (truthy (.bool b))) (wpAny_holding (wpAny_truthy_bool ?_))
  refine wpAny_bind (m:=letGo _ _) (wpAny_letGo (wpAny_pure ?_))
  cases b with
  | true =>
   have lt:=of_decide_eq_true hd
   rw [if_pos rfl]
   refine wpAny_bind (m:=updateSeq S fun _ => #[.ref n.1,.ref n.1]) (wpAny_updateSeq hS' rfl ?_ (show 2<=sizeLine from sz))
   refine wpAny_bind (m:=letGo _ _) (wpAny_letGo ?_)
   rw [nm]
   refine wpAny_pure ⟨plainId_quiet PySem.F.plain_min_loop _,ih (i + 1) _ n _ hv' (fun x hx=>?_) hn' ?_ ?_ (Heap.get?_update_self _ hS' rfl) fun v h2 tk mv lv k=>?_⟩
   ·have y:=tt x (List.mem_cons_of_mem _ hx)
    exact ⟨y.1.at fun o e=>(Heap.get?_update_other _ _ (Ne.symm y.2.2)).trans e,y.2⟩
   ·exact hi'.at fun o e=>(Heap.get?_update_other _ _ n2).trans e
   ·exact hl'.at fun o e=>(Heap.get?_update_other _ _ n3).trans e
   ·refine fin v h2 tk (List.mem_cons_of_mem _ mv) (fun x hx=>?_) fun a o x y e=>k a o x y ((Heap.get?_update_other _ _ (Ne.symm y)).trans ((sb.2 a x).trans e))
    rcases List.mem_cons.mp hx with rfl | hx
    ·have:=lv n List.mem_cons_self
     omega
    ·exact lv x hx
  | false =>
   have lt:=of_decide_eq_false hd
   rw [if_neg (by decide)]
   refine wpAny_bind (m:=letGo _ _) (wpAny_letGo ?_)
   rw [nm]
   refine wpAny_pure ⟨plainId_quiet PySem.F.plain_min_loop _,ih (i + 1) _ m _ hv' (fun x hx=>?_) hn' hi' hl' hS' fun v h2 tk mv lv k=>?_⟩
   ·rcases List.mem_cons.mp hx with rfl | hx
    ·exact tt _ List.mem_cons_self
    ·exact tt x (List.mem_cons_of_mem _ (List.mem_cons_of_mem _ hx))
   ·refine fin v h2 tk ?_ (fun x hx=>?_) fun a o x y e=>k a o x y ((sb.2 a x).trans e)
    ·rcases List.mem_cons.mp mv with rfl | z
     ·exact List.mem_cons_self
     ·exact List.mem_cons_of_mem _ (List.mem_cons_of_mem _ z)
    ·rcases List.mem_cons.mp hx with rfl | hx
     ·exact lv _ List.mem_cons_self
     ·rcases List.mem_cons.mp hx with rfl | hx
      ·have:=lv m List.mem_cons_self
       omega
      ·exact lv x (List.mem_cons_of_mem _ hx)
end
section
variable {X:Cx}
theorem wJ {pins:List (Addr × Obj)}{s:Shared}{σ:St}{H:Hp}{Q:VK}{p:Addr}{cs:List (Addr × Int × Int)}(hc:X.calm=true) (hu:X.A.units + 64 < cLine) (I:Inv X pins σ H s) (hp:c6 X.K H p (cs.map fun c=>V.ref c.1)) (ne:cs ≠ []) (ht:∀ c∈cs,H c.1=some (.tup [.int c.2.1,.int c.2.2])) (q:∀ n∈cs,(∀ x∈cs,n.2.1<=x.2.1)->Q (.ref n.1) H) :
  wpAny (model X.prog X.w) X.A.in1 (do let it <- pyIter (.ref p); again (.builtin "min.loop" ⟨[it,.none,<- newList []],[]⟩))
   (fun fin s'=>match fin with
    | .done f=>(match (Except.ok f:Result) with | .ok (.ret v)=>EP X pins σ Q v s' | .ok _=>False | .error e=>X.xe e s')
    | .again c'=>c'.quiet=true/\codeAny (model X.prog X.w) X.A c' (fun r s'=>match r with | .ok (.ret v)=>EP X pins σ Q v s' | .ok _=>False | .error e=>X.xe e s') s') X.xe s:=by
 have tp:∀ c∈cs,xW s.heap c:=fun c hc=>by
  obtain ⟨its2,r2,⟨o,eo,oc,n,od⟩,_⟩:=I.tuple (qP.of (ht c hc))
  obtain ⟨v1,v2,rfl,⟨t1,rfl⟩,⟨t2,rfl⟩⟩:=r2.two
  exact ⟨o,n,t1,t2,eo,oc,od⟩
 obtain ⟨n,ns,rfl⟩:=List.exists_cons_of_ne_nil ne
 obtain ⟨its,rv,pl,hz2⟩:=I.list hp
 have hl:=rv.length
 rw [List.length_map] at hl
 obtain ⟨o,nn,e,_⟩:=id pl
 have lt:=Heap.lt_size e
 have nm:(toString "min" ++ toString ".loop" : String) = "min.loop" := by decide
 have hv:∀ (j:Nat) m,(n :: ns)[j]? = some m->its.toArray[j]? = some (.ref m.1):=fun j m e=>by
  obtain ⟨v,ev,rv'⟩:=rv.get (by rw [List.getElem?_map,e]; rfl)
  have rv':v=Value.ref m.1:=rv'
  subst rv'
  simpa using ev
 have ht0:=hv 0 n rfl
 refine wpAny_bind (wpAny_pyIter_list pl.isList (wpAny_bind (wpAny_newList ?_ (Nat.zero_le _))))
 have z:(s.heap.push { cls:=.type "list_iterator", data:=.fields #[.ref p,.int 0 0] }).objs.size=s.heap.objs.size + 1:=Heap.size_push ..
 have n1:p ≠ s.heap.objs.size:=Nat.ne_of_lt lt
 have n2:(s.heap.push { cls:=.type "list_iterator", data:=.fields #[.ref p,.int 0 0] }).objs.size ≠ s.heap.objs.size:=by rw [z]; omega
 have n3:(s.heap.push { cls:=.type "list_iterator", data:=.fields #[.ref p,.int 0 0] }).objs.size ≠ p:=by
  rw [z]
  exact fun y=>absurd lt (by rw [<- y]; exact Nat.not_lt.mpr (Nat.le_succ _))
 refine wpAny_pure ⟨plainId_quiet PySem.F.plain_min_loop _,?_⟩
 have hS0:=Heap.get?_push_size (s.heap.push { cls:=.type "list_iterator", data:=.fields #[.ref p,.int 0 0] }) (o:={ cls:=.type "list", data:=.seq #[] }) rfl
 refine iH PySem.F.entry_min_loop PySem.F.plain_min_loop (wpAny_bind (m:=seqItems? _) (wpAny_seqItems hS0 rfl ?_))
 have hi0:((s.heap.push { cls:=.type "list_iterator", data:=.fields #[.ref p,.int 0 0] }).push { cls:=.type "list", data:=.seq #[] }).IsListIter s.heap.objs.size p 0:=Heap.IsListIter.at ⟨_,Heap.get?_push_size _ rfl,rfl,rfl⟩ fun o e=>Heap.get?_push_of_some _ e
 have hl0:((s.heap.push { cls:=.type "list_iterator", data:=.fields #[.ref p,.int 0 0] }).push { cls:=.type "list", data:=.seq #[] }).IsList p its.toArray:=(pl.isList.push _).push _
 refine wpAny_bind (m:=tryCatch (pyNext (.ref s.heap.objs.size)) _) (wpAny_tryCatch (wpAny_pyNext_list_item hi0 hl0 ht0 fun h' hi' sb=>?_))
 have hS':=(sb.2 _ n2).trans hS0
 have hl':=hl0.at fun o e=>(sb.2 p n1).trans e
 have old:∀ b o,s.heap.get? b=some o->b ≠ s.heap.objs.size/\b ≠ (s.heap.push { cls:=.type "list_iterator", data:=.fields #[.ref p,.int 0 0] }).objs.size/\h'.get? b=some o:=fun b o e=>by
  have b1:b ≠ s.heap.objs.size:=Nat.ne_of_lt (Heap.lt_size e)
  refine ⟨b1,?_,(sb.2 b b1).trans (Heap.get?_push_of_some _ (Heap.get?_push_of_some _ e))⟩
  rw [z]
  exact Nat.ne_of_lt (Nat.lt_succ_of_lt (Heap.lt_size e))
 refine wpAny_bind (m:=updateSeq _ fun _ => #[.ref n.1,.ref n.1]) (wpAny_updateSeq hS' rfl ?_ (show 0<=sizeLine from sz))
 rw [nm]
 refine wpAny_pure ⟨plainId_quiet PySem.F.plain_min_loop _,tE (l:=p) (us:=its.toArray) (I.ok.hd hc) (by omega) n1 n2 n3 ns 1 _ n _ (fun j m e=>?_) (fun x hx=>?_) ?_ ?_ ?_ (Heap.get?_update_self _ hS' rfl) fun v h2 tk mv lv k=>?_⟩
 ·rw [<- hv (j + 1) m (by simpa using e)]
  congr 1
  omega
 ·have tx:=tp x hx
  obtain ⟨o,_,_,_,e,_⟩:=id tx
  have y:=old _ _ e
  exact ⟨tx.at fun o e=>(Heap.get?_update_other _ _ (Ne.symm y.2.1)).trans (old _ _ e).2.2,y.1,y.2.1⟩
 ·rw [List.size_toArray,<- hl,List.length_cons]
  omega
 ·exact hi'.at fun o e=>(Heap.get?_update_other _ _ n2).trans e
 ·exact hl'.at fun o e=>(Heap.get?_update_other _ _ n3).trans e
 ·refine ⟨.ref v.1,H,I.kept (t':=tk) fun b o e=>?_,rfl,q v mv lv⟩
  obtain ⟨b1,b2,b3⟩:=old b o e
  exact k b o b1 b2 ((Heap.get?_update_other _ _ (Ne.symm b2)).trans b3)
theorem t7 (hc:X.calm=true)(hu:X.A.units + 64 < cLine) : eA X (.builtin "min") (fun xs H Q=>∃ (p:Addr) (cs:List (Addr × Int × Int)),xs = [.ref p]/\c6 X.K H p (cs.map fun c=>V.ref c.1)/\cs ≠ []/\(∀ c∈cs,H c.1=some (.tup [.int c.2.1,.int c.2.2]))/\∀ n∈cs,(∀ x∈cs,n.2.1<=x.2.1)->Q (.ref n.1) H):=by
 intro pins s σ H xs us Q I r h
 obtain ⟨p,cs,rfl,hp,ne,ht,q⟩:=h
 obtain ⟨u,rfl,ru⟩:=fO r
 cases ru
 refine kmk_tree PySem.F.kind_min PySem.F.plain_min PySem.F.entry_min (PySem.F.args_min1 _) ?_
 refine wpAny_bind (m:=Builtin.Builtins.bindParams "min" ["key", "default"] 0 ⟨[],[]⟩) (wpAny_of_eq (a:=[none,none]) rfl ?_)
 have nm:(toString "min" ++ toString ".loop" : String) = "min.loop" := by decide
 refine wpAny_bind (m:=pure (Value.ref p)) (wpAny_pure ?_)
 rw [nm]
 exact wJ hc hu I hp ne ht q
theorem o0:eA X (.builtin "len") (fun xs H Q=>∃ (q:Addr) (kvs:List (bG × V)),xs = [.ref q]/\H q=some (.dK kvs)/\Q (.int kvs.length) H):=by
 intro pins s σ H xs us Q I r h
 obtain ⟨p,kvs,rfl,hp,q⟩:=h
 obtain ⟨u,rfl,ru⟩:=fO r
 cases ru
 obtain ⟨z,hd,vs,kv,dd⟩:=xD I.hok hp
 have hl:kvs.length=vs.length:=kv.length
 have hsl:sizeLine=16777216:=sizeLine_eq
 exact call_len_dict hd dd (by omega) ⟨.int kvs.length,H,I.tok _,⟨_,by rw [hl]⟩,q⟩
end
end L2
namespace L2
open PySem
theorem cxK {CX:uD}{P:Program}{w:World}{K:PySem.W.Frag}{mg:Str->Option Value}{base:Heap}{N:List Str}{qual:Str}{scope:Scope}{f:Addr}{cd:Value}{A:Around}{outer:List Env}{s:Shared}{H:Hp}{E:XK} : (iG CX P w K mg base N qual scope f cd A outer s H E).K=K:=rfl
theorem lcK {X:Cx}{scope:Scope}{ts:List Str}{js:List Nat}{C:Addr}{s2:Shared}{H2:Hp}{fp:List Addr} : (Cx.lc X scope ts js C s2 H2 fp).K=X.K:=rfl
end L2
namespace Lw
open PySem L2
variable {C a b c m s s1:Int}{F gs l:List Str}{H H' H1:Hp}{K:PySem.W.Frag}{Q:VK}{f:Str}{i:Nat}{kvs:List (bG × V)}{p:Addr}{r:Rat}{sts:List (Rat × List Str)}{us:List (Str × Int × Int)}{v:V}{xs ys:List V}
def top (i:Nat) : Stmt:=PySem.Challenge.pw_prunepath_k41_whole_ladder_meets_path.main.body.getD i (.Pass ⟨0,0,0,0⟩)
abbrev zN:Stmt:=top 7
abbrev zS:Stmt:=top 9
abbrev zX:Stmt:=top 10
abbrev zW:Stmt:=top 12
abbrev zL:Stmt:=top 14
abbrev yV:Stmt:=top 15
abbrev zV:Stmt:=top 16
abbrev zG:Stmt:=top 17
abbrev zZ:Stmt:=top 18
abbrev zK:Stmt:=top 19
abbrev y7:Stmt:=top 21
abbrev zB:Stmt:=top 22
abbrev zF:Stmt:=top 24
abbrev zO:Stmt:=top 25
abbrev yN:Stmt:=top 26
abbrev zE:Stmt:=top 37
abbrev yZ:Stmt:=top 38
abbrev zA:Stmt:=top 39
abbrev zP:Stmt:=top 40
abbrev zM:Stmt:=top 42
abbrev y9:Stmt:=top 43
abbrev zD:Stmt:=top 44
abbrev zR:Stmt:=top 45
abbrev zJ:Stmt:=top 46
abbrev yU:Stmt:=top 47
abbrev zI:Stmt:=top 23
abbrev yT:Stmt:=top 28
abbrev zU:Stmt:=top 29
abbrev zY:Stmt:=top 30
abbrev yM:Stmt:=top 5
abbrev zT:Stmt:=top 8
abbrev zQ:Stmt:=top 11
abbrev yY:Stmt:=top 32
abbrev zC:Stmt:=top 33
abbrev y8:Stmt:=top 34
abbrev z7:Stmt:=top 35
abbrev yL:Stmt:=top 49
abbrev yK:Stmt:=top 50
abbrev yS:Stmt:=top 51
abbrev yX:Stmt:=top 53
abbrev yJ:Stmt:=top 54
abbrev yW:Stmt:=top 57
abbrev yR:Stmt:=top 58
abbrev z6:Stmt:=top 59
abbrev yI:Stmt:=top 61
abbrev zH:Stmt:=top 62
abbrev yQ:Stmt:=top 55
abbrev yP:Stmt:=top 56
abbrev yO:Stmt:=top 63
abbrev qW:Stmt:=top 64
set_option genInjectivity false in
set_option genSizeOf false in
structure Tx (K:PySem.W.Frag) (mg:Str->Option Value) where
 c_R0:Addr
 m_R0:mg "NoRatio" = some (.ref c_R0)
 x_R0:Exc K mg "NoRatio" c_R0
 i_R0:ExcI K c_R0
 c_I0:Addr
 m_I0:mg "NoPrice" = some (.ref c_I0)
 f_q1:Addr
 d_q1:FuncData
 F_q1:Fun K "greatest_divisor" "greatest_divisor" zN f_q1 d_q1
 b_q1:bJ K d_q1 ["one", "other"] []
 m_q1:mg "greatest_divisor" = some (.ref f_q1)
 f_j9:Addr
 d_j9:FuncData
 F_j9:Fun K "plus" "plus" zS f_j9 d_j9
 b_j9:bJ K d_j9 ["one", "other"] []
 m_j9:mg "plus" = some (.ref f_j9)
 f_j4:Addr
 d_j4:FuncData
 F_j4:Fun K "minus" "minus" zX f_j4 d_j4
 b_j4:bJ K d_j4 ["one", "other"] []
 m_j4:mg "minus" = some (.ref f_j4)
 f_j5:Addr
 d_j5:FuncData
 F_j5:Fun K "under" "under" zW f_j5 d_j5
 b_j5:bJ K d_j5 ["one", "other"] []
 m_j5:mg "under" = some (.ref f_j5)
 f_q3:Addr
 d_q3:FuncData
 F_q3:Fun K "trees_by_place" "trees_by_place" zL f_q3 d_q3
 b_q3:bJ K d_q3 ["tree"] []
 m_q3:mg "trees_by_place" = some (.ref f_q3)
 f_qM:Addr
 d_qM:FuncData
 F_qM:Fun K "places_of" "places_of" yV f_qM d_qM
 b_qM:bJ K d_qM ["tree", "sort"] []
 m_qM:mg "places_of" = some (.ref f_qM)
 f_j6:Addr
 d_j6:FuncData
 F_j6:Fun K "forks" "forks" zV f_j6 d_j6
 b_j6:bJ K d_j6 ["tree"] []
 m_j6:mg "forks" = some (.ref f_j6)
 f_q8:Addr
 d_q8:FuncData
 F_q8:Fun K "common_bottom" "common_bottom" zG f_q8 d_q8
 b_q8:bJ K d_q8 ["tree"] []
 m_q8:mg "common_bottom" = some (.ref f_q8)
 f_j2:Addr
 d_j2:FuncData
 F_j2:Fun K "lifted" "lifted" zZ f_j2 d_j2
 b_j2:bJ K d_j2 ["tree", "bottom"] []
 m_j2:mg "lifted" = some (.ref f_j2)
 f_q4:Addr
 d_q4:FuncData
 F_q4:Fun K "in_whole_costs" "in_whole_costs" zK f_q4 d_q4
 b_q4:bJ K d_q4 ["tree"] []
 m_q4:mg "in_whole_costs" = some (.ref f_q4)
 f_qH:Addr
 d_qH:FuncData
 F_qH:Fun K "beginnings" "beginnings" y7 f_qH d_qH
 b_qH:bJ K d_qH ["place", "places"] []
 m_qH:mg "beginnings" = some (.ref f_qH)
 f_qD:Addr
 d_qD:FuncData
 F_qD:Fun K "check_price" "check_price" zB f_qD d_qD
 b_qD:bJ K d_qD ["price"] []
 m_qD:mg "check_price" = some (.ref f_qD)
 f_q9:Addr
 d_q9:FuncData
 F_q9:Fun K "unreduced_sum" "unreduced_sum" zF f_q9 d_q9
 b_q9:bJ K d_q9 ["one", "other"] []
 m_q9:mg "unreduced_sum" = some (.ref f_q9)
 f_q0:Addr
 d_q0:FuncData
 F_q0:Fun K "cheapest_with_cost" "cheapest_with_cost" zO f_q0 d_q0
 b_q0:bJ K d_q0 ["tree", "price"] []
 m_q0:mg "cheapest_with_cost" = some (.ref f_q0)
 f_qU:Addr
 d_qU:FuncData
 F_qU:Fun K "cheapest" "cheapest" yN f_qU d_qU
 b_qU:bJ K d_qU ["tree", "price"] []
 m_qU:mg "cheapest" = some (.ref f_qU)
 f_qA:Addr
 d_qA:FuncData
 F_qA:Fun K "forks_inside" "forks_inside" zE f_qA d_qA
 b_qA:bJ K d_qA ["tree", "places"] []
 m_qA:mg "forks_inside" = some (.ref f_qA)
 f_qI:Addr
 d_qI:FuncData
 F_qI:Fun K "shared_out" "shared_out" yZ f_qI d_qI
 b_qI:bJ K d_qI ["one", "many"] []
 m_qI:mg "shared_out" = some (.ref f_qI)
 f_qE:Addr
 d_qE:FuncData
 F_qE:Fun K "link_inside" "link_inside" zA f_qE d_qE
 b_qE:bJ K d_qE ["tree", "places", "fork"] []
 m_qE:mg "link_inside" = some (.ref f_qE)
 f_jC:Addr
 d_jC:FuncData
 F_jC:Fun K "cut" "cut" zP f_jC d_jC
 b_jC:bJ K d_jC ["places", "places_of_forks"] []
 m_jC:mg "cut" = some (.ref f_jC)
 f_q2:Addr
 d_q2:FuncData
 F_q2:Fun K "sums_and_leaves" "sums_and_leaves" zM f_q2 d_q2
 b_q2:bJ K d_q2 ["whole", "places"] []
 m_q2:mg "sums_and_leaves" = some (.ref f_q2)
 f_qF:Addr
 d_qF:FuncData
 F_qF:Fun K "whole_links" "whole_links" y9 f_qF d_qF
 b_qF:bJ K d_qF ["whole", "places"] []
 m_qF:mg "whole_links" = some (.ref f_qF)
 f_qB:Addr
 d_qB:FuncData
 F_qB:Fun K "least_linked" "least_linked" zD f_qB d_qB
 b_qB:bJ K d_qB ["whole", "places"] []
 m_qB:mg "least_linked" = some (.ref f_qB)
 f_jA:Addr
 d_jA:FuncData
 F_jA:Fun K "path" "path" zR f_jA d_jA
 b_jA:bJ K d_jA ["tree"] []
 m_jA:mg "path" = some (.ref f_jA)
 f_q5:Addr
 d_q5:FuncData
 F_q5:Fun K "last_not_above" "last_not_above" zJ f_q5 d_q5
 b_q5:bJ K d_q5 ["steps", "price"] []
 m_q5:mg "last_not_above" = some (.ref f_q5)
 f_qN:Addr
 d_qN:FuncData
 F_qN:Fun K "for_price" "for_price" yU f_qN d_qN
 b_qN:bJ K d_qN ["steps", "price"] []
 m_qN:mg "for_price" = some (.ref f_qN)
 f_q6:Addr
 d_q6:FuncData
 F_q6:Fun K "cost_by_change" "cost_by_change" zI f_q6 d_q6
 b_q6:bJ K d_q6 ["known", "own", "before", "places"] []
 m_q6:mg "cost_by_change" = some (.ref f_q6)
 f_qO:Addr
 d_qO:FuncData
 F_qO:Fun K "best_pair" "best_pair" yT f_qO d_qO
 b_qO:bJ K d_qO ["yes", "no", "leaves"] []
 m_qO:mg "best_pair" = some (.ref f_qO)
 f_j7:Addr
 d_j7:FuncData
 F_j7:Fun K "rungs" "rungs" zU f_j7 d_j7
 b_j7:bJ K d_j7 ["whole"] []
 m_j7:mg "rungs" = some (.ref f_j7)
 f_j3:Addr
 d_j3:FuncData
 F_j3:Fun K "ladder" "ladder" zY f_j3 d_j3
 b_j3:bJ K d_j3 ["tree"] []
 m_j3:mg "ladder" = some (.ref f_j3)
 f_qV:Addr
 d_qV:FuncData
 F_qV:Fun K "is_whole" "is_whole" yM f_qV d_qV
 b_qV:bJ K d_qV ["value"] []
 m_qV:mg "is_whole" = some (.ref f_qV)
 f_j8:Addr
 d_j8:FuncData
 F_j8:Fun K "ratio" "ratio" zT f_j8 d_j8
 b_j8:bJ K d_j8 ["top", "bottom"] []
 m_j8:mg "ratio" = some (.ref f_j8)
 f_jB:Addr
 d_jB:FuncData
 F_jB:Fun K "over" "over" zQ f_jB d_jB
 b_jB:bJ K d_jB ["one", "other"] []
 m_jB:mg "over" = some (.ref f_jB)
 f_qJ:Addr
 d_qJ:FuncData
 F_qJ:Fun K "even_price" "even_price" yY f_qJ d_qJ
 b_qJ:bJ K d_qJ ["fewer", "more"] []
 m_qJ:mg "even_price" = some (.ref f_qJ)
 f_qC:Addr
 d_qC:FuncData
 F_qC:Fun K "best_nowhere" "best_nowhere" zC f_qC d_qC
 b_qC:bJ K d_qC ["last", "price"] []
 m_qC:mg "best_nowhere" = some (.ref f_qC)
 f_qG:Addr
 d_qG:FuncData
 F_qG:Fun K "best_points" "best_points" y8 f_qG d_qG
 b_qG:bJ K d_qG ["points"] []
 m_qG:mg "best_points" = some (.ref f_qG)
 f_j0:Addr
 d_j0:FuncData
 F_j0:Fun K "corners" "corners" z7 f_j0 d_j0
 b_j0:bJ K d_j0 ["points"] []
 m_j0:mg "corners" = some (.ref f_j0)
 f_qW:Addr
 d_qW:FuncData
 F_qW:Fun K "_law_cell" "_law_cell" yL f_qW d_qW
 b_qW:bJ K d_qW ["_law_script", "_law_k"] []
 m_qW:mg "_law_cell" = some (.ref f_qW)
 f_qX:Addr
 d_qX:FuncData
 F_qX:Fun K "_law_next" "_law_next" yK f_qX d_qX
 b_qX:bJ K d_qX ["_law_cell_here", "_law_k"] []
 m_qX:mg "_law_next" = some (.ref f_qX)
 f_qP:Addr
 d_qP:FuncData
 F_qP:Fun K "_law_ratio" "_law_ratio" yS f_qP d_qP
 b_qP:bJ K d_qP ["_law_top", "_law_bottom"] []
 m_qP:mg "_law_ratio" = some (.ref f_qP)
 f_qK:Addr
 d_qK:FuncData
 F_qK:Fun K "_law_joined" "_law_joined" yX f_qK d_qK
 b_qK:bJ K d_qK ["_law_pile", "_law_gain"] []
 m_qK:mg "_law_joined" = some (.ref f_qK)
 f_qY:Addr
 d_qY:FuncData
 F_qY:Fun K "_law_tree" "_law_tree" yJ f_qY d_qY
 b_qY:bJ K d_qY ["_law_cells", "_law_scale"] []
 m_qY:mg "_law_tree" = some (.ref f_qY)
 f_qL:Addr
 d_qL:FuncData
 F_qL:Fun K "_law_handed" "_law_handed" yW f_qL d_qL
 b_qL:bJ K d_qL ["_law_tree_here", "_law_bottom"] []
 m_qL:mg "_law_handed" = some (.ref f_qL)
 f_qQ:Addr
 d_qQ:FuncData
 F_qQ:Fun K "_law_drawn" "_law_drawn" yR f_qQ d_qQ
 b_qQ:bJ K d_qQ ["_law_tree_here", "_law_place", "_law_cell_here"] []
 m_qQ:mg "_law_drawn" = some (.ref f_qQ)
 f_j1:Addr
 d_j1:FuncData
 F_j1:Fun K "_law_sum" "_law_sum" z6 f_j1 d_j1
 b_j1:bJ K d_j1 ["_law_tree_here", "_law_places"] []
 m_j1:mg "_law_sum" = some (.ref f_j1)
 f_qZ:Addr
 d_qZ:FuncData
 F_qZ:Fun K "_law_ends" "_law_ends" yI f_qZ d_qZ
 b_qZ:bJ K d_qZ ["_law_tree_here", "_law_place"] []
 m_qZ:mg "_law_ends" = some (.ref f_qZ)
 f_q7:Addr
 d_q7:FuncData
 F_q7:Fun K "_law_is_pruning" "_law_is_pruning" zH f_q7 d_q7
 b_q7:bJ K d_q7 ["_law_tree_here", "_law_places"] []
 m_q7:mg "_law_is_pruning" = some (.ref f_q7)
 f_qR:Addr
 d_qR:FuncData
 F_qR:Fun K "_law_digit" "_law_digit" yQ f_qR d_qR
 b_qR:bJ K d_qR ["_law_bag", "_law_many"] []
 m_qR:mg "_law_digit" = some (.ref f_qR)
 f_qS:Addr
 d_qS:FuncData
 F_qS:Fun K "_law_grown" "_law_grown" yP f_qS d_qS
 b_qS:bJ K d_qS ["_law_bag", "_law_left", "_law_scale"] []
 m_qS:mg "_law_grown" = some (.ref f_qS)
 f_qT:Addr
 d_qT:FuncData
 F_qT:Fun K "_law_worth" "_law_worth" yO f_qT d_qT
 b_qT:bJ K d_qT ["_law_top", "_law_leaves", "_law_bottom", "_law_price"] []
 m_qT:mg "_law_worth" = some (.ref f_qT)
 f_law:Addr
 d_law:FuncData
 F_law:Fun K "law" "law" qW f_law d_law
 b_law:bJ K d_law ["_law_script"] []
 m_law:mg "law" = some (.ref f_law)
 z_abs:mg "abs" = none
 z_bool:mg "bool" = none
 z_int:mg "int" = none
 z_isinstance:mg "isinstance" = none
 z_len:mg "len" = none
 z_list:mg "list" = none
 z_max:mg "max" = none
 z_min:mg "min" = none
 z_range:mg "range" = none
 z_reversed:mg "reversed" = none
 z_set:mg "set" = none
 z_sorted:mg "sorted" = none
local macro_rules | `(tactic| walk_at "sc") => `(tactic| exact ⟨rfl, rfl, rfl, by decide +kernel, rfl, by decide +kernel, by decide +kernel⟩)
theorem sc_q1:FnScope ["one", "other", "larger", "smaller", "rest"] ["one", "other"] (aQ zN):=by walk_at "sc"
theorem sc_j9:FnScope ["one", "other", "shared", "lift", "top", "divisor"] ["one", "other"] (aQ zS):=by walk_at "sc"
theorem sc_j4:FnScope ["one", "other"] ["one", "other"] (aQ zX):=by walk_at "sc"
theorem sc_j5:FnScope ["one", "other"] ["one", "other"] (aQ zW):=by walk_at "sc"
theorem sc_q3:FnScope ["tree", "found", "waiting", "step", "place", "part"] ["tree"] (aQ zL):=by walk_at "sc"
theorem sc_qM:FnScope ["tree", "sort"] ["tree", "sort"] (aQ yV):=by walk_at "sc"
theorem sc_j6:FnScope ["tree"] ["tree"] (aQ zV):=by walk_at "sc"
theorem sc_q8:FnScope ["tree", "shared", "part", "bottom"] ["tree"] (aQ zG):=by walk_at "sc"
theorem sc_j2:FnScope ["tree", "bottom", "lift"] ["tree", "bottom"] (aQ zZ):=by walk_at "sc"
theorem sc_q4:FnScope ["tree"] ["tree"] (aQ zK):=by walk_at "sc"
theorem sc_qH:FnScope ["place", "places"] ["place", "places"] (aQ y7):=by walk_at "sc"
theorem sc_qD:FnScope ["price"] ["price"] (aQ zB):=by walk_at "sc"
theorem sc_q9:FnScope ["one", "other"] ["one", "other"] (aQ zF):=by walk_at "sc"
theorem sc_q0:FnScope ["tree", "price", "yes", "no", "places", "both", "spared"] ["tree", "price"] (aQ zO):=by walk_at "sc"
theorem sc_qU:FnScope ["tree", "price"] ["tree", "price"] (aQ yN):=by walk_at "sc"
theorem sc_qA:FnScope ["tree", "places"] ["tree", "places"] (aQ zE):=by walk_at "sc"
theorem sc_qI:FnScope ["one", "many", "divisor"] ["one", "many"] (aQ yZ):=by walk_at "sc"
theorem sc_qE:FnScope ["tree", "places", "fork", "known", "leaves", "dearer", "place"] ["tree", "places", "fork"] (aQ zA):=by walk_at "sc"
theorem sc_jC:FnScope ["places", "places_of_forks", "kept", "topmost"] ["places", "places_of_forks"] (aQ zP):=by walk_at "sc"
theorem sc_q2:FnScope ["whole", "places", "known", "found", "place", "yes", "no"] ["whole", "places"] (aQ zM):=by walk_at "sc"
theorem sc_qF:FnScope ["whole", "places", "known", "found", "place", "both"] ["whole", "places"] (aQ y9):=by walk_at "sc"
theorem sc_qB:FnScope ["whole", "places", "links", "least", "one"] ["whole", "places"] (aQ zD):=by walk_at "sc"
theorem sc_jA:FnScope ["tree", "whole", "places", "steps", "weakest", "price"] ["tree"] (aQ zR):=by walk_at "sc"
theorem sc_q5:FnScope ["steps", "price"] ["steps", "price"] (aQ zJ):=by walk_at "sc"
theorem sc_qN:FnScope ["steps", "price"] ["steps", "price"] (aQ yU):=by walk_at "sc"
theorem sc_q6:FnScope ["known", "own", "before", "places", "place"] ["known", "own", "before", "places"] (aQ zI):=by walk_at "sc"
theorem sc_qO:FnScope ["yes", "no", "leaves", "fewest", "most", "pairs", "found", "places"] ["yes", "no", "leaves"] (aQ yT):=by walk_at "sc"
theorem sc_j7:FnScope ["whole", "told", "yes", "no", "leaves"] ["whole"] (aQ zU):=by walk_at "sc"
theorem sc_j3:FnScope ["tree", "known", "own", "before", "told", "rung", "places"] ["tree"] (aQ zY):=by walk_at "sc"
theorem sc_qV:FnScope ["value"] ["value"] (aQ yM):=by walk_at "sc"
theorem sc_j8:FnScope ["top", "bottom", "divisor"] ["top", "bottom"] (aQ zT):=by walk_at "sc"
theorem sc_jB:FnScope ["one", "other"] ["one", "other"] (aQ zQ):=by walk_at "sc"
theorem sc_qJ:FnScope ["fewer", "more"] ["fewer", "more"] (aQ yY):=by walk_at "sc"
theorem sc_qC:FnScope ["last", "price", "end"] ["last", "price"] (aQ zC):=by walk_at "sc"
theorem sc_qG:FnScope ["points", "kept", "point", "end"] ["points"] (aQ y8):=by walk_at "sc"
theorem sc_j0:FnScope ["points", "told", "price", "point", "end"] ["points"] (aQ z7):=by walk_at "sc"
theorem sc_qW:FnScope ["_law_script", "_law_k"] ["_law_script", "_law_k"] (aQ yL):=by walk_at "sc"
theorem sc_qX:FnScope ["_law_cell_here", "_law_k"] ["_law_cell_here", "_law_k"] (aQ yK):=by walk_at "sc"
theorem sc_qP:FnScope ["_law_top", "_law_bottom", "_law_one", "_law_other", "_law_rest"] ["_law_top", "_law_bottom"] (aQ yS):=by walk_at "sc"
theorem sc_qK:FnScope ["_law_pile", "_law_gain", "_law_far", "_law_near"] ["_law_pile", "_law_gain"] (aQ yX):=by walk_at "sc"
theorem sc_qY:FnScope ["_law_cells", "_law_scale", "_law_pile", "_law_cell_here"] ["_law_cells", "_law_scale"] (aQ yJ):=by walk_at "sc"
theorem sc_qL:FnScope ["_law_tree_here", "_law_bottom", "_law_near", "_law_far"] ["_law_tree_here", "_law_bottom"] (aQ yW):=by walk_at "sc"
theorem sc_qQ:FnScope ["_law_tree_here", "_law_place", "_law_cell_here", "_law_far"] ["_law_tree_here", "_law_place", "_law_cell_here"] (aQ yR):=by walk_at "sc"
theorem sc_j1:FnScope ["_law_tree_here", "_law_places", "_law_found", "_law_place", "_law_part", "_law_sign"] ["_law_tree_here", "_law_places"] (aQ z6):=by walk_at "sc"
theorem sc_qZ:FnScope ["_law_tree_here", "_law_place"] ["_law_tree_here", "_law_place"] (aQ yI):=by walk_at "sc"
theorem sc_q7:FnScope ["_law_tree_here", "_law_places", "_law_met", "_law_final", "_law_above"] ["_law_tree_here", "_law_places"] (aQ zH):=by walk_at "sc"
theorem sc_qR:FnScope ["_law_bag", "_law_many", "_law_found"] ["_law_bag", "_law_many"] (aQ yQ):=by walk_at "sc"
theorem sc_qS:FnScope ["_law_bag", "_law_left", "_law_scale", "_law_near", "_law_far"] ["_law_bag", "_law_left", "_law_scale"] (aQ yP):=by walk_at "sc"
theorem sc_qT:FnScope ["_law_top", "_law_leaves", "_law_bottom", "_law_price"] ["_law_top", "_law_leaves", "_law_bottom", "_law_price"] (aQ yO):=by walk_at "sc"
theorem sc_law:FnScope ["_law_script", "_law_scale", "_law_bottom", "_law_tree_here", "_law_cell_here", "_law_handed_here", "_law_rungs_told", "_law_steps", "_law_found", "_law_top", "_law_price", "_law_told", "_law_due", "_law_rung", "_law_places"] ["_law_script"] (aQ qW):=by walk_at "sc"
structure Rz (n:Nat) (q:Rat) : Prop where
 zn:Bz n q.num
 zd:Bz n (q.den:Int)
theorem Rz.mono {m n:Nat}{q:Rat}(h:Rz m q)(hn:m<=n) : Rz n q:=⟨h.zn.mono hn,h.zd.mono hn⟩
abbrev rt (q:Rat) : HO:=.tup [.int q.num,.int (q.den:Int)]
def Nw (H:Hp)(Q:VK)(q:Rat) : Prop:=∀ p,H p=none->Q (.ref p) (upd H p (rt q))
theorem dp (q:Rat) : 0 < (q.den:Int):=by
 have:=q.den_pos
 omega
theorem cN (i:Int){j:Int}(h0:0 < j)(h1:j < 340282366920938463463374607431768211456) : iL i j:=⟨h0,(Bz.w (by omega) h1).log2⟩
theorem Nw.pos {t:Int}(hb:0 < b)(q:Nw H Q (Rat.divInt t b)) : ∀ p,H p=none->Q (.ref p) (upd H p (.tup [.int (t.fdiv (M.G t b)),.int (b.fdiv (M.G t b))])):=by
 have h:=Int.le_of_lt (M.G_pos t b)
 rw [Int.fdiv_eq_ediv_of_nonneg t h,Int.fdiv_eq_ediv_of_nonneg b h,M.num_low hb,M.den_low hb]
 exact q
theorem Nw.neg {t:Int}(hb:b < 0)(q:Nw H Q (Rat.divInt t b)) : ∀ p,H p=none->Q (.ref p) (upd H p (.tup [.int (t.fdiv (-M.G t b)),.int (b.fdiv (-M.G t b))])):=by
 rw [M.num_neg hb,M.den_neg hb]
 exact q
theorem cM {t:Int}(hb:b ≠ 0)(bz:Bz 8000 b)(i:Int) : xU i (M.G t b):=⟨by have:=M.G_pos t b; omega,(bz.le (M.G_le hb)).log2⟩
theorem cM' {t:Int}(hb:b ≠ 0)(bz:Bz 8000 b)(i:Int) : xU i (-M.G t b):=⟨by have:=M.G_pos t b; omega,(bz.le (by rw [Int.natAbs_neg]; exact M.G_le hb)).log2⟩
def nT:Sp:=fun vs H Q _=>∃ i:Int,vs = [.int i]/\Q (.bl true) H
def gO:Sp:=fun vs H Q _=>∃ a b:Int,vs = [.int a,.int b]/\b ≠ 0/\Q (.int (M.G a b)) H
def uW (C:Addr) : Sp:=fun vs H Q E=>∃ t b:Int,vs = [.int t,.int b]/\Bz 8000 b/\((b=0/\E (.ref C) none H)\/(b ≠ 0/\Nw H Q (Rat.divInt t b)))
theorem z8 {n:Nat}{t:Int}(hb:b ≠ 0)(zt:Bz n t)(zb:Bz n b) : Rz n (Rat.divInt t b):=by
 rcases Int.lt_or_gt_of_ne hb with h | h
 ·exact ⟨by rw [<- M.num_neg h]; exact zt.fdiv,by rw [<- M.den_neg h]; exact zb.fdiv⟩
 ·exact ⟨by rw [<- M.num_low h]; exact zt.ediv (Int.le_of_lt (M.G_pos t b)),by rw [<- M.den_low h]; exact zb.ediv (Int.le_of_lt (M.G_pos t b))⟩
def nR (K:PySem.W.Frag) : Sp:=fun vs H Q _=>∃ (a:Addr) (ns:List Int) (k:Int),vs = [.ref a,.int k]/\c6 K H a (ns.map V.int)/\0<=k/\∀ v:Int,Q (.int v) H
def mD:Sp:=fun vs H Q _=>∃ t b:Int,vs = [.int t,.int b]/\0 < b/\Bz 8000 b/\Nw H Q (Rat.divInt t b)
theorem Nw.low {t:Int}(hb:0 < b)(q:Nw H Q (Rat.divInt t b)) : ∀ p,H p=none->Q (.ref p) (upd H p (.tup [.int (t / M.G t b),.int (b / M.G t b)])):=by
 rw [M.num_low hb,M.den_low hb]
 exact q
inductive Tr where
 | en (w:Int)
 | fk (w:Int) (y n:Tr)
variable {es:List (Str × Tr)}{t' u:Tr}
def cU:Tr->PyData
 | .en w=>.tuple [.str "end", .int w]
 | .fk w y n=>.tuple [.str "fork", .int w,cU y,cU n]
def Tr.lv:Tr->Nat
 | .en _=>1
 | .fk _ y n=>y.lv + n.lv
def Tr.dp:Tr->Nat
 | .en _=>0
 | .fk _ y n=>max y.dp n.dp + 1
theorem Tr.lv_pos:∀ t:Tr,0 < t.lv
 | .en _=>Nat.one_pos
 | .fk _ y n=>Nat.add_pos_left (lv_pos y) _
theorem Tr.dp_lt:∀ t:Tr,t.dp < t.lv
 | .en _=>Nat.one_pos
 | .fk _ y n=>by
  have h1:=dp_lt y
  have h2:=dp_lt n
  show max y.dp n.dp + 1 < y.lv + n.lv
  omega
theorem TV.quad {x:V}{a b c d:PyData}(h:TV K H x (.tuple [a,b,c,d])) : ∃ p u v w z,x = .ref p/\H p=some (.tup [u,v,w,z])/\TV K H u a/\TV K H v b/\TV K H w c/\TV K H z d:=by
 cases h with
 | tup e hs =>
  cases hs with
  | cons h1 hs =>
   cases hs with
   | cons h2 hs =>
    cases hs with
    | cons h3 hs =>
     cases hs with
     | cons h4 hs =>
      cases hs
      exact ⟨_,_,_,_,_,rfl,e,h1,h2,h3,h4⟩
theorem TV.en {x:V}{w:Int}(h:TV K H x (cU (.en w))) : ∃ p,x = .ref p/\H p=some (.tup [.str "end", .int w]):=by
 obtain ⟨p,u,v,rfl,hp,t1,t2⟩:=TV.pair h
 obtain rfl:=t1.strs
 obtain rfl:=t2.ints
 exact ⟨p,rfl,hp⟩
theorem TV.fk {K:PySem.W.Frag}{H:Hp}{x:V}{w:Int}{y n:Tr}(h:TV K H x (cU (.fk w y n))) : ∃ p u v,x = .ref p/\H p=some (.tup [.str "fork", .int w,u,v])/\TV K H u (cU y)/\TV K H v (cU n):=by
 unfold cU at h
 obtain ⟨p,a,b,u,v,rfl,hp,t1,t2,t3,t4⟩:=TV.quad h
 obtain rfl:=t1.strs
 obtain rfl:=t2.ints
 exact ⟨p,u,v,rfl,hp,t3,t4⟩
theorem TV.fk' {u:V}{w:Int}{y n:Tr}(hp:H p=some (.tup [.str "fork", .int w,u,v]))(h1:TV K H u (cU y))(h2:TV K H v (cU n)) : TV K H (.ref p) (cU (.fk w y n)):=by
 unfold cU
 exact .tup hp (.cons (.str _) (.cons (.int _) (.cons h1 (.cons h2 .nil))))
theorem TV.en' {w:Int}(hp:H p=some (.tup [.str "end", .int w])) : TV K H (.ref p) (cU (.en w)):=.tup hp (.cons (.str _) (.cons (.int _) .nil))
theorem aN.over {z:Addr}(s:aN H H')(hz:H z=none)(o:HO) : aN H (upd H' z o):=fun a u e=>by
 rw [aR (bE e hz)]
 exact s a u e
theorem TVs.snoc  : ∀ {xs:List V}{ds:List PyData}{x:V}{d:PyData},TVs K H xs ds->TV K H x d->TVs K H (xs ++ [x]) (ds ++ [d])
 | _,_,_,_,.nil,t=>.cons t .nil
 | _,_,_,_,.cons h hs,t=>.cons h (TVs.snoc hs t)
theorem last_ix (n:Nat) : tJ (n + 1) (-1)=some n:=by
 unfold tJ
 rw [if_neg (by decide),if_pos (by omega)]
 congr 1
 omega
theorem last_at (ys:List V)(x:V) : gP (ys ++ [x]) (-1)=some x:=by
 unfold gP
 rw [List.length_append]
 show (tJ (ys.length + 1) (-1)).bind _=_
 rw [last_ix]
 show (ys ++ [x])[ys.length]? = some x
 rw [List.getElem?_append_right (Nat.le_refl _),Nat.sub_self]
 rfl
theorem aN.free (s:aN H H')(h:H' p=none) : H p=none:=by
 cases e:H p with
 | none=>rfl
 | some o=>rw [s p o e] at h; cases h
inductive PI:Tr->Str->List Str->List Str->Prop
 | stop (t:Tr) (q:Str) : PI t q [q] []
 | go {w:Int}{y n:Tr}{q:Str}{ps1 ps2 fs1 fs2:List Str} : PI y (q ++ "y") ps1 fs1->PI n (q ++ "n") ps2 fs2->PI (.fk w y n) q (ps2 ++ ps1) (q :: (fs2 ++ fs1))
theorem PI.len {t:Tr}{q:Str}{ps fs:List Str}(h:PI t q ps fs) : ps.length<=t.lv/\fs.length + 1=ps.length:=by
 induction h with
 | stop t q=>exact ⟨t.lv_pos,rfl⟩
 | @go w y n q ps1 ps2 fs1 fs2 _ _ h1 h2 =>
  rw [List.length_append,List.length_cons,List.length_append]
  show _<=y.lv + n.lv/\_
  omega
def wB (w:Int) : Prop := -100000000000000000000000000000000 < w/\w < 100000000000000000000000000000000
def Tr.B:Tr->Prop
 | .en w=>wB w
 | .fk w y n=>wB w/\y.B/\n.B
theorem u8 {α:Type}{P:α->Prop}{is:List α}{i:α}(h:∀ x∈is,P x)(h2:P i) : ∀ x∈is ++ [i],P x:=fun x hx=>by
 rcases List.mem_append.mp hx with z | z
 ·exact h x z
 ·rw [List.mem_singleton.mp z]; exact h2
def eM (x:Str)(ps:List Str) : List Str:=ps.filter fun o=>Txt.startswith x o
def kept (ps fs:List Str) : List Str:=ps.filter fun x=>decide ((eM x fs).length=0)
def lY (fs:List Str) : List Str:=fs.filter fun x=>decide ((eM x fs).length=1)
def stepS (x s o:Str) : Str:=if Txt.startswith x o=true/\o.length < s.length then o else s
def nU (x:Str)(fs:List Str) : Str:=fs.foldl (stepS x) x
def stepM (fs:List Str)(m:List Str)(x:Str) : List Str:=if nU x fs∈m then m else m ++ [nU x fs]
def made (ps fs:List Str) : List Str:=ps.foldl (stepM fs) []
theorem dO {x o:Str}{ps:List Str} : o∈eM x ps↔o∈ps/\bI o <+: bI x:=by
 unfold eM
 rw [List.mem_filter,bU]
theorem vK {a b:Str}(h:bI a <+: bI b)(l:b.length<=a.length) : a=b:=by
 obtain ⟨r,e⟩:=h
 have l2:=congrArg List.length e
 rw [List.length_append,c9,c9] at l2
 have:r = []:=List.length_eq_zero_iff.mp (by omega)
 subst this
 rw [List.append_nil] at e
 exact fE e
theorem cE (q s:Str) : bI q <+: bI (q ++ s):=by rw [bT]; exact List.prefix_append _ _
theorem bW {q x:Str}(h1:bI (q ++ "y") <+: bI x)(h2:bI (q ++ "n") <+: bI x) : False:=by
 obtain ⟨r1,e1⟩:=h1
 obtain ⟨r2,e2⟩:=h2
 rw [bT,List.append_assoc] at e1 e2
 have e:=List.append_cancel_left (e1.trans e2.symm)
 have z1:bI ("y" : Str) = [121]:=by decide +kernel
 have z2:bI ("n" : Str) = [110]:=by decide +kernel
 rw [z1,z2] at e
 injection e with e _
 exact absurd e (by decide)
theorem eE {q x:Str}{s:Str}(hs:s.length=1)(h:bI (q ++ s) <+: bI x) : ¬ bI x <+: bI q:=by
 intro g
 have l1:=h.length_le
 have l2:=g.length_le
 rw [c9,c9,cQ] at l1
 rw [c9,c9] at l2
 omega
theorem PI.pre {t:Tr}{q:Str}{ps:List Str}(h:PI t q ps gs) : (∀ x∈ps,bI q <+: bI x)/\(∀ f∈gs,bI q <+: bI f):=by
 induction h with
 | stop t q=>exact ⟨fun x hx=>by rw [List.mem_singleton.mp hx]; exact List.prefix_refl _,fun f hf=>by cases hf⟩
 | @go w y n q ps1 ps2 fs1 fs2 _ _ h1 h2 =>
  refine ⟨fun x hx=>?_,fun f hf=>?_⟩
  ·rcases List.mem_append.mp hx with hx | hx
   ·exact (cE q _).trans (h2.1 x hx)
   ·exact (cE q _).trans (h1.1 x hx)
  ·rcases List.mem_cons.mp hf with rfl | hf
   ·exact List.prefix_refl _
   ·rcases List.mem_append.mp hf with hf | hf
    ·exact (cE q _).trans (h2.2 f hf)
    ·exact (cE q _).trans (h1.2 f hf)
theorem kO:("y" : Str).length=1/\("n" : Str).length=1:=by decide +kernel
structure Facts (ps gs:List Str) : Prop where
 n1:ps.Nodup
 n2:gs.Nodup
 ap:∀ x∈ps,∀ f∈gs,¬ bI x <+: bI f
 co:∀ f∈gs,∃ x∈ps,bI f <+: bI x
 ne:ps ≠ []
theorem PI.facts {t:Tr}{q:Str}{ps:List Str}(h:PI t q ps gs) : Facts ps gs:=by
 induction h with
 | stop t q=>exact ⟨List.nodup_cons.mpr ⟨List.not_mem_nil,List.nodup_nil⟩,List.nodup_nil,fun x _ f hf=>(by cases hf),fun f hf=>(by cases hf),(by simp)⟩
 | @go w y n q ps1 ps2 fs1 fs2 g1 g2 h1 h2 =>
  have p1:=g1.pre
  have p2:=g2.pre
  refine ⟨?_,?_,?_,?_,?_⟩
  ·rw [List.nodup_append]
   exact ⟨h2.n1,h1.n1,fun a ha b hb e=>by subst e; exact bW (p1.1 _ hb) (p2.1 _ ha)⟩
  ·rw [List.nodup_cons,List.nodup_append]
   refine ⟨fun z=>?_,h2.n2,h1.n2,fun a ha b hb e=>by subst e; exact bW (p1.2 _ hb) (p2.2 _ ha)⟩
   rcases List.mem_append.mp z with z | z
   ·exact eE kO.2 (p2.2 _ z) (List.prefix_refl _)
   ·exact eE kO.1 (p1.2 _ z) (List.prefix_refl _)
  ·intro x hx f hf z
   rcases List.mem_cons.mp hf with rfl | hf
   ·rcases List.mem_append.mp hx with hx | hx
    ·exact eE kO.2 (p2.1 _ hx) z
    ·exact eE kO.1 (p1.1 _ hx) z
   ·rcases List.mem_append.mp hx with hx | hx <;> rcases List.mem_append.mp hf with hf | hf
    ·exact h2.ap x hx f hf z
    ·exact bW (p1.2 _ hf) ((p2.1 _ hx).trans z)
    ·exact bW ((p1.1 _ hx).trans z) (p2.2 _ hf)
    ·exact h1.ap x hx f hf z
  ·intro f hf
   rcases List.mem_cons.mp hf with rfl | hf
   ·obtain ⟨x,r,e⟩:=List.exists_cons_of_ne_nil h1.ne
    exact ⟨x,List.mem_append_right _ (by rw [e]; exact List.mem_cons_self),(cE _ _).trans (p1.1 x (by rw [e]; exact List.mem_cons_self))⟩
   ·rcases List.mem_append.mp hf with hf | hf
    ·obtain ⟨x,hx,z⟩:=h2.co f hf
     exact ⟨x,List.mem_append_left _ hx,z⟩
    ·obtain ⟨x,hx,z⟩:=h1.co f hf
     exact ⟨x,List.mem_append_right _ hx,z⟩
  ·intro z
   exact h1.ne (List.append_eq_nil_iff.mp z).2
theorem gJ:∀ (p:Str) (l:List Str),PyProof.Rows.risingS p l=true->∀ x∈l,bI p<=bI x
 | p,[],_,x,hx=>by cases hx
 | p,y :: r,h,x,hx=>by
  have h:(!PySem.Spec.ltCps y.cps.toList p.cps.toList && PyProof.Rows.risingS y r)=true:=h
  rw [Bool.and_eq_true,Bool.not_eq_true',PyProof.Rows.ltCps_eq,decide_eq_false_iff_not] at h
  have hpy:bI p<=bI y:=h.1
  rcases List.mem_cons.mp hx with rfl | hx
  ·exact hpy
  ·exact List.le_trans hpy (gJ y r h.2 x hx)
theorem fX {a:Str}(h:PyProof.Rows.sortedS (a :: l)=true) : PyProof.Rows.sortedS l=true:=by
 cases l with
 | nil=>rfl
 | cons b l =>
  have h:(!PySem.Spec.ltCps b.cps.toList a.cps.toList && PyProof.Rows.risingS b l)=true:=h
  rw [Bool.and_eq_true] at h
  exact h.2
theorem gU:∀ {l1 l2:List Str},PyProof.Rows.sortedS l1=true->PyProof.Rows.sortedS l2=true->l1.Perm l2->l1=l2
 | [],l2,_,_,p=>(List.nil_perm.mp p).symm
 | a :: l1,[],_,_,p=>absurd p.symm (by intro z; have:=z.length_eq; cases this)
 | a :: l1,b :: l2,h1,h2,p=>by
  have ha:a∈b :: l2:=p.mem_iff.mp List.mem_cons_self
  have hb:b∈a :: l1:=p.mem_iff.mpr List.mem_cons_self
  have e:a=b:=by
   rcases List.mem_cons.mp ha with e | ha
   ·exact e
   ·rcases List.mem_cons.mp hb with e | hb
    ·exact e.symm
    ·exact fE (List.le_antisymm (gJ a l1 h1 b hb) (gJ b l2 h2 a ha))
  subst e
  rw [gU (fX h1) (fX h2) (List.Perm.cons_inv p)]
theorem cP {α:Type}{l:List α}{p:α->Bool}{a:α}(h:l[i]? = some a) : (l.take (i + 1)).filter p=(l.take i).filter p ++ (if p a=true then [a] else []):=by
 rw [List.take_add_one,h,List.filter_append]
 congr 1
 simp [List.filter_cons]
theorem PI.short {t:Tr}{q:Str}{ps:List Str}(h:PI t q ps gs) : (∀ x∈ps,x.length<=q.length + t.dp)/\∀ x∈gs,x.length<=q.length + t.dp:=by
 induction h with
 | stop t q=>exact ⟨fun x hx=>by rw [List.mem_singleton.mp hx]; omega,fun x hx=>(by cases hx)⟩
 | @go w y n q ps1 ps2 fs1 fs2 _ _ h1 h2 =>
  have d:(Tr.fk w y n).dp=max y.dp n.dp + 1:=rfl
  rw [cQ,kO.1] at h1
  rw [cQ,kO.2] at h2
  refine ⟨fun x hx=>?_,fun x hx=>?_⟩
  ·rcases List.mem_append.mp hx with hx | hx
   ·have:=h2.1 x hx; omega
   ·have:=h1.1 x hx; omega
  ·rcases List.mem_cons.mp hx with rfl | hx
   ·omega
   ·rcases List.mem_append.mp hx with hx | hx
    ·have:=h2.2 x hx; omega
    ·have:=h1.2 x hx; omega
def uF (x:Str) : Prop:=∀ c∈bI x,c < 128
theorem uF.app {x y:Str}(h:uF x)(g:uF y) : uF (x ++ y):=fun c hc=>by
 rw [bT] at hc
 exact (List.mem_append.mp hc).elim (h c) (g c)
theorem PI.asc {t:Tr}{q:Str}{ps:List Str}(h:PI t q ps gs) : uF q->(∀ x∈ps,uF x)/\∀ x∈gs,uF x:=by
 have ay:uF "y" := by unfold uF; decide +kernel
 have an:uF "n" := by unfold uF; decide +kernel
 induction h with
 | stop t q=>exact fun a=>⟨fun x hx=>by rw [List.mem_singleton.mp hx]; exact a,fun x hx=>(by cases hx)⟩
 | @go w y n q ps1 ps2 fs1 fs2 _ _ h1 h2 =>
  intro a
  have h1:=h1 (a.app ay)
  have h2:=h2 (a.app an)
  refine ⟨fun x hx=>?_,fun x hx=>?_⟩
  ·rcases List.mem_append.mp hx with hx | hx
   ·exact h2.1 x hx
   ·exact h1.1 x hx
  ·rcases List.mem_cons.mp hx with rfl | hx
   ·exact a
   ·rcases List.mem_append.mp hx with hx | hx
    ·exact h2.2 x hx
    ·exact h1.2 x hx
theorem dvS {ps:List Str}(h:H p=some (.lst (ps.map V.str))) : DV K H (.ref p) (.list (ps.map PyData.str)):=.lst (c6.of h) (TVs.strs ps).dv
theorem shS {n:Nat}{ps:List Str}(h:∀ x∈ps,uF x) : Shp (n + 1) (.list (ps.map PyData.str)):=.lst fun d hd=>by
 obtain ⟨x,hx,rfl⟩:=List.mem_map.mp hd
 exact .str n (h x hx)
structure Okf (fs gs:List Str) : Prop where
 sb:∀ f∈fs,f∈gs
 nd:fs.Nodup
 ln:fs.length<=gs.length
def kR (K:PySem.W.Frag) : Sp:=fun vs H Q _=>∃ (x:Str) (a:Addr) (ps:List Str),vs = [.str x,.ref a]/\H a=some (.lst (ps.map V.str))/\ps.length<=100/\∀ p,H p=none->Q (.ref p) (upd H p (.lst ((eM x ps).map V.str)))
def sp_cut (K:PySem.W.Frag) : Sp:=fun vs H Q _=>∃ (a b:Addr) (ps fs:List Str),vs = [.ref a,.ref b]/\H a=some (.lst (ps.map V.str))/\H b=some (.lst (fs.map V.str))/\ps.length + fs.length < 64 /\
 ∀ H' p rs,aN H H'->H p=none->H' p=some (.lst (rs.map V.str))->rs.Perm (kept ps fs ++ lY fs)->PyProof.Rows.sortedS rs=true->Q (.ref p) H'
def u5 (K:PySem.W.Frag) : Sp:=fun vs H Q _=>∃ (a:Addr) (ns:List Int),vs = [.ref a]/\iP K H a (ns.map V.int)/\ns.length<=63/\∀ H',Q (.bl true) H'
theorem xI (ns:List Int)(i j:Nat) : ∃ ms:List Int,m7 (ns.map V.int) (some (i:Int)) (some (j:Int))=ms.map V.int/\ms.length<=j - i:=by
 unfold m7
 rw [HT.sIx_nat,HT.sIx_nat]
 refine ⟨(ns.drop (min i (ns.map V.int).length)).take (min j (ns.map V.int).length - min i (ns.map V.int).length),?_,?_⟩
 ·rw [List.map_take,List.map_drop]
 ·rw [List.length_take]
  omega
def Tr.w:Tr->Int
 | .en w=>w
 | .fk w _ _=>w
inductive PS:Tr->Str->List Str->Int->Prop
 | stop (t:Tr) (q:Str) : PS t q [q] t.w
 | go {w:Int}{y n:Tr}{q:Str}{ps1 ps2:List Str}{s1 s2:Int} : PS y (q ++ "y") ps1 s1->PS n (q ++ "n") ps2 s2->PS (.fk w y n) q (ps2 ++ ps1) (s1 + s2)
theorem PS.pi {t:Tr}{q:Str}{ps:List Str}(h:PS t q ps s) : ∃ gs,PI t q ps gs:=by
 induction h with
 | stop t q=>exact ⟨_,.stop t q⟩
 | go _ _ h1 h2 =>
  obtain ⟨g1,h1⟩:=h1
  obtain ⟨g2,h2⟩:=h2
  exact ⟨_,.go h1 h2⟩
def cY (one other:List Str) : Prop:=∀ x∈other,∃ o∈one,bI o <+: bI x
theorem cY.refl (ps:List Str) : cY ps ps:=fun x hx=>⟨x,hx,List.prefix_refl _⟩
theorem cY.join {a b c d:List Str}(h1:cY a b)(h2:cY c d) : cY (c ++ a) (d ++ b):=fun x hx=>by
 rcases List.mem_append.mp hx with z | z
 ·obtain ⟨o,ho,p⟩:=h2 x z
  exact ⟨o,List.mem_append_left _ ho,p⟩
 ·obtain ⟨o,ho,p⟩:=h1 x z
  exact ⟨o,List.mem_append_right _ ho,p⟩
theorem cY.root {t:Tr}{q:Str}{ps:List Str}(h:PS t q ps s) : cY [q] ps:=fun x hx=>by
 obtain ⟨gs,p⟩:=h.pi
 exact ⟨q,List.mem_singleton.mpr rfl,p.pre.1 x hx⟩
def bM (b c:Int) : Tr->Str->List Str × Int
 | .en w,q=>([q],w)
 | .fk w y n,q=>if ((bM b c y (q ++ "y")).2 + (bM b c n (q ++ "n")).2) * b + c * ((bM b c n (q ++ "n")).1.length + (bM b c y (q ++ "y")).1.length - 1) < w * b then ((bM b c n (q ++ "n")).1 ++ (bM b c y (q ++ "y")).1,(bM b c y (q ++ "y")).2 + (bM b c n (q ++ "n")).2) else ([q],w)
theorem nA (b c:Int) : ∀ (t:Tr) (q:Str),PS t q (bM b c t q).1 (bM b c t q).2
 | .en w,q=>.stop (.en w) q
 | .fk w y n,q=>by
  unfold bM
  split
  ·exact .go (nA b c y _) (nA b c n _)
  ·exact .stop (.fk w y n) q
theorem qK (b c:Int) {t:Tr}{q:Str}{ps:List Str}(h:PS t q ps s) :
  (bM b c t q).2 * b + c * ((bM b c t q).1.length:Nat)<=s * b + c * (ps.length:Nat)/\((bM b c t q).2 * b + c * ((bM b c t q).1.length:Nat)=s * b + c * (ps.length:Nat)->cY (bM b c t q).1 ps):=by
 induction h with
 | stop t q =>
  cases t with
  | en w=>exact ⟨Int.le_refl _,fun _=>cY.refl _⟩
  | fk w y n =>
   unfold bM
   split
   ·rename_i hc
    rw [List.length_append]
    generalize (bM b c y (q ++ "y")).2=s1 at *
    generalize (bM b c n (q ++ "n")).2=s2 at *
    generalize (bM b c y (q ++ "y")).1.length=l1 at *
    generalize (bM b c n (q ++ "n")).1.length=l2 at *
    have e:((l2 + l1:Nat) : Int)=(l2:Int) + l1:=by omega
    have e2:c * (((l2:Int) + l1) - 1)=c * ((l2:Int) + l1) - c:=by rw [Int.mul_sub,Int.mul_one]
    show (s1 + s2) * b + c * ((l2 + l1:Nat) : Int)<=w * b + c * 1/\_
    have e3:(([q] : List Str).length:Int)=1:=rfl
    rw [e,Int.mul_one]
    rw [e2] at hc
    refine ⟨by omega,fun z=>?_⟩
    exfalso
    have z:(s1 + s2) * b + c * ((l2:Int) + l1)=w * b + c * 1:=by rw [<- e]; exact z
    rw [Int.mul_one] at z
    omega
   ·exact ⟨Int.le_refl _,fun _=>cY.refl _⟩
 | @go w y n q ps1 ps2 s1 s2 h1 h2 i1 i2 =>
  obtain ⟨a1,b1⟩:=i1
  obtain ⟨a2,b2⟩:=i2
  have lr:cY [q] (ps2 ++ ps1):=cY.root (.go (w:=w) h1 h2)
  unfold bM
  generalize bM b c y (q ++ "y")=Y at *
  generalize bM b c n (q ++ "n")=N at *
  obtain ⟨py,sy⟩:=Y
  obtain ⟨pn,sn⟩:=N
  dsimp only at *
  have el:((ps2 ++ ps1).length:Int)=(ps2.length:Int) + ps1.length:=by rw [List.length_append]; omega
  have er:((pn ++ py).length:Int)=(pn.length:Int) + py.length:=by rw [List.length_append]; omega
  have d1:c * ((ps2.length:Int) + ps1.length)=c * ps2.length + c * ps1.length:=Int.mul_add _ _ _
  have d2:c * ((pn.length:Int) + py.length)=c * pn.length + c * py.length:=Int.mul_add _ _ _
  have d3:(s1 + s2) * b=s1 * b + s2 * b:=Int.add_mul _ _ _
  have d4:(sy + sn) * b=sy * b + sn * b:=Int.add_mul _ _ _
  have d5:c * (((pn.length:Int) + py.length) - 1)=c * ((pn.length:Int) + py.length) - c:=by rw [Int.mul_sub,Int.mul_one]
  split
  ·show (sy + sn) * b + c * ((pn ++ py).length:Nat)<=_/\((sy + sn) * b + c * ((pn ++ py).length:Nat)=_->cY (pn ++ py) _)
   rw [el,er,d1,d2,d3,d4]
   exact ⟨by omega,fun z=>cY.join (b1 (by omega)) (b2 (by omega))⟩
  ·rename_i hc
   rw [d5] at hc
   show w * b + c * 1<=_/\(_->cY [q] _)
   rw [el,d1,d3,Int.mul_one]
   rw [d4,d2] at hc
   exact ⟨by omega,fun _=>lr⟩
inductive CQ where
 | en (q:Rat)
 | fk (q:Rat) (y n:CQ)
def CQ.dp:CQ->Nat
 | .en _=>0
 | .fk _ y n=>1 + max y.dp n.dp
inductive CV (K:PySem.W.Frag) (H:Hp) : V->CQ->Prop
 | en {p r:Addr}{q:Rat} : H p=some (.tup [.str "end", .ref r])->H r=some (rt q)->CV K H (.ref p) (.en q)
 | fk {p r:Addr}{q:Rat}{v1 v2:V}{y n:CQ} : H p=some (.tup [.str "fork", .ref r,v1,v2])->H r=some (rt q)->CV K H v1 y->CV K H v2 n->CV K H (.ref p) (.fk q y n)
theorem CV.mono {c:CQ}(h:CV K H v c)(s:bF H H') : CV K H' v c:=by
 induction h with
 | en h1 h2=>exact .en (s _ _ h1) (s _ _ h2)
 | fk h1 h2 _ _ i1 i2=>exact .fk (s _ _ h1) (s _ _ h2) i1 i2
theorem CV.same {c:CQ}(h:CV K H v c)(s:aN H H') : CV K H' v c:=h.mono s.t
def dG:Tr->Str->List (Str × Str)
 | .en _,q=>[(q, "end")]
 | .fk _ y n,q=>(q,("fork" : Str)) :: (dG y (q ++ "y") ++ dG n (q ++ "n"))
theorem i8:∀ (t:Tr) (q:Str),(dG t q).length + 1=2 * t.lv
 | .en _,_=>rfl
 | .fk _ y n,q=>by
  have h1:=i8 y (q ++ "y")
  have h2:=i8 n (q ++ "n")
  show ((q,("fork" : Str)) :: (dG y (q ++ "y") ++ dG n (q ++ "n"))).length + 1=2 * (y.lv + n.lv)
  rw [List.length_cons,List.length_append]
  omega
theorem snocT {P:Str × Tr->Prop}{as:List (Str × Tr)}{e:Str × Tr}(h:∀ x∈as,P x)(he:P e) : ∀ x∈as ++ [e],P x:=fun x hx=>by
 rcases List.mem_append.mp hx with z | z
 ·exact h x z
 ·rw [List.mem_singleton.mp z]; exact he
theorem pop1_at (ys:List V)(x:V) : (ys ++ [x])[(ys ++ [x]).length - 1]? = some x:=by
 rw [List.length_append,List.getElem?_append_right (by simp)]
 simp
theorem sX (ys:List V)(x:V) : (ys ++ [x]).dropLast=ys:=by simp
def rD (B w:Int) : PyData:=if B=0 then .int w else .tuple [.int (Rat.divInt w B).num,.int ((Rat.divInt w B).den:Int)]
theorem vC {B w:Int}(h:0 < B) : rD B w = .tuple [.int (Rat.divInt w B).num,.int ((Rat.divInt w B).den:Int)]:=if_neg (by omega)
theorem rD_0 {w:Int} : rD 0 w = .int w:=if_pos rfl
def eF (B:Int) : Tr->PyData
 | .en w=>.tuple [.str "end", rD B w]
 | .fk w y n=>.tuple [.str "fork", rD B w,eF B y,eF B n]
theorem oN:∀ t:Tr,eF 0 t=cU t
 | .en w=>by rw [eF,cU,rD_0]
 | .fk w y n=>by rw [eF,cU,rD_0,oN y,oN n]
theorem TV.rD {x:V}{B w:Int}(hB:0 < B)(h:TV K H x (rD B w)) : ∃ c,x = .ref c/\H c=some (rt (Rat.divInt w B)):=by
 rw [vC hB] at h
 obtain ⟨p,u,v,rfl,hp,t1,t2⟩:=TV.pair h
 obtain rfl:=t1.ints
 obtain rfl:=t2.ints
 exact ⟨p,rfl,hp⟩
theorem TV.rD' {c:Addr}{B w:Int}(hB:0 < B)(h:H c=some (rt (Rat.divInt w B))) : TV K H (.ref c) (Lw.rD B w):=by
 rw [vC hB]
 exact .tup h (.cons (.int _) (.cons (.int _) .nil))
theorem TV.hen {x:V}{B w:Int}(h:TV K H x (eF B (.en w))) : ∃ p c,x = .ref p/\H p=some (.tup [.str "end", c])/\TV K H c (Lw.rD B w):=by
 unfold eF at h
 obtain ⟨p,u,v,rfl,hp,t1,t2⟩:=TV.pair h
 obtain rfl:=t1.strs
 exact ⟨p,_,rfl,hp,t2⟩
theorem TV.hfk {x:V}{B w:Int}{y n:Tr}(h:TV K H x (eF B (.fk w y n))) : ∃ p c u v,x = .ref p/\H p=some (.tup [.str "fork", c,u,v])/\TV K H c (Lw.rD B w)/\TV K H u (eF B y)/\TV K H v (eF B n):=by
 unfold eF at h
 obtain ⟨p,a,b,u,v,rfl,hp,t1,t2,t3,t4⟩:=TV.quad h
 obtain rfl:=t1.strs
 exact ⟨p,b,u,v,rfl,hp,t2,t3,t4⟩
theorem TV.hen' {c:Addr}{B w:Int}(hB:0 < B)(h:H p=some (.tup [.str "end", .ref c]))(hc:H c=some (rt (Rat.divInt w B))) : TV K H (.ref p) (eF B (.en w)):=by
 unfold eF
 exact .tup h (.cons (.str _) (.cons (TV.rD' hB hc) .nil))
theorem TV.hfk' {c:Addr}{u:V}{B w:Int}{y n:Tr}(hB:0 < B)(h:H p=some (.tup [.str "fork", .ref c,u,v]))(hc:H c=some (rt (Rat.divInt w B)))(h1:TV K H u (eF B y))(h2:TV K H v (eF B n)) : TV K H (.ref p) (eF B (.fk w y n)):=by
 unfold eF
 exact .tup h (.cons (.str _) (.cons (TV.rD' hB hc) (.cons h1 (.cons h2 .nil))))
def knd:Tr->Str
 | .en _ => "end"
 | .fk _ _ _ => "fork"
def fP:Tr->Str->List (Str × Tr)
 | .en w,q=>[(q,.en w)]
 | .fk w y n,q=>(q,.fk w y n) :: (fP y (q ++ "y") ++ fP n (q ++ "n"))
theorem dN:∀ (t:Tr) (q:Str),dG t q=(fP t q).map fun e=>(e.1,knd e.2)
 | .en _,_=>rfl
 | .fk w y n,q=>by
  show (q,("fork" : Str)) :: (dG y (q ++ "y") ++ dG n (q ++ "n"))=(q,("fork" : Str)) :: ((fP y (q ++ "y") ++ fP n (q ++ "n")).map fun e=>(e.1,knd e.2))
  rw [dN y,dN n,List.map_append]
theorem fG:∀ {t:Tr}{q:Str}{e:Str × Tr},e∈fP t q->bI q <+: bI e.1
 | .en _,q,e,h=>by rw [List.mem_singleton.mp h]; exact List.prefix_refl _
 | .fk w y n,q,e,h=>by
  rcases List.mem_cons.mp h with rfl | h
  ·exact List.prefix_refl _
  ·rcases List.mem_append.mp h with h | h
   ·exact (cE _ _).trans (fG h)
   ·exact (cE _ _).trans (fG h)
theorem d6:∀ (t:Tr) (q:Str),((fP t q).map (·.1)).Nodup
 | .en _,_=>List.nodup_cons.mpr ⟨List.not_mem_nil,List.nodup_nil⟩
 | .fk w y n,q=>by
  show (q :: ((fP y (q ++ "y") ++ fP n (q ++ "n")).map (·.1))).Nodup
  rw [List.map_append,List.nodup_cons,List.nodup_append]
  refine ⟨fun z=>?_,d6 y _,d6 n _,fun a ha b hb e=>?_⟩
  ·rcases List.mem_append.mp z with z | z
   ·obtain ⟨e,he,rfl⟩:=List.mem_map.mp z
    exact eE kO.1 (fG he) (List.prefix_refl _)
   ·obtain ⟨e,he,rfl⟩:=List.mem_map.mp z
    exact eE kO.2 (fG he) (List.prefix_refl _)
  ·obtain ⟨e1,h1,rfl⟩:=List.mem_map.mp ha
   obtain ⟨e2,h2,rfl⟩:=List.mem_map.mp hb
   exact bW (fG h1) (by rw [e]; exact fG h2)
theorem mJ (t:Tr)(q:Str) : (fP t q).length + 1=2 * t.lv:=by have:=i8 t q; rw [dN,List.length_map] at this; exact this
theorem sY (t:Tr)(q:Str) : ((dG t q).map (·.1)).Nodup:=by
 rw [dN,List.map_map]
 exact d6 t q
def thD (B:Int)(e:Str × Tr) : PyData:=.tuple [.str e.1,eF B e.2]
def iA (ts:List (Str × Tr)) : List (Str × Tr):=ts.flatMap fun e=>fP e.2 e.1
theorem jS (as bs:List (Str × Tr)) : iA (as ++ bs)=iA as ++ iA bs:=List.flatMap_append
theorem nW:∀ as:List (Str × Tr),as.length<=(iA as).length
 | []=>Nat.le_refl _
 | e :: as=>by
  have h:=nW as
  have h2:=mJ e.2 e.1
  have h3:=e.2.lv_pos
  show as.length + 1<=(fP e.2 e.1 ++ iA as).length
  rw [List.length_append]
  omega
theorem nX {us A B:List (Str × Tr)}(x:Str × Tr) : ((us ++ [x]) ++ (A ++ B)).Perm (us ++ (A ++ (x :: B))):=by
 rw [List.append_assoc]
 exact List.Perm.append_left us (List.perm_middle (l₁:=A) (a:=x) (l₂:=B)).symm
inductive DT (K:PySem.W.Frag) (B:Int) (H:Hp) : List (bG × V)->List (Str × Tr)->Prop
 | nil:DT K B H [] []
 | cons {v:V}{e:Str × Tr}{kvs:List (bG × V)}{es:List (Str × Tr)} : TV K H v (eF B e.2)->DT K B H kvs es->DT K B H ((.inr e.1,v) :: kvs) (e :: es)
theorem DT.mono {B:Int}(h:DT K B H kvs es)(s:bF H H') : DT K B H' kvs es:=by
 induction h with
 | nil=>exact .nil
 | cons t _ ih=>exact .cons (t.mono s) ih
theorem DT.snoc {B:Int}{e:Str × Tr}(h:DT K B H kvs es)(t:TV K H v (eF B e.2)) : DT K B H (kvs ++ [(.inr e.1,v)]) (es ++ [e]):=by
 induction h with
 | nil=>exact .cons t .nil
 | cons a _ ih=>exact .cons a ih
theorem DT.length {B:Int}(h:DT K B H kvs es) : kvs.length=es.length:=by
 induction h with
 | nil=>rfl
 | cons _ _ ih=>rw [List.length_cons,List.length_cons,ih]
theorem DT.vno {B:Int}{x:Str}(h:DT K B H kvs es)(n:x ∉ es.map (·.1)) : fR kvs (.inr x)=none:=by
 induction h with
 | nil=>rfl
 | @cons v e kvs es _ _ ih =>
  rw [List.map_cons,List.mem_cons,not_or] at n
  rw [d7 (by intro z; injection z with z; exact n.1 z.symm)]
  exact ih n.2
theorem DT.get {B:Int}{k:bG}(h:DT K B H kvs es)(e:kvs[i]? = some (k,v)) : ∃ x,es[i]? = some x/\k = .inr x.1/\TV K H v (eF B x.2):=by
 induction h generalizing i with
 | nil=>cases i <;> cases e
 | @cons v' x kvs es t _ ih =>
  cases i with
  | zero =>
   have e:=Option.some.inj e
   cases e
   exact ⟨x,rfl,rfl,t⟩
  | succ i=>exact ih e
theorem TVs.lastH {B:Int} : ∀ {ys:List V}{ts:List (Str × Tr)},TVs K H ys (ts.map (thD B))->0 < ys.length->∃ zs y as e,ys=zs ++ [y]/\ts=as ++ [e]/\TVs K H zs (as.map (thD B))/\TV K H y (thD B e)
 | _,[],h,l=>by cases h; exact absurd l (Nat.lt_irrefl 0)
 | _,[e],h,l=>by
  cases h with
  | cons h1 h=>cases h; exact ⟨[],_,[],e,rfl,rfl,.nil,h1⟩
 | _,e :: e2 :: ts,h,l=>by
  cases h with
  | cons h1 h =>
   obtain ⟨zs,y,as,e',rfl,e3,t,ty⟩:=TVs.lastH (ts:=e2 :: ts) h (by rw [h.length]; exact Nat.succ_pos _)
   exact ⟨_ :: zs,y,e :: as,e',rfl,by rw [e3]; rfl,.cons h1 t,ty⟩
def uU (K:PySem.W.Frag) : Sp:=fun vs H Q _=>∃ (v:V) (t:Tr) (B:Int),vs = [v]/\TV K H v (eF B t)/\t.lv<=30/\∀ H' d kvs es,aN H H'->H d=none->H' d=some (.dK kvs)->DT K B H' kvs es->es.Perm (fP t "")->Q (.ref d) H'
theorem iQ {z:Addr}(s:bF H H')(hz:H' z=some (.dK kvs))(o:HO) : bF H (upd H' z o):=fun a xs e=>by
 have e2:=s a xs e
 rw [aR (fQ e2 hz (by intro q; cases q))]
 exact e2
def plK (t:Tr)(so:Str) : List Str:=((dG t "").filter fun u=>decide (u.2=so)).map (·.1)
def mC (K:PySem.W.Frag) : Sp:=fun vs H Q _=>∃ (v:V) (t:Tr) (B:Int) (so:Str),vs = [v,.str so]/\TV K H v (eF B t)/\t.lv<=30/\∀ H' p ws,aN H H'->H p=none->H' p=some (.lst (ws.map V.str))->ws.Perm (plK t so)->PyProof.Rows.sortedS ws=true->Q (.ref p) H'
structure IsP (t:Tr) (ps:List Str) : Prop where
 kn:∀ x∈ps,x∈(dG t "").map (·.1)
 up:ps.Pairwise (fun a b=>bI a < bI b)
 one:∀ e∈plK t "end", (eM e ps).length=1
noncomputable def isP (t:Tr) (ps:List Str) : Bool:=by
 classical
 exact decide (IsP t ps)
theorem gI:∀ {l:List Str},PyProof.Rows.sortedS l=true->l.Pairwise (fun a b=>bI a<=bI b)
 | [],_=>.nil
 | a :: l,h=>List.pairwise_cons.mpr ⟨gJ a l h,gI (fX h)⟩
theorem k9:∀ {a:Str}{l:List Str},(a :: l).Pairwise (fun a b=>bI a < bI b)->PyProof.Rows.risingS a l=true
 | _,[],_=>rfl
 | a,b :: l,h=>by
  have h2:=List.pairwise_cons.mp h
  show (!PySem.Spec.ltCps b.cps.toList a.cps.toList && PyProof.Rows.risingS b l)=true
  rw [k9 h2.2,Bool.and_true,Bool.not_eq_true',PyProof.Rows.ltCps_eq,decide_eq_false_iff_not]
  exact List.lt_asymm (h2.1 b List.mem_cons_self)
theorem k8 (h:l.Pairwise (fun a b=>bI a < bI b)) : PyProof.Rows.sortedS l=true:=by
 cases l with
 | nil=>rfl
 | cons a l=>exact k9 h
theorem cds_ext {a b:Str}(h:bI a=bI b) : a=b:=by
 cases a with | mk x=>cases b with | mk y=>exact congrArg _ (Array.ext' h)
theorem hV (h:l.Pairwise (fun a b=>bI a < bI b)) : l.Nodup:=h.imp fun {a b} z e=>by rw [e] at z; exact List.lt_irrefl _ z
theorem up_of (h:l.Pairwise (fun a b=>bI a<=bI b))(n:l.Nodup) : l.Pairwise (fun a b=>bI a < bI b):=(h.and n).imp fun {a b} z=>by
 by_cases c:bI a < bI b
 ·exact c
 ·exact absurd (cds_ext (List.le_antisymm z.1 (List.not_lt.mp c))) z.2
theorem uT {ps ws:List Str}(hp:ws.Perm (ddS ps))(hs:PyProof.Rows.sortedS ws=true) : ps=ws↔ps.Pairwise (fun a b=>bI a < bI b):=by
 constructor
 ·intro e
  have n:ws.Nodup:=hp.nodup_iff.mpr (iO ps)
  rw [e]
  exact up_of (gI hs) n
 ·intro h
  rw [kB (hV h)] at hp
  exact gU (k8 h) hs hp.symm
theorem wE:∀ a b:List Str,SeqAt.noMixAll (a.map PyData.str) (b.map PyData.str)=true
 | [],[]=>by simp [SeqAt.noMixAll]
 | [],_ :: _=>by simp [SeqAt.noMixAll]
 | _ :: _,[]=>by simp [SeqAt.noMixAll]
 | k :: ks,l :: ls=>by
  rw [List.map_cons,List.map_cons,SeqAt.noMixAll,wE ks ls]
  simp [SeqAt.noMix]
theorem nO:∀ {a b:List Str},a.map PyData.str=b.map PyData.str->a=b
 | [],[],_=>rfl
 | [],_ :: _,h=>nomatch h
 | _ :: _,[],h=>nomatch h
 | x :: a,y :: b,h=>by
  rw [List.map_cons,List.map_cons] at h
  injection h with h1 h2
  injection h1 with h1
  rw [h1,nO h2]
theorem uP (a b:List Str) : PyData.eqv (.list (a.map PyData.str)) (.list (b.map PyData.str))=decide (a=b):=by
 have nm:SeqAt.noMix (.list (a.map PyData.str)) (.list (b.map PyData.str))=true:=by
  rw [SeqAt.noMix]
  exact wE a b
 rw [<- SeqAt.same_eq_eqv _ _ nm,Bool.eq_iff_iff,PyProof.Rows.same_iff,decide_eq_true_iff]
 exact ⟨fun z=>nO (by injection z),fun z=>by rw [z]⟩
theorem jT:∀ {t:Tr}{q:Str}{u:Str × Str},u∈dG t q->u.1.length<=q.length + t.dp
 | .en _,q,u,h=>by rw [List.mem_singleton.mp h]; exact Nat.le_add_right _ _
 | .fk w y n,q,u,h=>by
  have h:u∈(q,("fork" : Str)) :: (dG y (q ++ "y") ++ dG n (q ++ "n")):=h
  show u.1.length<=q.length + (max y.dp n.dp + 1)
  rcases List.mem_cons.mp h with rfl | h
  ·exact Nat.le_add_right _ _
  ·rcases List.mem_append.mp h with h | h
   ·have:=jT h
    rw [cQ,kO.1] at this
    omega
   ·have:=jT h
    rw [cQ,kO.2] at this
    omega
theorem fH {t:Tr}{q:Str}{u:Str × Str}(h:u∈dG t q) : bI q <+: bI u.1:=by
 rw [dN] at h
 obtain ⟨e,he,rfl⟩:=List.mem_map.mp h
 exact fG he
theorem qB:∀ {l a b:List Nat},a < b->l ++ a < l ++ b
 | [],_,_,h=>h
 | c :: l,_,_,h=>List.cons_lt_cons_iff.mpr (.inr ⟨rfl,qB (l:=l) h⟩)
theorem ny_lt {q x y:Str}(hx:bI (q ++ "n") <+: bI x)(hy:bI (q ++ "y") <+: bI y) : bI x < bI y:=by
 obtain ⟨r1,e1⟩:=hx
 obtain ⟨r2,e2⟩:=hy
 rw [<- e1,<- e2,bT,bT,List.append_assoc,List.append_assoc]
 refine qB ?_
 have n1:bI "n" = [110]:=by decide +kernel
 have y1:bI "y" = [121]:=by decide +kernel
 rw [n1,y1]
 exact List.cons_lt_cons_iff.mpr (.inl (by decide))
theorem PI.kn {t:Tr}{q:Str}{ps:List Str}(h:PI t q ps gs) : ∀ x∈ps,x∈(dG t q).map (·.1):=by
 induction h with
 | stop t q =>
  intro x hx
  rw [List.mem_singleton.mp hx]
  cases t with
  | en w=>exact List.mem_cons_self
  | fk w y n=>exact List.mem_cons_self
 | @go w y n q ps1 ps2 fs1 fs2 _ _ h1 h2 =>
  intro x hx
  show x∈q :: ((dG y (q ++ "y") ++ dG n (q ++ "n")).map (·.1))
  rw [List.map_append]
  refine List.mem_cons_of_mem _ (List.mem_append.mpr ?_)
  rcases List.mem_append.mp hx with hx | hx
  ·exact .inr (h2 x hx)
  ·exact .inl (h1 x hx)
theorem PI.up {t:Tr}{q:Str}{ps:List Str}(h:PI t q ps gs) : ps.Pairwise (fun a b=>bI a < bI b):=by
 induction h with
 | stop t q=>exact List.pairwise_singleton _ _
 | @go w y n q ps1 ps2 fs1 fs2 p1 p2 h1 h2=>exact List.pairwise_append.mpr ⟨h2,h1,fun a ha b hb=>ny_lt (p2.pre.1 a ha) (p1.pre.1 b hb)⟩
theorem eX {e:Str}{ps:List Str}(h:∀ x∈ps,¬ bI x <+: bI e) : eM e ps = []:=by
 rw [List.eq_nil_iff_forall_not_mem]
 intro x hx
 exact h x (dO.mp hx).1 (dO.mp hx).2
theorem sF (e:Str)(a b:List Str) : eM e (a ++ b)=eM e a ++ eM e b:=List.filter_append _ _
theorem PI.one {t:Tr}{q:Str}{ps gs:List Str}(h:PI t q ps gs) : ∀ u∈dG t q,u.2=Str.ofString "end" -> (eM u.1 ps).length=1:=by
 induction h with
 | stop t q =>
  intro u hu _
  have:eM u.1 [q] = [q]:=List.filter_eq_self.mpr fun x hx=>by
   rw [List.mem_singleton.mp hx]
   exact (bU u.1 q).mpr (fH hu)
  rw [this]
  rfl
 | @go w y n q ps1 ps2 fs1 fs2 p1 p2 h1 h2 =>
  intro u hu e
  have hu:u∈(q,Str.ofString "fork") :: (dG y (q ++ "y") ++ dG n (q ++ "n")):=hu
  rw [sF,List.length_append]
  rcases List.mem_cons.mp hu with rfl | hu
  ·exact absurd e (show ¬ Str.ofString "fork" = Str.ofString "end" by decide +kernel)
  ·rcases List.mem_append.mp hu with hu | hu
   ·rw [eX (ps:=ps2) fun x hx z=>bW (fH hu) ((p2.pre.1 x hx).trans z),h1 u hu e]
    rfl
   ·rw [eX (ps:=ps1) fun x hx z=>bW ((p1.pre.1 x hx).trans z) (fH hu),h2 u hu e]
    rfl
theorem PI.isP {t:Tr}{ps:List Str}(h:PI t "" ps gs) : IsP t ps:=⟨h.kn,h.up,fun e he=>by
 unfold plK at he
 obtain ⟨u,hu,rfl⟩:=List.mem_map.mp he
 have h2:=List.mem_filter.mp hu
 exact h.one u h2.1 (of_decide_eq_true h2.2)⟩
def Tr.wt:Tr->Int
 | .en w=>w
 | .fk w _ _=>w
def Tr.go:Tr->List Nat->Option Tr
 | t,[]=>some t
 | .en _,_ :: _=>none
 | .fk _ y n,c :: cs=>if c=121 then y.go cs else if c=110 then n.go cs else none
theorem i4:bI ("y" : Str) = [121]/\bI ("n" : Str) = [110]:=by decide +kernel
theorem pV:∀ {t:Tr}{q:Str}{e:Str × Tr},e∈fP t q->∃ r,bI e.1=bI q ++ r/\t.go r=some e.2
 | .en w,q,e,h=>by rw [List.mem_singleton.mp h]; exact ⟨[],(List.append_nil _).symm,rfl⟩
 | .fk w y n,q,e,h=>by
  rcases List.mem_cons.mp h with rfl | h
  ·exact ⟨[],(List.append_nil _).symm,rfl⟩
  ·rcases List.mem_append.mp h with h | h
   ·obtain ⟨r,h1,h2⟩:=pV h
    exact ⟨121 :: r,by rw [h1,bT,i4.1,List.append_assoc]; rfl,h2⟩
   ·obtain ⟨r,h1,h2⟩:=pV h
    exact ⟨110 :: r,by rw [h1,bT,i4.2,List.append_assoc]; rfl,h2⟩
theorem qY {t:Tr}{w:Str}(h:(w,u)∈fP t "") : t.go (bI w)=some u:=by
 obtain ⟨r,h1,h2⟩:=pV h
 have h1:bI w = [] ++ r:=h1
 rw [h1]
 exact h2
theorem DT.val {B:Int}{x:Str}(h:DT K B H kvs es)(nd:(es.map (·.1)).Nodup)(m:(x,u)∈es) : ∃ v,fR kvs (.inr x)=some v/\TV K H v (eF B u):=by
 induction h with
 | nil=>cases m
 | @cons v e kvs es t _ ih =>
  rw [List.map_cons,List.nodup_cons] at nd
  rcases List.mem_cons.mp m with z | z
  ·subst z
   exact ⟨v,fS rfl,t⟩
  ·have ne:e.1 ≠ x:=fun y=>nd.1 (by rw [y]; exact List.mem_map.mpr ⟨(x,u),z,rfl⟩)
   rw [d7 (by intro y; injection y with y; exact ne y)]
   exact ih nd.2 z
def u7 (K:PySem.W.Frag) : Sp:=fun vs H Q _=>∃ (v:V) (t:Tr) (B:Int),vs = [v]/\TV K H v (eF B t)/\t.lv<=30/\∀ H' p ws,aN H H'->H p=none->H' p=some (.lst (ws.map V.str))->ws.Perm (plK t "fork")->PyProof.Rows.sortedS ws=true->Q (.ref p) H'
theorem _root_.L2.TV.wt (h:TV K H v (cU u)) : ∃ p k r,v = .ref p/\H p=some (.tup (.str k :: .int u.wt :: r)):=by
 cases u with
 | en w=>obtain ⟨p,rfl,hp⟩:=TV.en h; exact ⟨_,_,_,rfl,hp⟩
 | fk w y n=>obtain ⟨p,v1,v2,rfl,hp,_,_⟩:=TV.fk h; exact ⟨_,_,_,rfl,hp⟩
def Rt (H:Hp)(p:Addr)(r:Rat) : Prop:=H p=some (rt r)
def Two (n:Nat)(vs:List V)(H:Hp)(R:Rat->Rat->Prop) : Prop:=∃ (p1 p2:Addr) (r1 r2:Rat),vs = [.ref p1,.ref p2]/\Rt H p1 r1/\Rt H p2 r2/\Rz n r1/\Rz n r2/\R r1 r2
def Nw2 (H:Hp)(Q:VK)(q:Rat) : Prop:=∀ p H',H p=none->aN H H'->H' p=some (rt q)->Q (.ref p) H'
def yC:Sp:=fun vs H Q _=>Two 700 vs H fun r1 r2=>Nw H Q (r1 + r2)
def uX:Sp:=fun vs H Q _=>Two 700 vs H fun r1 r2=>Nw2 H Q (r1 - r2)
def yE (C:Addr) : Sp:=fun vs H Q E=>Two 2000 vs H fun r1 r2=>(r2=0/\E (.ref C) none H)\/(r2 ≠ 0/\Nw H Q (r1 / r2))
theorem cGe {t:Int}(hb:0 < b)(bz:Bz 8000 b)(i:Int) : iL i (M.G t b):=⟨M.G_pos t b,(bz.le (M.G_le (by omega))).log2⟩
theorem num0 (h:r ≠ 0) : r.num ≠ 0:=fun z=>h (Rat.num_eq_zero.mp z)
theorem Rz.neg {n:Nat}(h:Rz n r) : Rz n (-r):=⟨h.zn.neg,h.zd⟩
theorem Rz.plus {m n k:Nat}{s:Rat}(h:Rz m r)(g:Rz n s)(hk:m + n + 1<=k) : Rz k (r + s):=by
 rw [<- M.add_q]
 have d1:=dp r
 have d2:=dp s
 refine z8 (Int.mul_ne_zero (by omega) (by omega)) ?_ ?_
 ·exact ((h.zn.mul g.zd).add' (g.zn.mul h.zd)).mono (by omega)
 ·exact (h.zd.mul g.zd).mono (by omega)
theorem Rz.minus {m n k:Nat}{s:Rat}(h:Rz m r)(g:Rz n s)(hk:m + n + 1<=k) : Rz k (r - s):=by rw [Rat.sub_eq_add_neg]; exact h.plus g.neg hk
theorem Nw.sum {q:Rat}(h:Nw H Q (q + r)) : ∀ p,H p=none->Q (.ref p) (upd H p (.tup [.int ((q.num * ((r.den:Int) / M.G q.den r.den) + r.num * ((q.den:Int) / M.G q.den r.den)) / M.G (q.num * ((r.den:Int) / M.G q.den r.den) + r.num * ((q.den:Int) / M.G q.den r.den)) (M.G q.den r.den)),.int ((q.den:Int) / M.G (q.num * ((r.den:Int) / M.G q.den r.den) + r.num * ((q.den:Int) / M.G q.den r.den)) (M.G q.den r.den) * ((r.den:Int) / M.G q.den r.den))])):=by
 rw [(M.plus_low q r).1,(M.plus_low q r).2]
 exact h
inductive LK:Tr->Str->List Str->List (Str × Int × Int)->Int->Int->Prop
 | stop (t:Tr) (q:Str) : LK t q [q] [] t.wt 1
 | go {w:Int}{y n:Tr}{q:Str}{ps1 ps2:List Str}{us1 us2:List (Str × Int × Int)}{s1 s2 m1 m2:Int} : LK y (q ++ "y") ps1 us1 s1 m1->LK n (q ++ "n") ps2 us2 s2 m2->LK (.fk w y n) q (ps2 ++ ps1) ((q,w - (s1 + s2),m1 + m2 - 1) :: (us2 ++ us1)) (s1 + s2) (m1 + m2)
theorem LK.pi {t:Tr}{q:Str}{ps:List Str}(h:LK t q ps us s m) : PI t q ps (us.map (·.1)):=by
 induction h with
 | stop t q=>exact .stop t q
 | go _ _ h1 h2 =>
  rw [List.map_cons,List.map_append]
  exact .go h1 h2
def cO (ps:List Str)(f:Str) : List Str:=ps.filter fun x=>Txt.startswith x f
theorem qQ (a b:List Str)(f:Str) : cO (a ++ b) f=cO a f ++ cO b f:=List.filter_append _ _
theorem xZ {ps:List Str}(h:∀ x∈ps,bI f <+: bI x) : cO ps f=ps:=List.filter_eq_self.mpr fun x hx=>(bU x f).mpr (h x hx)
theorem nK {ps:List Str}(h:∀ x∈ps,¬ bI f <+: bI x) : cO ps f = []:=by
 rw [List.eq_nil_iff_forall_not_mem]
 intro x hx
 have:=List.mem_filter.mp hx
 exact h x this.1 ((bU x f).mp this.2)
theorem LK.vals (W:Str->Int) {t:Tr}{q:Str}{ps:List Str}(h:LK t q ps us s m) (hW:∀ e∈fP t q,W e.1=e.2.wt) :
  s=(ps.map W).sum/\m=(ps.length:Int)/\∀ u∈us,u.2.1=W u.1 - ((cO ps u.1).map W).sum/\u.2.2=((cO ps u.1).length:Int) - 1/\2<=(cO ps u.1).length:=by
 induction h with
 | stop t q =>
  have e:W q=t.wt:=by
   cases t with
   | en w=>exact hW (q,.en w) List.mem_cons_self
   | fk w y n=>exact hW (q,.fk w y n) List.mem_cons_self
  refine ⟨?_,rfl,fun u hu=>(by cases hu)⟩
  show t.wt=W q + 0
  omega
 | @go w y n q ps1 ps2 us1 us2 s1 s2 m1 m2 g1 g2 h1 h2 =>
  obtain ⟨a1,a2,a3⟩:=h1 fun e he=>hW e (List.mem_cons_of_mem _ (List.mem_append_left _ he))
  obtain ⟨b1,b2,b3⟩:=h2 fun e he=>hW e (List.mem_cons_of_mem _ (List.mem_append_right _ he))
  have wq:W q=w:=hW (q,.fk w y n) List.mem_cons_self
  have p1:=g1.pi.pre
  have p2:=g2.pi.pre
  have l1:1<=ps1.length:=by have:=g1.pi.len.2; omega
  have l2:1<=ps2.length:=by have:=g2.pi.len.2; omega
  have sm:((ps2 ++ ps1).map W).sum=s1 + s2:=by rw [List.map_append,List.sum_append,<- a1,<- b1]; omega
  have ln:((ps2 ++ ps1).length:Int)=m1 + m2:=by rw [List.length_append,a2,b2]; omega
  refine ⟨sm.symm,ln.symm,fun u hu=>?_⟩
  rcases List.mem_cons.mp hu with rfl | hu
  ·have al:cO (ps2 ++ ps1) q=ps2 ++ ps1:=xZ fun x hx=>by
    rcases List.mem_append.mp hx with hx | hx
    ·exact (cE _ _).trans (p2.1 x hx)
    ·exact (cE _ _).trans (p1.1 x hx)
   show w - (s1 + s2)=W q - ((cO (ps2 ++ ps1) q).map W).sum/\m1 + m2 - 1=((cO (ps2 ++ ps1) q).length:Int) - 1/\2<=(cO (ps2 ++ ps1) q).length
   rw [al,sm,ln,wq]
   exact ⟨rfl,rfl,by rw [List.length_append]; omega⟩
  ·rcases List.mem_append.mp hu with hu | hu
   ·have c:=p2.2 u.1 (List.mem_map.mpr ⟨u,hu,rfl⟩)
    have e:cO (ps2 ++ ps1) u.1=cO ps2 u.1:=by rw [qQ,nK (ps:=ps1) fun x hx z=>bW (p1.1 x hx) (c.trans z),List.append_nil]
    rw [e]
    exact b3 u hu
   ·have c:=p1.2 u.1 (List.mem_map.mpr ⟨u,hu,rfl⟩)
    have e:cO (ps2 ++ ps1) u.1=cO ps1 u.1:=by rw [qQ,nK (ps:=ps2) fun x hx z=>bW (c.trans z) (p2.1 x hx),List.nil_append]
    rw [e]
    exact a3 u hu
theorem PI.forks {t:Tr}{q:Str}{ps:List Str}(h:PI t q ps gs) : (∀ g∈gs,(g,Str.ofString "fork")∈dG t q)/\∀ u∈dG t q,u.2=Str.ofString "fork" -> (eM u.1 ps = []↔u.1∈gs):=by
 induction h with
 | stop t q =>
  refine ⟨fun g hg=>(by cases hg),fun u hu _=>?_⟩
  have:eM u.1 [q] = [q]:=List.filter_eq_self.mpr fun x hx=>by
   rw [List.mem_singleton.mp hx]
   exact (bU u.1 q).mpr (fH hu)
  rw [this]
  exact ⟨fun z=>(by cases z),fun z=>(by cases z)⟩
 | @go w y n q ps1 ps2 fs1 fs2 p1 p2 h1 h2 =>
  refine ⟨fun g hg=>?_,fun u hu e=>?_⟩
  ·show (g,Str.ofString "fork")∈(q,Str.ofString "fork") :: (dG y (q ++ "y") ++ dG n (q ++ "n"))
   rcases List.mem_cons.mp hg with rfl | hg
   ·exact List.mem_cons_self
   ·rcases List.mem_append.mp hg with hg | hg
    ·exact List.mem_cons_of_mem _ (List.mem_append_right _ (h2.1 g hg))
    ·exact List.mem_cons_of_mem _ (List.mem_append_left _ (h1.1 g hg))
  ·have hu:u∈(q,Str.ofString "fork") :: (dG y (q ++ "y") ++ dG n (q ++ "n")):=hu
   rw [sF]
   rcases List.mem_cons.mp hu with rfl | hu
   ·refine ⟨fun _=>List.mem_cons_self,fun _=>?_⟩
    show eM q ps2 ++ eM q ps1 = []
    rw [eX (ps:=ps2) fun x hx z=>eE kO.2 (p2.pre.1 x hx) z,eX (ps:=ps1) fun x hx z=>eE kO.1 (p1.pre.1 x hx) z]
    rfl
   ·rcases List.mem_append.mp hu with hu | hu
    ·have pu:=fH hu
     rw [eX (ps:=ps2) fun x hx z=>bW pu ((p2.pre.1 x hx).trans z),List.nil_append,h1.2 u hu e]
     refine ⟨fun z=>List.mem_cons_of_mem _ (List.mem_append_right _ z),fun z=>?_⟩
     rcases List.mem_cons.mp z with z | z
     ·rw [z] at pu
      exact (eE kO.1 pu (List.prefix_refl _)).elim
     ·rcases List.mem_append.mp z with z | z
      ·exact (bW pu (p2.pre.2 _ z)).elim
      ·exact z
    ·have pu:=fH hu
     rw [eX (ps:=ps1) fun x hx z=>bW ((p1.pre.1 x hx).trans z) pu,List.append_nil,h2.2 u hu e]
     refine ⟨fun z=>List.mem_cons_of_mem _ (List.mem_append_left _ z),fun z=>?_⟩
     rcases List.mem_cons.mp z with z | z
     ·rw [z] at pu
      exact (eE kO.2 pu (List.prefix_refl _)).elim
     ·rcases List.mem_append.mp z with z | z
      ·exact z
      ·exact (bW (p1.pre.2 _ z) pu).elim
def insF (t:Tr)(ps:List Str) : List Str:=(plK t "fork").filter fun x=>decide ((eM x ps).length=0)
theorem tN {t:Tr}{ps:List Str}(h:PI t "" ps gs) : (insF t ps).Perm gs:=by
 have f:=h.forks
 have nd:=sY t ""
 refine (List.perm_ext_iff_of_nodup ?_ h.facts.n2).mpr fun x=>?_
 ·refine List.Nodup.sublist List.filter_sublist ?_
  exact List.Nodup.sublist (List.Sublist.map _ List.filter_sublist) nd
 ·unfold insF plK
  rw [List.mem_filter,List.mem_map]
  constructor
  ·rintro ⟨⟨u,hu,rfl⟩,e⟩
   have hu2:=List.mem_filter.mp hu
   exact (f.2 u hu2.1 (of_decide_eq_true hu2.2)).mp (List.length_eq_zero_iff.mp (of_decide_eq_true e))
  ·intro hx
   have m:=f.1 x hx
   refine ⟨⟨_,List.mem_filter.mpr ⟨m,decide_eq_true rfl⟩,rfl⟩,decide_eq_true ?_⟩
   exact List.length_eq_zero_iff.mpr ((f.2 _ m rfl).mpr hx)
theorem gX {B:Int}(hB:0 < B) : Rat.divInt a B - Rat.divInt c B=Rat.divInt (a - c) B:=by
 have hb:(B:Rat) ≠ 0:=fun z=>by
  have:B=0:=by exact_mod_cast z
  omega
 rw [Rat.divInt_eq_div,Rat.divInt_eq_div,Rat.divInt_eq_div,Rat.intCast_sub]
 grind
theorem G_cop (hm:0 < m) : M.G r.num ((r.den:Int) * m)=M.G r.num m:=by
 have d0:=dp r
 have h1:0 < (r.den:Int) * m:=Int.mul_pos d0 hm
 rw [M.G_eq (by omega),M.G_eq (by omega),Int.natAbs_mul]
 have e:((r.den:Int)).natAbs=r.den:=rfl
 rw [e,Nat.Coprime.gcd_mul_left_cancel_right _ r.reduced.symm]
theorem pR (hm:0 < m) : r.num / M.G r.num m=(Rat.divInt r.num ((r.den:Int) * m)).num/\(r.den:Int) * (m / M.G r.num m)=((Rat.divInt r.num ((r.den:Int) * m)).den:Int):=by
 have d0:=dp r
 have h1:0 < (r.den:Int) * m:=Int.mul_pos d0 hm
 rw [<- M.num_low h1,<- M.den_low h1,G_cop hm]
 exact ⟨rfl,(Int.mul_ediv_assoc _ (M.G_dvd r.num m).2).symm⟩
theorem sQ {x B:Int} : Rat.divInt (Rat.divInt x B).num (((Rat.divInt x B).den:Int) * m)=Rat.divInt x (m * B):=by
 have h:∀ r:Rat,Rat.divInt r.num ((r.den:Int) * m)=r * Rat.divInt 1 m:=fun r=>by
  have:=Rat.divInt_mul_divInt r.num 1 (d₁:=(r.den:Int)) (d₂:=m)
  rw [Rat.num_divInt_den,Int.mul_one] at this
  exact this.symm
 rw [h,Rat.divInt_mul_divInt,Int.mul_one,Int.mul_comm]
def wA (t:Tr)(x:Str) : Int:=match t.go (bI x) with
 | some u=>u.wt
 | none=>0
theorem eO {t:Tr} : ∀ e∈fP t "", wA t e.1=e.2.wt:=fun e he=>by
 unfold wA
 rw [qY (t:=t) (w:=e.1) (u:=e.2) he]
theorem vN:∀ {t:Tr}{q:Str},t.B->∀ e∈fP t q,-100000000000000000000000000000000 < e.2.wt/\e.2.wt < 100000000000000000000000000000000
 | .en w,q,h,e,he=>by rw [List.mem_singleton.mp he]; exact h
 | .fk w y n,q,h,e,he=>by
  rcases List.mem_cons.mp he with z | z
  ·rw [z]; exact h.1
  ·rcases List.mem_append.mp z with z | z
   ·exact vN h.2.1 e z
   ·exact vN h.2.2 e z
def pM (K:PySem.W.Frag) : Sp:=fun vs H Q _=>∃ (v:V) (t:Tr) (B:Int) (a:Addr) (ps:List Str),vs = [v,.ref a]/\TV K H v (eF B t)/\t.lv<=30/\H a=some (.lst (ps.map V.str))/\ps.length < 64/\∀ H' p rs,aN H H'->H p=none->H' p=some (.lst (rs.map V.str))->rs.Perm (insF t ps)->PyProof.Rows.sortedS rs=true->Q (.ref p) H'
def sL:Sp:=fun vs H Q _=>∃ (a:Addr) (r:Rat) (m:Int),vs = [.ref a,.int m]/\H a=some (rt r)/\0 < m/\m<=100/\Rz 700 r/\Nw H Q (Rat.divInt r.num ((r.den:Int) * m))
def uY (K:PySem.W.Frag) : Sp:=fun vs H Q _=>∃ (v:V) (t:Tr) (B:Int) (a:Addr) (ps:List Str) (f:Str),vs = [v,.ref a,.str f]/\TV K H v (eF B t)/\t.lv<=30/\H a=some (.lst (ps.map V.str))/\ps.length < 64/\(∀ x∈ps,x∈(dG t "").map (·.1))/\f∈(dG t "").map (·.1)/\0 < B/\Bz 128 B/\t.B/\2<=(cO ps f).length /\
 ∀ H' p,aN H H'->H' p=some (rt (Rat.divInt (wA t f - ((cO ps f).map (wA t)).sum) ((((cO ps f).length:Int) - 1) * B)))->Q (.ref p) H'
theorem k7:∀ {a:Str}{l:List Str},(a :: l).Pairwise (fun a b=>bI a<=bI b)->PyProof.Rows.risingS a l=true
 | _,[],_=>rfl
 | a,b :: l,h=>by
  have h2:=List.pairwise_cons.mp h
  show (!PySem.Spec.ltCps b.cps.toList a.cps.toList && PyProof.Rows.risingS b l)=true
  rw [k7 h2.2,Bool.and_true,Bool.not_eq_true',PyProof.Rows.ltCps_eq,decide_eq_false_iff_not]
  exact List.not_lt.mpr (h2.1 b List.mem_cons_self)
theorem mH {p:Str->Bool}(h:l.Pairwise (fun a b=>bI a<=bI b)) : PyProof.Rows.sortedS (l.filter p)=true:=by
 have h:=List.Pairwise.sublist (List.filter_sublist (p:=p)) h
 generalize l.filter p=m at h
 cases m with
 | nil=>rfl
 | cons a l=>exact k7 h
theorem _root_.L2.TV.hw {B:Int}(hB:0 < B)(h:TV K H v (eF B u)) : ∃ p k c r,v = .ref p/\H p=some (.tup (.str k :: .ref c :: r))/\H c=some (rt (Rat.divInt u.wt B)):=by
 cases u with
 | en w=>obtain ⟨p,c,rfl,hp,hc⟩:=TV.hen h; obtain ⟨c2,rfl,hc2⟩:=TV.rD hB hc; exact ⟨p,_,c2,_,rfl,hp,hc2⟩
 | fk w y n=>obtain ⟨p,c,a,b,rfl,hp,hc,_,_⟩:=TV.hfk h; obtain ⟨c2,rfl,hc2⟩:=TV.rD hB hc; exact ⟨p,_,c2,_,rfl,hp,hc2⟩
theorem rW {B:Int}(hB:0 < B) {d:Addr}{t:Tr}(hd:H d=some (.dK kvs)) (dt:DT K B H kvs es) (pm:es.Perm (fP t "")) {x:Str}(hx:x∈(dG t "").map (·.1)) :
  ∃ p k c r,gH H d (.str x) (some (.ref p))/\H p=some (.tup (.str k :: .ref c :: r))/\H c=some (rt (Rat.divInt (wA t x) B)):=by
 have nd:(es.map (·.1)).Nodup:=(pm.map (·.1)).nodup_iff.mpr (d6 t "")
 rw [dN,List.map_map] at hx
 obtain ⟨⟨x',u⟩,he,ex⟩:=List.mem_map.mp hx
 obtain rfl:x'=x:=ex
 obtain ⟨v,ev,tv⟩:=dt.val nd (pm.mem_iff.mpr he)
 obtain ⟨p,k,c,r,rfl,hp,hc⟩:=tv.hw hB
 have g:gH H d (.str x') (fR kvs (.inr x')):=gH.k (k:=.inr x') hd
 rw [ev] at g
 exact ⟨p,k,c,r,g,hp,by rw [eO _ he]; exact hc⟩
theorem uB {k:Str}{c:Addr}{r:List V} : gP (V.str k :: V.ref c :: r) 1=some (.ref c):=by
 have e:gP (V.str k :: V.ref c :: r) ((1:Nat) : Int)=some (.ref c):=cX rfl
 exact e
theorem iM {t:Tr}{x:Str}(h:t.B)(hx:x∈(dG t "").map (·.1)) : -100000000000000000000000000000000 < wA t x/\wA t x < 100000000000000000000000000000000:=by
 rw [dN,List.map_map] at hx
 obtain ⟨e,he,rfl⟩:=List.mem_map.mp hx
 have:=vN h e he
 show -100000000000000000000000000000000 < wA t e.1/\wA t e.1 < 100000000000000000000000000000000
 rw [eO e he]
 exact this
theorem lZ {W:Str->Int} : ∀ {l:List Str},(∀ x∈l,-100000000000000000000000000000000 < W x/\W x < 100000000000000000000000000000000) -> -(l.length:Int) * 100000000000000000000000000000000<=(l.map W).sum/\(l.map W).sum<=(l.length:Int) * 100000000000000000000000000000000
 | [],_=>⟨Int.le_refl _,Int.le_refl _⟩
 | x :: l,h=>by
  have h1:=h x List.mem_cons_self
  have h2:=lZ fun y hy=>h y (List.mem_cons_of_mem x hy)
  rw [List.map_cons,List.sum_cons,List.length_cons]
  omega
theorem lR {x:Int}(h1 : -10000000000000000000000000000000000<=x)(h2:x<=10000000000000000000000000000000000) : Bz 128 x:=Bz.w (by omega) (by omega)
theorem pW:∀ {t:Tr}{q:Str}{u:Str × Str},(∀ c∈bI q,c=121\/c=110)->u∈dG t q->∀ c∈bI u.1,c=121\/c=110
 | .en _,q,u,a,h=>by rw [List.mem_singleton.mp h]; exact a
 | .fk w y n,q,u,a,h=>by
  have h:u∈(q,("fork" : Str)) :: (dG y (q ++ "y") ++ dG n (q ++ "n")):=h
  have ap:∀ (s:Str) (k:Nat),bI s = [k]->(k=121\/k=110)->∀ c∈bI (q ++ s),c=121\/c=110:=fun s k e hk c hc=>by
   rw [bT,e] at hc
   rcases List.mem_append.mp hc with z | z
   ·exact a c z
   ·rw [List.mem_singleton.mp z]; exact hk
  rcases List.mem_cons.mp h with rfl | h
  ·exact a
  ·rcases List.mem_append.mp h with h | h
   ·exact pW (ap "y" 121 i4.1 (.inl rfl)) h
   ·exact pW (ap "n" 110 i4.2 (.inr rfl)) h
theorem pl_yn {t:Tr}{x:Str}(h:x∈(dG t "").map (·.1)) : ∀ c∈bI x,c=121\/c=110:=by
 obtain ⟨u,hu,rfl⟩:=List.mem_map.mp h
 exact pW (fun c hc=>by cases hc) hu
theorem uM:∀ (t:Tr) (q:Str),∃ u∈dG t q,u.2=Str.ofString "end"
 | .en _,q=>⟨_,List.mem_singleton.mpr rfl,rfl⟩
 | .fk w y n,q=>by
  obtain ⟨u,hu,e⟩:=uM y (q ++ "y")
  exact ⟨u,List.mem_cons_of_mem _ (List.mem_append_left _ hu),e⟩
theorem PI.end' {t:Tr}{q:Str}{ps:List Str}(h:PI t q ps gs) : ∀ x∈ps,∃ u∈dG t q,u.2=Str.ofString "end" /\ bI x <+: bI u.1:=by
 induction h with
 | stop t q =>
  intro x hx
  rw [List.mem_singleton.mp hx]
  obtain ⟨u,hu,e⟩:=uM t q
  exact ⟨u,hu,e,fH hu⟩
 | @go w y n q ps1 ps2 fs1 fs2 p1 p2 h1 h2 =>
  intro x hx
  rcases List.mem_append.mp hx with hx | hx
  ·obtain ⟨u,hu,e⟩:=h2 x hx
   exact ⟨u,List.mem_cons_of_mem _ (List.mem_append_right _ hu),e⟩
  ·obtain ⟨u,hu,e⟩:=h1 x hx
   exact ⟨u,List.mem_cons_of_mem _ (List.mem_append_left _ hu),e⟩
theorem atV {l:List V}{i:Int}(h0:0<=i)(h1:i < (l.length:Int)) : gP l i=some (l.getD i.toNat .non):=by
 have e:gP l ((i.toNat:Nat) : Int)=some (l.getD i.toNat .non):=cX (by rw [List.getElem?_eq_getElem (show i.toNat < l.length by omega),List.getD_eq_getElem?_getD,List.getElem?_eq_getElem (show i.toNat < l.length by omega)]; rfl)
 rw [show ((i.toNat:Nat) : Int)=i by omega] at e
 exact e
def pJ:Sp:=fun vs H Q _=>∃ (a b:Addr) (t1 b1 t2 b2:Int),vs = [.ref a,.ref b]/\H a=some (.tup [.int t1,.int b1])/\H b=some (.tup [.int t2,.int b2])/\Bz 8000 t1/\Bz 8000 b1/\Bz 8000 t2/\Bz 8000 b2/\Q (.bl (decide (t1 * b2 < t2 * b1))) H
def yA:Sp:=fun vs H Q _=>∃ (a b:Addr) (t1 b1 t2 b2:Int),vs = [.ref a,.ref b]/\H a=some (.tup [.int t1,.int b1])/\H b=some (.tup [.int t2,.int b2])/\Bz 8000 t1/\Bz 8000 b1/\Bz 8000 t2/\Bz 8000 b2/\∀ p,H p=none->Q (.ref p) (upd H p (.tup [.int (t1 * b2 + t2 * b1),.int (b1 * b2)]))
def jO:Sp:=fun vs H Q _=>∃ (a:Addr) (t b:Int),vs = [.ref a]/\H a=some (.tup [.int t,.int b])/\0<=t/\Bz 8000 t/\Bz 8000 b/\∀ H',aN H H'->Q .non H'
theorem cY.y {q:Str}{a1 a2 b1 b2:List Str}(h:cY (a2 ++ a1) (b2 ++ b1))(h2:∀ x∈a2,bI (q ++ "n") <+: bI x)(k1:∀ x∈b1,bI (q ++ "y") <+: bI x) : cY a1 b1:=fun x hx=>by
 obtain ⟨o,ho,p⟩:=h x (List.mem_append_right _ hx)
 rcases List.mem_append.mp ho with z | z
 ·exact absurd (bW (k1 x hx) ((h2 o z).trans p)) id
 ·exact ⟨o,z,p⟩
theorem cY.n {q:Str}{a1 a2 b1 b2:List Str}(h:cY (a2 ++ a1) (b2 ++ b1))(h1:∀ x∈a1,bI (q ++ "y") <+: bI x)(k2:∀ x∈b2,bI (q ++ "n") <+: bI x) : cY a2 b2:=fun x hx=>by
 obtain ⟨o,ho,p⟩:=h x (List.mem_append_left _ hx)
 rcases List.mem_append.mp ho with z | z
 ·exact ⟨o,z,p⟩
 ·exact absurd (bW ((h1 o z).trans p) (k2 x hx)) id
def Tr.ct:Tr->Nat
 | .en _=>1
 | .fk _ y n=>1 + y.ct * n.ct
def CQ.ct:CQ->Nat
 | .en _=>1
 | .fk _ y n=>1 + y.ct * n.ct
def Tr.hd (b:Int) : Tr->CQ
 | .en w=>.en (Rat.divInt w b)
 | .fk w y n=>.fk (Rat.divInt w b) (y.hd b) (n.hd b)
theorem mO:∀ a b:Tr,SeqAt.noMix (cU a) (cU b)=true
 | .en x,.en y=>by simp [cU,SeqAt.noMix,SeqAt.noMixAll]
 | .en x,.fk y u v=>by simp [cU,SeqAt.noMix,SeqAt.noMixAll]
 | .fk y u v,.en x=>by simp [cU,SeqAt.noMix,SeqAt.noMixAll]
 | .fk x u v,.fk y s t=>by
  rw [cU,cU]
  simp [SeqAt.noMix,SeqAt.noMixAll,mO u s,mO v t]
theorem lX:∀ {a b:Tr},cU a=cU b->a=b
 | .en x,.en y,h=>by
  unfold cU at h
  injection h with h
  injection h with _ h
  injection h with h _
  injection h with h
  rw [h]
 | .en x,.fk y u v,h=>by
  unfold cU at h
  injection h with h
  injection h with _ h
  injection h with _ h
  cases h
 | .fk y u v,.en x,h=>by
  unfold cU at h
  injection h with h
  injection h with _ h
  injection h with _ h
  cases h
 | .fk x u v,.fk y s t,h=>by
  rw [cU,cU] at h
  injection h with h
  injection h with _ h
  injection h with h1 h
  injection h with h2 h
  injection h with h3 _
  injection h1 with h1
  rw [h1,lX h2,lX h3]
theorem qR (a b:Tr) : PyData.eqv (cU a) (cU b)=true↔a=b:=by
 rw [<- SeqAt.same_eq_eqv _ _ (mO a b),PyProof.Rows.same_iff]
 exact ⟨lX,fun z=>by rw [z]⟩
theorem qV:∀ t:Tr,Shp (t.dp + 1) (cU t)
 | .en w=>.tup fun d hd=>by
  rcases hd with _ | ⟨_,_ | ⟨_,hd⟩⟩
  ·exact .str _ (by decide +kernel)
  ·exact .int _ _
  ·cases hd
 | .fk w y n=>by
  have hy:=qV y
  have hn:=qV n
  refine Shp.tup (n:=max y.dp n.dp + 1) fun d hd=>?_
  rcases hd with _ | ⟨_,_ | ⟨_,_ | ⟨_,_ | ⟨_,hd⟩⟩⟩⟩
  ·exact .str _ (by decide +kernel)
  ·exact .int _ _
  ·exact hy.mono (by omega)
  ·exact hn.mono (by omega)
  ·cases hd
theorem xJ {a b:Str}(h:bI a=bI b) : a=b:=by
 rcases a with ⟨⟨a⟩⟩
 rcases b with ⟨⟨b⟩⟩
 have h:a=b:=h
 rw [h]
theorem uR (a b c:Str) : a ++ b ++ c=a ++ (b ++ c):=xJ (by rw [bT,bT,bT,bT,List.append_assoc])
theorem uQ (a:Str) : a ++ ("" : Str)=a:=xJ (by rw [bT]; show bI a ++ [] = bI a; rw [List.append_nil])
theorem mB (a:Str) : ("" : Str) ++ a=a:=xJ (by rw [bT]; rfl)
theorem gN (b c:Int) : ∀ (t:Tr) (q:Str),bM b c t q=((bM b c t "").1.map fun x=>q ++ x,(bM b c t "").2)
 | .en w,q=>by unfold bM; rw [List.map_cons,List.map_nil,uQ]
 | .fk w y n,q=>by
  have e1:=gN b c y (q ++ "y")
  have e2:=gN b c n (q ++ "n")
  have f1:=gN b c y (("" : Str) ++ "y")
  have f2:=gN b c n (("" : Str) ++ "n")
  unfold bM
  rw [e1,e2,f1,f2]
  simp only [List.length_map]
  split
  ·simp only [List.map_append,List.map_map]
   congr 1
   congr 1
   ·refine List.map_congr_left fun x _=>?_
    show q ++ "n" ++ x=q ++ (("" : Str) ++ "n" ++ x)
    rw [mB,uR]
   ·refine List.map_congr_left fun x _=>?_
    show q ++ "y" ++ x=q ++ (("" : Str) ++ "y" ++ x)
    rw [mB,uR]
  ·simp only [List.map_cons,List.map_nil]
   rw [uQ]
theorem sG (b c w:Int)(y n:Tr) : bM b c (.fk w y n) "" = if ((bM b c y "").2 + (bM b c n "").2) * b + c * ((bM b c n "").1.length + (bM b c y "").1.length - 1) < w * b then ((bM b c n "").1.map (fun x=>("n" : Str) ++ x) ++ (bM b c y "").1.map (fun x=>("y" : Str) ++ x),(bM b c y "").2 + (bM b c n "").2) else ([""],w):=by
 have f1:=gN b c y (("" : Str) ++ "y")
 have f2:=gN b c n (("" : Str) ++ "n")
 conv=>lhs; unfold bM
 rw [f1,f2,mB,mB]
 simp only [List.length_map]
theorem fJ {t:Int}(hb:0 < b) : (Rat.divInt t b).num * b=t * ((Rat.divInt t b).den:Int):=by
 rw [<- M.num_low hb,<- M.den_low hb]
 obtain ⟨⟨x,hx⟩,⟨y,hy⟩⟩:=M.G_dvd t b
 have p:=M.G_pos t b
 generalize M.G t b=g at *
 subst hx
 subst hy
 rw [Int.mul_ediv_cancel_left _ (by omega),Int.mul_ediv_cancel_left _ (by omega)]
 grind
theorem lI {k:Nat}{t:Int}(hb:0 < b)(h:Bz k t) : Bz k (Rat.divInt t b).num:=by
 rw [<- M.num_low hb]
 exact h.ediv (by have:=M.G_pos t b; omega)
theorem rJ {k:Nat}{t:Int}(hb:0 < b)(h:Bz k b) : Bz k ((Rat.divInt t b).den:Int):=by
 rw [<- M.den_low hb]
 exact h.ediv (by have:=M.G_pos t b; omega)
theorem gA {t:Int} : 0 < ((Rat.divInt t b).den:Int):=by have:=(Rat.divInt t b).den_pos; omega
theorem low_0 {t:Int}(hb:0 < b)(h:0<=t) : 0<=(Rat.divInt t b).num:=by
 rw [<- M.num_low hb]
 exact Int.ediv_nonneg h (by have:=M.G_pos t b; omega)
theorem oW {t1 b1 t2 b2 s2:Int}(h1:t1 * b=s1 * b1)(h2:t2 * b=s2 * b2) : (t1 * b2 + t2 * b1) * b=(s1 + s2) * (b1 * b2):=by grind
theorem cost_lt {ct cb pn pd wn wd low top w l:Int}(h1:ct * b=s * cb) (h2:pn * low=top * pd) (h3:wn * b=w * wd) (c0:0 < cb) (p0:0 < pd) (w0:0 < wd) (b0:0 < b) (l0:0 < low) :
  ((ct * pd + pn * (l - 1) * cb) * wd < wn * (cb * pd))↔(s * low + top * b * (l - 1) < w * low):=by
 have g1:0 < b * low:=Int.mul_pos b0 l0
 have g2:0 < cb * pd * wd:=Int.mul_pos (Int.mul_pos c0 p0) w0
 have e1:(ct * pd + pn * (l - 1) * cb) * wd * (b * low)=(s * low + top * b * (l - 1)) * (cb * pd * wd):=by grind
 have e2:wn * (cb * pd) * (b * low)=(w * low) * (cb * pd * wd):=by grind
 rw [<- Int.mul_lt_mul_right g1,e1,e2,Int.mul_lt_mul_right g2]
theorem kH (b c:Int)(t:Tr)(q:Str) : (bM b c t q).1.length<=t.lv:=by
 obtain ⟨gs,h⟩:=(nA b c t q).pi
 exact h.len.1
theorem jJ (b c:Int) : ∀ t:Tr,∀ x∈(bM b c t "").1,x.length<=t.dp
 | .en w,x,hx=>by
  have hx:x∈[("" : Str)]:=hx
  rw [List.mem_singleton.mp hx]
  show ("" : Str).length<=0
  exact Nat.le_of_eq (by decide +kernel)
 | .fk w y n,x,hx=>by
  rw [sG] at hx
  show _<=max y.dp n.dp + 1
  have e1:("y" : Str).length=1:=by decide +kernel
  have e2:("n" : Str).length=1:=by decide +kernel
  have e3:("" : Str).length=0:=by decide +kernel
  split at hx
  ·rcases List.mem_append.mp hx with z | z
   ·obtain ⟨u,hu,rfl⟩:=List.mem_map.mp z
    have:=jJ b c n u hu
    rw [cQ]
    omega
   ·obtain ⟨u,hu,rfl⟩:=List.mem_map.mp z
    have:=jJ b c y u hu
    rw [cQ]
    omega
  ·rw [List.mem_singleton.mp hx]
   omega
structure Pr29 (top low b:Int) : Prop where
 t0:0<=top
 t1:top < 1000000000000000000000000000000
 l0:1<=low
 l1:low<=1000000000000000000000000000000
 b0:1<=b
 b1:b<=1000000000000000000000000000000
theorem gF {x:Int}(h1 : -100000000000000000000000000000000 < x)(h2:x < 100000000000000000000000000000000) : Bz 109 x:=by
 show x.natAbs < 649037107316853453566312041152512
 omega
theorem Tr.B.w:∀ {t:Tr},t.B->wB t.w
 | .en _,h=>h
 | .fk _ _ _,h=>h.1
structure Cost29 (low c b:Int) (t:Tr) (ct cb:Int) : Prop where
 e:ct * b=(bM low c t "").2 * cb
 p:0 < cb
 zt:Bz (110 * t.lv) ct
 zb:Bz (109 * t.lv) cb
def jN (K:PySem.W.Frag)(d:Nat) : Sp:=fun vs H Q _=>∃ (v:V) (t:Tr) (a:Addr) (top low b:Int),vs = [v,.ref a]/\CV K H v (t.hd b)/\t.dp<=d/\t.lv<=21/\t.B/\Pr29 top low b/\H a=some (rt (Rat.divInt top low)) /\
 ∀ H' p l r ct cb,aN H H'->H' p=some (.tup [.ref l,.ref r])->H' l=some (.lst ((bM low (top * b) t "").1.map V.str))->H' r=some (.tup [.int ct,.int cb])->Cost29 low (top * b) b t ct cb->Q (.ref p) H'
theorem Cost29.stop {low:Int}{t:Tr}(b0:1<=b)(b1:b<=1000000000000000000000000000000)(h:t.B)(e:(bM low c t "").2=t.w) : Cost29 low c b t (Rat.divInt t.w b).num ((Rat.divInt t.w b).den:Int):=by
 have l:=t.lv_pos
 have w:=h.w
 refine ⟨by rw [e]; exact fJ (by omega),gA,(lI (by omega) (gF w.1 w.2)).mono (by omega),(rJ (by omega) (gF (by omega) (by omega))).mono (by omega)⟩
theorem Cost29.go {low c b w:Int}{y n:Tr}{t1 b1 t2 b2:Int}(h1:Cost29 low c b y t1 b1)(h2:Cost29 low c b n t2 b2)(e:(bM low c (.fk w y n) "").2=(bM low c y "").2 + (bM low c n "").2) : Cost29 low c b (.fk w y n) (t1 * b2 + t2 * b1) (b1 * b2):=by
 have l1:=y.lv_pos
 have l2:=n.lv_pos
 refine ⟨by rw [e]; exact oW h1.e h2.e,Int.mul_pos h1.p h2.p,?_,?_⟩
 ·exact ((h1.zt.mul h2.zb).add' (h2.zt.mul h1.zb)).mono (by show _<=110 * (y.lv + n.lv); omega)
 ·exact (h1.zb.mul h2.zb).mono (by show _<=109 * (y.lv + n.lv); omega)
def pP (K:PySem.W.Frag) : Sp:=fun vs H Q _=>∃ (v:V) (t:Tr) (a:Addr) (top low b:Int),vs = [v,.ref a]/\CV K H v (t.hd b)/\t.dp<=20/\t.lv<=21/\t.B/\Pr29 top low b/\H a=some (rt (Rat.divInt top low)) /\
 ∀ H' l,aN H H'->H' l=some (.lst ((bM low (top * b) t "").1.map V.str))->Q (.ref l) H'
inductive PVs (H:Hp) : List V->List (List Str × Int)->Prop
 | nil:PVs H [] []
 | cons {p l:Addr}{ps:List Str}{s:Int}{xs:List V}{rs:List (List Str × Int)} : H p=some (.tup [.ref l,.int s])->H l=some (.lst (ps.map V.str))->PVs H xs rs->PVs H (.ref p :: xs) ((ps,s) :: rs)
def tot (top low b:Int)(r:List Str × Int) : Int:=r.2 * low + top * (r.1.length:Int) * b
inductive LVs (H:Hp) : List V->List (List Str)->Prop
 | nil:LVs H [] []
 | cons {l:Addr}{ps:List Str}{xs:List V}{rs:List (List Str)} : H l=some (.lst (ps.map V.str))->LVs H xs rs->LVs H (.ref l :: xs) (ps :: rs)
theorem PS.wd {t:Tr}{q:Str}{ps:List Str}(h:PS t q ps s) : ∀ x∈ps,x.length<=q.length + t.dp:=by
 induction h with
 | stop t q=>intro x hx; rw [List.mem_singleton.mp hx]; omega
 | @go w y n q ps1 ps2 s1 s2 _ _ i1 i2 =>
  intro x hx
  have e1:("y" : Str).length=1:=by decide +kernel
  have e2:("n" : Str).length=1:=by decide +kernel
  show _<=q.length + (max y.dp n.dp + 1)
  rcases List.mem_append.mp hx with z | z
  ·have:=i2 x z
   rw [cQ] at this
   omega
  ·have:=i1 x z
   rw [cQ] at this
   omega
theorem Tr.wt_w (t:Tr) : t.wt=t.w:=by cases t <;> rfl
theorem PI.lk {t:Tr}{q:Str}{ps:List Str}(h:PI t q ps gs) : ∃ us s m,LK t q ps us s m/\us.map (·.1)=gs:=by
 induction h with
 | stop t q=>exact ⟨_,_,_,.stop t q,rfl⟩
 | go _ _ h1 h2 =>
  obtain ⟨u1,s1,m1,l1,e1⟩:=h1
  obtain ⟨u2,s2,m2,l2,e2⟩:=h2
  exact ⟨_,_,_,.go l1 l2,by rw [List.map_cons,List.map_append,e1,e2]⟩
theorem LK.one {t:Tr}{q:Str}{ps:List Str}{us:List (Str × Int × Int)}{s m:Int}(h:LK t q ps us s m) : 1<=m/\m=(ps.length:Int)/\(∀ u∈us,1<=u.2.2)/\(us ≠ []->2<=m):=by
 induction h with
 | stop t q=>exact ⟨Int.le_refl _,rfl,fun u hu=>(by cases hu),fun z=>absurd rfl z⟩
 | @go w y n q ps1 ps2 us1 us2 s1 s2 m1 m2 _ _ h1 h2 =>
  refine ⟨by omega,by rw [List.length_append]; omega,fun u hu=>?_,fun _=>by omega⟩
  rcases List.mem_cons.mp hu with rfl | hu
  ·show 1<=m1 + m2 - 1
   omega
  ·rcases List.mem_append.mp hu with hu | hu
   ·exact h2.2.2.1 u hu
   ·exact h1.2.2.1 u hu
theorem nB (hb:0 < b) : ∀ (t:Tr) (q:Str),∃ us m,LK t q (bM b 0 t q).1 us (bM b 0 t q).2 m/\∀ u∈us,0 < u.2.1
 | .en w,q=>⟨[],1,.stop (.en w) q,fun u hu=>(by cases hu)⟩
 | .fk w y n,q=>by
  obtain ⟨u1,m1,l1,p1⟩:=nB hb y (q ++ "y")
  obtain ⟨u2,m2,l2,p2⟩:=nB hb n (q ++ "n")
  unfold bM
  split
  ·rename_i c
   rw [Int.zero_mul,Int.add_zero,Int.mul_lt_mul_right hb] at c
   refine ⟨_,_,.go l1 l2,fun u hu=>?_⟩
   rcases List.mem_cons.mp hu with rfl | hu
   ·show 0 < w - _
    omega
   ·rcases List.mem_append.mp hu with hu | hu
    ·exact p2 u hu
    ·exact p1 u hu
  ·exact ⟨[],1,.stop (.fk w y n) q,fun u hu=>(by cases hu)⟩
def Cutc (a b:Int)(c:Str->Bool)(us:List (Str × Int × Int)) : Prop:=∀ u∈us,(c u.1=true->u.2.1 * b=a * u.2.2)/\(c u.1=false->a * u.2.2 < u.2.1 * b)
structure Cutf (F:List Str) (c:Str->Bool) (q:Str) (us:List (Str × Int × Int)) : Prop where
 nd:F.Nodup
 me:∀ x,(x∈F/\bI q <+: bI x)↔∃ u∈us,u.1=x/\c x=true
 up:∀ x∈F,bI x <+: bI q->x=q
structure Cuts (t:Tr) (q:Str) (a b:Int) (c:Str->Bool) (F ps:List Str) (us:List (Str × Int × Int)) (s m:Int) (ps':List Str) (us':List (Str × Int × Int)) (s' m':Int) : Prop where
 lk:LK t q ps' us' s' m'
 tot:s' * b + a * m'=s * b + a * m
 gt:∀ u∈us',a * u.2.2 < u.2.1 * b
 le:m'<=m
 lt:(∃ u∈us,c u.1=true)->m' < m
 ls:cY ps' ps
 sub:∀ u∈us',∃ v∈us,v.1=u.1
 me:∀ x,x∈ps'↔(x∈ps/\eM x F = [])\/(x∈F/\bI q <+: bI x/\(eM x F).length=1)
theorem vY {x y:Str}(hx:x∈l)(hy:y∈l)(h:l.length=1) : x=y:=by
 obtain ⟨z,rfl⟩:=List.length_eq_one_iff.mp h
 rw [List.mem_singleton.mp hx,List.mem_singleton.mp hy]
theorem n8 {x:Str}(nd:l.Nodup)(hx:x∈l)(h:∀ y∈l,y=x) : l.length=1:=by
 cases l with
 | nil=>cases hx
 | cons a l =>
  cases l with
  | nil=>rfl
  | cons b l =>
   have h1:=h a List.mem_cons_self
   have h2:=h b (List.mem_cons_of_mem _ List.mem_cons_self)
   rw [h1,h2,List.nodup_cons] at nd
   exact absurd List.mem_cons_self nd.1
theorem vJ {q x:Str}{s:Str}(hs:s.length=1)(h:bI x <+: bI (q ++ s))(hx:x ≠ q ++ s) : bI x <+: bI q:=by
 by_cases c:(q ++ s).length<=x.length
 ·exact absurd (vK h c) hx
 ·refine List.prefix_of_prefix_length_le h (cE q s) ?_
  rw [cQ] at c
  rw [c9,c9]
  omega
theorem Cutf.y {c:Str->Bool}{q:Str}{us1 us2:List (Str × Int × Int)}{l:Int × Int}(h:Cutf F c q ((q,l) :: (us2 ++ us1)))(hq:c q=false)(p1:∀ u∈us1,bI (q ++ "y") <+: bI u.1)(p2:∀ u∈us2,bI (q ++ "n") <+: bI u.1) : Cutf F c (q ++ "y") us1:=by
 refine ⟨h.nd,fun x=>⟨fun hx=>?_,fun hx=>?_⟩,fun x hx px=>?_⟩
 ·obtain ⟨u,hu,e,cx⟩:=(h.me x).mp ⟨hx.1,(cE _ _).trans hx.2⟩
  rcases List.mem_cons.mp hu with rfl | hu
  ·obtain rfl:q=x:=e
   rw [hq] at cx
   cases cx
  ·rcases List.mem_append.mp hu with hu | hu
   ·exact (bW hx.2 (e ▸ p2 u hu)).elim
   ·exact ⟨u,hu,e,cx⟩
 ·obtain ⟨u,hu,e,cx⟩:=hx
  exact ⟨((h.me x).mpr ⟨u,List.mem_cons_of_mem _ (List.mem_append_right _ hu),e,cx⟩).1,e ▸ p1 u hu⟩
 ·by_cases e:x=q ++ "y"
  ·exact e
  ·exfalso
   have e2:=h.up x hx (vJ kO.1 px e)
   subst e2
   obtain ⟨u,hu,e3,cx⟩:=(h.me x).mp ⟨hx,List.prefix_refl _⟩
   rw [hq] at cx
   cases cx
theorem Cutf.n {c:Str->Bool}{q:Str}{us1 us2:List (Str × Int × Int)}{l:Int × Int}(h:Cutf F c q ((q,l) :: (us2 ++ us1)))(hq:c q=false)(p1:∀ u∈us1,bI (q ++ "y") <+: bI u.1)(p2:∀ u∈us2,bI (q ++ "n") <+: bI u.1) : Cutf F c (q ++ "n") us2:=by
 refine ⟨h.nd,fun x=>⟨fun hx=>?_,fun hx=>?_⟩,fun x hx px=>?_⟩
 ·obtain ⟨u,hu,e,cx⟩:=(h.me x).mp ⟨hx.1,(cE _ _).trans hx.2⟩
  rcases List.mem_cons.mp hu with rfl | hu
  ·obtain rfl:q=x:=e
   rw [hq] at cx
   cases cx
  ·rcases List.mem_append.mp hu with hu | hu
   ·exact ⟨u,hu,e,cx⟩
   ·exact (bW (e ▸ p1 u hu) hx.2).elim
 ·obtain ⟨u,hu,e,cx⟩:=hx
  exact ⟨((h.me x).mpr ⟨u,List.mem_cons_of_mem _ (List.mem_append_left _ hu),e,cx⟩).1,e ▸ p2 u hu⟩
 ·by_cases e:x=q ++ "n"
  ·exact e
  ·exfalso
   have e2:=h.up x hx (vJ kO.2 px e)
   subst e2
   obtain ⟨u,hu,e3,cx⟩:=(h.me x).mp ⟨hx,List.prefix_refl _⟩
   rw [hq] at cx
   cases cx
theorem LK.cutc {c:Str->Bool}{t:Tr}{q:Str}{ps:List Str}(h:LK t q ps us s m)(hc:Cutc a b c us)(hF:Cutf F c q us) : ∃ ps' us' s' m',Cuts t q a b c F ps us s m ps' us' s' m':=by
 induction h with
 | stop t q =>
  refine ⟨[q],[],t.wt,1,.stop t q,rfl,fun u hu=>(by cases hu),Int.le_refl _,fun ⟨u,hu,_⟩=>(by cases hu),cY.refl _,fun u hu=>(by cases hu),fun x=>?_⟩
  have no:∀ x∈F,¬ bI q <+: bI x:=fun x hx z=>by
   obtain ⟨u,hu,_⟩:=(hF.me x).mp ⟨hx,z⟩
   cases hu
  have eb:eM q F = []:=by
   rw [List.eq_nil_iff_forall_not_mem]
   intro y hy
   obtain ⟨y1,y2⟩:=dO.mp hy
   have e:=hF.up y y1 y2
   rw [e] at y1
   exact no q y1 (List.prefix_refl _)
  constructor
  ·intro hx
   rw [List.mem_singleton.mp hx]
   exact .inl ⟨List.mem_singleton.mpr rfl,eb⟩
  ·rintro (hx | ⟨h1,h2,_⟩)
   ·exact hx.1
   ·exact (no x h1 h2).elim
 | @go w y n q ps1 ps2 us1 us2 s1 s2 m1 m2 g1 g2 h1 h2 =>
  have p1:=g1.pi.pre
  have p2:=g2.pi.pre
  have f1:∀ u∈us1,bI (q ++ "y") <+: bI u.1:=fun u hu=>p1.2 u.1 (List.mem_map.mpr ⟨u,hu,rfl⟩)
  have f2:∀ u∈us2,bI (q ++ "n") <+: bI u.1:=fun u hu=>p2.2 u.1 (List.mem_map.mpr ⟨u,hu,rfl⟩)
  have o1:=g1.one.1
  have o2:=g2.one.1
  have c0:=hc (q,w - (s1 + s2),m1 + m2 - 1) List.mem_cons_self
  cases e:c q with
  | true =>
   have c1:(w - (s1 + s2)) * b=a * (m1 + m2 - 1):=c0.1 e
   have qF:q∈F:=((hF.me q).mpr ⟨_,List.mem_cons_self,rfl,e⟩).1
   refine ⟨[q],[],w,1,.stop (.fk w y n) q,?_,fun u hu=>(by cases hu),by omega,fun _=>by omega,?_,fun u hu=>(by cases hu),fun x=>?_⟩
   ·rw [Int.sub_mul,Int.mul_sub,Int.mul_one] at c1
    rw [Int.mul_one]
    omega
   ·intro x hx
    refine ⟨q,List.mem_singleton.mpr rfl,?_⟩
    rcases List.mem_append.mp hx with hx | hx
    ·exact (cE _ _).trans (p2.1 x hx)
    ·exact (cE _ _).trans (p1.1 x hx)
   ·constructor
    ·intro hx
     rw [List.mem_singleton.mp hx]
     refine .inr ⟨qF,List.prefix_refl _,n8 (hF.nd.sublist List.filter_sublist) (dO.mpr ⟨qF,List.prefix_refl _⟩) fun z hz=>?_⟩
     obtain ⟨z1,z2⟩:=dO.mp hz
     exact hF.up z z1 z2
    ·rintro (⟨hx,hb⟩ | ⟨h1,h2,h3⟩)
     ·exfalso
      have px:bI q <+: bI x:=by
       rcases List.mem_append.mp hx with hx | hx
       ·exact (cE _ _).trans (p2.1 x hx)
       ·exact (cE _ _).trans (p1.1 x hx)
      have:q∈eM x F:=dO.mpr ⟨qF,px⟩
      rw [hb] at this
      cases this
     ·rw [vY (dO.mpr ⟨h1,List.prefix_refl _⟩) (dO.mpr ⟨qF,h2⟩) h3]
      exact List.mem_singleton.mpr rfl
  | false =>
   have c1:a * (m1 + m2 - 1) < (w - (s1 + s2)) * b:=c0.2 e
   obtain ⟨ps1',us1',s1',m1',C1⟩:=h1 (fun u hu=>hc u (List.mem_cons_of_mem _ (List.mem_append_right _ hu))) (hF.y e f1 f2)
   obtain ⟨ps2',us2',s2',m2',C2⟩:=h2 (fun u hu=>hc u (List.mem_cons_of_mem _ (List.mem_append_left _ hu))) (hF.n e f1 f2)
   have t1:=C1.tot
   have t2:=C2.tot
   have l1:=C1.le
   have l2:=C2.le
   refine ⟨_,_,_,_,.go C1.lk C2.lk,?_,fun u hu=>?_,by omega,?_,cY.join C1.ls C2.ls,fun u hu=>?_,fun x=>?_⟩
   ·rw [Int.add_mul,Int.mul_add,Int.add_mul,Int.mul_add]
    omega
   ·rcases List.mem_cons.mp hu with rfl | hu
    ·show a * (m1' + m2' - 1) < (w - (s1' + s2')) * b
     rw [Int.sub_mul,Int.add_mul,Int.mul_sub,Int.mul_add,Int.mul_one] at c1 ⊢
     omega
    ·rcases List.mem_append.mp hu with hu | hu
     ·exact C2.gt u hu
     ·exact C1.gt u hu
   ·rintro ⟨u,hu,cu⟩
    rcases List.mem_cons.mp hu with rfl | hu
    ·have cu:c q=true:=cu
     rw [e] at cu
     cases cu
    ·rcases List.mem_append.mp hu with hu | hu
     ·have:=C2.lt ⟨u,hu,cu⟩
      omega
     ·have:=C1.lt ⟨u,hu,cu⟩
      omega
   ·rcases List.mem_cons.mp hu with rfl | hu
    ·exact ⟨_,List.mem_cons_self,rfl⟩
    ·rcases List.mem_append.mp hu with hu | hu
     ·obtain ⟨v,hv,e2⟩:=C2.sub u hu
      exact ⟨v,List.mem_cons_of_mem _ (List.mem_append_left _ hv),e2⟩
     ·obtain ⟨v,hv,e2⟩:=C1.sub u hu
      exact ⟨v,List.mem_cons_of_mem _ (List.mem_append_right _ hv),e2⟩
   ·rw [List.mem_append,C1.me,C2.me,List.mem_append]
    constructor
    ·rintro ((⟨z1,z2⟩ | ⟨z1,z2,z3⟩) | (⟨z1,z2⟩ | ⟨z1,z2,z3⟩))
     ·exact .inl ⟨.inl z1,z2⟩
     ·exact .inr ⟨z1,(cE _ _).trans z2,z3⟩
     ·exact .inl ⟨.inr z1,z2⟩
     ·exact .inr ⟨z1,(cE _ _).trans z2,z3⟩
    ·rintro (⟨z1 | z1,z2⟩ | ⟨z1,z2,z3⟩)
     ·exact .inl (.inl ⟨z1,z2⟩)
     ·exact .inr (.inl ⟨z1,z2⟩)
     ·obtain ⟨u,hu,eu,cu⟩:=(hF.me x).mp ⟨z1,z2⟩
      rcases List.mem_cons.mp hu with rfl | hu
      ·obtain rfl:q=x:=eu
       rw [e] at cu
       cases cu
      ·rcases List.mem_append.mp hu with hu | hu
       ·exact .inl (.inr ⟨z1,eu ▸ f2 u hu,z3⟩)
       ·exact .inr (.inr ⟨z1,eu ▸ f1 u hu,z3⟩)
inductive Sc (b c:Int) : Tr->Tr->Prop
 | en {w w':Int} : w' * b=w * c->Sc b c (.en w) (.en w')
 | fk {w w':Int}{y n y' n':Tr} : w' * b=w * c->Sc b c y y'->Sc b c n n'->Sc b c (.fk w y n) (.fk w' y' n')
theorem Sc.wt {t:Tr}(h:Sc b c t t') : t'.wt * b=t.wt * c:=by cases h <;> assumption
theorem Sc.lv {t:Tr}(h:Sc b c t t') : t'.lv=t.lv:=by
 induction h with
 | en _=>rfl
 | fk _ _ _ h1 h2=>show _ + _=_ + _; rw [h1,h2]
theorem Sc.dp {t:Tr}(h:Sc b c t t') : t'.dp=t.dp:=by
 induction h with
 | en _=>rfl
 | fk _ _ _ h1 h2=>show max _ _ + 1=max _ _ + 1; rw [h1,h2]
theorem Sc.lk {t:Tr}{q:Str}{ps:List Str}(h:LK t q ps us s m) : ∀ {t':Tr},Sc b c t t'->∃ us' s',LK t' q ps us' s' m/\s' * b=s * c/\(∀ u∈us,∃ v∈us',v.1=u.1/\v.2.1 * b=u.2.1 * c/\v.2.2=u.2.2)/\∀ v∈us',∃ u∈us,v.1=u.1/\v.2.1 * b=u.2.1 * c/\v.2.2=u.2.2:=by
 induction h with
 | stop t q=>exact fun h=>⟨[],_,.stop _ q,h.wt,fun u hu=>(by cases hu),fun u hu=>(by cases hu)⟩
 | @go w y n q ps1 ps2 us1 us2 s1 s2 m1 m2 g1 g2 h1 h2 =>
  intro t' h
  cases h with
  | @fk _ w' _ _ y' n' e k1 k2 =>
   obtain ⟨u1,z1,l1,e1,a1,b1⟩:=h1 k1
   obtain ⟨u2,z2,l2,e2,a2,b2⟩:=h2 k2
   have ew:(w' - (z1 + z2)) * b=(w - (s1 + s2)) * c:=by
    rw [Int.sub_mul,Int.sub_mul,Int.add_mul,Int.add_mul]
    omega
   refine ⟨_,_,.go l1 l2,by rw [Int.add_mul,Int.add_mul]; omega,fun u hu=>?_,fun u hu=>?_⟩
   ·rcases List.mem_cons.mp hu with rfl | hu
    ·exact ⟨_,List.mem_cons_self,rfl,ew,rfl⟩
    ·rcases List.mem_append.mp hu with hu | hu
     ·obtain ⟨v,hv,z⟩:=a2 u hu
      exact ⟨v,List.mem_cons_of_mem _ (List.mem_append_left _ hv),z⟩
     ·obtain ⟨v,hv,z⟩:=a1 u hu
      exact ⟨v,List.mem_cons_of_mem _ (List.mem_append_right _ hv),z⟩
   ·rcases List.mem_cons.mp hu with rfl | hu
    ·exact ⟨_,List.mem_cons_self,rfl,ew,rfl⟩
    ·rcases List.mem_append.mp hu with hu | hu
     ·obtain ⟨v,hv,z⟩:=b2 u hu
      exact ⟨v,List.mem_cons_of_mem _ (List.mem_append_left _ hv),z⟩
     ·obtain ⟨v,hv,z⟩:=b1 u hu
      exact ⟨v,List.mem_cons_of_mem _ (List.mem_append_right _ hv),z⟩
def gZ (us:List (Str × Int × Int))(u:Str × Int × Int) : Prop:=u∈us/\∀ v∈us,u.2.1 * v.2.2<=v.2.1 * u.2.2
theorem sc_le {x y:Int}{k l x' y':Int}(hb:0 < b)(hc:0 < c)(hx:x' * b=x * c)(hy:y' * b=y * c) : x' * k<=y' * l↔x * k<=y * l:=by
 have e1:x' * k * b=x * k * c:=by grind
 have e2:y' * l * b=y * l * c:=by grind
 rw [<- Int.mul_le_mul_right hb,e1,e2,Int.mul_le_mul_right hc]
theorem gZ.sc {us':List (Str × Int × Int)}(hb:0 < b)(hc:0 < c)(h1:∀ u∈us,∃ v∈us',v.1=u.1/\v.2.1 * b=u.2.1 * c/\v.2.2=u.2.2)(h2:∀ v∈us',∃ u∈us,v.1=u.1/\v.2.1 * b=u.2.1 * c/\v.2.2=u.2.2)(x:Str) : (∃ v,gZ us' v/\v.1=x)↔∃ u,gZ us u/\u.1=x:=by
 constructor
 ·rintro ⟨v,⟨hv,le⟩,rfl⟩
  obtain ⟨u,hu,e1,e2,e3⟩:=h2 v hv
  refine ⟨u,⟨hu,fun w hw=>?_⟩,e1.symm⟩
  obtain ⟨w',hw',f1,f2,f3⟩:=h1 w hw
  have:=le w' hw'
  rw [f3,e3] at this
  exact (sc_le hb hc e2 f2).mp this
 ·rintro ⟨u,⟨hu,le⟩,rfl⟩
  obtain ⟨v,hv,e1,e2,e3⟩:=h1 u hu
  refine ⟨v,⟨hv,fun w' hw'=>?_⟩,e1⟩
  obtain ⟨w,hw,f1,f2,f3⟩:=h2 w' hw'
  have:=le w hw
  rw [f3,e3]
  exact (sc_le hb hc e2 f2).mpr this
structure Nxt (t:Tr) (B:Int) (x y:Rat × List Str) : Prop where
 ex:∃ us s m us' s' m' F c u,LK t "" x.2 us s m/\gZ us u/\y.1=Rat.divInt u.2.1 (u.2.2 * B)/\0 < u.2.1/\0 < u.2.2/\(∀ z,z∈F↔∃ v,gZ us v/\v.1=z)/\Cuts t "" u.2.1 u.2.2 c F x.2 us s m y.2 us' s' m'/\m' < m
theorem TV.cv {B:Int}(hB:0 < B) : ∀ {t:Tr}{v:V},TV K H v (eF B t)->CV K H v (t.hd B)
 | .en w,v,h=>by
  obtain ⟨p,c,rfl,hp,hc⟩:=TV.hen h
  obtain ⟨c2,rfl,hc2⟩:=TV.rD hB hc
  exact .en hp hc2
 | .fk w y n,v,h=>by
  obtain ⟨p,c,a,b,rfl,hp,hc,h1,h2⟩:=TV.hfk h
  obtain ⟨c2,rfl,hc2⟩:=TV.rD hB hc
  exact .fk hp hc2 (TV.cv hB h1) (TV.cv hB h2)
theorem mY {w B:Int}(hB:0 < B) : ((Rat.divInt w B).den:Int) ∣ B:=by
 rw [<- M.den_low hB]
 obtain ⟨k,hk⟩:=(M.G_dvd w B).2
 have p:=M.G_pos w B
 refine ⟨M.G w B,?_⟩
 rw [Int.ediv_mul_cancel (M.G_dvd w B).2]
theorem lcm_ok {D B:Int}(c0:0 < C)(d0:0 < D)(b0:0 < B)(hc:C ∣ B)(hd:D ∣ B) : 0 < C * (D / M.G C D)/\C * (D / M.G C D) ∣ B/\C ∣ C * (D / M.G C D)/\D ∣ C * (D / M.G C D):=by
 obtain ⟨c,rfl⟩ : ∃ c:Nat,C=(c:Int):=⟨C.toNat,by omega⟩
 obtain ⟨d,rfl⟩ : ∃ d:Nat,D=(d:Int):=⟨D.toNat,by omega⟩
 obtain ⟨b,rfl⟩ : ∃ b:Nat,B=(b:Int):=⟨B.toNat,by omega⟩
 have e:(c:Int) * ((d:Int) / M.G (c:Int) (d:Int))=((Nat.lcm c d:Nat) : Int):=by
  rw [M.G_eq (by omega)]
  show (c:Int) * ((d:Int) / ((Nat.gcd c d:Nat) : Int))=_
  rw [<- Int.natCast_ediv,<- Int.natCast_mul]
  congr 1
  unfold Nat.lcm
  rw [Nat.mul_div_assoc _ (Nat.gcd_dvd_right c d)]
 rw [e]
 have hc:=Int.natCast_dvd_natCast.mp hc
 have hd:=Int.natCast_dvd_natCast.mp hd
 refine ⟨?_,Int.natCast_dvd_natCast.mpr (Nat.lcm_dvd hc hd),Int.natCast_dvd_natCast.mpr (Nat.dvd_lcm_left c d),Int.natCast_dvd_natCast.mpr (Nat.dvd_lcm_right c d)⟩
 have:=Nat.lcm_pos (m:=c) (n:=d) (by omega) (by omega)
 omega
def pQ (K:PySem.W.Frag) : Sp:=fun vs H Q _=>∃ (v:V) (t:Tr) (B:Int),vs = [v]/\TV K H v (eF B t)/\t.lv<=30/\0 < B/\Bz 128 B/\∀ H' (C:Int),aN H H'->0 < C->C ∣ B->(∀ e∈fP t "", ((Rat.divInt e.2.wt B).den:Int) ∣ C)->Q (.int C) H'
theorem kA {B:Int}(b0:0 < B)(bz:Bz 128 B)(h:C ∣ B) : Bz 128 C:=bz.le (Nat.le_of_dvd (by omega) (Int.natAbs_dvd_natAbs.mpr h))
def Dn (B C:Int) : Tr->Prop
 | .en w=>((Rat.divInt w B).den:Int) ∣ C
 | .fk w y n=>((Rat.divInt w B).den:Int) ∣ C/\Dn B C y/\Dn B C n
theorem Dn.of {B:Int} : ∀ {t:Tr}{q:Str},(∀ e∈fP t q,((Rat.divInt e.2.wt B).den:Int) ∣ C)->Dn B C t
 | .en w,q,h=>h (q,.en w) List.mem_cons_self
 | .fk w y n,q,h=>⟨h (q,.fk w y n) List.mem_cons_self,Dn.of fun e he=>h e (List.mem_cons_of_mem _ (List.mem_append_left _ he)),Dn.of fun e he=>h e (List.mem_cons_of_mem _ (List.mem_append_right _ he))⟩
theorem Dn.w {B:Int} : ∀ {t:Tr},Dn B C t->((Rat.divInt t.wt B).den:Int) ∣ C
 | .en _,h=>h
 | .fk _ _ _,h=>h.1
theorem wL {w B:Int}(b0:0 < B)(h:((Rat.divInt w B).den:Int) ∣ C) : (Rat.divInt w B).num * (C / ((Rat.divInt w B).den:Int)) * B=w * C:=by
 have e:=fJ (t:=w) b0
 obtain ⟨k,hk⟩:=h
 have p:=gA (t:=w) (b:=B)
 generalize (Rat.divInt w B).num=x at *
 generalize ((Rat.divInt w B).den:Int)=y at *
 subst hk
 rw [Int.mul_ediv_cancel_left _ (by omega)]
 grind
def eP (K:PySem.W.Frag)(d:Nat) : Sp:=fun vs H Q _=>∃ (v:V) (t:Tr) (B C:Int),vs = [v,.int C]/\TV K H v (eF B t)/\t.dp<=d/\0 < B/\Bz 128 B/\t.B/\0 < C/\Bz 128 C/\Dn B C t/\∀ H' x t',aN H H'->TV K H' x (cU t')->Sc B C t t'->Q x H'
theorem sc_bd {w w' B:Int}(c0:0 < C)(cb:C<=B)(h:w' * B=w * C)(hw:wB w) : wB w':=by
 have b0:0 < B:=by omega
 obtain ⟨h1,h2⟩:=hw
 constructor
 ·refine Int.lt_of_not_ge fun z=>?_
  have e1:w' * B <= -100000000000000000000000000000000 * B:=Int.mul_le_mul_of_nonneg_right z (by omega)
  have e2 : -100000000000000000000000000000000 * C < w * C:=Int.mul_lt_mul_of_pos_right h1 c0
  omega
 ·refine Int.lt_of_not_ge fun z=>?_
  have e1:100000000000000000000000000000000 * B<=w' * B:=Int.mul_le_mul_of_nonneg_right z (by omega)
  have e2:w * C < 100000000000000000000000000000000 * C:=Int.mul_lt_mul_of_pos_right h2 c0
  omega
theorem Sc.B {B:Int}{t:Tr}(c0:0 < C)(cb:C<=B)(h:Sc B C t t')(hb:t.B) : t'.B:=by
 induction h with
 | en e=>exact sc_bd c0 cb e hb
 | fk e _ _ h1 h2=>exact ⟨sc_bd c0 cb e hb.1,h1 hb.2.1,h2 hb.2.2⟩
def pL (K:PySem.W.Frag) : Sp:=fun vs H Q _=>∃ (v:V) (t:Tr) (B:Int),vs = [v]/\TV K H v (eF B t)/\t.lv<=21/\0 < B/\Bz 128 B/\t.B/\∀ H' x t' (C:Int),aN H H'->TV K H' x (cU t')->Sc B C t t'->0 < C->C<=B->t'.B->Q x H'
inductive DR (H:Hp) : List (bG × V)->List (Str × Int × Int)->Prop
 | nil:DR H [] []
 | cons {p:Addr}{e:Str × Int × Int}{kvs:List (bG × V)}{es:List (Str × Int × Int)} : H p=some (.tup [.int e.2.1,.int e.2.2])->DR H kvs es->DR H ((.inr e.1,.ref p) :: kvs) (e :: es)
theorem DR.mono {es:List (Str × Int × Int)}(h:DR H kvs es)(s:bF H H') : DR H' kvs es:=by
 induction h with
 | nil=>exact .nil
 | cons t _ ih=>exact .cons (s _ _ t) ih
theorem DR.snoc {es:List (Str × Int × Int)}{e:Str × Int × Int}(h:DR H kvs es)(t:H p=some (.tup [.int e.2.1,.int e.2.2])) : DR H (kvs ++ [(.inr e.1,.ref p)]) (es ++ [e]):=by
 induction h with
 | nil=>exact .cons t .nil
 | cons a _ ih=>exact .cons a ih
theorem DR.length {es:List (Str × Int × Int)}(h:DR H kvs es) : kvs.length=es.length:=by
 induction h with
 | nil=>rfl
 | cons _ _ ih=>rw [List.length_cons,List.length_cons,ih]
theorem DR.vno {es:List (Str × Int × Int)}{x:Str}(h:DR H kvs es)(n:x ∉ es.map (·.1)) : fR kvs (.inr x)=none:=by
 induction h with
 | nil=>rfl
 | @cons p e kvs es _ _ ih =>
  rw [List.map_cons,List.mem_cons,not_or] at n
  rw [d7 (by intro z; injection z with z; exact n.1 z.symm)]
  exact ih n.2
theorem DR.val {es:List (Str × Int × Int)}{e:Str × Int × Int}(h:DR H kvs es)(nd:(es.map (·.1)).Nodup)(m:e∈es) : ∃ p,fR kvs (.inr e.1)=some (.ref p)/\H p=some (.tup [.int e.2.1,.int e.2.2]):=by
 induction h with
 | nil=>cases m
 | @cons p f kvs es t _ ih =>
  rw [List.map_cons,List.nodup_cons] at nd
  rcases List.mem_cons.mp m with z | z
  ·subst z
   exact ⟨p,fS rfl,t⟩
  ·have ne:f.1 ≠ e.1:=fun y=>nd.1 (by rw [y]; exact List.mem_map.mpr ⟨e,z,rfl⟩)
   rw [d7 (by intro y; injection y with y; exact ne y)]
   exact ih nd.2 z
theorem DR.get {es:List (Str × Int × Int)}{k:bG}(h:DR H kvs es)(e:kvs[i]? = some (k,v)) : ∃ x p,es[i]? = some x/\k = .inr x.1/\v = .ref p/\H p=some (.tup [.int x.2.1,.int x.2.2]):=by
 induction h generalizing i with
 | nil=>cases i <;> cases e
 | @cons p x kvs es t _ ih =>
  cases i with
  | zero =>
   have e:=Option.some.inj e
   cases e
   exact ⟨x,p,rfl,rfl,rfl,t⟩
  | succ i=>exact ih e
def gC (W:Str->Int)(ps:List Str)(x:Str) : Str × Int × Int:=(x,((cO ps x).map W).sum,((cO ps x).length:Int))
def tG (W:Str->Int)(ps:List Str)(x:Str) : Str × Int × Int:=(x,W x - ((cO ps x).map W).sum,((cO ps x).length:Int) - 1)
theorem mV (W:Str->Int)(ps xs:List Str) : (xs.map (gC W ps)).map (·.1)=xs:=by rw [List.map_map]; exact List.map_id xs
theorem rK (W:Str->Int)(ps xs:List Str) : (xs.map (tG W ps)).map (·.1)=xs:=by rw [List.map_map]; exact List.map_id xs
theorem PI.leaf {t:Tr}{ps:List Str}(h:PI t "" ps gs){x:Str}(hx:x∈ps) : cO ps x = [x]:=by
 have up:=h.isP.up
 have nd:=h.facts.n1
 have ends:=h.end'
 have one:=h.one
 have al:∀ y∈cO ps x,y=x:=fun y hy=>by
  obtain ⟨hy1,hy2⟩:=List.mem_filter.mp hy
  have px:=(bU y x).mp hy2
  obtain ⟨u,hu,e,pu⟩:=ends y hy1
  exact vY (dO.mpr ⟨hy1,pu⟩) (dO.mpr ⟨hx,px.trans pu⟩) (one u hu e)
 have mx:x∈cO ps x:=List.mem_filter.mpr ⟨hx,(bU x x).mpr (List.prefix_refl _)⟩
 have l1:(cO ps x).length=1:=n8 (nd.sublist List.filter_sublist) mx al
 obtain ⟨z,e⟩:=List.length_eq_one_iff.mp l1
 rw [e] at mx ⊢
 rw [List.mem_singleton.mp mx]
theorem j9 {α:Type}{p p1 p2:α->Bool} : ∀ {l:List α},(∀ x∈l,p x=(p1 x || p2 x)/\(p1 x && p2 x)=false)->(l.filter p).Perm (l.filter p1 ++ l.filter p2)
 | [],_=>List.Perm.refl _
 | x :: l,h=>by
  have ih:=j9 (l:=l) fun y hy=>h y (List.mem_cons_of_mem _ hy)
  obtain ⟨h1,h2⟩:=h x List.mem_cons_self
  rw [List.filter_cons,List.filter_cons,List.filter_cons,h1]
  cases e1:p1 x with
  | true =>
   rw [e1] at h2
   have e2:p2 x=false:=h2
   rw [e2]
   exact ih.cons x
  | false =>
   cases e2:p2 x with
   | true=>exact (ih.cons x).trans List.perm_middle.symm
   | false=>exact ih
theorem next_yn {x:Str}(h:bI f <+: bI x)(n:f ≠ x)(yn:∀ c∈bI x,c=121\/c=110) : bI (f ++ "n") <+: bI x\/bI (f ++ "y") <+: bI x:=by
 obtain ⟨r,e⟩:=h
 cases r with
 | nil=>exact absurd (fE (by rw [<- e,List.append_nil])) n
 | cons c r =>
  have:=yn c (by rw [<- e]; exact List.mem_append_right _ List.mem_cons_self)
  rcases this with rfl | rfl
  ·right
   rw [bT,i4.1]
   exact ⟨r,by rw [<- e,List.append_assoc]; rfl⟩
  ·left
   rw [bT,i4.2]
   exact ⟨r,by rw [<- e,List.append_assoc]; rfl⟩
theorem PI.und2 {t:Tr}{ps:List Str}(h:PI t "" ps gs)(hf:f∈gs) : (cO ps f).Perm (cO ps (f ++ "n") ++ cO ps (f ++ "y")):=by
 refine j9 fun x hx=>?_
 have kn:=pl_yn (h.kn x hx)
 have nf:f ≠ x:=fun e=>h.facts.ap x hx f hf (by rw [e]; exact List.prefix_refl _)
 have s0:=bU x f
 have s1:=bU x (f ++ "n")
 have s2:=bU x (f ++ "y")
 constructor
 ·rw [Bool.eq_iff_iff,Bool.or_eq_true,s0,s1,s2]
  exact ⟨fun z=>next_yn z nf kn,fun z=>z.elim (fun z=>(cE _ _).trans z) fun z=>(cE _ _).trans z⟩
 ·rw [Bool.eq_false_iff,Ne,Bool.and_eq_true,s1,s2]
  exact fun z=>bW z.2 z.1
theorem uO {l l':List Int}(h:l.Perm l') : l.sum=l'.sum:=by
 induction h with
 | nil=>rfl
 | cons x _ ih=>rw [List.sum_cons,List.sum_cons,ih]
 | swap x y l=>rw [List.sum_cons,List.sum_cons,List.sum_cons,List.sum_cons]; omega
 | trans _ _ h1 h2=>exact h1.trans h2
theorem w9 {W:Str->Int}{t:Tr}{ps:List Str}(h:PI t "" ps gs)(hf:f∈gs) : gC W ps f=(f,(gC W ps (f ++ "y")).2.1 + (gC W ps (f ++ "n")).2.1,(gC W ps (f ++ "y")).2.2 + (gC W ps (f ++ "n")).2.2):=by
 have p:=h.und2 hf
 unfold gC
 have e1:((cO ps f).map W).sum=((cO ps (f ++ "n")).map W).sum + ((cO ps (f ++ "y")).map W).sum:=by rw [uO (p.map W),List.map_append,List.sum_append]
 have e2:(cO ps f).length=(cO ps (f ++ "n")).length + (cO ps (f ++ "y")).length:=by rw [p.length_eq,List.length_append]
 rw [e1,e2]
 congr 1
 congr 1
 ·exact Int.add_comm _ _
 ·show ((_ + _:Nat) : Int)=((cO ps (f ++ "y")).length:Int) + ((cO ps (f ++ "n")).length:Int)
  omega
theorem PI.kids {t:Tr}{q:Str}{ps:List Str}(h:PI t q ps gs) : ∀ f∈gs,(f ++ "y" ∈ ps\/f ++ "y" ∈ gs)/\(f ++ "n" ∈ ps\/f ++ "n" ∈ gs):=by
 induction h with
 | stop t q=>intro f hf; cases hf
 | @go w y n q ps1 ps2 fs1 fs2 g1 g2 h1 h2 =>
  have root:∀ {u:Tr}{r:Str}{qs hs:List Str},PI u r qs hs->r∈qs\/r∈hs:=fun g=>by
   cases g with
   | stop=>exact .inl List.mem_cons_self
   | go=>exact .inr List.mem_cons_self
  intro f hf
  have up:∀ {x:Str}{a b:List Str},x∈a\/x∈b->(a ⊆ ps2 ++ ps1)->(b ⊆ q :: (fs2 ++ fs1))->x∈ps2 ++ ps1\/x∈q :: (fs2 ++ fs1):=fun z s1 s2=>z.imp (fun z=>s1 z) fun z=>s2 z
  have i1:ps1 ⊆ ps2 ++ ps1:=List.subset_append_right _ _
  have i2:ps2 ⊆ ps2 ++ ps1:=List.subset_append_left _ _
  have j1:fs1 ⊆ q :: (fs2 ++ fs1):=fun z hz=>List.mem_cons_of_mem _ (List.mem_append_right _ hz)
  have j2:fs2 ⊆ q :: (fs2 ++ fs1):=fun z hz=>List.mem_cons_of_mem _ (List.mem_append_left _ hz)
  rcases List.mem_cons.mp hf with rfl | hf
  ·exact ⟨up (root g1) i1 j1,up (root g2) i2 j2⟩
  ·rcases List.mem_append.mp hf with hf | hf
   ·exact ⟨up (h2 f hf).1 i2 j2,up (h2 f hf).2 i2 j2⟩
   ·exact ⟨up (h1 f hf).1 i1 j1,up (h1 f hf).2 i1 j1⟩
theorem xB {d:Addr}{t:Tr}(hd:H d=some (.dK kvs)) (dt:DT K 0 H kvs es) (pm:es.Perm (fP t "")) {x:Str}(hx:x∈(dG t "").map (·.1)) :
  ∃ p k r,gH H d (.str x) (some (.ref p))/\H p=some (.tup (.str k :: .int (wA t x) :: r)):=by
 have nd:(es.map (·.1)).Nodup:=(pm.map (·.1)).nodup_iff.mpr (d6 t "")
 rw [dN,List.map_map] at hx
 obtain ⟨⟨x',u⟩,he,ex⟩:=List.mem_map.mp hx
 obtain rfl:x'=x:=ex
 obtain ⟨v,ev,tv⟩:=dt.val nd (pm.mem_iff.mpr he)
 rw [oN] at tv
 obtain ⟨p,k,r,rfl,hp⟩:=TV.wt tv
 have g:gH H d (.str x') (fR kvs (.inr x')):=gH.k (k:=.inr x') hd
 rw [ev] at g
 exact ⟨p,k,r,g,by rw [eO _ he]; exact hp⟩
theorem at1' {k:Str}{w:Int}{r:List V} : gP (V.str k :: V.int w :: r) 1=some (.int w):=by
 have e:gP (V.str k :: V.int w :: r) ((1:Nat) : Int)=some (.int w):=cX rfl
 exact e
theorem mQ {α:Type}{l:List α}{x:α}(nd:l.Nodup)(h:l[i]? = some x) : x ∉ l.take i:=fun z=>by
 have n2:=nd
 rw [<- List.take_append_drop i l,List.nodup_append] at n2
 refine n2.2.2 x z x ?_ rfl
 refine List.mem_of_getElem? (i:=0) ?_
 rw [List.getElem?_drop]
 exact h
theorem pS (h:l.Pairwise (fun a b=>bI a<=bI b)){x y:Str}(hx:l.reverse[i]? = some x)(hy:y∈l)(lt:bI x < bI y) : y∈l.reverse.take i:=by
 have h2:l.reverse.Pairwise (fun a b=>bI b<=bI a):=List.pairwise_reverse.mpr h
 have hy2:=List.mem_reverse.mpr hy
 rw [<- List.take_append_drop i l.reverse] at hy2 h2
 rcases List.mem_append.mp hy2 with z | z
 ·exact z
 ·exfalso
  have hd:l.reverse.drop i=x :: l.reverse.drop (i + 1):=List.drop_eq_getElem?_toList_append.trans (by rw [hx]; rfl)
  have h3:=(List.pairwise_append.mp h2).2.1
  rw [hd] at z h3
  rcases List.mem_cons.mp z with rfl | z
  ·exact List.lt_irrefl _ lt
  ·exact absurd ((List.pairwise_cons.mp h3).1 y z) (List.not_le.mpr lt)
theorem jR {z:Addr}{kv:List (bG × V)}{es:List (Str × Int × Int)}{x:Str}(hp:H p=none) (hz:H z=some (.dK kv)) (dr:DR H kv es) :
  bF H (upd (upd H p (.tup [.int a,.int b])) z (.dK (kv ++ [(.inr x,.ref p)])))/\upd (upd H p (.tup [.int a,.int b])) z (.dK (kv ++ [(.inr x,.ref p)])) z=some (.dK (kv ++ [(.inr x,.ref p)])) /\
  DR (upd (upd H p (.tup [.int a,.int b])) z (.dK (kv ++ [(.inr x,.ref p)]))) (kv ++ [(.inr x,.ref p)]) (es ++ [(x,a,b)])/\∀ c o,c ≠ z->H c=some o->upd (upd H p (.tup [.int a,.int b])) z (.dK (kv ++ [(.inr x,.ref p)])) c=some o:=by
 have s1:=(bF.refl H).new hp (.tup [.int a,.int b])
 have hz1:upd H p (.tup [.int a,.int b]) z=some (.dK kv):=kp hz hp
 have s2:=iQ (bF.refl _) hz1 (.dK (kv ++ [(.inr x,.ref p)]))
 refine ⟨iQ s1 hz1 _,aE,?_,fun c o hc e=>?_⟩
 ·exact DR.snoc (e:=(x,a,b)) ((dr.mono s1).mono s2) (s2 _ _ aE)
 ·rw [aR hc]
  exact kp e hp
theorem mT {d e f:Int}(b0:0 < b)(d0:0 < d)(f0:0 < f)(h1:a * d<=c * b)(h2:c * f<=e * d) : a * f<=e * b:=by
 have h3:a * d * f<=c * b * f:=Int.mul_le_mul_of_nonneg_right h1 (by omega)
 have h4:c * f * b<=e * d * b:=Int.mul_le_mul_of_nonneg_right h2 (by omega)
 have h5:a * f * d<=e * b * d:=by
  have e1:a * f * d=a * d * f:=by grind
  have e2:e * b * d=e * d * b:=by grind
  have e3:c * b * f=c * f * b:=by grind
  omega
 exact Int.le_of_mul_le_mul_right h5 d0
def yB (K:PySem.W.Frag) : Sp:=fun vs H Q _=>∃ (v:V) (t:Tr) (a:Addr) (ps gs:List Str),vs = [v,.ref a]/\TV K H v (cU t)/\t.lv<=21/\t.B/\H a=some (.lst (ps.map V.str))/\PI t "" ps gs /\
 ∀ H' d kvs (fs:List Str),aN H H'->H d=none->H' d=some (.dK kvs)->fs.Perm gs->DR H' kvs ((ps ++ fs).map (gC (wA t) ps))->Q (.ref d) H'
def sJ (K:PySem.W.Frag) : Sp:=fun vs H Q _=>∃ (v:V) (t:Tr) (a:Addr) (ps gs:List Str),vs = [v,.ref a]/\TV K H v (cU t)/\t.lv<=21/\t.B/\H a=some (.lst (ps.map V.str))/\PI t "" ps gs /\
 ∀ H' d kvs (fs:List Str),aN H H'->H d=none->H' d=some (.dK kvs)->fs.Perm gs->DR H' kvs (fs.map (tG (wA t) ps))->Q (.ref d) H'
def uZ (K:PySem.W.Frag) : Sp:=fun vs H Q _=>∃ (v:V) (t:Tr) (a:Addr) (ps:List Str) (us:List (Str × Int × Int)) (s m:Int),vs = [v,.ref a]/\TV K H v (cU t)/\t.lv<=21/\t.B/\H a=some (.lst (ps.map V.str))/\LK t "" ps us s m/\us ≠ [] /\
 ∀ H' p (rs:List Str),aN H H'->H' p=some (.lst (rs.map V.str))->rs.Nodup->rs ≠ []->(∀ x,x∈rs↔∃ u,gZ us u/\u.1=x)->Q (.ref p) H'
inductive QVs (H:Hp) : List V->List (Rat × List Str)->Prop
 | nil:QVs H [] []
 | cons {p r l:Addr}{q:Rat}{ps:List Str}{xs:List V}{sts:List (Rat × List Str)} : H p=some (.tup [.ref r,.ref l])->H r=some (rt q)->H l=some (.lst (ps.map V.str))->QVs H xs sts->QVs H (.ref p :: xs) ((q,ps) :: sts)
theorem QVs.same (h:QVs H xs sts)(s:aN H H') : QVs H' xs sts:=by
 induction h with
 | nil=>exact .nil
 | cons h1 h2 h3 _ ih=>exact .cons (s _ _ h1) (s _ _ h2) (s _ _ h3) ih
theorem QVs.put {z p0:Addr}(h:QVs H xs sts)(hz:H z=some (.lst (.ref p0 :: ys)))(o:HO) : QVs (upd H z o) xs sts:=by
 induction h with
 | nil=>exact .nil
 | @cons p r l q ps xs sts h1 h2 h3 _ ih =>
  refine .cons (by rw [aR (fQ h1 hz (by intro z; cases z))]; exact h1) (by rw [aR (fQ h2 hz (by intro z; cases z))]; exact h2) ?_ ih
  rw [aR (fQ h3 hz ?_)]
  ·exact h3
  ·intro e
   cases ps <;> cases e
theorem QVs.len (h:QVs H xs sts) : xs.length=sts.length:=by
 induction h with
 | nil=>rfl
 | cons _ _ _ _ ih=>rw [List.length_cons,List.length_cons,ih]
theorem QVs.at (h:QVs H xs sts) : ∀ {i:Nat}{x:V},xs[i]? = some x->∃ p r l q ps,x = .ref p/\H p=some (.tup [.ref r,.ref l])/\H r=some (rt q)/\H l=some (.lst (ps.map V.str))/\sts[i]? = some (q,ps):=by
 induction h with
 | nil=>intro i x h; cases h
 | cons h1 h2 h3 _ ih =>
  intro i x h
  cases i with
  | zero=>cases h; exact ⟨_,_,_,_,_,rfl,h1,h2,h3,rfl⟩
  | succ i=>exact ih (i:=i) h
theorem QVs.snoc {r l:Addr}{q:Rat}{ps:List Str}(h:QVs H xs sts)(h1:H p=some (.tup [.ref r,.ref l]))(h2:H r=some (rt q))(h3:H l=some (.lst (ps.map V.str))) : QVs H (xs ++ [.ref p]) (sts ++ [(q,ps)]):=by
 induction h with
 | nil=>exact .cons h1 h2 h3 .nil
 | cons a b c _ ih=>exact .cons a b c ih
inductive Pth (t:Tr) (B:Int) : List (Rat × List Str)->Int->Int->List (Str × Int × Int)->Prop
 | one {us:List (Str × Int × Int)}{m:Int} : LK t "" (bM 1 0 t "").1 us (bM 1 0 t "").2 m->(∀ u∈us,0 < u.2.1)->Pth t B [(0,(bM 1 0 t "").1)] 0 1 us
 | step {l:List (Rat × List Str)}{x:Rat × List Str}{a b:Int}{us us':List (Str × Int × Int)}{s m s' m':Int}{u:Str × Int × Int}{c:Str->Bool}{F ps':List Str} : Pth t B (l ++ [x]) a b us->LK t "" x.2 us s m->gZ us u->(∀ z,z∈F↔∃ v,gZ us v/\v.1=z)->Cutc u.2.1 u.2.2 c us->Cutf F c "" us->Cuts t "" u.2.1 u.2.2 c F x.2 us s m ps' us' s' m'->m' < m->Pth t B (l ++ [x] ++ [(Rat.divInt u.2.1 (u.2.2 * B),ps')]) u.2.1 u.2.2 us'
theorem Pth.gt {t:Tr}{B:Int}(h:Pth t B sts a b us) : 0<=a/\0 < b/\∀ u∈us,a * u.2.2 < u.2.1 * b:=by
 induction h with
 | one _ h2=>exact ⟨Int.le_refl _,by decide,fun u hu=>by have:=h2 u hu; omega⟩
 | @step l x a b us us' s m s' m' u c F ps' p lk wk hF hc hf ct lt ih =>
  have one:=lk.one.2.2.1 u wk.1
  have g:=ih.2.2 u wk.1
  refine ⟨?_,by omega,ct.gt⟩
  have h1:0<=a * u.2.2:=Int.mul_nonneg ih.1 (by omega)
  have h2:0 < u.2.1 * b:=by omega
  exact Int.le_of_lt (Int.pos_of_mul_pos_left h2 ih.2.1)
theorem LK.bd {t:Tr}{ps:List Str}(lk:LK t "" ps us s m)(tl:t.lv<=21)(tb:t.B) : ∀ u∈us,-10000000000000000000000000000000000<=u.2.1/\u.2.1<=10000000000000000000000000000000000:=fun u hu=>by
 have vl:=(lk.vals (wA t) eO).2.2 u hu
 have pl:=lk.pi.len.1
 have ul:(cO ps u.1).length<=ps.length:=List.length_filter_le _ _
 have h1:=lZ (W:=wA t) (l:=cO ps u.1) fun x hx=>iM tb (lk.pi.kn x (List.mem_filter.mp hx).1)
 have h2 : -100000000000000000000000000000000 < wA t u.1/\wA t u.1 < 100000000000000000000000000000000:=iM tb (List.mem_map.mpr ⟨_,lk.pi.forks.1 u.1 (List.mem_map.mpr ⟨u,hu,rfl⟩),rfl⟩)
 rw [vl.1]
 omega
theorem Pth.all {t:Tr}{B:Int}(b0:0 < B)(h:Pth t B sts a b us) : (∃ ps l,sts=(0,ps) :: l)/\∀ x∈sts,(∃ gs,PI t "" x.2 gs)/\∃ (n d:Int) (u:Str × Int × Int),x.1=Rat.divInt n (d * B)/\0<=n/\1<=d/\d<=(t.lv:Int)/\(t.lv<=21->t.B->n<=10000000000000000000000000000000000):=by
 induction h with
 | @one us m lk h2 =>
  refine ⟨⟨_,[],rfl⟩,fun x hx=>?_⟩
  rw [List.mem_singleton.mp hx]
  have:=t.lv_pos
  exact ⟨⟨_,lk.pi⟩,0,1,("", 0,0),(Rat.zero_divInt _).symm,Int.le_refl _,Int.le_refl _,by omega,fun _ _=>by omega⟩
 | @step l x a b us us' s m s' m' u c F ps' p lk wk hF hc hf ct lt ih =>
  obtain ⟨⟨ps,l2,e⟩,al⟩:=ih
  refine ⟨⟨ps,l2 ++ [_],by rw [e]; rfl⟩,fun y hy=>?_⟩
  rcases List.mem_append.mp hy with hy | hy
  ·exact al y hy
  ·rw [List.mem_singleton.mp hy]
   have one:=lk.one
   have g:=p.gt
   have g1:=g.2.2 u wk.1
   have o1:=one.2.2.1 u wk.1
   have vl:=(lk.vals (wA t) eO).2.2 u wk.1
   have h1:0<=a * u.2.2:=Int.mul_nonneg g.1 (by omega)
   have pl:=lk.pi.len.1
   have ul:(cO x.2 u.1).length<=x.2.length:=List.length_filter_le _ _
   refine ⟨⟨_,ct.lk.pi⟩,u.2.1,u.2.2,u,rfl,Int.le_of_lt (Int.pos_of_mul_pos_left (show 0 < u.2.1 * b by omega) g.2.1),o1,by omega,fun tl tb=>(lk.bd tl tb u wk.1).2⟩
theorem us_one (nd:(us.map (·.1)).Nodup){u v:Str × Int × Int}(hu:u∈us)(hv:v∈us)(e:u.1=v.1) : u=v:=by
 induction us with
 | nil=>cases hu
 | cons w us ih =>
  rw [List.map_cons,List.nodup_cons] at nd
  rcases List.mem_cons.mp hu with rfl | hu2 <;> rcases List.mem_cons.mp hv with rfl | hv2
  ·rfl
  ·exact absurd (List.mem_map.mpr ⟨v,hv2,e.symm⟩) nd.1
  ·exact absurd (List.mem_map.mpr ⟨u,hu2,e⟩) nd.1
  ·exact ih nd.2 hu2 hv2
theorem nI {u:Str × Int × Int}(nd:(us.map (·.1)).Nodup)(d0:∀ v∈us,1<=v.2.2)(hF:∀ z,z∈F↔∃ v,gZ us v/\v.1=z)(hu:gZ us u) : Cutc u.2.1 u.2.2 (fun x=>decide (x∈F)) us:=fun v hv=>by
 have h1:=hu.2 v hv
 have du:=d0 u hu.1
 have dv:=d0 v hv
 constructor
 ·intro c
  obtain ⟨v',wv,e⟩:=(hF v.1).mp (of_decide_eq_true c)
  obtain rfl:=us_one nd wv.1 hv e
  have:=wv.2 u hu.1
  omega
 ·intro c
  have nc:=of_decide_eq_false c
  rcases Int.lt_or_le (u.2.1 * v.2.2) (v.2.1 * u.2.2) with z | z
  ·exact z
  ·exfalso
   refine nc ((hF v.1).mpr ⟨v,⟨hv,fun w hw=>?_⟩,rfl⟩)
   have dw:=d0 w hw
   exact mT (by omega) (by omega) (by omega) z (hu.2 w hw)
theorem uG (nf:F.Nodup)(hF:∀ z,z∈F↔∃ v,gZ us v/\v.1=z) : Cutf F (fun x=>decide (x∈F)) "" us:=by
 refine ⟨nf,fun x=>⟨fun hx=>?_,fun hx=>?_⟩,fun x hx px=>?_⟩
 ·obtain ⟨v,wv,e⟩:=(hF x).mp hx.1
  exact ⟨v,wv.1,e,decide_eq_true hx.1⟩
 ·obtain ⟨u,hu,e,c⟩:=hx
  exact ⟨of_decide_eq_true c,List.nil_prefix⟩
 ·refine fE ?_
  have:bI x <+: []:=px
  rw [List.prefix_nil.mp this]
  rfl
theorem wF:∀ {l l':List Str},l.Nodup->(∀ x∈l,x∈l')->l.length<=l'.length
 | [],_,_,_=>Nat.zero_le _
 | a :: l,l',nd,s=>by
  rw [List.nodup_cons] at nd
  have ha:=s a List.mem_cons_self
  have h:=wF (l:=l) (l':=l'.erase a) nd.2 fun x hx=>(List.mem_erase_of_ne (by rintro rfl; exact nd.1 hx)).mpr (s x (List.mem_cons_of_mem _ hx))
  rw [List.length_erase_of_mem ha] at h
  have:=List.length_pos_of_mem ha
  rw [List.length_cons]
  omega
theorem cut_is {t:Tr}{ps ps' rs:List Str}{us':List (Str × Int × Int)}{s' m':Int}{c:Str->Bool}(h:LK t "" ps us s m)(ct:Cuts t "" a b c F ps us s m ps' us' s' m')(nf:F.Nodup)(sb:∀ f∈F,f∈us.map (·.1))(pm:rs.Perm (kept ps F ++ lY F))(so:PyProof.Rows.sortedS rs=true) : rs=ps':=by
 have fa:=h.pi.facts
 have fa':=ct.lk.pi.facts
 refine gU so (k8 ct.lk.pi.isP.up) (pm.trans ?_)
 refine (List.perm_ext_iff_of_nodup ?_ fa'.n1).mpr fun x=>?_
 ·rw [List.nodup_append]
  refine ⟨fa.n1.sublist List.filter_sublist,nf.sublist List.filter_sublist,fun x hx y hy e=>?_⟩
  subst e
  exact fa.ap x (List.mem_filter.mp hx).1 x (sb x (List.mem_filter.mp hy).1) (List.prefix_refl _)
 ·rw [ct.me,List.mem_append]
  unfold kept lY
  rw [List.mem_filter,List.mem_filter,decide_eq_true_iff,decide_eq_true_iff,List.length_eq_zero_iff]
  exact or_congr Iff.rfl ⟨fun z=>⟨z.1,List.nil_prefix,z.2⟩,fun z=>⟨z.1,z.2.2⟩⟩
def yD (K:PySem.W.Frag) : Sp:=fun vs H Q _=>∃ (v:V) (t:Tr) (B:Int),vs = [v]/\TV K H v (eF B t)/\t.lv<=21/\1<=B/\B<=1000000000000000000000000000000/\t.B /\
 ∀ H' p xs (sts:List (Rat × List Str)) a b,aN H H'->H p=none->H' p=some (.lst xs)->QVs H' xs sts->Pth t B sts a b []->sts.length<=21->Q (.ref p) H'
def kQ (r:Rat)(x:Rat × List Str) : Bool := !decide (r.num * (x.1.den:Int) < x.1.num * (r.den:Int))
theorem wG {top low:Int}(l0:0 < low)(x:Rat × List Str) : kQ (Rat.divInt top low) x=decide (x.1.num * low<=top * (x.1.den:Int)):=by
 have e:=fJ (t:=top) l0
 have p:=gA (t:=top) (b:=low)
 have q:0 < (x.1.den:Int):=by have:=x.1.den_pos; omega
 unfold kQ
 generalize (Rat.divInt top low).num=n at *
 generalize ((Rat.divInt top low).den:Int)=d at *
 rw [Bool.eq_iff_iff,Bool.not_eq_true',decide_eq_false_iff_not,decide_eq_true_iff,Int.not_lt]
 have e1:x.1.num * d * low=x.1.num * low * d:=by grind
 have e2:n * (x.1.den:Int) * low=top * (x.1.den:Int) * d:=by grind
 rw [<- Int.mul_le_mul_right l0,e1,e2,Int.mul_le_mul_right p]
structure TlOk (x:Int × Int) : Prop where
 t0:0<=x.1
 l0:0 < x.2
 zt:Bz 260 x.1
 zl:Bz 260 x.2
structure Nbr (t:Tr) (B:Int) (x y:Rat × List Str) : Prop where
 ex:∃ (a b n d s m s' m':Int) (us us':List (Str × Int × Int)),x.1=Rat.divInt a (b * B)/\0 < b/\y.1=Rat.divInt n (d * B)/\0 < d/\a * d < n * b/\LK t "" x.2 us s m/\LK t "" y.2 us' s' m'/\s' * d + n * m'=s * d + n * m/\m' < m/\cY y.2 x.2
theorem LK.ps {t:Tr}{q:Str}{ps:List Str}(h:LK t q ps us s m) : PS t q ps s:=by
 induction h with
 | stop t q=>rw [Tr.wt_w]; exact .stop t q
 | go _ _ h1 h2=>exact .go h1 h2
theorem Pth.last {t:Tr}{B:Int}(h:Pth t B sts a b us) : ∃ l x s m,sts=l ++ [x]/\LK t "" x.2 us s m/\x.1=Rat.divInt a (b * B):=by
 cases h with
 | one lk h2=>exact ⟨[],_,_,_,rfl,lk,(Rat.zero_divInt _).symm⟩
 | step p lk wk hF hc hf ct lt=>exact ⟨_,_,_,_,rfl,ct.lk,rfl⟩
theorem dF {α:Type}{l l':List α}{x x':α}(h:l ++ [x] = l' ++ [x']) : l=l'/\x=x':=by
 have h1:=congrArg List.dropLast h
 have h2:=congrArg List.getLast? h
 rw [List.dropLast_concat,List.dropLast_concat] at h1
 rw [List.getLast?_concat,List.getLast?_concat] at h2
 exact ⟨h1,Option.some.inj h2⟩
theorem LK.uni {t:Tr}{q:Str}{ps:List Str}(h:LK t q ps us s m) : ∀ {us':List (Str × Int × Int)}{s' m':Int},LK t q ps us' s' m'->us'=us/\s'=s/\m'=m:=by
 induction h with
 | stop t q =>
  intro us' s' m' h'
  generalize e : [q] = ps at h'
  cases h' with
  | stop=>exact ⟨rfl,rfl,rfl⟩
  | @go w y n _ ps1 ps2 us1 us2 s1 s2 m1 m2 g1 g2 =>
   exfalso
   have h1:=g1.pi.len.2
   have h2:=g2.pi.len.2
   have h3:=congrArg List.length e
   rw [List.length_singleton,List.length_append] at h3
   omega
 | @go w y n q ps1 ps2 us1 us2 s1 s2 m1 m2 g1 g2 i1 i2 =>
  intro us' s' m' h'
  generalize e:ps2 ++ ps1=ps at h'
  cases h' with
  | stop =>
   exfalso
   have h1:=g1.pi.len.2
   have h2:=g2.pi.len.2
   have h3:=congrArg List.length e
   rw [List.length_singleton,List.length_append] at h3
   omega
  | @go _ _ _ _ ps1' ps2' us1' us2' s1' s2' m1' m2' k1 k2 =>
   have a1:=g1.pi.pre.1
   have a2:=g2.pi.pre.1
   have b1:=k1.pi.pre.1
   have b2:=k2.pi.pre.1
   have f:∀ {l1 l2:List Str},(∀ x∈l1,bI (q ++ "y") <+: bI x)->(∀ x∈l2,bI (q ++ "n") <+: bI x)->(l2 ++ l1).filter (fun x=>Txt.startswith x (q ++ "y"))=l1/\(l2 ++ l1).filter (fun x=>Txt.startswith x (q ++ "n"))=l2:=fun {l1 l2} z1 z2=>by
    rw [List.filter_append,List.filter_append]
    have c1:l2.filter (fun x=>Txt.startswith x (q ++ "y")) = []:=List.filter_eq_nil_iff.mpr fun x hx z=>bW ((bU x _).mp z) (z2 x hx)
    have c2:l1.filter (fun x=>Txt.startswith x (q ++ "y"))=l1:=List.filter_eq_self.mpr fun x hx=>(bU x _).mpr (z1 x hx)
    have c3:l2.filter (fun x=>Txt.startswith x (q ++ "n"))=l2:=List.filter_eq_self.mpr fun x hx=>(bU x _).mpr (z2 x hx)
    have c4:l1.filter (fun x=>Txt.startswith x (q ++ "n")) = []:=List.filter_eq_nil_iff.mpr fun x hx z=>bW (z1 x hx) ((bU x _).mp z)
    rw [c1,c2,c3,c4]
    exact ⟨rfl,List.append_nil _⟩
   have e1:=f a1 a2
   have e2:=f b1 b2
   rw [e] at e1
   have d1:ps1=ps1':=e1.1.symm.trans e2.1
   have d2:ps2=ps2':=e1.2.symm.trans e2.2
   subst d1
   subst d2
   obtain ⟨rfl,rfl,rfl⟩:=i1 k1
   obtain ⟨rfl,rfl,rfl⟩:=i2 k2
   exact ⟨rfl,rfl,rfl⟩
structure StepTo (t:Tr) (B:Int) (x:Rat × List Str) (us:List (Str × Int × Int)) (y:Rat × List Str) : Prop where
 ex:∃ (u:Str × Int × Int) (c:Str->Bool) (F:List Str) (s m:Int) (us':List (Str × Int × Int)) (s' m':Int),LK t "" x.2 us s m/\gZ us u/\(∀ z,z∈F↔∃ v,gZ us v/\v.1=z)/\Cutf F c "" us/\Cuts t "" u.2.1 u.2.2 c F x.2 us s m y.2 us' s' m'/\m' < m/\y.1=Rat.divInt u.2.1 (u.2.2 * B)
theorem Pth.split {t:Tr}{B:Int}(h:Pth t B sts a b us) : ∀ {p r:List (Rat × List Str)}{z z2:Rat × List Str},sts=p ++ [z] ++ (z2 :: r)->∃ a1 b1 us1,Pth t B (p ++ [z]) a1 b1 us1/\StepTo t B z us1 z2:=by
 induction h with
 | one lk h2 =>
  intro p r z z2 e
  have:=congrArg List.length e
  rw [List.length_append,List.length_append,List.length_singleton,List.length_singleton,List.length_cons] at this
  omega
 | @step l x a b us us' s m s' m' u c F ps' hp lk wk hF hc hf ct lt ih =>
  intro p r z z2 e
  rcases List.eq_nil_or_concat r with rfl | ⟨r0,w,rfl⟩
  ·obtain ⟨e1,e2⟩:=dF (l:=l ++ [x]) (l':=p ++ [z]) e
   obtain ⟨rfl,rfl⟩:=dF e1
   exact ⟨a,b,us,hp,⟨u,c,F,s,m,us',s',m',lk,wk,hF,hf,by rw [<- e2]; exact ct,lt,by rw [<- e2]⟩⟩
  ·have e3:l ++ [x] ++ [(Rat.divInt u.2.1 (u.2.2 * B),ps')] = (p ++ [z] ++ (z2 :: r0)) ++ [w]:=by
    rw [e]
    simp
   exact ih (dF e3).1
theorem Pth.head {t:Tr}{B:Int}(h:Pth t B sts a b us) : ∃ l,sts=(0,(bM 1 0 t "").1) :: l:=by
 induction h with
 | one _ _=>exact ⟨[],rfl⟩
 | step _ _ _ _ _ _ _ _ ih =>
  obtain ⟨l,e⟩:=ih
  exact ⟨l ++ [_],by rw [e]; rfl⟩
theorem Pth.nbr {t:Tr}{B:Int}(h:Pth t B sts a b us){x y:Rat × List Str}(hx:sts[i]? = some x)(hy:sts[i + 1]? = some y) : Nbr t B x y:=by
 have e:sts=sts.take i ++ [x] ++ (y :: sts.drop (i + 2)):=by
  have d1:sts.drop i=x :: sts.drop (i + 1):=List.drop_eq_getElem?_toList_append.trans (by rw [hx]; rfl)
  have d2:sts.drop (i + 1)=y :: sts.drop (i + 2):=List.drop_eq_getElem?_toList_append.trans (by rw [hy]; rfl)
  rw [<- d2,List.append_assoc]
  show sts=sts.take i ++ (x :: sts.drop (i + 1))
  rw [<- d1,List.take_append_drop]
 obtain ⟨a1,b1,us1,hp,st⟩:=h.split e
 obtain ⟨u,c,F,s,m,us',s',m',lk,wk,hF,hf,ct,lt,ep⟩:=st.ex
 obtain ⟨l,x',s2,m2,el,lk2,ex⟩:=hp.last
 obtain ⟨_,rfl⟩:=dF el
 have g:=hp.gt
 have d:=lk.one.2.2.1 u wk.1
 exact ⟨a1,b1,u.2.1,u.2.2,s,m,s',m',us1,us',ex,g.2.1,ep,by omega,g.2.2 u wk.1,lk,ct.lk,ct.tot,lt,ct.ls⟩
theorem Nbr.rise {t:Tr}{B:Int}{x y:Rat × List Str}(b0:0 < B)(h:Nbr t B x y) : ¬ y.1.num * (x.1.den:Int)<=x.1.num * (y.1.den:Int):=by
 obtain ⟨a,b,n,d,s,m,s',m',us,us',ex,hb,ey,hd,lt,_⟩:=h.ex
 have h1:=Int.mul_pos hb b0
 have h2:=Int.mul_pos hd b0
 have e1:=fJ (t:=a) h1
 have e2:=fJ (t:=n) h2
 have p1:=gA (t:=a) (b:=b * B)
 have p2:=gA (t:=n) (b:=d * B)
 rw [ex,ey]
 generalize (Rat.divInt a (b * B)).num=xn at *
 generalize ((Rat.divInt a (b * B)).den:Int)=xd at *
 generalize (Rat.divInt n (d * B)).num=yn at *
 generalize ((Rat.divInt n (d * B)).den:Int)=yd at *
 rw [Int.not_le]
 have q:0 < b * d * B:=Int.mul_pos (Int.mul_pos hb hd) b0
 have r:0 < xd * yd:=Int.mul_pos p1 p2
 have e3:xn * yd * (b * d * B)=a * d * (xd * yd):=by grind
 have e4:yn * xd * (b * d * B)=n * b * (xd * yd):=by grind
 rw [<- Int.mul_lt_mul_right q,e3,e4,Int.mul_lt_mul_right r]
 exact lt
theorem Nbr.same {t:Tr}{B:Int}{x y:Rat × List Str}(b0:0 < B)(h:Nbr t B x y) : ∃ s s',PS t "" x.2 s/\PS t "" y.2 s'/\s' * (y.1.den:Int) + y.1.num * (y.2.length:Nat) * B=s * (y.1.den:Int) + y.1.num * (x.2.length:Nat) * B/\y.2.length < x.2.length/\cY y.2 x.2:=by
 obtain ⟨a,b,n,d,s,m,s',m',us,us',ex,hb,ey,hd,lt,lk,lk',tot,ml,ls⟩:=h.ex
 have h2:=Int.mul_pos hd b0
 have e2:=fJ (t:=n) h2
 have o1:=lk.one.2.1
 have o2:=lk'.one.2.1
 refine ⟨s,s',lk.ps,lk'.ps,?_,by omega,ls⟩
 rw [ey,<- o1,<- o2]
 generalize (Rat.divInt n (d * B)).num=yn at *
 generalize ((Rat.divInt n (d * B)).den:Int)=yd at *
 have k:(s' * yd + yn * m' * B) * d=(s * yd + yn * m * B) * d:=by grind
 exact Int.eq_of_mul_eq_mul_right (by omega) k
def Op (t:Tr)(q:Str)(s m a b:Int) : Prop:=∀ qs r,PS t q qs r->s * b + a * m<=r * b + a * (qs.length:Nat)
theorem jG (a:Int)(l1 l2:List Str) : a * ((l1 ++ l2).length:Nat)=a * (l1.length:Nat) + a * (l2.length:Nat):=by
 rw [List.length_append,<- Int.mul_add]
 congr 1
theorem Op.y {w:Int}{y n:Tr}{q:Str}{s2 m1 m2:Int}{ps2:List Str}(h:Op (.fk w y n) q (s1 + s2) (m1 + m2) a b)(h2:PS n (q ++ "n") ps2 s2)(e2:m2=(ps2.length:Nat)) : Op y (q ++ "y") s1 m1 a b:=fun qs r hq=>by
 have h:=h _ _ (.go hq h2)
 rw [jG,Int.add_mul,Int.add_mul,Int.mul_add,<- e2] at h
 omega
theorem Op.n {w:Int}{y n:Tr}{q:Str}{s2 m1 m2:Int}{ps1:List Str}(h:Op (.fk w y n) q (s1 + s2) (m1 + m2) a b)(h1:PS y (q ++ "y") ps1 s1)(e1:m1=(ps1.length:Nat)) : Op n (q ++ "n") s2 m2 a b:=fun qs r hq=>by
 have h:=h _ _ (.go h1 hq)
 rw [jG,Int.add_mul,Int.add_mul,Int.mul_add,<- e1] at h
 omega
theorem up_one {w r a' b' k:Int}(b0:0 < b)(b0':0 < b')(le:a * b'<=a' * b)(k1:1<=k)(h:w * b + a * 1<=r * b + a * k) : w * b' + a' * 1<=r * b' + a' * k:=by
 have h1:a * b' * (k - 1)<=a' * b * (k - 1):=Int.mul_le_mul_of_nonneg_right le (by omega)
 have h2:(w * b + a * 1) * b'<=(r * b + a * k) * b':=Int.mul_le_mul_of_nonneg_right h (by omega)
 have h3:(w * b' + a' * 1) * b<=(r * b' + a' * k) * b:=by grind
 exact Int.le_of_mul_le_mul_right h3 b0
theorem LK.up {t:Tr}{q:Str}{ps:List Str}(h:LK t q ps us s m){a' b':Int}(b0:0 < b)(b0':0 < b')(le:a * b'<=a' * b)(o:Op t q s m a b)(g:∀ u∈us,a' * u.2.2<=u.2.1 * b') : Op t q s m a' b':=by
 induction h with
 | stop t q =>
  intro qs r hq
  obtain ⟨gs,pi⟩:=hq.pi
  have:=pi.len.2
  exact up_one b0 b0' le (by omega) (o qs r hq)
 | @go w y n q ps1 ps2 us1 us2 s1 s2 m1 m2 g1 g2 i1 i2 =>
  have o1:=i1 (o.y g2.ps g2.one.2.1) fun u hu=>g u (List.mem_cons_of_mem _ (List.mem_append_right _ hu))
  have o2:=i2 (o.n g1.ps g1.one.2.1) fun u hu=>g u (List.mem_cons_of_mem _ (List.mem_append_left _ hu))
  have k:a' * (m1 + m2 - 1)<=(w - (s1 + s2)) * b':=g _ List.mem_cons_self
  rw [Int.mul_sub,Int.sub_mul,Int.mul_one] at k
  intro qs r hq
  cases hq with
  | stop =>
   show (s1 + s2) * b' + a' * (m1 + m2)<=w * b' + a' * 1
   omega
  | go h1 h2 =>
   have x1:=o1 _ _ h1
   have x2:=o2 _ _ h2
   rw [jG,Int.add_mul,Int.add_mul,Int.mul_add]
   omega
theorem LK.tie {t:Tr}{q:Str}{ps:List Str}(h:LK t q ps us s m)(o:Op t q s m a b)(g:∀ u∈us,a * u.2.2 < u.2.1 * b) : ∀ {qs:List Str}{r:Int},PS t q qs r->s * b + a * m=r * b + a * (qs.length:Nat)->cY ps qs:=by
 induction h with
 | stop t q=>exact fun hq _=>cY.root hq
 | @go w y n q ps1 ps2 us1 us2 s1 s2 m1 m2 g1 g2 i1 i2 =>
  have o1:=o.y g2.ps g2.one.2.1
  have o2:=o.n g1.ps g1.one.2.1
  have k:a * (m1 + m2 - 1) < (w - (s1 + s2)) * b:=g _ List.mem_cons_self
  rw [Int.mul_sub,Int.sub_mul,Int.mul_one] at k
  intro qs r hq e
  cases hq with
  | stop =>
   exfalso
   have e:(s1 + s2) * b + a * (m1 + m2)=w * b + a * 1:=e
   omega
  | go h1 h2 =>
   have x1:=o1 _ _ h1
   have x2:=o2 _ _ h2
   rw [jG,Int.add_mul,Int.add_mul,Int.mul_add] at e
   exact cY.join (i1 o1 (fun u hu=>g u (List.mem_cons_of_mem _ (List.mem_append_right _ hu))) h1 (by omega)) (i2 o2 (fun u hu=>g u (List.mem_cons_of_mem _ (List.mem_append_left _ hu))) h2 (by omega))
theorem Pth.op {t:Tr}{B:Int}(h:Pth t B sts a b us) : ∃ l x s m,sts=l ++ [x]/\LK t "" x.2 us s m/\Op t "" s m a b:=by
 induction h with
 | @one us m lk h2 =>
  refine ⟨[],_,_,_,rfl,lk,fun qs r hq=>?_⟩
  have:=(qK 1 0 hq).1
  rw [lk.one.2.1]
  exact this
 | @step l x a b us us' s m s' m' u c F ps' hp lk wk hF hc hf ct lt ih =>
  obtain ⟨l',x',s1,m1,e,lk1,o⟩:=ih
  obtain ⟨rfl,rfl⟩:=dF e
  obtain ⟨_,rfl,rfl⟩:=lk1.uni lk
  have g:=hp.gt
  have one:=lk.one.2.2.1 u wk.1
  have o2:=lk.up g.2.1 (by omega) (Int.le_of_lt (g.2.2 u wk.1)) o wk.2
  refine ⟨l ++ [x],_,s',m',rfl,ct.lk,fun qs r hq=>?_⟩
  rw [ct.tot]
  exact o2 qs r hq
theorem iZ {α:Type}{p:α->Bool}{x:α} : ∀ {l:List α},(l.filter p).getLast? = some x->∃ l1 l2,l=l1 ++ x :: l2/\p x=true/\∀ y∈l2,p y=false
 | [],h=>by cases h
 | y :: l,h=>by
  by_cases c:l.filter p = []
  ·have al:∀ z∈l,p z=false:=fun z hz=>Bool.eq_false_iff.mpr (List.filter_eq_nil_iff.mp c z hz)
   cases e:p y with
   | false=>rw [List.filter_cons_of_neg (by rw [e]; decide),c] at h; cases h
   | true =>
    rw [List.filter_cons_of_pos e,c] at h
    obtain rfl:=Option.some.inj h
    exact ⟨[],l,rfl,e,al⟩
  ·have h2:(l.filter p).getLast? = some x:=by
    cases e:p y with
    | false=>rw [List.filter_cons_of_neg (by rw [e]; decide)] at h; exact h
    | true =>
     rw [List.filter_cons_of_pos e] at h
     obtain ⟨z,r,e2⟩:=List.exists_cons_of_ne_nil c
     rw [e2] at h ⊢
     exact h
   obtain ⟨l1,l2,rfl,k⟩:=iZ h2
   exact ⟨y :: l1,l2,rfl,k⟩
theorem mR {n d top low:Int}(d0:0 < d)(l0:0 < low){x:Rat × List Str}(e:x.1=Rat.divInt n d) : kQ (Rat.divInt top low) x=true↔n * low<=top * d:=by
 rw [wG l0,decide_eq_true_iff,e]
 have e1:=fJ (t:=n) d0
 have p:=gA (t:=n) (b:=d)
 generalize (Rat.divInt n d).num=xn at *
 generalize ((Rat.divInt n d).den:Int)=xd at *
 rw [<- Int.mul_le_mul_right d0,show xn * low * d=n * low * xd by grind,show top * xd * d=top * d * xd by grind,Int.mul_le_mul_right p]
theorem Pth.price {t:Tr}{B:Int}(b0:0 < B)(h:Pth t B sts a b []){top low:Int}(l0:0 < low){q:Rat}{ps:List Str}(hl:(sts.filter (kQ (Rat.divInt top low))).getLast? = some (q,ps)) : ∃ s,PS t "" ps s/\∀ qs r,PS t "" qs r->s * low + top * (ps.length:Nat) * B<=r * low + top * (qs.length:Nat) * B/\(s * low + top * (ps.length:Nat) * B=r * low + top * (qs.length:Nat) * B->cY ps qs):=by
 have key:∃ us s m,LK t "" ps us s m/\Op t "" s m (top * B) low/\∀ u∈us,top * B * u.2.2 < u.2.1 * low:=by
  obtain ⟨l1,l2,e,np,nl⟩:=iZ hl
  cases l2 with
  | nil =>
   obtain ⟨l,x,s,m,e2,lk,o⟩:=h.op
   obtain ⟨l',x',s',m',e3,_,ex⟩:=h.last
   rw [e] at e2 e3
   obtain ⟨_,rfl⟩:=dF e2
   obtain ⟨_,rfl⟩:=dF e3
   have g:=h.gt
   have k:=(mR (Int.mul_pos g.2.1 b0) l0 ex).mp np
   exact ⟨[],s,m,lk,lk.up g.2.1 l0 (by rw [Int.mul_comm b B,<- Int.mul_assoc] at k; exact k) o (fun u hu=>by cases hu),fun u hu=>by cases hu⟩
  | cons y r =>
   obtain ⟨a1,b1,us1,hp,st⟩:=h.split (p:=l1) (z:=(q,ps)) (z2:=y) (r:=r) (by rw [e,List.append_assoc]; rfl)
   obtain ⟨u,c,F,s2,m2,us',s',m',lk2,wk,hF,hf,ct,lt,ey⟩:=st.ex
   obtain ⟨l,x,s,m,e2,lk,o⟩:=hp.op
   obtain ⟨l',x',s3,m3,e3,_,ex⟩:=hp.last
   obtain ⟨_,rfl⟩:=dF e2
   obtain ⟨_,rfl⟩:=dF e3
   have g:=hp.gt
   have one:=lk.one.2.2.1
   have ou:=one u wk.1
   have k:=(mR (Int.mul_pos g.2.1 b0) l0 ex).mp np
   have ny:=nl y List.mem_cons_self
   have k2:¬ u.2.1 * low<=top * (u.2.2 * B):=fun z=>by
    rw [(mR (Int.mul_pos (by omega) b0) l0 ey).mpr z] at ny
    cases ny
   have gt:∀ v∈us1,top * B * v.2.2 < v.2.1 * low:=fun v hv=>by
    have h1:=wk.2 v hv
    have h2:=one v hv
    have h3:top * (u.2.2 * B) * v.2.2 < u.2.1 * low * v.2.2:=Int.mul_lt_mul_of_pos_right (by omega) (by omega)
    have h4:u.2.1 * v.2.2 * low<=v.2.1 * u.2.2 * low:=Int.mul_le_mul_of_nonneg_right h1 (by omega)
    have h5:top * B * v.2.2 * u.2.2 < v.2.1 * low * u.2.2:=by
     rw [show top * B * v.2.2 * u.2.2=top * (u.2.2 * B) * v.2.2 by grind,show v.2.1 * low * u.2.2=v.2.1 * u.2.2 * low by grind]
     rw [show u.2.1 * low * v.2.2=u.2.1 * v.2.2 * low by grind] at h3
     omega
    exact Int.lt_of_mul_lt_mul_right h5 (by omega)
   exact ⟨us1,s,m,lk,lk.up g.2.1 l0 (by rw [Int.mul_comm b1 B,<- Int.mul_assoc] at k; exact k) o (fun v hv=>Int.le_of_lt (gt v hv)),gt⟩
 obtain ⟨us,s,m,lk,o,gt⟩:=key
 refine ⟨s,lk.ps,fun qs r hq=>?_⟩
 have h1:=o qs r hq
 have h2:=lk.tie o gt hq
 rw [lk.one.2.1] at h1 h2
 rw [Int.mul_right_comm top _ B,Int.mul_right_comm top _ B]
 exact ⟨h1,h2⟩
theorem PS.sum {W:Str->Int}{t:Tr}{q:Str}{ps:List Str}(h:PS t q ps s)(hW:∀ e∈fP t q,W e.1=e.2.wt) : s=(ps.map W).sum:=by
 induction h with
 | stop t q =>
  have e:W q=t.wt:=by
   cases t with
   | en w=>exact hW (q,.en w) List.mem_cons_self
   | fk w y n=>exact hW (q,.fk w y n) List.mem_cons_self
  show t.w=W q + 0
  rw [e,Tr.wt_w]
  omega
 | @go w y n q ps1 ps2 s1 s2 g1 g2 h1 h2 =>
  rw [List.map_append,List.sum_append,<- h1 fun e he=>hW e (List.mem_cons_of_mem _ (List.mem_append_left _ he)),<- h2 fun e he=>hW e (List.mem_cons_of_mem _ (List.mem_append_right _ he))]
  omega
theorem bz27 {x:Int}(h1 : -100000000000000000000000000000000000<=x)(h2:x<=100000000000000000000000000000000000) : Bz 128 x:=by
 show x.natAbs < 2 ^ 128
 have:(100000000000000000000000000000000000:Nat) < 2 ^ 128:=by decide
 omega
def oJ (as bs:List Str) : List Str:=as.filter fun x=>decide (x ∉ bs)
def sp_cbc (K:PySem.W.Frag) : Sp:=fun vs H Q _=>∃ (d c ba pa:Addr) (t:Tr) (B s:Int) (kvs:List (bG × V)) (es:List (Str × Tr)) (bs ps:List Str),vs = [.ref d,.ref c,.ref ba,.ref pa]/\H d=some (.dK kvs)/\DT K B H kvs es/\es.Perm (fP t "")/\0 < B/\Bz 128 B/\t.B/\Rt H c (Rat.divInt s B) /\ -10000000000000000000000000000000000<=s/\s<=10000000000000000000000000000000000/\H ba=some (.lst (bs.map V.str))/\H pa=some (.lst (ps.map V.str))/\bs.Nodup/\ps.Nodup/\bs.length < 64/\ps.length < 64/\(∀ x∈bs,x∈(dG t "").map (·.1))/\(∀ x∈ps,x∈(dG t "").map (·.1)) /\
 ∀ H' r,aN H H'->H' r=some (rt (Rat.divInt (s - ((oJ bs ps).map (wA t)).sum + ((oJ ps bs).map (wA t)).sum) B))->Q (.ref r) H'
theorem rH (as bs:List Str) : (oJ as bs).length<=as.length:=List.length_filter_le _ _
theorem jV {W:Str->Int}{a b:List Str}(p:a.Perm b) : (a.map W).sum=(b.map W).sum:=by
 induction p with
 | nil=>rfl
 | cons x _ ih=>rw [List.map_cons,List.map_cons,List.sum_cons,List.sum_cons,ih]
 | swap x y l=>rw [List.map_cons,List.map_cons,List.map_cons,List.map_cons,List.sum_cons,List.sum_cons,List.sum_cons,List.sum_cons]; omega
 | trans _ _ h1 h2=>rw [h1,h2]
theorem xH {as bs:List Str}(ha:as.Nodup)(hb:bs.Nodup) : ((ddS as).filter fun x=>decide (x ∉ ddS bs))=oJ as bs:=by
 rw [kB ha,kB hb]
 rfl
theorem z9 (B:Int) : rt (Rat.divInt 0 B) = .tup [.int 0,.int 1]:=by
 rw [Rat.zero_divInt]
 rfl
def c8 (t:Tr)(ps:List Str) : Int:=(ps.map (wA t)).sum
theorem m8 {t:Tr}{ps:List Str}(tb:t.B)(h:PI t "" ps gs)(hl:ps.length < 64) : -10000000000000000000000000000000000<=c8 t ps/\c8 t ps<=10000000000000000000000000000000000:=by
 have h1:=lZ (W:=wA t) (l:=ps) fun x hx=>iM tb (h.kn x hx)
 unfold c8
 omega
theorem qH {B:Int}(hB:0 < B) : Rat.divInt a B + Rat.divInt c B=Rat.divInt (a + c) B:=by
 have h:=gX (a:=a) (c := -c) hB
 rw [show a - -c=a + c by omega] at h
 rw [<- h,Rat.sub_eq_add_neg,Rat.neg_divInt,Int.neg_neg]
theorem xN {k:Str}{w:Int}{r:List V} : gP (V.str k :: V.int w :: r) 1=some (.int w):=by
 have e:gP (V.str k :: V.int w :: r) ((1:Nat) : Int)=some (.int w):=cX rfl
 exact e
theorem mulN (c:Int){k:Int}(h:0<=k)(h2:k<=3) : IntMulOk c (48271 + 21350 * k):=by
 obtain rfl | rfl | rfl | rfl:k=0\/k=1\/k=2\/k=3:=by omega
 all_goals exact IntMulOk.of_right (by decide +kernel)
def nQ:Sp:=fun vs H Q _=>∃ c k:Int,vs = [.int c,.int k]/\0<=k/\k<=3/\∀ v:Int,0<=v->v < 2147483647->Q (.int v) H
theorem at_m2 (ys:List V)(v1 v2:V) : gP (ys ++ [v1] ++ [v2]) (-2)=some v1:=by
 unfold gP tJ
 have l:(ys ++ [v1] ++ [v2]).length=ys.length + 2:=by simp
 rw [l,if_neg (by decide),if_pos (by omega)]
 show (ys ++ [v1] ++ [v2])[(((ys.length + 2:Nat) : Int) + -2).toNat]? = some v1
 rw [show (((ys.length + 2:Nat) : Int) + -2).toNat=ys.length by omega]
 simp
theorem cut_m2 (ys:List V)(v1 v2:V) : m7 (ys ++ [v1] ++ [v2]) none (some (-2))=ys:=by
 unfold m7
 have l:(ys ++ [v1] ++ [v2]).length=ys.length + 2:=by simp
 have e1:HT.sIx (ys ++ [v1] ++ [v2]).length 0 none=0:=by simp [HT.sIx]
 have e2:HT.sIx (ys ++ [v1] ++ [v2]).length (ys ++ [v1] ++ [v2]).length (some (-2))=ys.length:=by
  rw [l]
  simp [HT.sIx]
  omega
 rw [e1,e2,List.drop_zero,Nat.sub_zero,List.append_assoc,List.take_left]
inductive Ln:Tr->Nat->Int->Prop
 | stop (t:Tr) : Ln t 1 t.w
 | go {w:Int}{y n:Tr}{a b:Nat}{s r:Int} : Ln y a s->Ln n b r->Ln (.fk w y n) (a + b) (s + r)
theorem PS.ln {t:Tr}{q:Str}{ps:List Str}(h:PS t q ps s) : Ln t ps.length s:=by
 induction h with
 | stop t q=>exact .stop t
 | go _ _ h1 h2 =>
  rw [List.length_append,Nat.add_comm]
  exact .go h1 h2
theorem Ln.bd {t:Tr}{m:Nat}(h:Ln t m s) : 1<=m/\m<=t.lv:=by
 induction h with
 | stop t=>exact ⟨Nat.le_refl _,t.lv_pos⟩
 | go _ _ h1 h2 =>
  show 1<=_/\_<=_ + _
  omega
theorem Ln.two {w:Int}{y n:Tr}{m:Nat}(h:Ln (.fk w y n) m s)(hm:2<=m) : ∃ a b s1 s2,Ln y a s1/\Ln n b s2/\a + b=m/\s1 + s2=s:=by
 cases h with
 | stop=>omega
 | go h1 h2=>exact ⟨_,_,_,_,h1,h2,rfl,rfl⟩
theorem Ln.one {t:Tr}{m:Nat}{s:Int}(h:Ln t m s)(hm:m=1) : s=t.w:=by
 cases h with
 | stop=>rfl
 | go h1 h2=>have:=h1.bd; have:=h2.bd; omega
theorem qN (x y z:Str) : x ++ y ++ z=x ++ (y ++ z):=fE (by rw [bT,bT,bT,bT,List.append_assoc])
theorem oG (x:Str) : ("" : Str) ++ x=x:=fE (by rw [bT]; rfl)
theorem xO (x:Str) : x ++ ("" : Str)=x:=fE (by rw [bT]; exact List.append_nil _)
def pf (c:Str)(ps:List Str) : List Str:=ps.map fun x=>c ++ x
theorem PS.pfx {t:Tr}{q:Str}{ps:List Str}(h:PS t q ps s) : ∀ x:Str,PS t (x ++ q) (pf x ps) s:=by
 induction h with
 | stop t q=>exact fun x=>.stop t _
 | go _ _ h1 h2 =>
  intro x
  unfold pf at h1 h2 ⊢
  rw [List.map_append]
  have h1:=h1 x
  have h2:=h2 x
  rw [<- qN] at h1 h2
  exact .go h1 h2
structure Rg (t:Tr) (i:Nat) (u:Int × List Str) : Prop where
 ps:PS t "" u.2 u.1
 len:u.2.length=i + 1
 low:∀ s,Ln t (i + 1) s->u.1<=s
theorem Rg.fk {w:Int}{y n:Tr}{i j:Nat}{u v:Int × List Str}(h1:Rg y i u)(h2:Rg n j v)(hl:∀ a b s1 s2,Ln y a s1->Ln n b s2->a + b=i + j + 2->u.1 + v.1<=s1 + s2) : Rg (.fk w y n) (i + j + 1) (u.1 + v.1,pf "n" v.2 ++ pf "y" u.2):=by
 have p1:=h1.ps.pfx "y"
 have p2:=h2.ps.pfx "n"
 rw [xO] at p1 p2
 refine ⟨.go (q := "") ?_ ?_,?_,fun s hs=>?_⟩
 ·rw [oG]; exact p1
 ·rw [oG]; exact p2
 ·show (pf "n" v.2 ++ pf "y" u.2).length=_
  unfold pf
  rw [List.length_append,List.length_map,List.length_map,h1.len,h2.len]
  omega
 ·obtain ⟨a,b,s1,s2,l1,l2,e1,e2⟩:=hs.two (by omega)
  rw [<- e2]
  exact hl a b s1 s2 l1 l2 (by omega)
theorem Rg.top (t:Tr) : Rg t 0 (t.w,[("" : Str)]):=⟨.stop t _,rfl,fun s hs=>by rw [hs.one rfl]; exact Int.le_refl _⟩
theorem Sc.ln {t:Tr}(h:Sc b c t t') : ∀ {m:Nat}{s:Int},Ln t m s->∃ s',Ln t' m s'/\s' * b=s * c:=by
 intro m s l
 induction l generalizing t' with
 | stop t =>
  refine ⟨_,.stop t',?_⟩
  rw [<- Tr.wt_w,<- Tr.wt_w]
  exact h.wt
 | go _ _ h1 h2 =>
  cases h with
  | fk e hy hn =>
   obtain ⟨s1,l1,e1⟩:=h1 hy
   obtain ⟨s2,l2,e2⟩:=h2 hn
   exact ⟨_,.go l1 l2,by rw [Int.add_mul,Int.add_mul,e1,e2]⟩
theorem Sc.ps {t:Tr}(h:Sc b c t t') : ∀ {q:Str}{ps:List Str}{s':Int},PS t' q ps s'->∃ s,PS t q ps s/\s' * b=s * c:=by
 intro q ps s' l
 induction l generalizing t with
 | stop t' q =>
  refine ⟨_,.stop t q,?_⟩
  rw [<- Tr.wt_w,<- Tr.wt_w]
  exact h.wt
 | go _ _ h1 h2 =>
  cases h with
  | fk e hy hn =>
   obtain ⟨s1,l1,e1⟩:=h1 hy
   obtain ⟨s2,l2,e2⟩:=h2 hn
   exact ⟨_,.go l1 l2,by rw [Int.add_mul,Int.add_mul,e1,e2]⟩
theorem Sc.rg {t:Tr}(h:Sc b c t t')(b0:0 < b)(c0:0 < c){u:Int × List Str}(r:Rg t' i u) : ∃ s,Rg t i (s,u.2):=by
 obtain ⟨s,p,e⟩:=h.ps r.ps
 refine ⟨s,p,r.len,fun s2 l2=>?_⟩
 obtain ⟨s3,l3,e3⟩:=h.ln l2
 have:=r.low s3 l3
 have h4:u.1 * b<=s3 * b:=Int.mul_le_mul_of_nonneg_right this (Int.le_of_lt b0)
 rw [e,e3] at h4
 exact Int.le_of_mul_le_mul_right h4 c0
inductive RVs (H:Hp) : List V->List (Int × List Str)->Prop
 | nil:RVs H [] []
 | cons {p l:Addr}{c:Int}{ps:List Str}{xs:List V}{us:List (Int × List Str)} : H p=some (.tup [.int c,.ref l])->H l=some (.lst (ps.map V.str))->RVs H xs us->RVs H (.ref p :: xs) ((c,ps) :: us)
theorem RVs.length {us:List (Int × List Str)}(h:RVs H xs us) : xs.length=us.length:=by
 induction h with
 | nil=>rfl
 | cons _ _ _ ih=>rw [List.length_cons,List.length_cons,ih]
theorem RVs.mono {us:List (Int × List Str)}(h:RVs H xs us)(S:aN H H') : RVs H' xs us:=by
 induction h with
 | nil=>exact .nil
 | cons h1 h2 _ ih=>exact .cons (S _ _ h1) (S _ _ h2) ih
theorem RVs.get {us:List (Int × List Str)}(h:RVs H xs us) : ∀ {i:Nat}{x:V},xs[i]? = some x->∃ p l u,x = .ref p/\us[i]? = some u/\H p=some (.tup [.int u.1,.ref l])/\H l=some (.lst (u.2.map V.str)):=by
 induction h with
 | nil=>intro i x e; cases e
 | cons h1 h2 _ ih =>
  intro i x e
  cases i with
  | zero =>
   obtain rfl:=Option.some.inj e
   exact ⟨_,_,_,rfl,rfl,h1,h2⟩
  | succ i=>exact ih e
theorem RVs.snoc {us:List (Int × List Str)}(h:RVs H xs us){l:Addr}{u:Int × List Str}(h1:H p=some (.tup [.int u.1,.ref l]))(h2:H l=some (.lst (u.2.map V.str))) : RVs H (xs ++ [.ref p]) (us ++ [u]):=by
 induction h with
 | nil=>exact .cons h1 h2 .nil
 | cons a b _ ih=>exact .cons a b ih
def kL (t:Tr)(us:List (Int × List Str)) : Prop:=∀ (i:Nat) u,us[i]? = some u->Rg t i u
theorem kL.snoc {t:Tr}{us:List (Int × List Str)}{u:Int × List Str}(h:kL t us)(hu:Rg t us.length u) : kL t (us ++ [u]):=fun i v hv=>by
 rw [List.getElem?_append] at hv
 split at hv
 ·exact h i v hv
 ·rename_i c
  have e:i - us.length=0:=by
   rcases Nat.eq_zero_or_pos (i - us.length) with z | z
   ·exact z
   ·rw [List.getElem?_eq_none (by rw [List.length_singleton]; omega)] at hv
    cases hv
  rw [e] at hv
  obtain rfl:=Option.some.inj hv
  rw [show i=us.length by omega]
  exact hu
def yG (K:PySem.W.Frag) : Sp:=fun vs H Q _=>∃ (a b:Addr) (L:Nat) (ty tn:Tr) (ys ns:List V) (us ws:List (Int × List Str)),vs = [.ref a,.ref b,.int (L:Int)]/\H a=some (.lst ys)/\H b=some (.lst ns)/\RVs H ys us/\RVs H ns ws/\kL ty us/\kL tn ws/\us.length=ty.lv/\ws.length=tn.lv/\ty.lv + tn.lv<=50/\2<=L/\L<=ty.lv + tn.lv /\
 ∀ H' p l u,aN H H'->H' p=some (.tup [.int u.1,.ref l])->H' l=some (.lst (u.2.map V.str))->(∀ w,Rg (.fk w ty tn) (L - 1) u)->Q (.ref p) H'
def fV (K:PySem.W.Frag)(d:Nat) : Sp:=fun vs H Q _=>∃ (v:V) (t:Tr),vs = [v]/\TV K H v (cU t)/\t.dp<=d/\t.lv<=50 /\
 ∀ H' p xs us,aN H H'->H p=none->H' p=some (.lst xs)->RVs H' xs us->kL t us->us.length=t.lv->Q (.ref p) H'
def Odd (H:Hp)(z:Addr) : Prop:=∃ zs:List V,H z=some (.lst zs)/\∀ s r,zs ≠ V.str s :: r
theorem Odd.tup {H:Hp}{z p:Addr}{ys:List V}(h:Odd H z)(hp:H p=some (.tup ys)) : p ≠ z:=fun e=>by
 obtain ⟨zs,hz,_⟩:=h
 rw [e,hz] at hp
 cases hp
theorem Odd.lst {H:Hp}{z l:Addr}{ps:List Str}(h:Odd H z)(hp:H l=some (.lst (ps.map V.str)))(ne:ps ≠ []) : l ≠ z:=fun e=>by
 obtain ⟨zs,hz,n⟩:=h
 rw [e,hz] at hp
 obtain ⟨s,r,rfl⟩:=List.exists_cons_of_ne_nil ne
 exact n s _ (HO.lst.inj (Option.some.inj hp))
theorem RVs.over {z:Addr}{us:List (Int × List Str)}(h:RVs H xs us)(hz:Odd H z)(ne:∀ u∈us,u.2 ≠ [])(o:HO) : RVs (upd H z o) xs us:=by
 induction h with
 | nil=>exact .nil
 | cons h1 h2 _ ih=>exact .cons (by rw [aR (hz.tup h1)]; exact h1) (by rw [aR (hz.lst h2 (ne _ List.mem_cons_self))]; exact h2) (ih fun u hu=>ne u (List.mem_cons_of_mem _ hu))
theorem kL.ne {t:Tr}{us:List (Int × List Str)}(h:kL t us) : ∀ u∈us,u.2 ≠ []:=fun u hu e=>by
 obtain ⟨i,hi⟩:=List.getElem?_of_mem hu
 have:=(h i u hi).len
 rw [e] at this
 cases this
inductive LDs (B:Int) (H:Hp) : List V->List (Int × List Str)->Prop
 | nil:LDs B H [] []
 | cons {p l c:Addr}{s:Int}{ps:List Str}{xs:List V}{us:List (Int × List Str)} : H p=some (.tup [.int (ps.length:Int),.ref c,.ref l])->H c=some (rt (Rat.divInt s B))->H l=some (.lst (ps.map V.str))->LDs B H xs us->LDs B H (.ref p :: xs) ((s,ps) :: us)
theorem LDs.length {B:Int}{us:List (Int × List Str)}(h:LDs B H xs us) : xs.length=us.length:=by
 induction h with
 | nil=>rfl
 | cons _ _ _ _ ih=>rw [List.length_cons,List.length_cons,ih]
theorem LDs.mono {B:Int}{us:List (Int × List Str)}(h:LDs B H xs us)(S:aN H H') : LDs B H' xs us:=by
 induction h with
 | nil=>exact .nil
 | cons h1 h2 h3 _ ih=>exact .cons (S _ _ h1) (S _ _ h2) (S _ _ h3) ih
theorem LDs.get {B:Int}{us:List (Int × List Str)}(h:LDs B H xs us) : ∀ {i:Nat}{x:V},xs[i]? = some x->∃ p c l u,x = .ref p/\us[i]? = some u/\H p=some (.tup [.int (u.2.length:Int),.ref c,.ref l])/\H c=some (rt (Rat.divInt u.1 B))/\H l=some (.lst (u.2.map V.str)):=by
 induction h with
 | nil=>intro i x e; cases e
 | cons h1 h2 h3 _ ih =>
  intro i x e
  cases i with
  | zero =>
   obtain rfl:=Option.some.inj e
   exact ⟨_,_,_,_,rfl,rfl,h1,h2,h3⟩
  | succ i=>exact ih e
theorem LDs.snoc {B:Int}{us:List (Int × List Str)}(h:LDs B H xs us){l c:Addr}{u:Int × List Str}(h1:H p=some (.tup [.int (u.2.length:Int),.ref c,.ref l]))(h2:H c=some (rt (Rat.divInt u.1 B)))(h3:H l=some (.lst (u.2.map V.str))) : LDs B H (xs ++ [.ref p]) (us ++ [u]):=by
 induction h with
 | nil=>exact .cons h1 h2 h3 .nil
 | cons a b c _ ih=>exact .cons a b c ih
theorem LDs.over {B:Int}{z:Addr}{us:List (Int × List Str)}(h:LDs B H xs us)(hz:Odd H z)(ne:∀ u∈us,u.2 ≠ [])(o:HO) : LDs B (upd H z o) xs us:=by
 induction h with
 | nil=>exact .nil
 | cons h1 h2 h3 _ ih=>exact .cons (by rw [aR (hz.tup h1)]; exact h1) (by rw [aR (hz.tup h2)]; exact h2) (by rw [aR (hz.lst h3 (ne _ List.mem_cons_self))]; exact h3) (ih fun u hu=>ne u (List.mem_cons_of_mem _ hu))
theorem LDs.odd {B:Int}{us:List (Int × List Str)}(h:LDs B H xs us){z:Addr}(hz:H z=some (.lst xs)) : Odd H z:=⟨xs,hz,fun s r e=>by
 rw [e] at h
 cases h⟩
def sN (K:PySem.W.Frag) : Sp:=fun vs H Q _=>∃ (v:V) (t:Tr) (B:Int),vs = [v]/\TV K H v (eF B t)/\t.lv<=21/\t.dp<=20/\0 < B/\Bz 128 B/\t.B/\∀ H' p xs us,aN H H'->H' p=some (.lst xs)->LDs B H' xs us->kL t us->us.length=t.lv->Q (.ref p) H'
theorem gT (W:Str->Int)(p:Str->Bool) : ∀ l:List Str,(l.map W).sum=((l.filter p).map W).sum + ((l.filter fun x => !p x).map W).sum
 | []=>rfl
 | x :: l=>by
  have:=gT W p l
  cases h:p x with
  | true=>rw [List.filter_cons_of_pos h,List.filter_cons_of_neg (by rw [h]; decide),List.map_cons,List.map_cons,List.sum_cons,List.sum_cons,this]; omega
  | false=>rw [List.filter_cons_of_neg (by rw [h]; decide),List.filter_cons_of_pos (by rw [h]; decide),List.map_cons,List.map_cons,List.sum_cons,List.sum_cons,this]; omega
theorem jZ {a b:List Str}(ha:a.Nodup)(hb:b.Nodup)(h:∀ x,x∈a↔x∈b) : a.Perm b:=by
 rw [List.perm_iff_count]
 intro x
 by_cases m:x∈a
 ·rw [ha.count,hb.count,if_pos m,if_pos ((h x).mp m)]
 ·rw [ha.count,hb.count,if_neg m,if_neg fun z=>m ((h x).mpr z)]
theorem pG (W:Str->Int){bs ps:List Str}(hb:bs.Nodup)(hp:ps.Nodup) : (bs.map W).sum - ((oJ bs ps).map W).sum + ((oJ ps bs).map W).sum=(ps.map W).sum:=by
 have h1:=gT W (fun x=>decide (x ∉ ps)) bs
 have h2:=gT W (fun x=>decide (x ∉ bs)) ps
 have h3:(bs.filter fun x => !decide (x ∉ ps)).Perm (ps.filter fun x => !decide (x ∉ bs)):=jZ (hb.filter _) (hp.filter _) fun x=>by
  rw [List.mem_filter,List.mem_filter]
  simp
  exact ⟨fun z=>⟨z.2,z.1⟩,fun z=>⟨z.2,z.1⟩⟩
 have h4:=jV (W:=W) h3
 unfold oJ
 omega
def Tr.sb:Tr->Prop
 | .en w => -5000000000000000000000<=w/\w<=5000000000000000000000
 | .fk w y n=>(-5000000000000000000000 * (2 * ((y.lv + n.lv:Nat) : Int) - 1)<=w/\w<=5000000000000000000000 * (2 * ((y.lv + n.lv:Nat) : Int) - 1))/\y.sb/\n.sb
theorem Tr.sb.w {t:Tr}(h:t.sb) : -5000000000000000000000 * (2 * (t.lv:Int) - 1)<=t.w/\t.w<=5000000000000000000000 * (2 * (t.lv:Int) - 1):=by
 cases t with
 | en w=>have : -5000000000000000000000<=w/\w<=5000000000000000000000:=h; show -5000000000000000000000 * (2 * ((1:Nat) : Int) - 1)<=w/\w<=5000000000000000000000 * (2 * ((1:Nat) : Int) - 1); omega
 | fk w y n=>exact h.1
theorem Tr.sb.B:∀ {t:Tr},t.sb->t.lv<=50->t.B
 | .en w,h,_=>by
  have : -5000000000000000000000<=w/\w<=5000000000000000000000:=h
  exact ⟨by omega,by omega⟩
 | .fk w y n,h,l=>by
  have l:y.lv + n.lv<=50:=l
  have h1:=h.1
  exact ⟨⟨by omega,by omega⟩,h.2.1.B (by omega),h.2.2.B (by omega)⟩
theorem Tr.sb.fk {y n:Tr}{g:Int}(hy:y.sb)(hn:n.sb)(g0 : -5000000000000000000000<=g)(g1:g<=5000000000000000000000) : (Tr.fk (y.w + n.w + g) y n).sb:=by
 have a:=hy.w
 have b:=hn.w
 exact ⟨by omega,hy,hn⟩
theorem rE {x:Int}(h0 : -50<=x)(h1:x<=50)(s0:1<=s)(s1:s<=100000000000000000000) : -5000000000000000000000<=x * s/\x * s<=5000000000000000000000:=by
 have a:x * s<=50 * s:=Int.mul_le_mul_of_nonneg_right h1 (by omega)
 have b : -50 * s<=x * s:=Int.mul_le_mul_of_nonneg_right h0 (by omega)
 omega
theorem rF {x:Int}(h0 : -50<=x)(h1:x<=50)(s0:1<=s)(s1:s<=100000000000000000000) : IntMulOk x s:=by
 have a:Bz 20 x:=by show x.natAbs < 2 ^ 20; omega
 have b:Bz 70 s:=by show s.natAbs < 2 ^ 70; omega
 exact a.mulOk b
def tV:Tr->Str->List Str
 | .en _,q=>[q]
 | .fk _ y n,q=>tV n (q ++ "n") ++ tV y (q ++ "y")
theorem iD:∀ (t:Tr) (q:Str),(tV t q).length=t.lv
 | .en _,_=>rfl
 | .fk _ y n,q=>by
  show (tV n _ ++ tV y _).length=y.lv + n.lv
  rw [List.length_append,iD n,iD y,Nat.add_comm]
theorem mW:∀ {t:Tr}{q x:Str},x∈tV t q->(x,Str.ofString "end")∈dG t q
 | .en _,q,x,h=>by rw [List.mem_singleton.mp h]; exact List.mem_cons_self
 | .fk w y n,q,x,h=>by
  refine List.mem_cons_of_mem _ ?_
  rcases List.mem_append.mp h with h | h
  ·exact List.mem_append_right _ (mW h)
  ·exact List.mem_append_left _ (mW h)
theorem mX:∀ {t:Tr}{q:Str}{u:Str × Str},u∈dG t q->u.2=Str.ofString "end" -> u.1∈tV t q
 | .en _,q,u,h,e=>by rw [List.mem_singleton.mp h]; exact List.mem_cons_self
 | .fk w y n,q,u,h,e=>by
  rcases List.mem_cons.mp h with h | h
  ·rw [h] at e
   have e:Str.ofString "fork" = Str.ofString "end" := e
   exact absurd e (by decide +kernel)
  ·rcases List.mem_append.mp h with h | h
   ·exact List.mem_append_right _ (mX h e)
   ·exact List.mem_append_left _ (mX h e)
def eQ (K:PySem.W.Frag)(d:Nat) : Sp:=fun vs H Q _=>∃ (v:V) (t:Tr) (q:Str),vs = [v,.str q]/\TV K H v (cU t)/\t.dp<=d/\t.lv<=50/\q.length + t.dp<=100/\∀ H' p,aN H H'->H' p=some (.lst ((tV t q).map V.str))->Q (.ref p) H'
def d8 (K:PySem.W.Frag)(d:Nat) : Sp:=fun vs H Q _=>∃ (v:V) (t:Tr) (q:Str) (c:Int),vs = [v,.str q,.int c]/\TV K H v (cU t)/\t.dp<=d/\t.lv<=50/\q.length + t.dp<=100/\∀ H' p ps s,aN H H'->H' p=some (.lst (ps.map V.str))->PS t q ps s->Q (.ref p) H'
def dQ (K:PySem.W.Frag)(d:Nat) : Sp:=fun vs H Q _=>∃ (v:V) (t:Tr) (B:Int),vs = [v,.int B]/\TV K H v (cU t)/\t.dp<=d/\t.dp<=40/\0 < B/\Bz 8000 B/\∀ H' x,aN H H'->TV K H' x (eF B t)->Q x H'
def nS (K:PySem.W.Frag) : Sp:=fun vs H Q _=>∃ (a:Addr) (g:Int) (ys:List V) (v1 v2:V) (t1 t2:Tr),vs = [.ref a,.int g]/\H a=some (.lst (ys ++ [v1] ++ [v2]))/\ys.length<=100/\TV K H v1 (cU t1)/\TV K H v2 (cU t2)/\∀ H' p y,aN H H'->H p=none->H' p=some (.lst (ys ++ [y]))->TV K H' y (cU (.fk (t1.w + t2.w + g) t1 t2))->Q (.ref p) H'
def sK (K:PySem.W.Frag) : Sp:=fun vs H Q _=>∃ (a:Addr) (ns:List Int) (s:Int),vs = [.ref a,.int s]/\H a=some (.lst (ns.map V.int))/\ns.length<=20/\1<=s/\s<=100000000000000000000/\∀ H' v t,aN H H'->TV K H' v (cU t)->t.lv<=20->t.sb->Q v H'
def uV (K:PySem.W.Frag) : Sp:=fun vs H Q _=>∃ (v:V) (a:Addr) (t:Tr) (ps:List Str),vs = [v,.ref a]/\TV K H v (cU t)/\H a=some (.lst (ps.map V.str))/\ps.length < 100/\(∀ x∈ps,x∈(dG t "").map (·.1))/\t.dp<=40/\Q (.int (c8 t ps)) H
def u6 (K:PySem.W.Frag) : Sp:=fun vs H Q _=>∃ (v:V) (a:Addr) (t:Tr) (ps gs:List Str),vs = [v,.ref a]/\TV K H v (cU t)/\H a=some (.lst (ps.map V.str))/\t.lv<=48/\t.dp<=20/\PI t "" ps gs/\∀ H',aN H H'->Q (.bl true) H'
def nG (ts:List Tr) : Nat:=(ts.map Tr.lv).sum
theorem jD (ts us:List Tr) : nG (ts ++ us)=nG ts + nG us:=by unfold nG; rw [List.map_append,List.sum_append]
theorem jB (t:Tr) : nG [t] = t.lv:=rfl
theorem jC:∀ ts:List Tr,ts.length<=nG ts
 | []=>Nat.le_refl _
 | t :: ts=>by
  have:=jC ts
  have:=t.lv_pos
  show ts.length + 1<=t.lv + nG ts
  omega
theorem TVs.last38  : ∀ {ys:List V}{ts:List Tr},TVs K H ys (ts.map cU)->0 < ys.length->∃ zs y as e,ys=zs ++ [y]/\ts=as ++ [e]/\TVs K H zs (as.map cU)/\TV K H y (cU e)
 | _,[],h,l=>by cases h; exact absurd l (Nat.lt_irrefl 0)
 | _,[e],h,l=>by
  cases h with
  | cons h1 h=>cases h; exact ⟨[],_,[],e,rfl,rfl,.nil,h1⟩
 | _,e :: e2 :: ts,h,l=>by
  cases h with
  | cons h1 h =>
   obtain ⟨zs,y,as,e',rfl,e3,t,ty⟩:=TVs.last38 (ts:=e2 :: ts) h (by rw [h.length]; exact Nat.succ_pos _)
   exact ⟨_ :: zs,y,e :: as,e',rfl,by rw [e3]; rfl,.cons h1 t,ty⟩
theorem TVs.two38 {ts:List Tr}(h:TVs K H xs (ts.map cU))(l:2<=xs.length) : ∃ ys v1 v2 us t1 t2,xs=ys ++ [v1] ++ [v2]/\ts=us ++ [t1] ++ [t2]/\TVs K H ys (us.map cU)/\TV K H v1 (cU t1)/\TV K H v2 (cU t2):=by
 obtain ⟨zs,v2,as,t2,rfl,rfl,tz,d2⟩:=TVs.last38 h (by omega)
 rw [List.length_append,List.length_singleton] at l
 obtain ⟨ys,v1,us,t1,rfl,rfl,ty,d1⟩:=TVs.last38 tz (by omega)
 exact ⟨ys,v1,v2,us,t1,t2,rfl,rfl,ty,d1,d2⟩
theorem TVs.snoc38 {us:List Tr}{y:V}{t:Tr}(h:TVs K H ys (us.map cU))(d:TV K H y (cU t)) : TVs K H (ys ++ [y]) ((us ++ [t]).map cU):=by
 rw [List.map_append]
 exact h.append (.cons d .nil)
theorem vA {us:List Tr}{t1 t2:Tr}{g:Int}(h:∀ t∈us ++ [t1] ++ [t2],t.sb)(g0 : -5000000000000000000000<=g)(g1:g<=5000000000000000000000) : ∀ t∈us ++ [Tr.fk (t1.w + t2.w + g) t1 t2],t.sb:=fun t ht=>by
 rcases List.mem_append.mp ht with ht | ht
 ·exact h t (List.mem_append_left _ (List.mem_append_left _ ht))
 ·rw [List.mem_singleton.mp ht]
  exact Tr.sb.fk (h t1 (List.mem_append_left _ (List.mem_append_right _ List.mem_cons_self))) (h t2 (List.mem_append_right _ List.mem_cons_self)) g0 g1
theorem rG (us:List Tr)(t1 t2:Tr)(g:Int) : nG (us ++ [Tr.fk (t1.w + t2.w + g) t1 t2])=nG (us ++ [t1] ++ [t2]):=by
 rw [jD,jD,jD,jB,jB,jB]
 show nG us + (t1.lv + t2.lv)=_
 omega
theorem sU {ms:List Str}(e:kvs.map (·.1)=ms.map Sum.inr)(x:Str)(v:V) : (fF kvs (.inr x) v).map (·.1)=(if x∈ms then ms else ms ++ [x]).map Sum.inr:=by
 unfold fF
 by_cases m:x∈ms
 ·have h:(kvs.any fun kv=>decide (kv.1=(Sum.inr x:bG)))=true:=by
   have:(Sum.inr x:bG)∈kvs.map (·.1):=by rw [e]; exact List.mem_map.mpr ⟨x,m,rfl⟩
   obtain ⟨kv,hk,e2⟩:=List.mem_map.mp this
   exact List.any_eq_true.mpr ⟨kv,hk,decide_eq_true e2⟩
  rw [if_pos h,if_pos m,List.map_map,<- e]
  apply List.map_congr_left
  intro kv _
  show (if kv.1=(Sum.inr x:bG) then (kv.1,v) else kv).1=kv.1
  split <;> rfl
 ·have h:¬ (kvs.any fun kv=>decide (kv.1=(Sum.inr x:bG)))=true:=fun z=>by
   obtain ⟨kv,hk,e2⟩:=List.any_eq_true.mp z
   have:(Sum.inr x:bG)∈kvs.map (·.1):=List.mem_map.mpr ⟨kv,hk,of_decide_eq_true e2⟩
   rw [e] at this
   obtain ⟨y,hy,e3⟩:=List.mem_map.mp this
   obtain rfl:=Sum.inr.inj e3
   exact m hy
  rw [if_neg h,if_neg m,List.map_append,List.map_append,e]
  rfl
structure Met (ps es:List Str) (kvs:List (bG × V)) (ms:List Str) : Prop where
 ks:kvs.map (·.1)=ms.map Sum.inr
 nd:ms.Nodup
 sub:∀ x∈ms,x∈ps
 all:∀ e∈es,∀ x∈eM e ps,x∈ms
 le:ms.length<=es.length
theorem Met.step {ps es:List Str}{kvs:List (bG × V)}{ms:List Str}{e x:Str}{v:V}(h:Met ps es kvs ms)(hx:eM e ps = [x]) : Met ps (es ++ [e]) (fF kvs (.inr x) v) (if x∈ms then ms else ms ++ [x]):=by
 have xp:x∈ps:=(List.mem_filter.mp (show x∈eM e ps by rw [hx]; exact List.mem_cons_self)).1
 have hle:=h.le
 refine ⟨sU h.ks x v,?_,?_,fun e' he y hy=>?_,by rw [List.length_append,List.length_singleton]; split; omega; rw [List.length_append,List.length_singleton]; omega⟩
 ·split
  ·exact h.nd
  ·rename_i m
   exact List.nodup_append.mpr ⟨h.nd,(by simp),fun a ha b hb e=>m (by rw [<- List.mem_singleton.mp hb,<- e]; exact ha)⟩
 ·split
  ·exact h.sub
  ·intro y hy
   rcases List.mem_append.mp hy with hy | hy
   ·exact h.sub y hy
   ·rw [List.mem_singleton.mp hy]; exact xp
 ·have key:y∈ms\/y=x:=by
   rcases List.mem_append.mp he with he | he
   ·exact .inl (h.all e' he y hy)
   ·rw [List.mem_singleton.mp he,hx] at hy
    exact .inr (List.mem_singleton.mp hy)
  split
  ·rename_i m
   rcases key with k | k
   ·exact k
   ·rw [k]; exact m
  ·rcases key with k | k
   ·exact List.mem_append_left _ k
   ·exact List.mem_append_right _ (List.mem_singleton.mpr k)
theorem Met.len {t:Tr}{ps:List Str}{ms:List Str}(h:Met ps (tV t "") kvs ms)(pi:PI t "" ps gs) : kvs.length=ps.length:=by
 have p:ms.Perm ps:=jZ h.nd (hV pi.up) fun x=>⟨h.sub x,fun hx=>by
  obtain ⟨u,hu,e,pr⟩:=pi.end' x hx
  refine h.all u.1 (mX hu e) x (List.mem_filter.mpr ⟨hx,?_⟩)
  exact (bU _ _).mpr pr⟩
 have:=congrArg List.length h.ks
 rw [List.length_map,List.length_map] at this
 rw [this,p.length_eq]
abbrev Pt:=Int × Rat
abbrev Kp:=Pt × Option Rat
def raD (r:Rat) : PyData:=.tuple [.int r.num,.int (r.den:Int)]
def ptD (p:Pt) : PyData:=.tuple [.int p.1,raD p.2]
def opD:Option Rat->PyData
 | none=>.none
 | some r=>raD r
def kpD (k:Kp) : PyData:=.tuple [ptD k.1,opD k.2]
def toD (t:Option Rat × Int) : PyData:=.tuple [opD t.1,.int t.2]
def cH (a b:Pt) : Rat:=(a.2 - b.2) / ((b.1 - a.1:Int) : Rat)
def p6:Option Rat->Rat->Bool
 | none,_=>false
 | some e,x => !decide (x < e)
def okE:Option Rat->Bool
 | none=>true
 | some e=>decide (0 < e)
def i5:List Kp->Pt->Option Rat->List Kp × Option Rat
 | [],_,c=>([],c)
 | k :: ks,p,_=>if p6 k.2 (cH k.1 p)=true then i5 ks p (some (cH k.1 p)) else (k :: ks,some (cH k.1 p))
def pH (ks:List Kp)(p:Pt) : List Kp:=if okE (i5 ks p none).2=true then (p,(i5 ks p none).2) :: (i5 ks p none).1 else (i5 ks p none).1
def sE (ps:List Pt) : List Kp:=ps.foldl pH []
def tol:Option Rat->List Kp->List (Option Rat × Int)
 | _,[]=>[]
 | c,k :: ks=>(c,k.1.1) :: tol k.2 ks
theorem vM {k:Kp}{ks:List Kp}{p:Pt}{c:Option Rat}(h:p6 k.2 (cH k.1 p)=true) : i5 (k :: ks) p c=i5 ks p (some (cH k.1 p)):=if_pos h
theorem pU {k:Kp}{ks:List Kp}{p:Pt}{c:Option Rat}(h:p6 k.2 (cH k.1 p)=false) : i5 (k :: ks) p c=(k :: ks,some (cH k.1 p)):=if_neg (by rw [h]; decide)
def lp (s a b l:Int) : Pt:=(l,((a - s * l:Int) : Rat) / (b:Rat))
theorem sC {l:Int}(h:l < m) : ((m - l:Int) : Rat) ≠ 0:=by
 intro z
 have:(m - l:Int)=0:=by exact_mod_cast z
 omega
def lq (s a b m f:Int) : Pt:=(m + 1,((a - s * m - s - f:Int) : Rat) / (b:Rat))
structure Okp (p:Pt) : Prop where
 c:Rz 200 p.2
 l:Bz 100 p.1
def Ek (e:Option Rat) : Prop:=∀ r,e=some r->Rz 600 r
theorem even_rz {a b:Pt}(ha:Okp a)(hb:Okp b)(h:a.1 < b.1) : Rz 600 (cH a b):=by
 have x:=ha.c.minus hb.c (k:=401) (by decide)
 have zd:Bz 101 (b.1 - a.1):=hb.l.sub' ha.l
 have d:=dp (a.2 - b.2)
 unfold cH
 rw [<- M.div_q]
 refine z8 (Int.mul_ne_zero (by omega) ?_) ?_ ?_
 ·rw [Rat.num_intCast]; omega
 ·rw [Rat.den_intCast]
  show Bz 600 ((a.2 - b.2).num * 1)
  rw [Int.mul_one]
  exact x.zn.mono (by decide)
 ·rw [Rat.num_intCast]
  exact (x.zd.mul zd).mono (by decide)
theorem even_ne {a b:Pt}(h:a.1 < b.1) : ((b.1 - a.1:Int) : Rat) ≠ 0:=sC h
theorem rz_int {n:Nat}{i:Int}(h:Bz n i)(h1:1<=n) : Rz n ((i:Int) : Rat):=⟨by rw [Rat.num_intCast]; exact h,by rw [Rat.den_intCast]; exact (show Bz 1 1 from (by show (1:Int).natAbs < 2 ^ 1; decide)).mono h1⟩
theorem TV.pt {x:V}{a:Pt}(h:TV K H x (ptD a)) : ∃ p q,x = .ref p/\H p=some (.tup [.int a.1,.ref q])/\H q=some (rt a.2):=by
 obtain ⟨p,u,v,rfl,hp,t1,t2⟩:=TV.pair h
 obtain rfl:=t1.ints
 obtain ⟨q,y,z,rfl,hq,t3,t4⟩:=TV.pair t2
 obtain rfl:=t3.ints
 obtain rfl:=t4.ints
 exact ⟨p,q,rfl,hp,hq⟩
theorem TV.op {x:V}{e:Option Rat}(h:TV K H x (opD e)) : (e=none/\x = .non)\/∃ r q,e=some r/\x = .ref q/\H q=some (rt r):=by
 cases e with
 | none=>cases h; exact .inl ⟨rfl,rfl⟩
 | some r =>
  obtain ⟨q,y,z,rfl,hq,t3,t4⟩:=TV.pair h
  obtain rfl:=t3.ints
  obtain rfl:=t4.ints
  exact .inr ⟨r,q,rfl,rfl,hq⟩
theorem TV.ra {q:Addr}(h:H q=some (rt r)) : TV K H (.ref q) (raD r):=.tup h (.cons (.int _) (.cons (.int _) .nil))
theorem TV.kp {x:V}{k:Kp}(h:TV K H x (kpD k)) : ∃ p q v,x = .ref p/\H p=some (.tup [.ref q,v])/\TV K H (.ref q) (ptD k.1)/\TV K H v (opD k.2):=by
 obtain ⟨p,u,v,rfl,hp,t1,t2⟩:=TV.pair h
 obtain ⟨q,_,rfl,_,_⟩:=TV.pt t1
 exact ⟨p,q,v,rfl,hp,t1,t2⟩
theorem TVs.unsnoc  : ∀ {ds:List PyData}{xs:List V}{d:PyData},TVs K H xs (ds ++ [d])->∃ ys y,xs=ys ++ [y]/\TVs K H ys ds/\TV K H y d
 | [],_,_,.cons h .nil=>⟨[],_,rfl,.nil,h⟩
 | _ :: ds,_,_,.cons h hs=>by
  obtain ⟨ys,y,rfl,h1,h2⟩:=TVs.unsnoc (ds:=ds) hs
  exact ⟨_ :: ys,y,rfl,.cons h h1,h2⟩
structure Kin (L:List Pt) (ks:List Kp) : Prop where
 len:ks.length<=L.length
 mem:∀ k∈ks,k.1∈L
 ek:∀ k∈ks,Ek k.2
def yF (K:PySem.W.Frag) : Sp:=fun vs H Q _=>∃ (p1 p2:Addr) (a b:Pt),vs = [.ref p1,.ref p2]/\TV K H (.ref p1) (ptD a)/\TV K H (.ref p2) (ptD b)/\Okp a/\Okp b/\a.1 < b.1/\∀ H' p,aN H H'->H' p=some (rt (cH a b))->Q (.ref p) H'
def pK (K:PySem.W.Frag) : Sp:=fun vs H Q _=>∃ (p1 p2:Addr) (k:Kp) (x:Rat),vs = [.ref p1,.ref p2]/\TV K H (.ref p1) (kpD k)/\Rt H p2 x/\Rz 600 x/\Ek k.2/\Q (.bl (p6 k.2 x)) H
def Pts (K:PySem.W.Frag)(H:Hp)(a:Addr)(ps:List Pt) : Prop:=∃ xs,H a=some (.lst xs)/\TVs K H xs (ps.map ptD)
structure Okl (ps:List Pt) : Prop where
 ok:∀ p∈ps,Okp p
 pw:ps.Pairwise (fun p q=>p.1 < q.1)
 len:ps.length<=60
def sP (K:PySem.W.Frag) : Sp:=fun vs H Q _=>∃ (a:Addr) (ps:List Pt),vs = [.ref a]/\Pts K H a ps/\Okl ps/\∀ H' p ys,H p=none->aN H H'->H' p=some (.lst ys)->TVs K H' ys ((sE ps).reverse.map kpD)->(sE ps).length<=60->Q (.ref p) H'
def pO (K:PySem.W.Frag) : Sp:=fun vs H Q _=>∃ (a:Addr) (ps:List Pt),vs = [.ref a]/\Pts K H a ps/\Okl ps/\∀ H' p ys,H p=none->aN H H'->H' p=some (.lst ys)->TVs K H' ys ((tol (some 0) (sE ps)).map toD)->Q (.ref p) H'
def ln (s t l:Int) : Int × Int:=(l,t - s * l)
structure Lin (ls:List Int) : Prop where
 pw:ls.Pairwise (· < ·)
 lo:∀ l∈ls,1<=l/\l<=36
def sV (b:Int)(c:Int × Int) : Pt:=(c.1,Rat.divInt c.2 b)
structure Okc (cs:List (Int × Int)) : Prop where
 pw:cs.Pairwise (fun p q=>p.1 < q.1)
 len:cs.length<=20
 z:∀ c∈cs,Bz 100 c.1/\Bz 150 c.2
def kC (p:Pt)(x:Rat) : Rat:=p.2 + x * (p.1:Rat)
theorem jE {a b:Pt}(h:a.1 < b.1)(x:Rat) : kC b x < kC a x↔x < cH a b:=by
 have hd:(0:Rat) < ((b.1 - a.1:Int) : Rat):=by
  have:(0:Int) < b.1 - a.1:=by omega
  exact_mod_cast this
 unfold cH kC
 rw [Rat.lt_div_iff hd,Rat.intCast_sub]
 constructor <;> intro z <;> grind
theorem uC (x y:Rat) : x < y\/y<=x:=by
 by_cases h:x < y
 ·exact .inl h
 ·exact .inr (Rat.not_lt.mp h)
theorem rLL {a b c:Rat}(h:a<=b)(g:b < c) : a < c:=by grind
theorem rLl {a b c:Rat}(h:a < b)(g:b<=c) : a < c:=by grind
theorem rTr {a b c:Rat}(h:a < b)(g:b < c) : a < c:=by grind
theorem rR {a b:Pt}(h:a.1 < b.1)(x:Rat) : kC a x < kC b x↔cH a b < x:=by
 have hd:(0:Rat) < ((b.1 - a.1:Int) : Rat):=by
  have:(0:Int) < b.1 - a.1:=by omega
  exact_mod_cast this
 unfold cH kC
 rw [Rat.div_lt_iff hd,Rat.intCast_sub]
 constructor <;> intro z <;> grind
theorem jH {a b:Pt}(h:a.1 < b.1)(x:Rat) : kC a x<=kC b x↔cH a b<=x:=by
 rw [<- Rat.not_lt,<- Rat.not_lt,jE h]
theorem rV {a b:Pt}(h:a.1 < b.1) : kC a (cH a b)=kC b (cH a b):=by
 have h1:=sC h
 unfold kC cH
 simp only [Rat.intCast_sub] at h1 ⊢
 grind
def i7 (P:List Pt)(x:Rat)(k:Pt) : Prop:=k∈P/\∀ p∈P,kC k x<=kC p x/\(kC k x=kC p x->k.1<=p.1)
inductive Good (P:List Pt) : Rat->List Kp->Prop
 | one {c:Rat}{k:Pt}(h:∀ x,c<=x->i7 P x k) : Good P c [(k,none)]
 | cons {c:Rat}{k m:Pt}{f:Option Rat}{ks:List Kp}(lt:m.1 < k.1) (h0:c < cH m k) (h:∀ x,c<=x->x < cH m k->i7 P x k) (g:Good P (cH m k) ((m,f) :: ks)) : Good P c ((k,some (cH m k)) :: (m,f) :: ks)
theorem Good.mem {P:List Pt}{c:Rat}{ks:List Kp}(g:Good P c ks) : ∀ k∈ks,k.1∈P:=by
 induction g with
 | one h=>intro k hk; rw [List.mem_singleton.mp hk]; exact (h _ (Rat.le_refl)).1
 | cons lt h0 h g ih =>
  intro k hk
  rcases List.mem_cons.mp hk with rfl | hk
  ·exact (h _ Rat.le_refl h0).1
  ·exact ih k hk
theorem Good.more {P:List Pt}{c:Rat}{ks:List Kp}(g:Good P c ks){p:Pt}(hp:∀ q∈P,q.1 < p.1)(h:∀ k,ks.head? = some k->cH k.1 p<=c) : Good (P ++ [p]) c ks:=by
 have bm:∀ {x:Rat}{k:Pt},i7 P x k->kC k x<=kC p x->i7 (P ++ [p]) x k:=fun {x k} b le=>⟨List.mem_append_left _ b.1,fun q hq=>by
  rcases List.mem_append.mp hq with z | z
  ·exact b.2 q z
  ·rw [List.mem_singleton.mp z]
   exact ⟨le,fun _=>Int.le_of_lt (hp k b.1)⟩⟩
 induction g with
 | @one c k b =>
  have hk:=h (k,none) rfl
  exact .one fun x hx=>bm (b x hx) ((jH (hp k (b x hx).1) x).mpr (Rat.le_trans hk hx))
 | @cons c k m f ks lt h0 b g ih =>
  have hk:=h (k,_) rfl
  have kP:=(b c Rat.le_refl h0).1
  have mP:=g.mem (m,f) List.mem_cons_self
  refine .cons lt h0 (fun x hx hx2=>bm (b x hx hx2) ((jH (hp k kP) x).mpr (Rat.le_trans hk hx))) (ih fun q hq=>?_)
  obtain rfl:=Option.some.inj hq
  rw [<- jH (hp m mP),rV lt,jH (hp k kP)]
  exact Rat.le_trans hk (Rat.le_of_lt h0)
theorem vL {P:List Pt}{p:Pt}(hp:∀ q∈P,q.1 < p.1) {c:Rat}{ks:List Kp}(g:Good P c ks) (b:Rat) (hc:b<=c) (o:Option Rat) (hb:∀ x,b<=x->x < c->i7 (P ++ [p]) x p) (hg:b < c->∀ k,ks.head? = some k->c<=cH k.1 p) :
  ∃ m f ks',i5 ks p o=((m,f) :: ks',some (cH m p))/\m.1 < p.1/\(∀ x,b<=x->x < cH m p->i7 (P ++ [p]) x p) /\
   ((b < cH m p/\Good (P ++ [p]) (cH m p) ((m,f) :: ks'))\/(cH m p<=b/\Good (P ++ [p]) b ((m,f) :: ks')/\(m,f) :: ks'=ks/\c=b)):=by
 have bp:∀ {x:Rat}{k:Pt},i7 P x k->kC p x < kC k x->i7 (P ++ [p]) x p:=fun {x k} bb lt=>⟨List.mem_append_right _ List.mem_cons_self,fun q hq=>by
  rcases List.mem_append.mp hq with z | z
  ·have:=(bb.2 q z).1
   exact ⟨Rat.le_trans (Rat.le_of_lt lt) this,fun e=>absurd (e ▸ this) (Rat.not_le.mpr lt)⟩
  ·rw [List.mem_singleton.mp z]
   exact ⟨Rat.le_refl,fun _=>Int.le_refl _⟩⟩
 induction g generalizing o with
 | @one c k h =>
  have kP:=(h c Rat.le_refl).1
  have lt:=hp k kP
  refine ⟨k,none,[],pU rfl,lt,fun x h1 h2=>?_,?_⟩
  ·rcases uC x c with z | z
   ·exact hb x h1 z
   ·exact bp (h x z) ((jE lt x).mpr h2)
  ·rcases uC b (cH k p) with z | z
   ·refine .inl ⟨z,?_⟩
    have ce:c<=cH k p\/c=b:=by
     rcases uC b c with y | y
     ·exact .inl (hg y _ rfl)
     ·exact .inr (Rat.le_antisymm y hc)
    refine Good.more (P:=P) (.one fun x hx=>?_) hp fun q hq=>by obtain rfl:=Option.some.inj hq; exact Rat.le_refl
    refine h x (Rat.le_trans ?_ hx)
    rcases ce with y | y
    ·exact y
    ·rw [y]; exact Rat.le_of_lt z
   ·have e:c=b:=by
     rcases uC b c with y | y
     ·exact absurd (hg y _ rfl) (Rat.not_le.mpr (rLL z y))
     ·exact Rat.le_antisymm y hc
    refine .inr ⟨z,?_,rfl,e⟩
    rw [<- e]
    exact Good.more (P:=P) (.one h) hp fun q hq=>by obtain rfl:=Option.some.inj hq; rw [e]; exact z
 | @cons c k m f ks lt h0 h g ih =>
  have kP:=(h c Rat.le_refl h0).1
  have mP:=g.mem (m,f) List.mem_cons_self
  have ltk:=hp k kP
  have ltm:=hp m mP
  rcases uC (cH k p) (cH m k) with z | z
  ·have nw:p6 (some (cH m k)) (cH k p)=false:=by show (!decide (cH k p < cH m k))=false; rw [decide_eq_true z]; rfl
   refine ⟨k,some (cH m k),(m,f) :: ks,pU nw,ltk,fun x h1 h2=>?_,?_⟩
   ·rcases uC x c with y | y
    ·exact hb x h1 y
    ·exact bp (h x y (rTr h2 z)) ((jE ltk x).mpr h2)
   ·rcases uC b (cH k p) with y | y
    ·have ce:c<=cH k p:=by
      rcases uC b c with w | w
      ·exact hg w _ rfl
      ·exact Rat.le_trans w (Rat.le_of_lt y)
     refine .inl ⟨y,Good.more (P:=P) (.cons lt z (fun x hx hx2=>h x (Rat.le_trans ce hx) hx2) g) hp fun q hq=>?_⟩
     obtain rfl:=Option.some.inj hq
     exact Rat.le_refl
    ·have e:c=b:=by
      rcases uC b c with w | w
      ·exact absurd (hg w _ rfl) (Rat.not_le.mpr (rLL y w))
      ·exact Rat.le_antisymm w hc
     refine .inr ⟨y,?_,rfl,e⟩
     rw [<- e]
     refine Good.more (P:=P) (.cons lt h0 h g) hp fun q hq=>?_
     obtain rfl:=Option.some.inj hq
     rw [e]; exact y
  ·have nw:p6 (some (cH m k)) (cH k p)=true:=by show (!decide (cH k p < cH m k))=true; rw [decide_eq_false (Rat.not_lt.mpr z)]; rfl
   have bc:b < cH m k:=rLL hc h0
   obtain ⟨m',f',ks',e1,e2,e3,e4⟩:=ih (Rat.le_of_lt bc) (some (cH k p)) (fun x h1 h2=>by
    rcases uC x c with y | y
    ·exact hb x h1 y
    ·exact bp (h x y h2) ((jE ltk x).mpr (rLl h2 z))) (fun _ q hq=>by
    obtain rfl:=Option.some.inj hq
    refine Rat.not_lt.mp fun w=>?_
    have a1:=(rR ltm (cH m k)).mpr w
    rw [rV lt,rR ltk] at a1
    exact absurd a1 (Rat.not_lt.mpr z))
   refine ⟨m',f',ks',(vM nw).trans e1,e2,e3,?_⟩
   rcases e4 with y | ⟨_,_,_,y⟩
   ·exact .inl y
   ·exact absurd bc (by rw [y]; exact Rat.lt_irrefl)
theorem uS {P:List Pt}{p:Pt}(hp:∀ q∈P,q.1 < p.1){ks:List Kp}(g:Good P 0 ks) : Good (P ++ [p]) 0 (pH ks p):=by
 obtain ⟨m,f,ks',e,lt,hb,z⟩:=vL hp g 0 Rat.le_refl none (fun x h1 h2=>absurd h1 (Rat.not_le.mpr h2)) (fun h=>absurd h Rat.lt_irrefl)
 unfold pH
 rw [e]
 rcases z with ⟨h1,h2⟩ | ⟨h1,h2,_⟩
 ·show Good _ _ (if decide (0 < cH m p)=true then _ else _)
  rw [if_pos (decide_eq_true h1)]
  exact .cons lt h1 hb h2
 ·show Good _ _ (if decide (0 < cH m p)=true then _ else _)
  rw [if_neg (by rw [decide_eq_true_eq]; exact Rat.not_lt.mpr h1)]
  exact h2
theorem lO:∀ (qs P:List Pt) (ks:List Kp),Good P 0 ks->(P ++ qs).Pairwise (fun p q=>p.1 < q.1)->Good (P ++ qs) 0 (qs.foldl pH ks)
 | [],P,ks,g,_=>by rw [List.append_nil]; exact g
 | q :: qs,P,ks,g,pw=>by
  have e:P ++ q :: qs=(P ++ [q]) ++ qs:=by rw [List.append_assoc]; rfl
  rw [e] at pw ⊢
  refine lO qs (P ++ [q]) (pH ks q) (uS (fun x hx=>?_) g) pw
  rw [List.pairwise_append,List.pairwise_append] at pw
  exact pw.1.2.2 x hx q List.mem_cons_self
theorem xM {p:Pt}{ps:List Pt}(pw:(p :: ps).Pairwise (fun p q=>p.1 < q.1)) : Good (p :: ps) 0 (sE (p :: ps)) :=
 lO ps [p] [(p,none)] (.one fun x _=>⟨List.mem_cons_self,fun q hq=>by rw [List.mem_singleton.mp hq]; exact ⟨Rat.le_refl,fun _=>Int.le_refl _⟩⟩) pw
theorem i7.one {P:List Pt}{q:Rat}{k m:Pt}(h:i7 P q k)(g:i7 P q m) : k.1=m.1:=by
 have a:=h.2 m g.1
 have b:=g.2 k h.1
 have e:=Rat.le_antisymm a.1 b.1
 exact Int.le_antisymm (a.2 e) (b.2 e.symm)
def vl (x y b:Int)(c:Int × Int) : Int:=c.2 * y + x * b * c.1
theorem vl_lt {x y:Int}(hy:0 < y)(hb:0 < b)(c d:Int × Int) : vl x y b c < vl x y b d↔kC (sV b c) ((x:Rat) / (y:Rat)) < kC (sV b d) ((x:Rat) / (y:Rat)):=by
  have hyb:0 < y * b:=Int.mul_pos hy hb
  have hyb':(0:Rat) < ((y * b:Int) : Rat):=by exact_mod_cast hyb
  have hy' : (y : Rat) ≠ 0 := by intro z; have : y = 0 := by exact_mod_cast z
                                 omega
  have hb' : (b : Rat) ≠ 0 := by intro z; have : b = 0 := by exact_mod_cast z
                                 omega
  have e:∀ c:Int × Int,kC (sV b c) ((x:Rat) / (y:Rat))=((vl x y b c:Int) : Rat) / ((y * b:Int) : Rat):=by
    intro c
    unfold kC sV vl
    rw [Rat.divInt_eq_div]
    simp only [Rat.intCast_add,Rat.intCast_mul]
    grind
  rw [e,e,Rat.div_lt_iff hyb']
  have e3:((vl x y b d:Int) : Rat) / ((y * b:Int) : Rat) * ((y * b:Int) : Rat)=((vl x y b d:Int) : Rat):=by
    have:((y * b:Int) : Rat) ≠ 0:=fun z=>by rw [z] at hyb'; exact Rat.lt_irrefl hyb'
    grind
  rw [e3,Rat.intCast_lt_intCast]
structure Bs (x y b:Int) (cs:List (Int × Int)) (i:Nat) (r:Int × Int) : Prop where
 mem:∃ j,j < max i 1/\cs[j]? = some r
 le:∀ j c,j < i->cs[j]? = some c->vl x y b r<=vl x y b c/\(vl x y b r=vl x y b c->r.1<=c.1)
inductive Tb (f:Rat->Int->Prop) : Rat->List (Option Rat × Int)->Prop
 | one {c:Rat}{n:Int} : (∀ x,c<=x->f x n)->Tb f c [(some c,n)]
 | cons {c d:Rat}{n m:Int}{l:List (Option Rat × Int)} : c < d->n ≠ m->(∀ x,c<=x->x < d->f x n)->Tb f d ((some d,m) :: l)->Tb f c ((some c,n) :: (some d,m) :: l)
theorem Tb.hd {f:Rat->Int->Prop}{c d:Rat}{n:Int}{l:List (Option Rat × Int)}(h:Tb f c ((some d,n) :: l)) : f c n:=by
 cases h with
 | one h=>exact h _ Rat.le_refl
 | cons lt _ h _=>exact h _ Rat.le_refl lt
theorem Tb.uni {f:Rat->Int->Prop}(fn:∀ (x:Rat)(n m:Int),f x n->f x m->n=m){c:Rat}{l:List (Option Rat × Int)}(h:Tb f c l) : ∀ {l':List (Option Rat × Int)},Tb f c l'->l=l':=by
 induction h with
 | @one c n h =>
  intro l' h'
  cases h' with
  | one h'=>rw [fn _ _ _ (h _ Rat.le_refl) (h' _ Rat.le_refl)]
  | @cons _ d n' m l lt ne h' t =>
   have e:=fn _ _ _ (h _ Rat.le_refl) (h' _ Rat.le_refl lt)
   have e2:=fn _ _ _ (h _ (Rat.le_of_lt lt)) t.hd
   exact absurd (e.symm.trans e2) ne
 | @cons c d n m l lt ne h t ih =>
  intro l' h'
  cases h' with
  | one h' =>
   have e:=fn _ _ _ (h _ Rat.le_refl lt) (h' _ Rat.le_refl)
   have e2:=fn _ _ _ t.hd (h' _ (Rat.le_of_lt lt))
   exact absurd (e.trans e2.symm) ne
  | @cons _ d' n' m' l' lt' ne' h' t' =>
   have e:=fn _ _ _ (h _ Rat.le_refl lt) (h' _ Rat.le_refl lt')
   have ed:d=d':=by
    rcases uC d d' with z | z
    ·exact absurd (e.trans (fn _ _ _ t.hd (h' _ (Rat.le_of_lt lt) z)).symm) ne
    ·rcases uC d' d with y | y
     ·exact absurd (e.symm.trans (fn _ _ _ t'.hd (h _ (Rat.le_of_lt lt') y)).symm) ne'
     ·exact Rat.le_antisymm y z
   subst ed
   rw [ih t',e]
def Fb (P:List Pt)(x:Rat)(n:Int) : Prop:=∃ k,i7 P x k/\k.1=n
theorem Fb.one {P:List Pt}{x:Rat}{n m:Int}(h:Fb P x n)(g:Fb P x m) : n=m:=by
 obtain ⟨k,b,rfl⟩:=h
 obtain ⟨l,c,rfl⟩:=g
 exact b.one c
theorem Good.tb {P:List Pt}{c:Rat}{ks:List Kp}(g:Good P c ks) : Tb (Fb P) c (tol (some c) ks):=by
 induction g with
 | one h=>exact .one fun x hx=>⟨_,h x hx,rfl⟩
 | @cons c k m f ks lt h0 h g ih=>exact .cons h0 (fun e=>by have e:k.1=m.1:=e; omega) (fun x h1 h2=>⟨_,h x h1 h2,rfl⟩) ih
theorem p8 (r:Rat)(x:Rat × List Str) : kQ r x=true↔x.1<=r:=by
 unfold kQ
 rw [<- Rat.not_lt,Rat.lt_iff,Bool.not_eq_true',decide_eq_false_iff_not]
theorem nP {f:Rat->Int->Prop}(hf:∀ x q ps,0<=x->(sts.filter (kQ x)).getLast? = some (q,ps)->f x (ps.length:Nat))(pw:sts.Pairwise fun a b=>a.1 < b.1/\b.2.length < a.2.length)(z0:∀ s∈sts,0<=s.1) : ∀ (l2 l1:List (Rat × List Str)) (z:Rat × List Str),sts=l1 ++ z :: l2->Tb f z.1 ((z :: l2).map fun s=>(some s.1,((s.2.length:Nat) : Int)))
 | l2,l1,z,e=>by
  have pw':=pw
  rw [e,List.pairwise_append] at pw'
  obtain ⟨_,p2,p3⟩:=pw'
  obtain ⟨p4,p5⟩:=List.pairwise_cons.mp p2
  have at_:∀ x,z.1<=x->(∀ y∈l2,x < y.1)->f x (z.2.length:Nat):=fun x hx hy=>by
   refine hf x z.1 z.2 (Rat.le_trans (z0 z (by rw [e]; exact List.mem_append_right _ List.mem_cons_self)) hx) ?_
   have e1:l1.filter (kQ x)=l1:=List.filter_eq_self.mpr fun y h=>(p8 x y).mpr (Rat.le_trans (Rat.le_of_lt (p3 y h z List.mem_cons_self).1) hx)
   have e2:l2.filter (kQ x) = []:=List.filter_eq_nil_iff.mpr fun y h w=>absurd ((p8 x y).mp w) (Rat.not_le.mpr (hy y h))
   rw [e,List.filter_append,e1,List.filter_cons,if_pos ((p8 x z).mpr hx),e2]
   simp
  cases l2 with
  | nil=>exact .one fun x hx=>at_ x hx fun y h=>by cases h
  | cons y r =>
   have hy:=p4 y List.mem_cons_self
   refine .cons hy.1 (by omega) (fun x h1 h2=>at_ x h1 fun w hw=>?_) (nP hf pw z0 r (l1 ++ [z]) y (by rw [e,List.append_assoc]; rfl))
   rcases List.mem_cons.mp hw with rfl | hw
   ·exact h2
   ·exact rTr h2 ((List.pairwise_cons.mp p5).1 w hw).1
theorem kD {α:Type}{R:α->α->Prop}(tr:∀ a b c:α,R a b->R b c->R a c) : ∀ {l:List α},(∀ (i:Nat) x y,l[i]? = some x->l[i + 1]? = some y->R x y)->l.Pairwise R
 | [],_=>List.Pairwise.nil
 | [_],_=>List.pairwise_singleton _ _
 | a :: b :: l,h=>by
  have ih:=kD tr (l:=b :: l) fun i x y hx hy=>h (i + 1) x y hx hy
  have ab:=h 0 a b rfl rfl
  refine List.pairwise_cons.mpr ⟨fun c hc=>?_,ih⟩
  rcases List.mem_cons.mp hc with rfl | hc
  ·exact ab
  ·exact tr _ _ _ ab ((List.pairwise_cons.mp ih).1 c hc)
theorem Pth.pw {t:Tr}{B:Int}(b0:0 < B)(h:Pth t B sts a b us) : sts.Pairwise fun a b=>a.1 < b.1/\b.2.length < a.2.length :=
 kD (R:=fun (a b:Rat × List Str)=>a.1 < b.1/\b.2.length < a.2.length) (fun _ _ _ h g=>⟨rTr h.1 g.1,Nat.lt_trans g.2 h.2⟩) fun i x y hx hy=>by
  have n:=h.nbr hx hy
  obtain ⟨_,_,_,_,_,l,_⟩:=n.same b0
  exact ⟨(Rat.lt_iff _ _).mpr (Int.not_le.mp (n.rise b0)),l⟩
abbrev vF (B:Int) (us:List (Int × List Str)) : List Pt:=us.map fun u=>sV B (((u.2.length:Nat) : Int),u.1)
theorem kL.pw {t:Tr}{B:Int}{us:List (Int × List Str)}(h:kL t us) : (vF B us).Pairwise fun p q=>p.1 < q.1 :=
 kD (R:=fun (p q:Pt)=>p.1 < q.1) (fun _ _ _ h g=>Int.lt_trans h g) fun i x y hx hy=>by
  rw [List.getElem?_map] at hx hy
  obtain ⟨u,hu,rfl⟩:=Option.map_eq_some_iff.mp hx
  obtain ⟨v,hv,rfl⟩:=Option.map_eq_some_iff.mp hy
  have l1:=(h i u hu).len
  have l2:=(h (i + 1) v hv).len
  show ((u.2.length:Nat) : Int) < ((v.2.length:Nat) : Int)
  omega
theorem best_of {t:Tr}{B top low:Int}{us:List (Int × List Str)}{ps:List Str}(b0:0 < B)(l0:0 < low)(rg:kL t us)(ln:us.length=t.lv)(hp:PS t "" ps s)(o:∀ qs r,PS t "" qs r->s * low + top * (ps.length:Nat) * B<=r * low + top * (qs.length:Nat) * B/\(s * low + top * (ps.length:Nat) * B=r * low + top * (qs.length:Nat) * B->cY ps qs))(ll:∀ qs r,PS t "" qs r->cY ps qs->ps.length<=qs.length) : Fb (vF B us) ((top:Rat) / (low:Rat)) (ps.length:Nat):=by
 have bd:=hp.ln.bd
 have hu:=List.getElem?_eq_getElem (show ps.length - 1 < us.length by omega)
 have ru:=rg _ _ hu
 generalize us[ps.length - 1] = u at hu ru
 have lu:u.2.length=ps.length:=by have:=ru.len; omega
 have es:u.1=s:=by
  have h1:=ru.low s (by rw [show ps.length - 1 + 1=ps.length by omega]; exact hp.ln)
  have h2:=(o _ _ ru.ps).1
  rw [lu] at h2
  have h3:s * low<=u.1 * low:=by omega
  exact Int.le_antisymm h1 (Int.le_of_mul_le_mul_right h3 l0)
 refine ⟨sV B (((u.2.length:Nat) : Int),u.1),⟨List.mem_map.mpr ⟨u,List.mem_of_getElem? hu,rfl⟩,fun p hp'=>?_⟩,by rw [lu]; rfl⟩
 obtain ⟨v,hv,rfl⟩:=List.mem_map.mp hp'
 obtain ⟨j,hj⟩:=List.getElem?_of_mem hv
 have rv:=rg j v hj
 obtain ⟨o1,o2⟩:=o _ _ rv.ps
 have vle:vl top low B (((u.2.length:Nat) : Int),u.1)<=vl top low B (((v.2.length:Nat) : Int),v.1):=by
  unfold vl
  rw [lu,es]
  show s * low + top * B * (ps.length:Nat)<=v.1 * low + top * B * (v.2.length:Nat)
  rw [Int.mul_right_comm top B,Int.mul_right_comm top B]
  exact o1
 refine ⟨Rat.not_lt.mp fun z=>absurd ((vl_lt l0 b0 _ _).mpr z) (Int.not_lt.mpr vle),fun e=>?_⟩
 have veq:vl top low B (((u.2.length:Nat) : Int),u.1)=vl top low B (((v.2.length:Nat) : Int),v.1):=by
  rcases Int.lt_or_eq_of_le vle with z | z
  ·have:=(vl_lt l0 b0 _ _).mp z
   rw [e] at this
   exact absurd this Rat.lt_irrefl
  ·exact z
 have l:=ll _ _ rv.ps (o2 (by
  unfold vl at veq
  rw [lu,es] at veq
  have veq:s * low + top * B * (ps.length:Nat)=v.1 * low + top * B * (v.2.length:Nat):=veq
  rw [Int.mul_right_comm top B,Int.mul_right_comm top B] at veq
  exact veq))
 show ((u.2.length:Nat) : Int)<=((v.2.length:Nat) : Int)
 omega
theorem wM {t:Tr}{q:Str}{ps:List Str}(h:PS t q ps s) : ∀ {qs:List Str}{r:Int},PS t q qs r->cY ps qs->ps.length<=qs.length:=by
 induction h with
 | stop t q =>
  intro qs r hq _
  obtain ⟨gs,pi⟩:=hq.pi
  have:=pi.len.2
  show 1<=_
  omega
 | @go w y n q ps1 ps2 s1 s2 h1 h2 i1 i2 =>
  intro qs r hq l
  obtain ⟨g1,p1⟩:=h1.pi
  obtain ⟨g2,p2⟩:=h2.pi
  cases hq with
  | stop =>
   obtain ⟨o,ho,p⟩:=l q (List.mem_singleton.mpr rfl)
   exfalso
   rcases List.mem_append.mp ho with ho | ho
   ·have:=((p2.pre.1 o ho).trans p).length_le
    have l1:(bI ("n" : Str)).length=1:=by decide +kernel
    rw [bT,List.length_append] at this
    omega
   ·have:=((p1.pre.1 o ho).trans p).length_le
    have l1:(bI ("y" : Str)).length=1:=by decide +kernel
    rw [bT,List.length_append] at this
    omega
  | go k1 k2 =>
   obtain ⟨g3,p3⟩:=k1.pi
   obtain ⟨g4,p4⟩:=k2.pi
   have a:=i1 k1 (cY.y l p2.pre.1 p3.pre.1)
   have b:=i2 k2 (cY.n l p1.pre.1 p4.pre.1)
   rw [List.length_append,List.length_append]
   omega
theorem meet {t:Tr}{B:Int}{us:List (Int × List Str)}(b0:0 < B)(h:Pth t B sts a b [])(rg:kL t us)(ln:us.length=t.lv) : tol (some 0) (sE (vF B us))=sts.map fun s=>(some s.1,((s.2.length:Nat) : Int)):=by
 have g:Good (vF B us) 0 (sE (vF B us)):=by
  have pw:=rg.pw (B:=B)
  cases us with
  | nil=>have:=t.lv_pos; rw [List.length_nil] at ln; omega
  | cons u us=>exact xM pw
 obtain ⟨l,e⟩:=h.head
 have pw:=h.pw b0
 have z0:∀ s∈sts,0<=s.1:=fun s hs=>by
  rw [e] at pw hs
  rcases List.mem_cons.mp hs with rfl | hs
  ·exact Rat.le_refl
  ·exact Rat.le_of_lt ((List.pairwise_cons.mp pw).1 s hs).1
 have t2:=nP (f:=Fb (vF B us)) (sts:=sts) (fun x q ps _ hl=>by
  have d0:(0:Int) < (x.den:Int):=by have:=x.den_pos; omega
  have ex:Rat.divInt x.num (x.den:Int)=x:=Rat.num_divInt_den x
  rw [<- ex] at hl
  obtain ⟨s,hp,o⟩:=h.price b0 d0 hl
  have f:=best_of b0 d0 rg ln hp o fun qs r hq li=>wM hp hq li
  rw [<- Rat.divInt_eq_div,ex] at f
  exact f) pw z0 l [] (0,(bM 1 0 t "").1) e
 rw [<- e] at t2
 exact Tb.uni (f:=Fb (vF B us)) (fun _ _ _ h g=>Fb.one h g) g.tb t2
def Bd (x k:Int) : Prop:=(k=1\/k=0)/\(k=0->0<=x/\x < 2147483647)
def pN:Sp:=fun vs H Q _=>∃ (b:Addr) (x k m:Int),vs = [.ref b,.int m]/\H b=some (.lst [.int x,.int k])/\Bd x k/\0 < m/\m<=1000/\∀ x' d:Int,Bd x' k->0<=d/\d < m->Q (.int d) (upd H b (.lst [.int x',.int k]))
def Tr.s2:Tr->Prop
 | .en w => -10000000000000000000000<=w/\w<=10000000000000000000000
 | .fk w y n=>(-10000000000000000000000 * (2 * ((y.lv + n.lv:Nat) : Int) - 1)<=w/\w<=10000000000000000000000 * (2 * ((y.lv + n.lv:Nat) : Int) - 1))/\y.s2/\n.s2
theorem Tr.s2.w {t:Tr}(h:t.s2) : -10000000000000000000000 * (2 * (t.lv:Int) - 1)<=t.w/\t.w<=10000000000000000000000 * (2 * (t.lv:Int) - 1):=by
 cases t with
 | en w=>have : -10000000000000000000000<=w/\w<=10000000000000000000000:=h; show -10000000000000000000000 * (2 * ((1:Nat) : Int) - 1)<=w/\w<=10000000000000000000000 * (2 * ((1:Nat) : Int) - 1); omega
 | fk w y n=>exact h.1
theorem Tr.s2.B:∀ {t:Tr},t.s2->t.lv<=50->t.B
 | .en w,h,_=>by
  have : -10000000000000000000000<=w/\w<=10000000000000000000000:=h
  exact ⟨by omega,by omega⟩
 | .fk w y n,h,l=>by
  have l:y.lv + n.lv<=50:=l
  have h1:=h.1
  exact ⟨⟨by omega,by omega⟩,h.2.1.B (by omega),h.2.2.B (by omega)⟩
theorem Tr.s2.fk {y n:Tr}{g:Int}(hy:y.s2)(hn:n.s2)(g0 : -10000000000000000000000<=g)(g1:g<=10000000000000000000000) : (Tr.fk (y.w + n.w + g) y n).s2:=by
 have a:=hy.w
 have b:=hn.w
 exact ⟨by omega,hy,hn⟩
theorem oI {x:Int}(h0 : -20<=x)(h1:x<=80)(s0:1<=s)(s1:s<=100000000000000000000) : -10000000000000000000000<=x * s/\x * s<=10000000000000000000000:=by
 have a:x * s<=80 * s:=Int.mul_le_mul_of_nonneg_right h1 (by omega)
 have b : -20 * s<=x * s:=Int.mul_le_mul_of_nonneg_right h0 (by omega)
 omega
def Bt (x y:Addr)(H H':Hp) : Prop:=∀ b o,b ≠ x->b ≠ y->H b=some o->H' b=some o
theorem Bt.t {x y:Addr}(h:Bt x y H H')(hx:H x=some (.lst xs))(hy:H y=some (.lst ys)) : bF H H':=fun a zs e=>h _ _ (fQ e hx (by intro z; cases z)) (fQ e hy (by intro z; cases z)) e
theorem Bt.refl (x y:Addr)(H:Hp) : Bt x y H H:=fun _ _ _ _ e=>e
theorem Bt.trans {x y:Addr}{H2:Hp}(h:Bt x y H H1)(g:Bt x y H1 H2) : Bt x y H H2:=fun b o n1 n2 e=>g _ _ n1 n2 (h _ _ n1 n2 e)
theorem Bt.x {x y:Addr}(h:Bt x y H H1)(o:HO) : Bt x y H (upd H1 x o):=fun b u n1 n2 e=>by rw [aR n1]; exact h _ _ n1 n2 e
theorem Bt.y {x y:Addr}(h:Bt x y H H1)(o:HO) : Bt x y H (upd H1 y o):=fun b u n1 n2 e=>by rw [aR n2]; exact h _ _ n1 n2 e
theorem Bt.new {x y:Addr}(h:Bt x y H H1)(hp:H1 p=none)(o:HO) : Bt x y H (upd H1 p o):=fun b u n1 n2 e=>aM hp o _ _ (h _ _ n1 n2 e)
def fW (K:PySem.W.Frag)(d:Nat) : Sp:=fun vs H Q _=>∃ (b la:Addr) (x k n s:Int),vs = [.ref b,.ref la,.int s]/\H b=some (.lst [.int x,.int k])/\Bd x k/\H la=some (.lst [.int n])/\0<=n/\n<=(d:Nat)/\b ≠ la/\1<=s/\s<=100000000000000000000 /\
 ∀ H' v t (x' n':Int),Bt b la H H'->H' b=some (.lst [.int x',.int k])->Bd x' k->H' la=some (.lst [.int n'])->0<=n'->n'<=n->TV K H' v (cU t)->(t.lv:Int)=1 + (n - n')->t.dp<=d->t.s2->Q v H'
def pI:Sp:=fun vs H Q _=>∃ (c l b:Int) (p:Addr) (x y:Int),vs = [.int c,.int l,.int b,.ref p]/\H p=some (.tup [.int x,.int y])/\Bz 400 c/\Bz 20 l/\Bz 128 b/\Bz 128 x/\Bz 128 y/\Q (.int (c * y + x * b * l)) H
def sM (K:PySem.W.Frag) : Sp:=fun vs H Q _=>∃ (a:Addr) (xs:List V) (sts:List (Rat × List Str)) (pa:Addr) (r:Rat),vs = [.ref a,.ref pa]/\H a=some (.lst xs)/\QVs H xs sts/\sts.length<=60/\H pa=some (rt r)/\Rz 8000 r/\(∀ x∈sts,Rz 8000 x.1)/\0<=r.num/\(∃ (i:Nat) (x:Rat × List Str),sts[i]? = some x/\kQ r x=true)/\∀ H' p rr l q ps,aN H H'->(sts.filter (kQ r)).getLast? = some (q,ps)->H' p=some (.tup [.ref rr,.ref l])->H' l=some (.lst (ps.map V.str))->Q (.ref p) H'
def sO (K:PySem.W.Frag) : Sp:=fun vs H Q _=>∃ (a:Addr) (xs:List V) (sts:List (Rat × List Str)) (pa:Addr) (r:Rat),vs = [.ref a,.ref pa]/\H a=some (.lst xs)/\QVs H xs sts/\sts.length<=60/\H pa=some (rt r)/\Rz 8000 r/\(∀ x∈sts,Rz 8000 x.1)/\0<=r.num/\(∃ (i:Nat) (x:Rat × List Str),sts[i]? = some x/\kQ r x=true)/\(∀ x∈sts,x.2.length<=60)/\∀ H' z q ps,aN H H'->H z=none->(sts.filter (kQ r)).getLast? = some (q,ps)->H' z=some (.lst (ps.map V.str))->Q (.ref z) H'
theorem okp41 {t:Tr}{B:Int}{us:List (Int × List Str)}{p:Pt}(tb:t.B)(lt:t.lv<=20)(b0:0 < B)(b2:B<=1000000000)(rg:kL t us)(hp:p∈vF B us) : Okp p:=by
 obtain ⟨u,hu,rfl⟩:=List.mem_map.mp hp
 obtain ⟨i,hi⟩:=List.getElem?_of_mem hu
 have r:=rg i u hi
 obtain ⟨gs,pi⟩:=r.ps.pi
 have ln:=pi.len
 have e:=r.ps.sum (W:=wA t) eO
 have c:=m8 tb pi (by omega)
 have e:u.1=c8 t u.2:=e
 rw [<- e] at c
 refine ⟨z8 (by omega) (Bz.mono (Bz.w (by omega) (by omega)) (by decide)) (Bz.mono (Bz.w (by omega) (by omega)) (by decide)),?_⟩
 show (((u.2.length:Nat) : Int)).natAbs < 2 ^ 100
 omega
theorem shTo  : Shp 64 (.list ((sts.map fun s=>(some s.1,((s.2.length:Nat) : Int))).map toD)):=Shp.mono (Shp.lst (n:=2) fun d hd=>by
 obtain ⟨x,hx,rfl⟩:=List.mem_map.mp hd
 obtain ⟨s,_,rfl⟩:=List.mem_map.mp hx
 exact Shp.tup (n:=1) fun d hd=>by
  rcases hd with _ | ⟨_,_ | ⟨_,hd⟩⟩
  ·exact Shp.tup (n:=0) fun d hd=>by
    rcases hd with _ | ⟨_,_ | ⟨_,hd⟩⟩
    ·exact .int 0 _
    ·exact .int 0 _
    ·cases hd
  ·exact .int 1 _
  ·cases hd) (by decide)
def pkv (c:Int) : Int:=if c % 2=0 then c / 2 % 2147483647 else c / 2
theorem pk41 (c:Int) : gP [V.int (c / 2 % 2147483647),V.int (c / 2)] (c % 2)=some (.int (pkv c)):=by
 unfold pkv
 rcases (by omega:c % 2=0\/c % 2=1) with e | e
 ·rw [e,if_pos rfl]; rfl
 ·rw [e,if_neg (by decide)]; rfl
theorem bd41 (c:Int) : Bd (pkv c) (c % 2):=by
 unfold pkv
 rcases (by omega:c % 2=0\/c % 2=1) with e | e
 ·rw [e,if_pos rfl]; exact ⟨.inr rfl,fun _=>⟨by omega,by omega⟩⟩
 ·rw [e,if_neg (by decide)]; exact ⟨.inl rfl,fun z=>absurd z (by decide)⟩
theorem Bt.new2 {b la:Addr}{H2:Hp}(s:aN H H1)(f1:H b=none)(f2:H la=none)(g:Bt b la H1 H2) : aN H H2:=fun c o e=>g _ _ (bE e f1) (bE e f2) (s _ _ e)
structure Pr41 (H:Hp) (p:Addr) (x y:Int) : Prop where
 h:H p=some (.tup [.int x,.int y])
 x0:0<=x
 x1:x<=6000000000000000000000
 y0:1<=y
 y1:y<=1000000000
theorem pr41_at {p1 p2 p3 p4:Addr}{x1 x2 x4 B:Int}(h1:Pr41 H p1 x1 B)(h2:Pr41 H p2 x2 B)(h3:Pr41 H p3 0 1)(h4:Pr41 H p4 x4 1) : ∀ {j:Nat}{z:V},[V.ref p1,.ref p2,.ref p3,.ref p4][j]? = some z->∃ p x y,z = .ref p/\Pr41 H p x y
 | 0,_,h=>⟨p1,x1,B,(Option.some.inj h).symm,h1⟩
 | 1,_,h=>⟨p2,x2,B,(Option.some.inj h).symm,h2⟩
 | 2,_,h=>⟨p3,0,1,(Option.some.inj h).symm,h3⟩
 | 3,_,h=>⟨p4,x4,1,(Option.some.inj h).symm,h4⟩
 | _ + 4,_,h=>by cases h
local macro_rules | `(tactic| walk_at "o1") => `(tactic| first | exact Or.inl rfl | exact Or.inr rfl)
local macro_rules | `(tactic| walk_at "o2") => `(tactic| first | exact .inl rfl | exact .inr rfl | assumption)
local macro_rules | `(tactic| walk_at "ne") => `(tactic| first | assumption | exact Ne.symm (by assumption) | exact L2.fQ (by assumption) (by assumption) (by intro z; cases z) | exact L2.oH (by assumption) (by walk_at "hp") | exact Ne.symm (L2.oH (by assumption) (by walk_at "hp")))
local macro_rules | `(tactic| walk_at "sf") => `(tactic| first | assumption | ((with_reducible refine L2.iP.nw (by assumption) ?_); walk_at "sf") | ((with_reducible refine L2.iP.lst (by walk_at "hp") ?_); walk_at "sf") | ((refine L2.iP.sm (by assumption) ?_); walk_at "sf") | ((refine L2.iP.sb (by assumption) (by walk_at "hp") ?_); walk_at "sf") | ((refine L2.iP.sbi (by assumption) (by walk_at "hp") ?_); walk_at "sf"))
local macro_rules | `(tactic| walk_at "hp") => `(tactic| first | assumption | exact L2.aE | ((with_reducible refine L2.kp ?_ (by assumption)); walk_at "hp") | ((with_reducible refine L2.upd_at ?_ ?_); walk_at "ne"; walk_at "hp") | ((refine L2.aN.at' (by assumption) ?_); walk_at "hp") | ((refine L2.SameB.at' (by assumption) ?_ ?_); walk_at "hp"; walk_at "ne") | ((refine L2.bF.at' (by assumption) ?_); walk_at "hp"))
local macro_rules | `(tactic| walk_at "ty") => `(tactic| first | exact .int _ | exact .bl _ | exact .str _ | exact .non | exact .tup (by walk_at "hp") | exact .lst (by walk_at "hp"))
local macro_rules | `(tactic| walk_at "b0") => `(tactic| first | assumption | exact Bz.w (by omega) (by omega) | exact Bz.mul (by walk_at "b0") (by walk_at "b0") | exact Bz.add' (by walk_at "b0") (by walk_at "b0") | exact Bz.sub' (by walk_at "b0") (by walk_at "b0") | exact Bz.neg (by walk_at "b0"))
local macro_rules | `(tactic| walk_at "bz") => `(tactic| first | walk_at "b0" | exact Bz.mono (by walk_at "b0") (by decide))
local macro_rules | `(tactic| walk_at "ss") => `(tactic| first | exact True.intro | (refine And.intro rfl ?_; walk_at "ss"))
local macro_rules | `(tactic| walk_at "sd") => `(tactic| first | assumption | ((with_reducible show @Eq _ _ _); first | (with_reducible exact rfl) | walk_at "hp" | exact L2.isi_same | exact L2.isi_ib | exact L2.isi_bi | exact L2.atI_mapD (PySem.Str.empty : PySem.Str) (by omega) (by omega) | exact L2.atI_mapD (0 : Int) (by omega) (by omega) | ((with_reducible show PySem.W.kitOne _ _ _ = some _); with_unfolding_all exact rfl) | omega) | ((with_reducible show L2.c6 _ _ _ _); first | (apply L2.c6.of; walk_at "hp") | (apply L2.iP.sq; walk_at "sf")) | ((with_reducible show L2.qP _ _ _ _); exact L2.qP.of (by walk_at "hp")) | ((with_reducible show L2.c6 _ _ _ _ \/ L2.qP _ _ _ _); first | exact Or.inl (L2.c6.of (by walk_at "hp")) | exact Or.inr (L2.qP.of (by walk_at "hp")) | exact Or.inl (by assumption) | exact Or.inr (by assumption)) | ((with_reducible show L2.TyOf _ _ _ _); walk_at "ty") | ((with_reducible show L2.tyV _ _ _ _); first | exact rfl | exact Or.inl ⟨rfl, _, L2.c6.of (by walk_at "hp")⟩) | ((with_reducible show _ <= PySem.sizeLine); first | exact L2.sz | exact L2.jM (by omega) | omega) | ((with_reducible show _ < PySem.sizeLine); first | exact L2.aU (by omega) | omega) | ((with_reducible show L2.CPow _ _); exact ⟨by decide, by decide, by decide⟩) | ((with_reducible show L2.iL _ _); exact Lw.cN _ (by decide) (by decide)) | ((with_reducible show PySem.IntMulOk _ _); exact Bz.mulOk (by walk_at "b0") (by walk_at "b0")) | ((with_reducible show Bz _ _); walk_at "bz") | ((with_reducible show L2.kK _ _); walk_at "ss") | ((with_reducible show L2.TVs _ _ _ _); exact L2.TVs.mono (L2.aN.t (by assumption)) (by assumption)) | ((with_reducible show @Ne L2.V _ _); walk_at "ne") | ((with_reducible show @Ne PySem.Addr _ _); walk_at "ne") | ((with_reducible show List.length _ < 1000); exact of_decide_eq_true rfl) | exact Exists.intro _ (L2.c6.of (by walk_at "hp")) | exact Exists.intro _ (L2.qP.of (by walk_at "hp")) | omega)
local macro_rules | `(tactic| walk_at "nw") => `(tactic| ((fail_if_success (apply Exists.intro (fun _ _ _ _ => True : Nat -> Nat -> L2.St -> L2.Hp -> Prop))); (fail_if_success (apply Exists.intro (fun _ _ _ => True : Nat -> L2.St -> L2.Hp -> Prop))); (fail_if_success (apply Exists.intro (fun _ _ _ => True : Nat -> List L2.V -> L2.Hp -> Prop))); (fail_if_success (apply Exists.intro (fun _ _ => True : L2.St -> L2.Hp -> Prop))); (fail_if_success (apply Exists.intro (PySem.PyData.none : PySem.PyData)))))
local macro_rules | `(tactic| walk_at "r1") => `(tactic| first | (with_reducible intro p hp) | (with_reducible intro p) | (apply And.intro; · ((with_reducible show @Eq _ _ _); exact rfl)) | (apply And.intro; · walk_at "sd") | (walk_at "nw"; apply Exists.intro) | refine L2.iteT ?_ | refine L2.iteF ?_ | refine L2.iteNotT ?_ | refine L2.iteNotF ?_ | refine L2.iteNN ?_ | (refine L2.iteY (by omega) ?_) | (refine L2.iteN (by omega) ?_) | (refine L2.iteYn (by omega) ?_) | (refine L2.iteNS (by omega) ?_) | (refine Or.inl (And.intro (L2.c6.of (by walk_at "hp")) ?_)) | (intro p hp) | (intro p))
local macro_rules | `(tactic| walk_at "rd") => `(tactic| repeat ((fail_if_success (apply Exists.intro (fun _ _ => True : L2.St -> L2.Hp -> Prop))); walk_at "r1"))
local macro_rules | `(tactic| walk_at "cf") => `(tactic| (intro σ H Q q; repeat (first | exact q | (apply And.intro; · ((with_reducible show @Eq _ _ _); exact rfl)) | (apply And.intro; · first | ((with_reducible show L2.CPow _ _); exact ⟨by decide, by decide, by decide⟩) | ((with_reducible show PySem.IntMulOk _ _); exact Bz.mulOk (bzl (by decide)) (bzl (by decide)))) | apply Exists.intro)))
local macro_rules | `(tactic| walk_at "sm") => `(tactic| first | assumption | exact L2.aN.refl _ | exact L2.aN.new (by walk_at "sm") (by assumption) _ | exact L2.aN.trans (by assumption) (by walk_at "sm"))
local macro_rules | `(tactic| walk_at "kx") => `(tactic| try dsimp (config := { beta := false, proj := false, zeta := false, eta := false, iota := false }) only [L2.cxK, L2.lcK])
def tMid (t:TS):TS:=fun D σ H=>∃ P:St->Hp->Prop,t {nx:=P,rt:=D.rt,bk:=D.bk,ct:=D.ct} σ H/\∀ σ' H',P σ' H'->D.nx σ' H'
theorem aO {X:Cx}{st:Stmt}{t:TS} (h:L2.PS X st t):L2.PS X st (tMid t):=ps_mid h
theorem aP {t:TS}{D:Ends}{σ:St} (P:St->Hp->Prop) (h1:∀ (r:VK) (b c:St->Hp->Prop),t ⟨P,r,b,c⟩ σ H) (h2:∀ N:St->Hp->Prop,(∀ σ' H',D.nx σ' H'->N σ' H')->∀ σ' H',P σ' H'->N σ' H'):tMid t D σ H:=⟨P,h1 _ _ _,h2 _ fun _ _ h=>h⟩
theorem mid_st0 {t:TS}{D:Ends}{σ:St} (P:St->Hp->Prop) (h1:t ⟨P,D.rt,D.bk,D.ct⟩ σ H) (h2:∀ N:St->Hp->Prop,(∀ σ' H',D.nx σ' H'->N σ' H')->∀ σ' H',P σ' H'->N σ' H'):tMid t D σ H:=⟨P,h1,h2 _ fun _ _ h=>h⟩
theorem hid {G:Prop} (h:∀ N:Prop,(G->N)->N):G:=h G fun x=>x
section
variable {P:Program}{w:World}{K:PySem.W.Frag}{mg:Str->Option Value}{base:Heap}
theorem oE (T:Tx K mg) : FnOk P w K mg base (cK P w) 1 T.f_q1 T.d_q1 ["one", "other"] gO:=by
 have sc:=sc_q1
 refine T.F_q1.okx sc (fun vs H Q E h=>?_) (fun cdv A outer s H vs Q E hr h=>?_)
 ·obtain ⟨a,b,rfl,hb,q⟩:=h
  rfl
 obtain ⟨a,b,rfl,hb,q⟩:=h
 have hu:=hr.units0
 have hu2:=hr.units
 have hu1:=Nat.lt_of_le_of_lt (Nat.add_le_add_left (show 1<=64 by decide) _) hu2
 refine ⟨_,(@aD _ _ _ _ _ (@aK _ _ 2 _ _ _ _ sc.nd rfl (by walk_at "o1") (aV kF rfl T.z_abs qJ (aA (pv 0) aC)) (by rfl) (by walk_at "o2"))
   (@aD _ _ _ _ _ (@aK _ _ 3 _ _ _ _ sc.nd rfl (by walk_at "o1") (aV kF rfl T.z_abs qJ (aA (pv 1) aC)) (by rfl) (by walk_at "o2"))
   (@aD _ _ _ _ _ (eS dS (@aX _ _ _ _ _ _ _ _ vX (pv 3) aB (bB _)) (@aD _ _ _ _ _ (@aK _ _ 4 _ _ _ _ sc.nd rfl (by walk_at "o1") (@aJ _ _ _ _ _ _ _ _ cJ (pv 2) (pv 3)) (by rfl) (by walk_at "o2"))
   (@aD _ _ _ _ _ (@aK _ _ 2 _ _ _ _ sc.nd rfl (by walk_at "o1") (pv 3) (by rfl) (by walk_at "o2"))
   (@aF _ _ _ (@aK _ _ 3 _ _ _ _ sc.nd rfl (by walk_at "o1") (pv 4) (by rfl) (by walk_at "o2"))))))
   (@aF _ _ _ (@aS _ _ _ _ (pv 2)))))),?_⟩
 walk_at "kx"
 walk_at "rd"
 refine eN (fun σ H'=>H'=H/\∃ (x y:Int) (r:Option V),σ = [some (.int a),some (.int b),some (.int x),some (.int y),r]/\M.Inv a b x y)
  (fun σ _=>match σ with | [_,_,_,some (.int y),_]=>y.toNat | _=>0) ⟨rfl,_,_,_,rfl,M.Inv.start2 a b⟩ ?_ ?_
 ·rintro σ' H' ⟨rfl,x,y,r,rfl,iv⟩
  have h1:=iv.y0
  walk_at "rd"
  refine ite3n (fun c=>?_) (fun c=>?_)
  ·have hy:0 < y:=by omega
   walk_at "rd"
   exact ⟨⟨rfl,_,_,_,rfl,iv.turn hy⟩,M.less hy⟩
  ·walk_at "rd"
   rw [iv.out c hb]
   exact q
 ·rintro σ' H' Q1 Q2 hq ⟨v,e,i,j,ei,ej,k,ek,y⟩
  exact ⟨v,e,i,j,ei,ej,k,ek,hq _ _ y⟩
theorem ok_j9 (T:Tx K mg) : FnOk P w K mg base (cK P w) 2 T.f_j9 T.d_j9 ["one", "other"] yC:=by
 have sc:=sc_j9
 refine T.F_j9.okx sc (fun vs H Q E h=>?_) (fun cdv A outer s H vs Q E hr h=>?_)
 ·obtain ⟨p1,p2,r1,r2,rfl,h1,h2,L1,L2',q⟩:=h
  rfl
 obtain ⟨p1,p2,r1,r2,rfl,h1,h2,L1,L2',q⟩:=h
 have hu:=hr.units0
 have hu2:=hr.units
 have hu1:=Nat.lt_of_le_of_lt (Nat.add_le_add_left (show 1<=64 by decide) _) hu2
 refine ⟨_,(@aD _ _ _ _ _ (@aK _ _ 2 _ _ _ _ sc.nd rfl (by walk_at "o1") (aH (oE T) (hr.mono (by decide)) rfl T.m_q1 T.F_q1.kp T.b_q1 .nil (aL fun _ _ z=>z) (aA (@aI _ _ _ _ _ _ _ aG (pv 0) aB (fun _ _=>rfl)) (aA (@aI _ _ _ _ _ _ _ aG (pv 1) aB (fun _ _=>rfl)) aC))) (by rfl) (by walk_at "o2"))
   (@aD _ _ _ _ _ (@aK _ _ 3 _ _ _ _ sc.nd rfl (by walk_at "o1") (@aJ _ _ _ _ _ _ _ _ bQ (@aI _ _ _ _ _ _ _ aG (pv 1) aB (fun _ _=>rfl)) (pv 2)) (by rfl) (by walk_at "o2"))
   (@aD _ _ _ _ _ (@aK _ _ 4 _ _ _ _ sc.nd rfl (by walk_at "o1") (@aJ _ _ _ _ _ _ _ _ cG (@aJ _ _ _ _ _ _ _ _ bH (@aI _ _ _ _ _ _ _ aG (pv 0) aB (fun _ _=>rfl)) (pv 3)) (@aJ _ _ _ _ _ _ _ _ bH (@aI _ _ _ _ _ _ _ aG (pv 1) aB (fun _ _=>rfl)) (@aJ _ _ _ _ _ _ _ _ bQ (@aI _ _ _ _ _ _ _ aG (pv 0) aB (fun _ _=>rfl)) (pv 2)))) (by rfl) (by walk_at "o2"))
   (@aD _ _ _ _ _ (@aK _ _ 5 _ _ _ _ sc.nd rfl (by walk_at "o1") (aH (oE T) (hr.mono (by decide)) rfl T.m_q1 T.F_q1.kp T.b_q1 .nil (aL fun _ _ z=>z) (aA (pv 4) (aA (pv 2) aC))) (by rfl) (by walk_at "o2"))
   (@aF _ _ _ (@aS _ _ _ _ (aZ (aA (@aJ _ _ _ _ _ _ _ _ bQ (pv 4) (pv 5)) (aA (@aJ _ _ _ _ _ _ _ _ bH (@aJ _ _ _ _ _ _ _ _ bQ (@aI _ _ _ _ _ _ _ aG (pv 0) aB (fun _ _=>rfl)) (pv 5)) (pv 3)) aC))))))))),?_⟩
 walk_at "kx"
 have z1:=L1.zn
 have z2:=L1.zd
 have z3:=L2'.zn
 have z4:=L2'.zd
 have d1:=dp r1
 have d2:=dp r2
 have h1:H p1=some (rt r1):=h1
 have h2:H p2=some (rt r2):=h2
 have gp:=M.G_pos (r1.den:Int) (r2.den:Int)
 have gb:Bz 700 (M.G (r1.den:Int) (r2.den:Int)):=z4.le (M.G_le (by omega))
 have gz:Bz 8000 (M.G (r1.den:Int) (r2.den:Int)):=gb.mono (by decide)
 have w4:Bz 8000 (r2.den:Int):=z4.mono (by decide)
 have zl:Bz 700 ((r2.den:Int) / M.G (r1.den:Int) (r2.den:Int)):=z4.ediv (Int.le_of_lt gp)
 have zk:Bz 700 ((r1.den:Int) / M.G (r1.den:Int) (r2.den:Int)):=z2.ediv (Int.le_of_lt gp)
 have c1:=cGe (t:=(r1.den:Int)) d2 w4 (r2.den:Int)
 have c2:=cGe (t:=(r1.den:Int)) d2 w4 (r1.den:Int)
 have m1:=z1.mulOk zl
 have m2:=z3.mulOk zk
 have gq:=M.G_pos (r1.num * ((r2.den:Int) / M.G r1.den r2.den) + r2.num * ((r1.den:Int) / M.G r1.den r2.den)) (M.G (r1.den:Int) (r2.den:Int))
 have zd:=z2.ediv (Int.le_of_lt gq)
 have c3:=cGe (t:=r1.num * ((r2.den:Int) / M.G r1.den r2.den) + r2.num * ((r1.den:Int) / M.G r1.den r2.den)) gp gz (r1.num * ((r2.den:Int) / M.G r1.den r2.den) + r2.num * ((r1.den:Int) / M.G r1.den r2.den))
 have c4:=cGe (t:=r1.num * ((r2.den:Int) / M.G r1.den r2.den) + r2.num * ((r1.den:Int) / M.G r1.den r2.den)) gp gz (r1.den:Int)
 have m3:=zd.mulOk zl
 walk_at "rd"
 exact q.sum _ (by assumption)
theorem v9 (T:Tx K mg) : FnOk P w K mg base (cK P w) 3 T.f_j4 T.d_j4 ["one", "other"] uX:=by
 have sc:=sc_j4
 refine T.F_j4.okx sc (fun vs H Q E h=>?_) (fun cdv A outer s H vs Q E hr h=>?_)
 ·obtain ⟨p1,p2,r1,r2,rfl,h1,h2,L1,L2',q⟩:=h
  rfl
 obtain ⟨p1,p2,r1,r2,rfl,h1,h2,L1,L2',q⟩:=h
 have hu:=hr.units0
 have hu2:=hr.units
 have hu1:=Nat.lt_of_le_of_lt (Nat.add_le_add_left (show 1<=64 by decide) _) hu2
 refine ⟨_,(@aF _ _ _ (@aS _ _ _ _ (aH (ok_j9 T) (hr.mono (by decide)) rfl T.m_j9 T.F_j9.kp T.b_j9 .nil (aL fun _ _ z=>z) (aA (pv 0) (aA (aZ (aA (iS fU (@aI _ _ _ _ _ _ _ aG (pv 1) aB (fun _ _=>rfl))) (aA (@aI _ _ _ _ _ _ _ aG (pv 1) aB (fun _ _=>rfl)) aC))) aC))))),?_⟩
 walk_at "kx"
 have h1:H p1=some (rt r1):=h1
 have h2:H p2=some (rt r2):=h2
 walk_at "rd"
 rename_i pz hz
 have k1:=kp (u:=.tup [.int (-r2.num),.int (r2.den:Int)]) h1 hz
 refine ⟨(k1:Rt _ p1 r1),(aE:Rt _ pz (-r2)),L1,L2'.neg,fun r hr=>?_⟩
 exact q _ _ (hI hr).2 ((aM hz _).trans (aM hr _)) (by rw [aE,Rat.sub_eq_add_neg])
theorem iV (T:Tx K mg) : FnOk P w K mg base (cK P w) 1 T.f_j5 T.d_j5 ["one", "other"] pJ:=by
 have sc:=sc_j5
 refine T.F_j5.okx sc (fun vs H Q E h=>?_) (fun cdv A outer s H vs Q E hr h=>?_)
 ·obtain ⟨a,b,t1,b1,t2,b2,rfl,h1,h2,z1,z2,z3,z4,q⟩:=h
  rfl
 obtain ⟨a,b,t1,b1,t2,b2,rfl,h1,h2,z1,z2,z3,z4,q⟩:=h
 have hu:=hr.units0
 have hu2:=hr.units
 have hu1:=Nat.lt_of_le_of_lt (Nat.add_le_add_left (show 1<=64 by decide) _) hu2
 refine ⟨_,(@aF _ _ _ (@aS _ _ _ _ (jA fZ (@aJ _ _ _ _ _ _ _ _ bH (@aI _ _ _ _ _ _ _ aG (pv 0) aB (fun _ _=>rfl)) (@aI _ _ _ _ _ _ _ aG (pv 1) aB (fun _ _=>rfl))) (@aJ _ _ _ _ _ _ _ _ bH (@aI _ _ _ _ _ _ _ aG (pv 1) aB (fun _ _=>rfl)) (@aI _ _ _ _ _ _ _ aG (pv 0) aB (fun _ _=>rfl))) (bB _)))),?_⟩
 walk_at "kx"
 walk_at "rd"
 exact q
theorem lE (T:Tx K mg) : FnOk P w K mg base (cK P w) 1 T.f_q3 T.d_q3 ["tree"] (uU K):=by
 have sc:=sc_q3
 refine T.F_q3.okx sc (fun vs H Q E h=>?_) (fun cdv A outer s H vs Q E hr h=>?_)
 ·obtain ⟨v,t,B,rfl,tv,lt,q⟩:=h
  rfl
 obtain ⟨v,t,B,rfl,tv,lt,q⟩:=h
 have hu:=hr.units0
 have hu2:=hr.units
 have hu1:=Nat.lt_of_le_of_lt (Nat.add_le_add_left (show 1<=64 by decide) _) hu2
 refine ⟨_,(@aD _ _ _ _ _ (@aK _ _ 1 _ _ _ _ sc.nd rfl (by walk_at "o1") iB (by rfl) (by walk_at "o2"))
   (@aD _ _ _ _ _ (@aK _ _ 2 _ _ _ _ sc.nd rfl (by walk_at "o1") (@cD _ _ _ _ (aA (aZ (aA bA (aA (pv 0) aC) dI)) aC)) (by rfl) (by walk_at "o2"))
   (@aD _ _ _ _ _ (eS dS (@aX _ _ _ _ _ _ _ _ n5 (aV aT rfl T.z_len bZ (aA (pv 2) aC)) aB (bB _)) (@aD _ _ _ _ _ (@aO _ _ _ (@aK _ _ 3 _ _ _ _ sc.nd rfl (by walk_at "o1") (vS PySem.F.plainAttrs_list PySem.F.slot_list_pop PySem.F.type_list_pop wH (pv 2)) (by rfl) (by walk_at "o2")))
   (@aD _ _ _ _ _ (@aK _ _ 4 _ _ _ _ sc.nd rfl (by walk_at "o1") (@aI _ _ _ _ _ _ _ aG (pv 3) aB (fun _ _=>rfl)) (by rfl) (by walk_at "o2"))
   (@aD _ _ _ _ _ (@aK _ _ 5 _ _ _ _ sc.nd rfl (by walk_at "o1") (@aI _ _ _ _ _ _ _ aG (pv 3) aB (fun _ _=>rfl)) (by rfl) (by walk_at "o2"))
   (@aD _ _ _ _ _ (@aO _ _ _ (hZ hu1 (pv 1) (pv 4) (pv 5) rfl))
   (@aF _ _ _ (@bY _ _ _ _ _ _ _ _ (@aX _ _ _ _ _ _ _ _ dC (@aI _ _ _ _ _ _ _ aG (pv 5) aB (fun _ _=>rfl)) bA (bB _)) (@aD _ _ _ _ _ (cW (dU PySem.F.plainAttrs_list PySem.F.slot_list_append PySem.F.type_list_append cV (pv 2) (aA (aZ (aA (@aJ _ _ _ _ _ _ _ _ bV (pv 4) bA) (aA (@aI _ _ _ _ _ _ _ aG (pv 5) aB (fun _ _=>rfl)) aC))) aC)))
   (@aF _ _ _ (cW (dU PySem.F.plainAttrs_list PySem.F.slot_list_append PySem.F.type_list_append cV (pv 2) (aA (aZ (aA (@aJ _ _ _ _ _ _ _ _ bV (pv 4) bA) (aA (@aI _ _ _ _ _ _ _ aG (pv 5) aB (fun _ _=>rfl)) aC))) aC))))) bD)))))))
   (@aF _ _ _ (@aS _ _ _ _ (pv 1)))))),?_⟩
 walk_at "kx"
 walk_at "rd"
 rename_i z1 hz1 p1 hp1 z2 hz2
 have n12:z1 ≠ z2:=fun e=>by
  rw [<- e,aR (fun e2=>by rw [<- e2,aE] at hp1; cases hp1),aE] at hz2
  cases hz2
 have fz2:H z2=none:=aN.free ((aM hz1 _).new hp1 _) hz2
 have ld:=t.dp_lt
 have pl:=mJ t ""
 have tv2:=tv.mono (((aM hz1 (.dK [])).new hp1 (.tup [.str "", v])).new hz2 (.lst [.ref p1])).t
 have hx0:(upd (upd (upd H z1 (.dK [])) p1 (.tup [.str "", v])) z2 (.lst [.ref p1])) z1=some (.dK []):=kp (kp aE hp1) hz2
 have hy0:=aE (H:=upd (upd H z1 (.dK [])) p1 (.tup [.str "", v])) (a:=z2) (o:=.lst [.ref p1])
 have hp0:(upd (upd (upd H z1 (.dK [])) p1 (.tup [.str "", v])) z2 (.lst [.ref p1])) p1=some (.tup [.str "", v]):=kp aE hz2
 have S0:aN H (upd (upd (upd H z1 (.dK [])) p1 (.tup [.str "", v])) z2 (.lst [.ref p1])):=((aM hz1 _).new hp1 _).new hz2 _
 generalize upd (upd (upd H z1 (.dK [])) p1 (.tup [.str "", v])) z2 (.lst [.ref p1])=H0 at tv2 hx0 hy0 hp0 S0 ⊢
 refine eN (fun σ' H'=>Iv (aN H H'/\(∃ kvs es ys ts,H' z1=some (.dK kvs)/\DT K B H' kvs es/\H' z2=some (.lst ys)/\TVs K H' ys ((ts:List (Str × Tr)).map (thD B))/\(∀ e∈ts,e.1.length + e.2.dp<=60)/\(es ++ iA ts).Perm (fP t ""))/\∃ o3 o4 o5,σ' = [some v,some (.ref z1),some (.ref z2),o3,o4,o5])) (fun _ H=>match H z1 with | some (.dK kvs)=>100 - kvs.length | _=>0) ⟨⟨S0,⟨[],[],[.ref p1],[("", t)],hx0,.nil,hy0,.cons (.tup hp0 (.cons (.str _) (.cons tv2 .nil))) .nil,fun e he=>(by rw [List.mem_singleton.mp he]; show ("" : Str).length + t.dp<=60; rw [show ("" : Str).length=0 by decide +kernel]; omega),by rw [List.nil_append]; show (fP t "" ++ []).Perm _; rw [List.append_nil]⟩,_,_,_,rfl⟩⟩ ?_ ?_
 ·refine fun σ' H' h0=>hid fun J Z=>?_
  obtain ⟨⟨S,⟨kvs,es,ys,ts,hx,dt,hy,ty,ht,pm⟩,o3,o4,o5,rfl⟩⟩ :=h0
  refine Z ?_
  clear Z
  have xl:=dt.length
  have ul:es.length + (iA ts).length<=60:=by have:=pm.length_eq; rw [List.length_append] at this; omega
  walk_at "rd"
  refine dX (fun c=>?_) (fun c=>?_)
  ·obtain ⟨zs,y,as,e,rfl,rfl,tz,te⟩:=TVs.lastH ty (by omega)
   have ea:=pop1_at zs y
   have eb:=sX zs y
   obtain ⟨q0,s0⟩:=e
   obtain ⟨pp,u1,u2,rfl,hpp,t1,t2⟩:=TV.pair te
   obtain rfl:=t1.strs
   have lb:=ht (q0,s0) (List.mem_append_right _ (List.mem_singleton.mpr rfl))
   have ht0:∀ e∈as,e.1.length + e.2.dp<=60:=fun e he=>ht e (List.mem_append_left _ he)
   rw [jS] at pm ul
   clear ht te ty t1
   have zl:zs.length=as.length:=by rw [tz.length,List.length_map]
   have al:as.length<=(iA as).length:=nW as
   rw [List.length_append] at ul
   have zz:zs.length < sizeLine:=aU (by omega)
   have kz:kvs.length < sizeLine:=aU (by omega)
   have nz2:z2 ≠ z1:=Ne.symm n12
   have hpp:H' pp=some (.tup [.str q0,u2]):=hpp
   have t2:TV K H' u2 (eF B s0):=t2
   have nq:q0 ∉ es.map (·.1):=fun z=>by
    have nd:=(pm.map (·.1)).nodup_iff.mpr (d6 t "")
    rw [List.map_append,List.nodup_append] at nd
    refine nd.2.2 q0 z q0 ?_ rfl
    rw [List.map_append]
    refine List.mem_append_right _ ?_
    cases s0 with
    | en w=>exact List.mem_cons_self
    | fk w y n=>exact List.mem_cons_self
   refine aP (fun σ' H1=>Iv (H1=upd H' z2 (.lst zs)/\σ' = [some v,some (.ref z1),some (.ref z2),some (.ref pp),o4,o5])) (fun _ _ _=>?_) ?_
   ·walk_at "rd"
    rw [eb]
    exact ⟨⟨rfl,rfl⟩⟩
   rintro J Z σ' H1 ⟨⟨e1,rfl⟩⟩
   refine Z _ _ ?_
   clear Z
   have st1:bF H' H1:=by rw [e1]; exact (bF.refl H').lst hy _
   have hx1:H1 z1=some (.dK kvs):=by rw [e1,aR n12]; exact hx
   have hy1:H1 z2=some (.lst zs):=by rw [e1]; exact aE
   have S1:aN H H1:=by rw [e1]; exact aN.over S fz2 _
   have hpp1:=st1 _ _ hpp
   clear e1 ea eb
   have g3:kN H1 z1 (.str q0) u2 (upd H1 z1 (.dK (fF kvs (.inr q0) u2))):=kN.k (k:=.inr q0) hx1 kz
   rw [hX u2 (dt.vno nq)] at g3
   walk_at "rd"
   refine aP (fun σ' H2=>Iv (aN H H2/\H2 z1=some (.dK (kvs ++ [(.inr q0,u2)]))/\H2 z2=some (.lst zs)/\bF H' H2/\σ' = [some v,some (.ref z1),some (.ref z2),some (.ref pp),some (.str q0),some u2])) (fun _ _ _=>?_) ?_
   ·walk_at "rd"
    exact ⟨⟨aN.over S1 hz1 _,aE,by rw [aR nz2]; exact hy1,iQ st1 hx1 _,rfl⟩⟩
   rintro J Z σ' H2 ⟨⟨S2,hx2,hy2,st2,rfl⟩⟩
   refine Z _ _ ?_
   clear Z
   have ms:∀ H3:Hp,H3 z1=some (.dK (kvs ++ [(.inr q0,u2)]))->(match H3 z1 with | some (.dK kvs)=>100 - kvs.length | _=>0) < (match H' z1 with | some (.dK kvs)=>100 - kvs.length | _=>0):=fun H3 e=>by
    rw [e,hx]
    show 100 - (kvs ++ [(Sum.inr q0,u2)]).length < 100 - kvs.length
    rw [List.length_append,List.length_singleton]
    omega
   have tz2:=tz.mono st2
   cases s0 with
   | en w =>
    obtain ⟨p2,c2,rfl,hp2,hc2⟩:=TV.hen t2
    have hp3:=st2 _ _ hp2
    walk_at "rd"
    refine ⟨⟨S2,⟨_,es ++ [(q0,.en w)],zs,as,hx2,(dt.mono st2).snoc (e:=(q0,.en w)) (t2.mono st2),hy2,tz2,ht0,?_⟩,_,_,_,rfl⟩,ms _ hx2⟩
    refine .trans ?_ pm
    have:=nX (us:=es) (A:=iA as) (B:=[]) (q0,Tr.en w)
    rw [List.append_nil] at this
    exact this
   | fk w y n =>
    obtain ⟨p2,c2,a2,a3,rfl,hp2,hc2,ty,tn⟩:=TV.hfk t2
    have lb:q0.length + (max y.dp n.dp + 1)<=60:=lb
    have k1:q0.length + ("y" : Str).length<=sizeLine:=jM (by rw [kO.1]; omega)
    have k2:q0.length + ("n" : Str).length<=sizeLine:=jM (by rw [kO.2]; omega)
    have hp3:=st2 _ _ hp2
    have ly:∀ z:V,(zs ++ [z]).length < sizeLine:=fun z=>aU (by rw [List.length_append,List.length_singleton]; omega)
    have ty2:=ty.mono st2
    have tn2:=tn.mono st2
    have td2:=(dt.mono st2).snoc (e:=(q0,.fk w y n)) (t2.mono st2)
    walk_at "rd"
    rename_i r1 hr1 r2 hr2
    have v1:=(bF.refl H2).new hr1 (.tup [.str (q0 ++ "y"),a2])
    have S3:=S2.new hr1 (.tup [.str (q0 ++ "y"),a2])
    have hx3:=kp hx2 hr1 (u:=.tup [.str (q0 ++ "y"),a2])
    have hy3:=kp hy2 hr1 (u:=.tup [.str (q0 ++ "y"),a2])
    have hr3:=aE (H:=H2) (a:=r1) (o:=.tup [.str (q0 ++ "y"),a2])
    generalize upd H2 r1 (.tup [.str (q0 ++ "y"),a2])=H3 at v1 S3 hx3 hy3 hr3 hr2 ⊢
    have v2:=v1.lst hy3 (.lst (zs ++ [.ref r1]))
    have w2:=(bF.refl H3).lst hy3 (.lst (zs ++ [.ref r1]))
    have S4:=aN.over S3 fz2 (.lst (zs ++ [.ref r1]))
    have hx4:upd H3 z2 (.lst (zs ++ [.ref r1])) z1=some (.dK (kvs ++ [(.inr q0,.ref p2)])):=by rw [aR n12]; exact hx3
    have hy4:=aE (H:=H3) (a:=z2) (o:=.lst (zs ++ [.ref r1]))
    have hr4:=w2 _ _ hr3
    generalize upd H3 z2 (.lst (zs ++ [.ref r1]))=H4 at v2 w2 S4 hx4 hy4 hr4 hr2 ⊢
    have v5:=v2.new hr2 (.tup [.str (q0 ++ "n"),a3])
    have S5:=S4.new hr2 (.tup [.str (q0 ++ "n"),a3])
    have hx5:=kp hx4 hr2 (u:=.tup [.str (q0 ++ "n"),a3])
    have hy5:=kp hy4 hr2 (u:=.tup [.str (q0 ++ "n"),a3])
    have hr5:=kp hr4 hr2 (u:=.tup [.str (q0 ++ "n"),a3])
    have hs5:=aE (H:=H4) (a:=r2) (o:=.tup [.str (q0 ++ "n"),a3])
    generalize upd H4 r2 (.tup [.str (q0 ++ "n"),a3])=H5 at v5 S5 hx5 hy5 hr5 hs5 ⊢
    have v6:=v5.lst hy5 (.lst (zs ++ [.ref r1] ++ [.ref r2]))
    have w6:=(bF.refl H5).lst hy5 (.lst (zs ++ [.ref r1] ++ [.ref r2]))
    have S6:=aN.over S5 fz2 (.lst (zs ++ [.ref r1] ++ [.ref r2]))
    have hx6:upd H5 z2 (.lst (zs ++ [.ref r1] ++ [.ref r2])) z1=some (.dK (kvs ++ [(.inr q0,.ref p2)])):=by rw [aR n12]; exact hx5
    refine ⟨ly _,?_⟩
    walk_at "rd"
    refine ⟨⟨S6,⟨_,es ++ [(q0,.fk w y n)],_,as ++ [(q0 ++ "y", y)] ++ [(q0 ++ "n", n)],hx6,td2.mono v6,aE,?_,?_,?_⟩,_,_,_,rfl⟩,ms _ hx6⟩
    ·rw [List.map_append,List.map_append]
     exact TVs.snoc (TVs.snoc (tz2.mono v6) (.tup (w6 _ _ hr5) (.cons (.str _) (.cons (ty2.mono v6) .nil)))) (.tup (w6 _ _ hs5) (.cons (.str _) (.cons (tn2.mono v6) .nil)))
    ·refine snocT (snocT ht0 ?_) ?_
     ·show (q0 ++ "y" : Str).length + y.dp<=60
      rw [cQ,kO.1]
      omega
     ·show (q0 ++ "n" : Str).length + n.dp<=60
      rw [cQ,kO.2]
      omega
    ·refine .trans ?_ pm
     have:=nX (us:=es) (A:=iA as) (B:=fP y (q0 ++ "y") ++ fP n (q0 ++ "n")) (q0,Tr.fk w y n)
     rw [jS,jS,List.append_assoc (iA as)]
     show (es ++ [(q0,Tr.fk w y n)] ++ (iA as ++ ((fP y (q0 ++ "y") ++ []) ++ (fP n (q0 ++ "n") ++ [])))).Perm (es ++ (iA as ++ (((q0,Tr.fk w y n) :: (fP y (q0 ++ "y") ++ fP n (q0 ++ "n"))) ++ [])))
     rw [List.append_nil,List.append_nil,List.append_nil]
     exact this
  ·have e0:ys.length=0:=by omega
   obtain rfl:=List.length_eq_zero_iff.mp e0
   have ets:ts = []:=by
    have:=ty.length
    rw [List.length_map] at this
    exact List.length_eq_zero_iff.mp this.symm
   subst ets
   have pm0:es.Perm (fP t ""):=by
    have:=pm
    rw [show iA [] = [] from rfl,List.append_nil] at this
    exact this
   walk_at "rd"
   exact q _ z1 kvs es S hz1 hx dt pm0
 ·rintro σ' H' Q1 Q2 hq ⟨v,e,p,ys,ev,hs,i,j,ei,ej,k,ek,y⟩
  exact ⟨v,e,p,ys,ev,hs,i,j,ei,ej,k,ek,hq _ _ y⟩
theorem ok_qM (T:Tx K mg) : FnOk P w K mg base (cK P w) 2 T.f_qM T.d_qM ["tree", "sort"] (mC K):=by
 have sc:=sc_qM
 refine T.F_qM.okx sc (fun vs H Q E h=>?_) (fun cdv A outer s H vs Q E hr h=>?_)
 ·obtain ⟨v,t,B,so,rfl,tv,lt,q⟩:=h
  rfl
 obtain ⟨v,t,B,so,rfl,tv,lt,q⟩:=h
 have hu:=hr.units0
 have hu2:=hr.units
 have hu1:=Nat.lt_of_le_of_lt (Nat.add_le_add_left (show 1<=64 by decide) _) hu2
 refine ⟨_,(@aF _ _ _ (@aS _ _ _ _ (aV iJ rfl T.z_sorted eW (aA (dH (ts:=["place", "part"]) (js:=[1]) (LcOk.of rfl) rfl (jU (aH (lE T) (hr.mono (by decide)) rfl T.m_q3 T.F_q3.kp T.b_q3 .nil (aL fun _ _ z=>z) (aA (pv 0) aC)) rfl rfl) (fun _ _ _ _=>(mK rfl (dR (aY (i:=0) (bK rfl) rfl (Or.inl rfl)) (dR (aY (i:=1) (bK rfl) rfl (Or.inl rfl)) i9)))) (fun _ _ _ _=>(dJ (@aX _ _ _ _ _ _ _ _ dC (@aI _ _ _ _ _ _ _ aG (pv 1) aB (fun _ _=>rfl)) (pv 2) (bB _)))) (fun _ _ _ _=>(pv 0))) aC)))),?_⟩
 walk_at "kx"
 walk_at "rd"
 rename_i H1 d kvs es S1 fd hd dt pm
 refine .inl ⟨hd,fun ep=>?_⟩
 intro C s2 H2 fp
 have pl:=mJ t ""
 have el:=pm.length_eq
 have kl:=dt.length
 have ml:∀ i,((((es.take i).filter fun e=>decide (knd e.2=so)).map (·.1)).map V.str).length < 100:=fun i=>by
  rw [List.length_map,List.length_map]
  have z1:=List.length_filter_le (fun e=>decide (knd e.2=so)) (es.take i)
  have z2:(es.take i).length<=es.length:=by rw [List.length_take]; omega
  omega
 refine oK (P:=P) (w:=w) (a:=d) (kvs:=kvs) (ep:=ep) (fun i ys H'=>Iv (aN H H'/\bF H1 H'/\H' d=some (nH P w d kvs ep)/\ys=((((es.take i).filter fun e=>decide (knd e.2=so)).map (·.1)).map V.str))) ?_ ?_ ?_ ?_
 ·exact ⟨⟨aN.over S1 fd _,iQ (bF.refl _) hd _,aE,by rw [List.take_zero]; rfl⟩⟩
 ·rintro i ys H3 hi ⟨⟨_,_,e1,e2⟩⟩
  refine ⟨e1,?_⟩
  rw [e2]
  have:=ml i
  exact aU (by omega)
 ·rintro i k x T0 ys H3 hk ⟨⟨S3,st3,hf,rfl⟩⟩ hT
  obtain ⟨⟨q0,s0⟩,he,rfl,te⟩:=dt.get hk
  have te:TV K H1 x (eF B s0):=te
  have S4:=S3.new hT (.tup [kV (.inr q0),x])
  have st4:=st3.new hT (.tup [kV (.inr q0),x])
  have hf4:=kp hf hT (u:=.tup [kV (.inr q0),x])
  have hT4:upd H3 T0 (.tup [kV (.inr q0),x]) T0=some (.tup [.str q0,x]):=aE
  have te4:=te.mono st4
  generalize upd H3 T0 (.tup [kV (.inr q0),x])=H4 at S4 st4 hf4 hT4 te4 ⊢
  have hlt:i < es.length:=(List.getElem?_eq_some_iff.mp he).1
  have tk:es.take (i + 1)=es.take i ++ [(q0,s0)]:=by rw [List.take_add_one,he]; rfl
  have kn:∃ p2 xs2,x = .ref p2/\H4 p2=some (.tup (.str (knd s0) :: xs2)):=by
   cases s0 with
   | en w0 =>
    obtain ⟨p2,c2,rfl,hp2,hc2⟩:=TV.hen te4
    exact ⟨_,_,rfl,hp2⟩
   | fk w0 y n =>
    obtain ⟨p2,c2,a2,a3,rfl,hp2,hc2,ty,tn⟩:=TV.hfk te4
    exact ⟨_,_,rfl,hp2⟩
  obtain ⟨p2,xs2,rfl,hp2⟩:=kn
  walk_at "rd"
  refine ⟨cX (xs:=V.str (knd s0) :: xs2) (j:=0) rfl,?_⟩
  walk_at "rd"
  show if _ then _ else _
  by_cases c:knd s0=so
  ·rw [if_pos (decide_eq_true c)]
   walk_at "rd"
   refine ⟨S4,st4,hf4,?_⟩
   rw [tk,List.filter_append,show List.filter (fun e:Str × Tr=>decide (knd e.2=so)) [(q0,s0)] = [(q0,s0)] from List.filter_cons_of_pos (decide_eq_true c),List.map_append,List.map_append]
   rfl
  ·rw [if_neg (by rw [decide_eq_false c]; exact Bool.false_ne_true)]
   refine ⟨by omega,⟨⟨S4,st4,hf4,?_⟩⟩⟩
   rw [tk,List.filter_append,show List.filter (fun e:Str × Tr=>decide (knd e.2=so)) [(q0,s0)] = [] from List.filter_cons_of_neg (by show ¬ decide (knd s0=so)=true; rw [decide_eq_false c]; exact Bool.false_ne_true),List.append_nil]
 ·rintro ys H3 ⟨⟨S3,st3,hf,rfl⟩⟩ p hp
  walk_at "rd"
  have eT:es.take kvs.length=es:=by rw [kl,List.take_length]
  have m0:=ml kvs.length
  rw [List.length_map,List.length_map] at m0
  rw [List.length_map]
  have lf:=List.length_filter_le (fun e=>decide (knd e.2=so)) (es.take kvs.length)
  rw [eT] at lf ⊢
  refine ⟨by omega,fun q1 ws' f1 p1 s1=>q _ q1 ws' ((S3.new hp _).new f1 _) (aN.free (S3.new hp _) f1) aE (p1.trans ?_) s1⟩
  have pk:(plK t so)=(((fP t "").filter fun e=>decide (knd e.2=so)).map (·.1)):=by
   unfold plK
   rw [dN,List.filter_map,List.map_map]
   rfl
  rw [pk]
  exact (pm.filter _).map _
theorem ok_j6 (T:Tx K mg) : FnOk P w K mg base (cK P w) 3 T.f_j6 T.d_j6 ["tree"] (u7 K):=by
 have sc:=sc_j6
 refine T.F_j6.okx sc (fun vs H Q E h=>?_) (fun cdv A outer s H vs Q E hr h=>?_)
 ·obtain ⟨v,t,B,rfl,tv,lt,q⟩:=h
  rfl
 obtain ⟨v,t,B,rfl,tv,lt,q⟩:=h
 have hu:=hr.units0
 have hu2:=hr.units
 have hu1:=Nat.lt_of_le_of_lt (Nat.add_le_add_left (show 1<=64 by decide) _) hu2
 refine ⟨_,(@aF _ _ _ (@aS _ _ _ _ (aH (ok_qM T) (hr.mono (by decide)) rfl T.m_qM T.F_qM.kp T.b_qM .nil (aL fun _ _ z=>z) (aA (pv 0) (aA bA aC dI))))),?_⟩
 walk_at "kx"
 walk_at "rd"
 rename_i h1 p1 ws s1 f1 e1 m1 o1
 exact q _ _ _ s1 f1 e1 m1 o1
theorem ok_q8 (T:Tx K mg) : FnOk P w K mg base (cK P w) 2 T.f_q8 T.d_q8 ["tree"] (pQ K):=by
 have sc:=sc_q8
 refine T.F_q8.okx sc (fun vs H Q E h=>?_) (fun cdv A outer s H vs Q E hr h=>?_)
 ·obtain ⟨v,t,B,rfl,tv,lt,b0,bz,q⟩:=h
  rfl
 obtain ⟨v,t,B,rfl,tv,lt,b0,bz,q⟩:=h
 have hu:=hr.units0
 have hu2:=hr.units
 have hu1:=Nat.lt_of_le_of_lt (Nat.add_le_add_left (show 1<=64 by decide) _) hu2
 refine ⟨_,(@aD _ _ _ _ _ (@aK _ _ 1 _ _ _ _ sc.nd rfl (by walk_at "o1") aB (by rfl) (by walk_at "o2"))
   (@aD _ _ _ _ _ (cS dS rfl (lB (aH (lE T) (hr.mono (by decide)) rfl T.m_q3 T.F_q3.kp T.b_q3 .nil (aL fun _ _ z=>z) (aA (pv 0) aC)) rfl rfl) (aY (i:=2) sc.nd rfl (by walk_at "o1"))
   (@aD _ _ _ _ _ (@aO _ _ _ (@aK _ _ 3 _ _ _ _ sc.nd rfl (by walk_at "o1") (@aI _ _ _ _ _ _ _ aG (@aI _ _ _ _ _ _ _ aG (pv 2) aB (fun _ _=>rfl)) aB (fun _ _=>rfl)) (by rfl) (by walk_at "o2")))
   (@aF _ _ _ (@aK _ _ 1 _ _ _ _ sc.nd rfl (by walk_at "o1") (@aJ _ _ _ _ _ _ _ _ bH (pv 1) (@aJ _ _ _ _ _ _ _ _ bQ (pv 3) (aH (oE T) (hr.mono (by decide)) rfl T.m_q1 T.F_q1.kp T.b_q1 .nil (aL fun _ _ z=>z) (aA (pv 1) (aA (pv 3) aC))))) (by rfl) (by walk_at "o2")))))
   (@aF _ _ _ (@aS _ _ _ _ (pv 1))))),?_⟩
 walk_at "kx"
 walk_at "rd"
 rename_i H1 d kvs es S1 fd hd dt pm
 refine .inl ⟨hd,fun ep=>?_⟩
 have kl:=dt.length
 refine j8 (P:=P) (w:=w) (a:=d) (kvs:=kvs) (ep:=ep) (fun i σ' H'=>Iv (∃ (C:Int) (o2 o3:Option V),aN H H'/\bF H1 H'/\H' d=some (nH P w d kvs ep)/\0 < C/\C ∣ B/\(∀ e∈es.take i,((Rat.divInt e.2.wt B).den:Int) ∣ C)/\σ' = [some v,some (.int C),o2,o3])) ?_ ?_ ?_ ?_
 ·exact ⟨⟨1,_,_,aN.over S1 fd _,iQ (bF.refl _) hd _,aE,by decide,Int.one_dvd _,fun e he=>(by rw [List.take_zero] at he; cases he),rfl⟩⟩
 ·refine fun i σ' H3 hi h0=>hid fun J Z=>?_
  obtain ⟨⟨C,o2,o3,S3,st3,hf,_⟩⟩ :=h0
  refine Z ?_
  clear Z
  exact hf
 ·refine fun i k x σ' H3 hk h0=>hid fun J Z=>?_
  obtain ⟨⟨C,o2,o3,S3,st3,hf,c0,cb,al,rfl⟩⟩ :=h0
  refine Z ?_
  clear Z
  obtain ⟨⟨q0,s0⟩,he,rfl,te⟩:=dt.get hk
  have te:TV K H1 x (eF B s0):=te
  obtain ⟨p,k,c,r,rfl,hp,hc⟩:=(te.mono st3).hw b0
  have hc:H3 c=some (.tup [.int (Rat.divInt s0.wt B).num,.int ((Rat.divInt s0.wt B).den:Int)]):=hc
  have a1:=uB (k:=k) (c:=c) (r:=r)
  have d0:=gA (t:=s0.wt) (b:=B)
  have db:=mY (w:=s0.wt) b0
  have lo:=lcm_ok c0 d0 b0 cb db
  have zd:Bz 128 ((Rat.divInt s0.wt B).den:Int):=kA b0 bz db
  have zc:Bz 128 C:=kA b0 bz cb
  refine aP (fun σ' H4=>Iv (H4=H3/\σ' = [some v,some (.int C),some (.ref p),some (.int ((Rat.divInt s0.wt B).den:Int))])) (fun _ _ _=>?_) ?_
  ·walk_at "rd"
   exact ⟨⟨rfl,rfl⟩⟩
  rintro J Z σ' H4 ⟨⟨rfl,rfl⟩⟩
  refine Z _ _ ?_
  clear Z
  generalize eD:((Rat.divInt s0.wt B).den:Int)=D at d0 db lo zd
  have zd8:Bz 8000 D:=zd.mono (by decide)
  have cg:=cGe (t:=C) d0 zd8 D
  have nz:D ≠ 0:=by omega
  have zk:Bz 128 (D / M.G C D):=zd.ediv (by have:=M.G_pos C D; omega)
  have mo:=zc.mulOk zk
  walk_at "rd"
  refine ⟨⟨_,_,_,S3,st3,hf,lo.1,lo.2.1,fun e he2=>?_,rfl⟩⟩
  rw [List.take_add_one,he] at he2
  rcases List.mem_append.mp he2 with z | z
  ·exact Int.dvd_trans (al e z) lo.2.2.1
  ·have z:e∈[(q0,s0)]:=z
   rw [List.mem_singleton.mp z]
   show ((Rat.divInt s0.wt B).den:Int) ∣ _
   rw [eD]
   exact lo.2.2.2
 ·refine fun σ' H3 h0=>hid fun J Z=>?_
  obtain ⟨⟨C,o2,o3,S3,st3,hf,c0,cb,al,rfl⟩⟩ :=h0
  refine Z ?_
  clear Z
  walk_at "rd"
  refine q _ C S3 c0 cb fun e he=>al e ?_
  rw [kl,List.take_length]
  exact pm.mem_iff.mpr he
theorem ok_j20 (T:Tx K mg) : FnOk P w K mg base (cK P w) (0 + 1) T.f_j2 T.d_j2 ["tree", "bottom"] (eP K 0):=by
 have sc:=sc_j2
 refine T.F_j2.okx sc (fun vs H Q E h=>?_) (fun cdv A outer s H vs Q E hr h=>?_)
 ·obtain ⟨v,t,B,C,rfl,tv,td,b0,bz,tb,c0,cz,dn,q⟩:=h
  rfl
 obtain ⟨v,t,B,C,rfl,tv,td,b0,bz,tb,c0,cz,dn,q⟩:=h
 have hu:=hr.units0
 have hu2:=hr.units
 have hu1:=Nat.lt_of_le_of_lt (Nat.add_le_add_left (show 1<=64 by decide) _) hu2
 refine ⟨_,(@aD _ _ _ _ _ (@aK _ _ 2 _ _ _ _ sc.nd rfl (by walk_at "o1") (@aJ _ _ _ _ _ _ _ _ bQ (pv 1) (@aI _ _ _ _ _ _ _ aG (@aI _ _ _ _ _ _ _ aG (pv 0) aB (fun _ _=>rfl)) aB (fun _ _=>rfl))) (by rfl) (by walk_at "o2"))
   (@aD _ _ _ _ _ (@bY _ _ _ _ _ _ _ _ (@aX _ _ _ _ _ _ _ _ dC (@aI _ _ _ _ _ _ _ aG (pv 0) aB (fun _ _=>rfl)) bA (bB _)) (@aF _ _ _ cR) bD)
   (@aF _ _ _ (@aS _ _ _ _ (aZ (aA bA (aA (@aJ _ _ _ _ _ _ _ _ bH (@aI _ _ _ _ _ _ _ aG (@aI _ _ _ _ _ _ _ aG (pv 0) aB (fun _ _=>rfl)) aB (fun _ _=>rfl)) (pv 2)) aC) dI)))))),?_⟩
 walk_at "kx"
 have wb:=tb.w
 rw [<- Tr.wt_w] at wb
 have dn1:=dn.w
 have d0:=gA (t:=t.wt) (b:=B)
 have zd:Bz 128 ((Rat.divInt t.wt B).den:Int):=kA b0 bz (mY b0)
 have zn:Bz 128 (Rat.divInt t.wt B).num:=lI b0 ((gF wb.1 wb.2).mono (by decide))
 have cd:iL C ((Rat.divInt t.wt B).den:Int):=⟨d0,zd.log2⟩
 have zk:Bz 128 (C / ((Rat.divInt t.wt B).den:Int)):=cz.ediv (Int.le_of_lt d0)
 have mo:=zn.mulOk zk
 have lw:=wL b0 dn1
 cases t with
 | en w =>
  obtain ⟨p,c,rfl,hp,hc⟩:=TV.hen tv
  obtain ⟨c,rfl,hc2⟩:=TV.rD b0 hc
  have hc:H c=some (.tup [.int (Rat.divInt (Tr.en w).wt B).num,.int ((Rat.divInt (Tr.en w).wt B).den:Int)]):=hc2
  walk_at "rd"
  rename_i p1 h1
  exact q _ _ (.en _) (aM h1 _) (TV.en' aE) (.en lw)
 | fk w y n=>exact absurd td (by show ¬ max _ _ + 1<=0; omega)
theorem ok_j2S (T:Tx K mg)(d:Nat)(ih:FnOk P w K mg base (cK P w) (d + 1) T.f_j2 T.d_j2 ["tree", "bottom"] (eP K d)) : FnOk P w K mg base (cK P w) (d + 1 + 1) T.f_j2 T.d_j2 ["tree", "bottom"] (eP K (d + 1)):=by
 have sc:=sc_j2
 refine T.F_j2.okx sc (fun vs H Q E h=>?_) (fun cdv A outer s H vs Q E hr h=>?_)
 ·obtain ⟨v,t,B,C,rfl,tv,td,b0,bz,tb,c0,cz,dn,q⟩:=h
  rfl
 obtain ⟨v,t,B,C,rfl,tv,td,b0,bz,tb,c0,cz,dn,q⟩:=h
 have hu:=hr.units0
 have hu2:=hr.units
 have hu1:=Nat.lt_of_le_of_lt (Nat.add_le_add_left (show 1<=64 by decide) _) hu2
 refine ⟨_,(@aD _ _ _ _ _ (@aK _ _ 2 _ _ _ _ sc.nd rfl (by walk_at "o1") (@aJ _ _ _ _ _ _ _ _ bQ (pv 1) (@aI _ _ _ _ _ _ _ aG (@aI _ _ _ _ _ _ _ aG (pv 0) aB (fun _ _=>rfl)) aB (fun _ _=>rfl))) (by rfl) (by walk_at "o2"))
   (@aD _ _ _ _ _ (@bY _ _ _ _ _ _ _ _ (@aX _ _ _ _ _ _ _ _ dC (@aI _ _ _ _ _ _ _ aG (pv 0) aB (fun _ _=>rfl)) bA (bB _)) (@aF _ _ _ (@aS _ _ _ _ (aZ (aA bA (aA (@aJ _ _ _ _ _ _ _ _ bH (@aI _ _ _ _ _ _ _ aG (@aI _ _ _ _ _ _ _ aG (pv 0) aB (fun _ _=>rfl)) aB (fun _ _=>rfl)) (pv 2)) (aA (aH ih (hr.mono (by omega)) rfl T.m_j2 T.F_j2.kp T.b_j2 .nil (aL fun _ _ z=>z) (aA (@aI _ _ _ _ _ _ _ aG (pv 0) aB (fun _ _=>rfl)) (aA (pv 1) aC))) (aA (aH ih (hr.mono (by omega)) rfl T.m_j2 T.F_j2.kp T.b_j2 .nil (aL fun _ _ z=>z) (aA (@aI _ _ _ _ _ _ _ aG (pv 0) aB (fun _ _=>rfl)) (aA (pv 1) aC))) aC))) dI)))) bD)
   (@aF _ _ _ (@aS _ _ _ _ (aZ (aA bA (aA (@aJ _ _ _ _ _ _ _ _ bH (@aI _ _ _ _ _ _ _ aG (@aI _ _ _ _ _ _ _ aG (pv 0) aB (fun _ _=>rfl)) aB (fun _ _=>rfl)) (pv 2)) aC) dI)))))),?_⟩
 walk_at "kx"
 have wb:=tb.w
 rw [<- Tr.wt_w] at wb
 have dn1:=dn.w
 have d0:=gA (t:=t.wt) (b:=B)
 have zd:Bz 128 ((Rat.divInt t.wt B).den:Int):=kA b0 bz (mY b0)
 have zn:Bz 128 (Rat.divInt t.wt B).num:=lI b0 ((gF wb.1 wb.2).mono (by decide))
 have cd:iL C ((Rat.divInt t.wt B).den:Int):=⟨d0,zd.log2⟩
 have zk:Bz 128 (C / ((Rat.divInt t.wt B).den:Int)):=cz.ediv (Int.le_of_lt d0)
 have mo:=zn.mulOk zk
 have lw:=wL b0 dn1
 cases t with
 | en w =>
  obtain ⟨p,c,rfl,hp,hc⟩:=TV.hen tv
  obtain ⟨c,rfl,hc2⟩:=TV.rD b0 hc
  have hc:H c=some (.tup [.int (Rat.divInt (Tr.en w).wt B).num,.int ((Rat.divInt (Tr.en w).wt B).den:Int)]):=hc2
  walk_at "rd"
  rename_i p1 h1
  exact q _ _ (.en _) (aM h1 _) (TV.en' aE) (.en lw)
 | fk w y n =>
  obtain ⟨p,c,u1,u2,rfl,hp,hc,t1,t2⟩:=TV.hfk tv
  obtain ⟨c,rfl,hc2⟩:=TV.rD b0 hc
  have hc:H c=some (.tup [.int (Rat.divInt (Tr.fk w y n).wt B).num,.int ((Rat.divInt (Tr.fk w y n).wt B).den:Int)]):=hc2
  have td:max y.dp n.dp + 1<=d + 1:=td
  have dy:y.dp<=d:=by omega
  have dn2:n.dp<=d:=by omega
  have by_:=tb.2.1
  have bn:=tb.2.2
  have ny:=dn.2.1
  have nn:=dn.2.2
  walk_at "rd"
  rename_i H1 x1 t1' S1 tx1 sc1
  have t21:=t2.mono S1.t
  have hp1:=S1 _ _ hp
  walk_at "rd"
  rename_i H2 x2 t2' S2 tx2 sc2 p1 h1
  exact q _ _ (.fk _ t1' t2') ((S1.trans S2).new h1 _) (TV.fk' aE ((tx1.mono S2.t).mono (aM h1 _).t) (tx2.mono (aM h1 _).t)) (.fk lw sc1 sc2)
theorem ok_j2A (T:Tx K mg) : ∀ d:Nat,FnOk P w K mg base (cK P w) (d + 1) T.f_j2 T.d_j2 ["tree", "bottom"] (eP K d):=by
 intro d
 induction d with
 | zero=>exact ok_j20 T
 | succ d ih=>exact ok_j2S T d ih
theorem ok_j2 (T:Tx K mg) : FnOk P w K mg base (cK P w) (20 + 1) T.f_j2 T.d_j2 ["tree", "bottom"] (eP K 20):=by exact ok_j2A T 20
theorem ok_q4 (T:Tx K mg) : FnOk P w K mg base (cK P w) 22 T.f_q4 T.d_q4 ["tree"] (pL K):=by
 have sc:=sc_q4
 refine T.F_q4.okx sc (fun vs H Q E h=>?_) (fun cdv A outer s H vs Q E hr h=>?_)
 ·obtain ⟨v,t,B,rfl,tv,lt,b0,bz,tb,q⟩:=h
  rfl
 obtain ⟨v,t,B,rfl,tv,lt,b0,bz,tb,q⟩:=h
 have hu:=hr.units0
 have hu2:=hr.units
 have hu1:=Nat.lt_of_le_of_lt (Nat.add_le_add_left (show 1<=64 by decide) _) hu2
 refine ⟨_,(@aF _ _ _ (@aS _ _ _ _ (aH (ok_j2 T) (hr.mono (by decide)) rfl T.m_j2 T.F_j2.kp T.b_j2 .nil (aL fun _ _ z=>z) (aA (pv 0) (aA (aH (ok_q8 T) (hr.mono (by decide)) rfl T.m_q8 T.F_q8.kp T.b_q8 .nil (aL fun _ _ z=>z) (aA (pv 0) aC)) aC))))),?_⟩
 walk_at "kx"
 have lt30:t.lv<=30:=by omega
 have td:t.dp<=20:=by have:=t.dp_lt; omega
 walk_at "rd"
 rename_i H1 C S1 c0 cb al
 have tv1:=tv.mono S1.t
 have cz:=kA b0 bz cb
 have dn:=Dn.of al
 have le:C<=B:=Int.le_of_dvd b0 cb
 walk_at "rd"
 rename_i H2 x t' S2 tx sc
 exact q _ _ t' C (S1.trans S2) tx sc c0 le (sc.B c0 le tb)
theorem oD (T:Tx K mg) : FnOk P w K mg base (cK P w) 1 T.f_qH T.d_qH ["place", "places"] (kR K):=by
 have sc:=sc_qH
 refine T.F_qH.okx sc (fun vs H Q E h=>?_) (fun cdv A outer s H vs Q E hr h=>?_)
 ·obtain ⟨x,a,ps,rfl,ha,hl,q⟩:=h
  rfl
 obtain ⟨x,a,ps,rfl,ha,hl,q⟩:=h
 have hu:=hr.units0
 have hu2:=hr.units
 have hu1:=Nat.lt_of_le_of_lt (Nat.add_le_add_left (show 1<=64 by decide) _) hu2
 refine ⟨_,(@aF _ _ _ (@aS _ _ _ _ (dH (ts:=["one"]) (js:=[0]) (LcOk.of rfl) rfl (bL (pv 1)) (fun _ _ _ _=>(aY (i:=0) (bK rfl) rfl (Or.inl rfl))) (fun _ _ _ _=>(dJ (cZ (dU PySem.F.plainAttrs_str PySem.F.slot_str_startswith PySem.F.type_str_startswith dA (pv 1) (aA (pv 0) aC))))) (fun _ _ _ _=>(pv 0))))),?_⟩
 walk_at "kx"
 have hl2:(ps.map V.str).length=ps.length:=List.length_map _
 walk_at "rd"
 refine c7 (K:=K) (a:=a) (xs:=ps.map V.str) (fun i ys H'=>Iv (H'=H/\ys=(eM x (ps.take i)).map V.str)) ⟨⟨rfl,rfl⟩⟩ (fun i ys H' hi z=>⟨c6.of (by rw [z.o.1]; exact ha),?_⟩) ?_ ?_
 ·rw [z.o.2,List.length_map]
  refine aU (Nat.le_trans (List.length_filter_le _ _) ?_)
  rw [List.length_take]
  omega
 ·rintro i v ys H' hi ⟨⟨rfl,rfl⟩⟩
  rw [List.getElem?_map] at hi
  obtain ⟨o,ho,rfl⟩:=Option.map_eq_some_iff.mp hi
  have il:=(List.getElem?_eq_some_iff.mp ho).1
  have ft:=cP (p:=fun o=>Txt.startswith x o) ho
  walk_at "rd"
  refine iteB (fun c=>?_) (fun c=>?_)
  ·walk_at "rd"
   refine ⟨⟨rfl,?_⟩⟩
   unfold eM
   rw [ft,if_pos c,List.map_append]
   rfl
  ·walk_at "rd"
   refine ⟨⟨rfl,?_⟩⟩
   unfold eM
   rw [ft,if_neg (by rw [c]; decide),List.append_nil]
 ·rintro ys H' ⟨⟨rfl,rfl⟩⟩ p hp
  rw [hl2,List.take_length]
  exact q p hp
theorem ok_qD (T:Tx K mg) : FnOk P w K mg base (cK P w) 2 T.f_qD T.d_qD ["price"] jO:=by
 have sc:=sc_qD
 refine T.F_qD.okx sc (fun vs H Q E h=>?_) (fun cdv A outer s H vs Q E hr h=>?_)
 ·obtain ⟨a,t,b,rfl,h1,h0,z1,z2,q⟩:=h
  rfl
 obtain ⟨a,t,b,rfl,h1,h0,z1,z2,q⟩:=h
 have hu:=hr.units0
 have hu2:=hr.units
 have hu1:=Nat.lt_of_le_of_lt (Nat.add_le_add_left (show 1<=64 by decide) _) hu2
 refine ⟨_,(@aF _ _ _ (@bY _ _ _ _ _ _ _ _ (cZ (aH (iV T) (hr.mono (by decide)) rfl T.m_j5 T.F_j5.kp T.b_j5 .nil (aL fun _ _ z=>z) (aA (pv 0) (aA (aZ (aA aB (aA aB aC))) aC)))) (@aF _ _ _ cR) bD)),?_⟩
 walk_at "kx"
 have y0:Bz 8000 0:=by show (0:Int).natAbs < 2 ^ 8000; exact Nat.two_pow_pos _
 have y1:Bz 8000 1:=(Bz.w (x:=1) (by decide) (by decide)).mono (by decide)
 walk_at "rd"
 rename_i p hp
 exact q _ (aM hp _)
theorem rA (T:Tx K mg) : FnOk P w K mg base (cK P w) 1 T.f_q9 T.d_q9 ["one", "other"] yA:=by
 have sc:=sc_q9
 refine T.F_q9.okx sc (fun vs H Q E h=>?_) (fun cdv A outer s H vs Q E hr h=>?_)
 ·obtain ⟨a,b,t1,b1,t2,b2,rfl,h1,h2,z1,z2,z3,z4,q⟩:=h
  rfl
 obtain ⟨a,b,t1,b1,t2,b2,rfl,h1,h2,z1,z2,z3,z4,q⟩:=h
 have hu:=hr.units0
 have hu2:=hr.units
 have hu1:=Nat.lt_of_le_of_lt (Nat.add_le_add_left (show 1<=64 by decide) _) hu2
 refine ⟨_,(@aF _ _ _ (@aS _ _ _ _ (aZ (aA (@aJ _ _ _ _ _ _ _ _ cG (@aJ _ _ _ _ _ _ _ _ bH (@aI _ _ _ _ _ _ _ aG (pv 0) aB (fun _ _=>rfl)) (@aI _ _ _ _ _ _ _ aG (pv 1) aB (fun _ _=>rfl))) (@aJ _ _ _ _ _ _ _ _ bH (@aI _ _ _ _ _ _ _ aG (pv 1) aB (fun _ _=>rfl)) (@aI _ _ _ _ _ _ _ aG (pv 0) aB (fun _ _=>rfl)))) (aA (@aJ _ _ _ _ _ _ _ _ bH (@aI _ _ _ _ _ _ _ aG (pv 0) aB (fun _ _=>rfl)) (@aI _ _ _ _ _ _ _ aG (pv 1) aB (fun _ _=>rfl))) aC))))),?_⟩
 walk_at "kx"
 walk_at "rd"
 rename_i p hp
 exact q p hp
theorem ok_q00 (T:Tx K mg) : FnOk P w K mg base (cK P w) (0 + 2) T.f_q0 T.d_q0 ["tree", "price"] (jN K 0):=by
 have sc:=sc_q0
 refine T.F_q0.okx sc (fun vs H Q E h=>?_) (fun cdv A outer s H vs Q E hr h=>?_)
 ·obtain ⟨v,t,a,top,low,b,rfl,cv,td,tl,tb,pr,ha,q⟩:=h
  rfl
 obtain ⟨v,t,a,top,low,b,rfl,cv,td,tl,tb,pr,ha,q⟩:=h
 have hu:=hr.units0
 have hu2:=hr.units
 have hu1:=Nat.lt_of_le_of_lt (Nat.add_le_add_left (show 1<=64 by decide) _) hu2
 refine ⟨_,(@aD _ _ _ _ _ (@bY _ _ _ _ _ _ _ _ (@aX _ _ _ _ _ _ _ _ dC (@aI _ _ _ _ _ _ _ aG (pv 0) aB (fun _ _=>rfl)) bA (bB _)) (@aF _ _ _ (@aS _ _ _ _ (aZ (aA (@cD _ _ _ _ (aA bA aC dI)) (aA (@aI _ _ _ _ _ _ _ aG (pv 0) aB (fun _ _=>rfl)) aC))))) bD)
   (@aD _ _ _ _ _ cR
   (@aD _ _ _ _ _ cR
   (@aD _ _ _ _ _ (@aK _ _ 4 _ _ _ _ sc.nd rfl (by walk_at "o1") (@aJ _ _ _ _ _ _ _ _ iN (dH (ts:=["place"]) (js:=[]) (LcOk.of rfl) rfl (bL (@aI _ _ _ _ _ _ _ aG (pv 3) aB (fun _ _=>rfl))) (fun _ _ _ _=>(aY (i:=0) (bK rfl) rfl (Or.inl rfl))) (fun _ _ _ _=>d9) (fun _ _ _ _=>(@aJ _ _ _ _ _ _ _ _ bV bA (pv 0)))) (dH (ts:=["place"]) (js:=[]) (LcOk.of rfl) rfl (bL (@aI _ _ _ _ _ _ _ aG (pv 2) aB (fun _ _=>rfl))) (fun _ _ _ _=>(aY (i:=0) (bK rfl) rfl (Or.inl rfl))) (fun _ _ _ _=>d9) (fun _ _ _ _=>(@aJ _ _ _ _ _ _ _ _ bV bA (pv 0))))) (by rfl) (by walk_at "o2"))
   (@aD _ _ _ _ _ (@aK _ _ 5 _ _ _ _ sc.nd rfl (by walk_at "o1") (aH (rA T) (hr.mono (by decide)) rfl T.m_q9 T.F_q9.kp T.b_q9 .nil (aL fun _ _ z=>z) (aA (@aI _ _ _ _ _ _ _ aG (pv 2) aB (fun _ _=>rfl)) (aA (@aI _ _ _ _ _ _ _ aG (pv 3) aB (fun _ _=>rfl)) aC))) (by rfl) (by walk_at "o2"))
   (@aD _ _ _ _ _ (@aK _ _ 6 _ _ _ _ sc.nd rfl (by walk_at "o1") (aZ (aA (@aJ _ _ _ _ _ _ _ _ bH (@aI _ _ _ _ _ _ _ aG (pv 1) aB (fun _ _=>rfl)) (@aJ _ _ _ _ _ _ _ _ cF (aV aT rfl T.z_len bZ (aA (pv 4) aC)) aB)) (aA (@aI _ _ _ _ _ _ _ aG (pv 1) aB (fun _ _=>rfl)) aC))) (by rfl) (by walk_at "o2"))
   (@aD _ _ _ _ _ (@bY _ _ _ _ _ _ _ _ (cZ (aH (iV T) (hr.mono (by decide)) rfl T.m_j5 T.F_j5.kp T.b_j5 .nil (aL fun _ _ z=>z) (aA (aH (rA T) (hr.mono (by decide)) rfl T.m_q9 T.F_q9.kp T.b_q9 .nil (aL fun _ _ z=>z) (aA (pv 5) (aA (pv 6) aC))) (aA (@aI _ _ _ _ _ _ _ aG (pv 0) aB (fun _ _=>rfl)) aC)))) (@aF _ _ _ (@aS _ _ _ _ (aZ (aA (pv 4) (aA (pv 5) aC))))) bD)
   (@aF _ _ _ (@aS _ _ _ _ (aZ (aA (@cD _ _ _ _ (aA bA aC dI)) (aA (@aI _ _ _ _ _ _ _ aG (pv 0) aB (fun _ _=>rfl)) aC)))))))))))),?_⟩
 walk_at "kx"
 cases t with
 | en w =>
  cases cv with
  | en h1 h2 =>
   walk_at "rd"
   rename_i l hl p hp
   exact q _ _ _ _ _ _ ((aM hl _).new hp _) aE (kp aE hp) (kp (kp h2 hl) hp) (Cost29.stop pr.b0 pr.b1 tb rfl)
 | fk w y n=>exact absurd td (by show ¬ max _ _ + 1<=0; omega)
theorem ok_q0S (T:Tx K mg)(d:Nat)(ih:FnOk P w K mg base (cK P w) (d + 2) T.f_q0 T.d_q0 ["tree", "price"] (jN K d)) : FnOk P w K mg base (cK P w) (d + 1 + 2) T.f_q0 T.d_q0 ["tree", "price"] (jN K (d + 1)):=by
 have sc:=sc_q0
 refine T.F_q0.okx sc (fun vs H Q E h=>?_) (fun cdv A outer s H vs Q E hr h=>?_)
 ·obtain ⟨v,t,a,top,low,b,rfl,cv,td,tl,tb,pr,ha,q⟩:=h
  rfl
 obtain ⟨v,t,a,top,low,b,rfl,cv,td,tl,tb,pr,ha,q⟩:=h
 have hu:=hr.units0
 have hu2:=hr.units
 have hu1:=Nat.lt_of_le_of_lt (Nat.add_le_add_left (show 1<=64 by decide) _) hu2
 refine ⟨_,(@aD _ _ _ _ _ (@bY _ _ _ _ _ _ _ _ (@aX _ _ _ _ _ _ _ _ dC (@aI _ _ _ _ _ _ _ aG (pv 0) aB (fun _ _=>rfl)) bA (bB _)) (@aF _ _ _ (@aS _ _ _ _ (aZ (aA (@cD _ _ _ _ (aA bA aC dI)) (aA (@aI _ _ _ _ _ _ _ aG (pv 0) aB (fun _ _=>rfl)) aC))))) bD)
   (@aD _ _ _ _ _ (@aK _ _ 2 _ _ _ _ sc.nd rfl (by walk_at "o1") (aH ih (hr.mono (by omega)) rfl T.m_q0 T.F_q0.kp T.b_q0 .nil (aL fun _ _ z=>z) (aA (@aI _ _ _ _ _ _ _ aG (pv 0) aB (fun _ _=>rfl)) (aA (pv 1) aC))) (by rfl) (by walk_at "o2"))
   (@aD _ _ _ _ _ (@aK _ _ 3 _ _ _ _ sc.nd rfl (by walk_at "o1") (aH ih (hr.mono (by omega)) rfl T.m_q0 T.F_q0.kp T.b_q0 .nil (aL fun _ _ z=>z) (aA (@aI _ _ _ _ _ _ _ aG (pv 0) aB (fun _ _=>rfl)) (aA (pv 1) aC))) (by rfl) (by walk_at "o2"))
   (@aD _ _ _ _ _ (@aK _ _ 4 _ _ _ _ sc.nd rfl (by walk_at "o1") (@aJ _ _ _ _ _ _ _ _ iN (dH (ts:=["place"]) (js:=[]) (LcOk.of rfl) rfl (bL (@aI _ _ _ _ _ _ _ aG (pv 3) aB (fun _ _=>rfl))) (fun _ _ _ _=>(aY (i:=0) (bK rfl) rfl (Or.inl rfl))) (fun _ _ _ _=>d9) (fun _ _ _ _=>(@aJ _ _ _ _ _ _ _ _ bV bA (pv 0)))) (dH (ts:=["place"]) (js:=[]) (LcOk.of rfl) rfl (bL (@aI _ _ _ _ _ _ _ aG (pv 2) aB (fun _ _=>rfl))) (fun _ _ _ _=>(aY (i:=0) (bK rfl) rfl (Or.inl rfl))) (fun _ _ _ _=>d9) (fun _ _ _ _=>(@aJ _ _ _ _ _ _ _ _ bV bA (pv 0))))) (by rfl) (by walk_at "o2"))
   (@aD _ _ _ _ _ (@aK _ _ 5 _ _ _ _ sc.nd rfl (by walk_at "o1") (aH (rA T) (hr.mono (by omega)) rfl T.m_q9 T.F_q9.kp T.b_q9 .nil (aL fun _ _ z=>z) (aA (@aI _ _ _ _ _ _ _ aG (pv 2) aB (fun _ _=>rfl)) (aA (@aI _ _ _ _ _ _ _ aG (pv 3) aB (fun _ _=>rfl)) aC))) (by rfl) (by walk_at "o2"))
   (@aD _ _ _ _ _ (@aK _ _ 6 _ _ _ _ sc.nd rfl (by walk_at "o1") (aZ (aA (@aJ _ _ _ _ _ _ _ _ bH (@aI _ _ _ _ _ _ _ aG (pv 1) aB (fun _ _=>rfl)) (@aJ _ _ _ _ _ _ _ _ cF (aV aT rfl T.z_len bZ (aA (pv 4) aC)) aB)) (aA (@aI _ _ _ _ _ _ _ aG (pv 1) aB (fun _ _=>rfl)) aC))) (by rfl) (by walk_at "o2"))
   (@aD _ _ _ _ _ (@bY _ _ _ _ _ _ _ _ (cZ (aH (iV T) (hr.mono (by omega)) rfl T.m_j5 T.F_j5.kp T.b_j5 .nil (aL fun _ _ z=>z) (aA (aH (rA T) (hr.mono (by omega)) rfl T.m_q9 T.F_q9.kp T.b_q9 .nil (aL fun _ _ z=>z) (aA (pv 5) (aA (pv 6) aC))) (aA (@aI _ _ _ _ _ _ _ aG (pv 0) aB (fun _ _=>rfl)) aC)))) (@aF _ _ _ (@aS _ _ _ _ (aZ (aA (pv 4) (aA (pv 5) aC))))) bD)
   (@aF _ _ _ (@aS _ _ _ _ (aZ (aA (@cD _ _ _ _ (aA bA aC dI)) (aA (@aI _ _ _ _ _ _ _ aG (pv 0) aB (fun _ _=>rfl)) aC)))))))))))),?_⟩
 walk_at "kx"
 cases t with
 | en w =>
  cases cv with
  | en h1 h2 =>
   walk_at "rd"
   rename_i l hl p hp
   exact q _ _ _ _ _ _ ((aM hl _).new hp _) aE (kp aE hp) (kp (kp h2 hl) hp) (Cost29.stop pr.b0 pr.b1 tb rfl)
 | fk w y n =>
  cases cv with
  | fk h1 h2 c1 c2 =>
   rename_i p0 r0 v1 v2
   have dd:max y.dp n.dp + 1<=d + 1:=td
   have ll:y.lv + n.lv<=21:=tl
   obtain ⟨wb,by_,bn⟩:=tb
   have ey:("y" : Str).length=1:=by decide +kernel
   have en:("n" : Str).length=1:=by decide +kernel
   have bl1:=kH low (top * b) y ""
   have bl2:=kH low (top * b) n ""
   have dy:=y.dp_lt
   have dn:=n.dp_lt
   walk_at "rd"
   rename_i H1 p1 l1 r1 t1 b1 S1 hp1 hl1 hr1 k1
   have c21:=c2.same S1
   have ha1:=S1 _ _ ha
   walk_at "rd"
   rename_i H2 p2 l2 r2 t2 b2 S2 hp2 hl2 hr2 k2 cA sA hA fA
   have ha2:=S2 _ _ ha1
   have hl12:=S2 _ _ hl1
   have hp12:=S2 _ _ hp1
   have hr12:=S2 _ _ hr1
   have h12:=S2 _ _ (S1 _ _ h1)
   have h22:=S2 _ _ (S1 _ _ h2)
   have S12:=S1.trans S2
   refine c7 (K:=K) (a:=l2) (xs:=(bM low (top * b) n "").1.map V.str) (fun i ys H'=>Iv (H'=H2/\ys=(((bM low (top * b) n "").1.take i).map fun x=>("n" : Str) ++ x).map V.str)) ⟨⟨rfl,rfl⟩⟩ (fun j ys H' hj z=>⟨by rw [z.o.1]; exact c6.of hl2,by rw [z.o.2,List.length_map,List.length_map,List.length_take]; exact aU (by omega)⟩) ?_ ?_
   ·rintro i x ys H' hi ⟨⟨rfl,rfl⟩⟩
    have il:i + 1<=((bM low (top * b) n "").1.map V.str).length:=(List.getElem?_eq_some_iff.mp hi).1
    rw [List.getElem?_map] at hi
    obtain ⟨o,ho,rfl⟩:=Option.map_eq_some_iff.mp hi
    have lo:=jJ low (top * b) n o (List.mem_of_getElem? ho)
    have lz:("n" : Str).length + o.length<=sizeLine:=jM (by omega)
    walk_at "rd"
    refine ⟨⟨rfl,?_⟩⟩
    rw [List.take_add_one,ho,List.map_append,List.map_append]
    rfl
   rintro ys H' ⟨⟨rfl,rfl⟩⟩ q1 hq1
   rw [List.length_map,List.take_length]
   obtain ⟨H3,eH⟩ : ∃ H3,H3=upd H' q1 (.lst ((((bM low (top * b) n "").1).map fun x=>("n" : Str) ++ x).map V.str)):=⟨_,rfl⟩
   rw [<- eH]
   have S3:aN H' H3:=by rw [eH]; exact aM hq1 _
   have hq1':H3 q1=some (.lst ((((bM low (top * b) n "").1).map fun x=>("n" : Str) ++ x).map V.str)):=by rw [eH]; exact aE
   clear eH
   have hl13:=S3 _ _ hl12
   have ha3:=S3 _ _ ha2
   have hp13:=S3 _ _ hp12
   have hr13:=S3 _ _ hr12
   have hr23:=S3 _ _ hr2
   have hp23:=S3 _ _ hp2
   have h13:=S3 _ _ h12
   have h23:=S3 _ _ h22
   have S13:=S12.trans S3
   clear ha1 ha2 hl12 hp12 hr12 h12 h22 hp2 hr2 c21 hl2 S12 S1 S2 hp1 hl1 hr1 h1 h2 c1 c2 hq1
   walk_at "rd"
   rename_i cB sB hB fB
   refine c7 (K:=K) (a:=l1) (xs:=(bM low (top * b) y "").1.map V.str) (fun i ys H'=>Iv (H'=H3/\ys=(((bM low (top * b) y "").1.take i).map fun x=>("y" : Str) ++ x).map V.str)) ⟨⟨rfl,rfl⟩⟩ (fun j ys H' hj z=>⟨by rw [z.o.1]; exact c6.of hl13,by rw [z.o.2,List.length_map,List.length_map,List.length_take]; exact aU (by omega)⟩) ?_ ?_
   ·rintro i x ys H' hi ⟨⟨rfl,rfl⟩⟩
    have il:i + 1<=((bM low (top * b) y "").1.map V.str).length:=(List.getElem?_eq_some_iff.mp hi).1
    rw [List.getElem?_map] at hi
    obtain ⟨o,ho,rfl⟩:=Option.map_eq_some_iff.mp hi
    have lo:=jJ low (top * b) y o (List.mem_of_getElem? ho)
    have lz:("y" : Str).length + o.length<=sizeLine:=jM (by omega)
    walk_at "rd"
    refine ⟨⟨rfl,?_⟩⟩
    rw [List.take_add_one,ho,List.map_append,List.map_append]
    rfl
   rintro ys H' ⟨⟨rfl,rfl⟩⟩ q2 hq2
   rw [List.length_map,List.take_length]
   obtain ⟨H4,eH⟩ : ∃ H4,H4=upd H' q2 (.lst ((((bM low (top * b) y "").1).map fun x=>("y" : Str) ++ x).map V.str)):=⟨_,rfl⟩
   rw [<- eH]
   have S4:aN H' H4:=by rw [eH]; exact aM hq2 _
   have hq2':H4 q2=some (.lst ((((bM low (top * b) y "").1).map fun x=>("y" : Str) ++ x).map V.str)):=by rw [eH]; exact aE
   clear eH
   have hq1':=S4 _ _ hq1'
   have ha3:=S4 _ _ ha3
   have hp13:=S4 _ _ hp13
   have hr13:=S4 _ _ hr13
   have hr23:=S4 _ _ hr23
   have hp23:=S4 _ _ hp23
   have h13:=S4 _ _ h13
   have h23:=S4 _ _ h23
   have S14:=S13.trans S4
   have zt1:Bz 8000 t1:=k1.zt.mono (by omega)
   have zb1:Bz 8000 b1:=k1.zb.mono (by omega)
   have zt2:Bz 8000 t2:=k2.zt.mono (by omega)
   have zb2:Bz 8000 b2:=k2.zb.mono (by omega)
   clear S4 S13 S3 hq2
   have bf:=sG low (top * b) w y n
   have zpn:Bz 109 (Rat.divInt top low).num:=lI (by have:=pr.l0; omega) (gF (by have:=pr.t0; omega) (by have:=pr.t1; omega))
   have zpd:Bz 109 ((Rat.divInt top low).den:Int):=rJ (by have:=pr.l0; omega) (gF (by have:=pr.l0; omega) (by have:=pr.l1; omega))
   have zwn:Bz 8000 (Rat.divInt w b).num:=(lI (by have:=pr.b0; omega) (gF wb.1 wb.2)).mono (by decide)
   have zwd:Bz 8000 ((Rat.divInt w b).den:Int):=(rJ (by have:=pr.b0; omega) (gF (by have:=pr.b0; omega) (by have:=pr.b1; omega))).mono (by decide)
   have zpd8:Bz 8000 ((Rat.divInt top low).den:Int):=zpd.mono (by decide)
   have zs1:Bz 4700 (t1 * b2 + t2 * b1):=((k1.zt.mul k2.zb).add' (k2.zt.mul k1.zb)).mono (by omega)
   have zs2:Bz 4700 (b1 * b2):=(k1.zb.mul k2.zb).mono (by omega)
   have zs18:Bz 8000 (t1 * b2 + t2 * b1):=zs1.mono (by decide)
   have zs28:Bz 8000 (b1 * b2):=zs2.mono (by decide)
   refine ⟨_,_,_,_,rfl,rfl,hq1',hq2',jM (by rw [List.length_map,List.length_map,List.length_map,List.length_map]; omega),?_⟩
   intro q3 hq3
   rw [<- List.map_append]
   have lP:((bM low (top * b) n "").1.map (fun x=>("n" : Str) ++ x) ++ (bM low (top * b) y "").1.map (fun x=>("y" : Str) ++ x)).length=(bM low (top * b) n "").1.length + (bM low (top * b) y "").1.length:=by rw [List.length_append,List.length_map,List.length_map]
   clear hq1' hq2'
   generalize (bM low (top * b) n "").1.map (fun x=>("n" : Str) ++ x) ++ (bM low (top * b) y "").1.map (fun x=>("y" : Str) ++ x)=pl at *
   have lm:(pl.map V.str).length=pl.length:=List.length_map _
   have lq:pl.length<=21:=by omega
   have zl:Bz 109 ((((pl.map V.str).length:Nat) : Int) - 1):=gF (by omega) (by omega)
   have zsp:Bz 218 ((Rat.divInt top low).num * ((((pl.map V.str).length:Nat) : Int) - 1)):=zpn.mul zl
   have zsp8:Bz 8000 ((Rat.divInt top low).num * ((((pl.map V.str).length:Nat) : Int) - 1)):=zsp.mono (by decide)
   have msp:IntMulOk (Rat.divInt top low).num ((((pl.map V.str).length:Nat) : Int) - 1):=zpn.mulOk zl
   have zu1:Bz 8000 ((t1 * b2 + t2 * b1) * ((Rat.divInt top low).den:Int) + (Rat.divInt top low).num * ((((pl.map V.str).length:Nat) : Int) - 1) * (b1 * b2)):=((zs1.mul zpd).add' (zsp.mul zs2)).mono (by decide)
   have zu2:Bz 8000 (b1 * b2 * ((Rat.divInt top low).den:Int)):=(zs2.mul zpd).mono (by decide)
   walk_at "rd"
   rename_i q4 hq4 q5 hq5 q6 hq6
   have l0:0 < low:=by have:=pr.l0; omega
   have b0:0 < b:=by have:=pr.b0; omega
   have lt:=cost_lt (l:=(((pl.map V.str).length:Nat) : Int)) (oW k1.e k2.e) (fJ (t:=top) l0) (fJ (t:=w) b0) (Int.mul_pos k1.p k2.p) gA gA b0 l0
   have el:(((pl.map V.str).length:Nat) : Int)=((bM low (top * b) n "").1.length:Int) + ((bM low (top * b) y "").1.length:Int):=by omega
   rw [el] at lt
   rw [<- el] at lt
   rw [<- el] at bf
   clear zu1 zu2 msp zsp8 zsp zl zs28 zs18 zs1 zs2 zpn zpd zwn zwd zpd8 zt1 zt2 zb1 zb2
   refine dX (fun c=>?_) (fun c=>?_)
   ·have e:=bf.trans (if_pos (lt.mp c))
    have kc:=Cost29.go (w:=w) k1 k2 (by rw [e])
    rw [e] at q
    walk_at "rd"
    rename_i q7 hq7
    exact q _ _ _ _ _ _ (((((S14.new hq3 _).new hq4 _).new hq5 _).new hq6 _).new hq7 _) aE (kp (kp (kp (kp aE hq4) hq5) hq6) hq7) (kp (kp (kp aE hq5) hq6) hq7) kc
   ·have e:=bf.trans (if_neg (fun z=>c (lt.mpr z)))
    have kc:=Cost29.stop (low:=low) (c:=top * b) (b:=b) (t:=.fk w y n) pr.b0 pr.b1 ⟨wb,by_,bn⟩ (by rw [e]; rfl)
    rw [e] at q
    walk_at "rd"
    rename_i q7 hq7 q8 hq8
    exact q _ _ _ _ _ _ ((((((S14.new hq3 _).new hq4 _).new hq5 _).new hq6 _).new hq7 _).new hq8 _) aE (kp aE hq8) (kp (kp (kp (kp (kp (kp h23 hq3) hq4) hq5) hq6) hq7) hq8) kc
theorem ok_q0A (T:Tx K mg) : ∀ d:Nat,FnOk P w K mg base (cK P w) (d + 2) T.f_q0 T.d_q0 ["tree", "price"] (jN K d):=by
 intro d
 induction d with
 | zero=>exact ok_q00 T
 | succ d ih=>exact ok_q0S T d ih
theorem ok_q0 (T:Tx K mg) : FnOk P w K mg base (cK P w) (20 + 2) T.f_q0 T.d_q0 ["tree", "price"] (jN K 20):=by exact ok_q0A T 20
theorem ok_qU (T:Tx K mg) : FnOk P w K mg base (cK P w) 23 T.f_qU T.d_qU ["tree", "price"] (pP K):=by
 have sc:=sc_qU
 refine T.F_qU.okx sc (fun vs H Q E h=>?_) (fun cdv A outer s H vs Q E hr h=>?_)
 ·obtain ⟨v,t,a,top,low,b,rfl,cv,td,tl,tb,pr,ha,q⟩:=h
  rfl
 obtain ⟨v,t,a,top,low,b,rfl,cv,td,tl,tb,pr,ha,q⟩:=h
 have hu:=hr.units0
 have hu2:=hr.units
 have hu1:=Nat.lt_of_le_of_lt (Nat.add_le_add_left (show 1<=64 by decide) _) hu2
 refine ⟨_,(@aD _ _ _ _ _ (cW (aH (ok_qD T) (hr.mono (by decide)) rfl T.m_qD T.F_qD.kp T.b_qD .nil (aL fun _ _ z=>z) (aA (pv 1) aC)))
   (@aF _ _ _ (@aS _ _ _ _ (@aI _ _ _ _ _ _ _ aG (aH (ok_q0 T) (hr.mono (by decide)) rfl T.m_q0 T.F_q0.kp T.b_q0 .nil (aL fun _ _ z=>z) (aA (pv 0) (aA (pv 1) aC))) aB (fun _ _=>rfl))))),?_⟩
 walk_at "kx"
 have l0:0 < low:=by have:=pr.l0; omega
 have p0:=low_0 l0 pr.t0
 have z1:Bz 8000 (Rat.divInt top low).num:=(lI l0 (gF (by have:=pr.t0; omega) (by have:=pr.t1; omega))).mono (by decide)
 have z2:Bz 8000 ((Rat.divInt top low).den:Int):=(rJ l0 (gF (by have:=pr.l0; omega) (by have:=pr.l1; omega))).mono (by decide)
 walk_at "rd"
 rename_i H1 S1
 have cv1:=cv.same S1
 have ha1:=S1 _ _ ha
 walk_at "rd"
 rename_i H2 p l r ct cb S2 hp hl hr k
 exact q _ _ (S1.trans S2) hl
theorem ok_qA (T:Tx K mg) : FnOk P w K mg base (cK P w) 4 T.f_qA T.d_qA ["tree", "places"] (pM K):=by
 have sc:=sc_qA
 refine T.F_qA.okx sc (fun vs H Q E h=>?_) (fun cdv A outer s H vs Q E hr h=>?_)
 ·obtain ⟨v,t,B,a,ps,rfl,tv,lt,ha,pl,q⟩:=h
  rfl
 obtain ⟨v,t,B,a,ps,rfl,tv,lt,ha,pl,q⟩:=h
 have hu:=hr.units0
 have hu2:=hr.units
 have hu1:=Nat.lt_of_le_of_lt (Nat.add_le_add_left (show 1<=64 by decide) _) hu2
 refine ⟨_,(@aF _ _ _ (@aS _ _ _ _ (dH (ts:=["place"]) (js:=[1]) (LcOk.of rfl) rfl (bL (aH (ok_j6 T) (hr.mono (by decide)) rfl T.m_j6 T.F_j6.kp T.b_j6 .nil (aL fun _ _ z=>z) (aA (pv 0) aC))) (fun _ _ _ _=>(aY (i:=0) (bK rfl) rfl (Or.inl rfl))) (fun _ _ _ _=>(dJ (@aX _ _ _ _ _ _ _ _ dD (aV aT rfl T.z_len bZ (aA (aH (oD T) (hr.mono (by decide)) rfl T.m_qH T.F_qH.kp T.b_qH .nil jW (aA (pv 0) (aA (pv 1) aC))) aC)) aB (bB _)))) (fun _ _ _ _=>(pv 0))))),?_⟩
 walk_at "kx"
 have pl2:ps.length<=100:=by omega
 walk_at "rd"
 rename_i H1 p1 ws S1 fp hp1 pm so cA sA hA fA
 have ha1:=S1 _ _ ha
 have wl:ws.length<=60:=by
  have:=pm.length_eq
  unfold plK at this
  rw [List.length_map] at this
  have z2:=List.length_filter_le (fun u:Str × Str=>decide (u.2=Str.ofString "fork")) (dG t "")
  have z3:=i8 t ""
  omega
 refine c7 (K:=K) (a:=p1) (xs:=ws.map V.str) (fun i ys H'=>Iv (aN H1 H'/\ys=((ws.take i).filter fun x=>decide ((eM x ps).length=0)).map V.str)) ⟨⟨aN.refl _,rfl⟩⟩ (fun i ys H' hi z=>⟨c6.of (z.o.1 _ _ hp1),?_⟩) ?_ ?_
 ·rw [z.o.2,List.length_map]
  refine aU (Nat.le_trans (List.length_filter_le _ _) ?_)
  rw [List.length_take]
  omega
 ·rintro i x ys H' hi ⟨⟨S2,rfl⟩⟩
  have il:=(List.getElem?_eq_some_iff.mp hi).1
  rw [List.getElem?_map] at hi
  obtain ⟨x,hx,rfl⟩:=Option.map_eq_some_iff.mp hi
  have ft:=cP (p:=fun x:Str=>decide ((eM x ps).length=0)) hx
  have ha2:=S2 _ _ ha1
  walk_at "rd"
  rename_i p5 hp5
  have el:(((eM x ps).map V.str).length:Int)=((eM x ps).length:Int):=by rw [List.length_map]
  rw [el]
  refine dX (fun e=>?_) (fun e=>?_)
  ·walk_at "rd"
   refine ⟨⟨S2.new hp5 _,?_⟩⟩
   rw [ft,if_pos (decide_eq_true (by omega)),List.map_append]
   rfl
  ·walk_at "rd"
   refine ⟨⟨S2.new hp5 _,?_⟩⟩
   rw [ft,if_neg (by rw [decide_eq_false (by omega)]; exact Bool.false_ne_true),List.append_nil]
 ·rintro ys H' ⟨⟨S2,rfl⟩⟩ z hz
  rw [List.length_map,List.take_length]
  refine q _ _ _ ((S1.trans S2).new hz _) ((S1.trans S2).free hz) aE ?_ ?_
  ·exact pm.filter _
  ·exact mH (gI so)
theorem ok_qI (T:Tx K mg) : FnOk P w K mg base (cK P w) 2 T.f_qI T.d_qI ["one", "many"] sL:=by
 have sc:=sc_qI
 refine T.F_qI.okx sc (fun vs H Q E h=>?_) (fun cdv A outer s H vs Q E hr h=>?_)
 ·obtain ⟨a,r,m,rfl,ha,m0,m1,rz,q⟩:=h
  rfl
 obtain ⟨a,r,m,rfl,ha,m0,m1,rz,q⟩:=h
 have hu:=hr.units0
 have hu2:=hr.units
 have hu1:=Nat.lt_of_le_of_lt (Nat.add_le_add_left (show 1<=64 by decide) _) hu2
 refine ⟨_,(@aD _ _ _ _ _ (@aK _ _ 2 _ _ _ _ sc.nd rfl (by walk_at "o1") (aH (oE T) (hr.mono (by decide)) rfl T.m_q1 T.F_q1.kp T.b_q1 .nil (aL fun _ _ z=>z) (aA (@aI _ _ _ _ _ _ _ aG (pv 0) aB (fun _ _=>rfl)) (aA (pv 1) aC))) (by rfl) (by walk_at "o2"))
   (@aF _ _ _ (@aS _ _ _ _ (aZ (aA (@aJ _ _ _ _ _ _ _ _ bQ (@aI _ _ _ _ _ _ _ aG (pv 0) aB (fun _ _=>rfl)) (pv 2)) (aA (@aJ _ _ _ _ _ _ _ _ bH (@aI _ _ _ _ _ _ _ aG (pv 0) aB (fun _ _=>rfl)) (@aJ _ _ _ _ _ _ _ _ bQ (pv 1) (pv 2))) aC)))))),?_⟩
 walk_at "kx"
 have z1:=rz.zn
 have z2:=rz.zd
 have h1:H a=some (.tup [.int r.num,.int (r.den:Int)]):=ha
 have mz:Bz 8000 m:=Bz.mono (m:=128) (Bz.w (by omega) (by omega)) (by decide)
 have c1:=cGe (t:=r.num) m0 mz r.num
 have c2:=cGe (t:=r.num) m0 mz m
 have gp:=M.G_pos r.num m
 have zk:Bz 128 (m / M.G r.num m):=(Bz.w (by omega) (by omega) : Bz 128 m).ediv (Int.le_of_lt gp)
 have m3:=z2.mulOk zk
 have lo:=pR (r:=r) m0
 walk_at "rd"
 rename_i p hp
 show Q (.ref p) (upd H p (.tup [.int (r.num / M.G r.num m),.int ((r.den:Int) * (m / M.G r.num m))]))
 rw [lo.1,lo.2]
 exact q _ hp
theorem ok_qE (T:Tx K mg) : FnOk P w K mg base (cK P w) 4 T.f_qE T.d_qE ["tree", "places", "fork"] (uY K):=by
 have sc:=sc_qE
 refine T.F_qE.okx sc (fun vs H Q E h=>?_) (fun cdv A outer s H vs Q E hr h=>?_)
 ·obtain ⟨v,t,B,a,ps,f,rfl,tv,lt,ha,pl,pk,fk,b0,bz,tb,u2,q⟩:=h
  rfl
 obtain ⟨v,t,B,a,ps,f,rfl,tv,lt,ha,pl,pk,fk,b0,bz,tb,u2,q⟩:=h
 have hu:=hr.units0
 have hu2:=hr.units
 have hu1:=Nat.lt_of_le_of_lt (Nat.add_le_add_left (show 1<=64 by decide) _) hu2
 refine ⟨_,(@aD _ _ _ _ _ (@aO _ _ _ (@aK _ _ 3 _ _ _ _ sc.nd rfl (by walk_at "o1") (aH (lE T) (hr.mono (by decide)) rfl T.m_q3 T.F_q3.kp T.b_q3 .nil (aL fun _ _ z=>z) (aA (pv 0) aC)) (by rfl) (by walk_at "o2")))
   (@aD _ _ _ _ _ (@aO _ _ _ (by first | exact eU (i:=4) sc.nd rfl (by walk_at "o1") (ts:=["place"]) (js:=[2]) (LcOk.of rfl) rfl (bL (pv 1)) (fun _ _ _ _=>(aY (i:=0) (bK rfl) rfl (Or.inl rfl))) (fun _ _ _ _=>(dJ (cZ (dU PySem.F.plainAttrs_str PySem.F.slot_str_startswith PySem.F.type_str_startswith dA (pv 0) (aA (pv 1) aC))))) (fun _ _ _ _=>(pv 0)) | exact aK (i:=4) sc.nd rfl (by walk_at "o1") (dH (ts:=["place"]) (js:=[2]) (LcOk.of rfl) rfl (bL (pv 1)) (fun _ _ _ _=>(aY (i:=0) (bK rfl) rfl (Or.inl rfl))) (fun _ _ _ _=>(dJ (cZ (dU PySem.F.plainAttrs_str PySem.F.slot_str_startswith PySem.F.type_str_startswith dA (pv 0) (aA (pv 1) aC))))) (fun _ _ _ _=>(pv 0)))))
   (@aD _ _ _ _ _ (@aO _ _ _ (@aK _ _ 5 _ _ _ _ sc.nd rfl (by walk_at "o1") (@aI _ _ _ _ _ _ _ aG (dW hu1 (pv 3) (pv 2) (fun _ _=>rfl)) aB (fun _ _=>rfl)) (by rfl) (by walk_at "o2")))
   (@aD _ _ _ _ _ (@aO _ _ _ (cS dS rfl (bL (pv 4)) (aY (i:=6) sc.nd rfl (by walk_at "o1"))
   (@aF _ _ _ (@aK _ _ 5 _ _ _ _ sc.nd rfl (by walk_at "o1") (aH (v9 T) (hr.mono (by decide)) rfl T.m_j4 T.F_j4.kp T.b_j4 .nil (aL fun _ _ z=>z) (aA (pv 5) (aA (@aI _ _ _ _ _ _ _ aG (dW hu1 (pv 3) (pv 6) (fun _ _=>rfl)) aB (fun _ _=>rfl)) aC))) (by rfl) (by walk_at "o2")))))
   (@aF _ _ _ (@aS _ _ _ _ (aH (ok_qI T) (hr.mono (by decide)) rfl T.m_qI T.F_qI.kp T.b_qI .nil (aL fun _ _ z=>z) (aA (pv 5) (aA (@aJ _ _ _ _ _ _ _ _ cF (aV aT rfl T.z_len bZ (aA (pv 4) aC)) aB) aC))))))))),?_⟩
 walk_at "kx"
 refine aP (fun σ' H1=>Iv (∃ (d:Addr) (kvs:List (bG × V)) (es:List (Str × Tr)),aN H H1/\H1 d=some (.dK kvs)/\DT K B H1 kvs es/\es.Perm (fP t "")/\σ' = [some v,some (.ref a),some (.str f),some (.ref d),none,none,none])) (fun _ _ _=>?_) ?_
 ·walk_at "rd"
  rename_i H1 d kvs es S1 fd hd dt pm
  exact ⟨⟨d,kvs,es,S1,hd,dt,pm,rfl⟩⟩
 rintro J Z σ' H1 ⟨⟨d,kvs,es,S1,hd,dt,pm,rfl⟩⟩
 refine Z _ _ ?_
 clear Z
 have ha1:=S1 _ _ ha
 have lu:(cO ps f).length<=ps.length:=List.length_filter_le _ _
 refine aP (fun σ' H2=>Iv (∃ (l:Addr),aN H1 H2/\H2 l=some (.lst ((cO ps f).map V.str))/\σ' = [some v,some (.ref a),some (.str f),some (.ref d),some (.ref l),none,none])) (fun _ _ _=>?_) ?_
 ·walk_at "rd"
  refine c7 (K:=K) (a:=a) (xs:=ps.map V.str) (fun i ys H'=>Iv (H'=H1/\ys=(cO (ps.take i) f).map V.str)) ⟨⟨rfl,rfl⟩⟩ (fun i ys H' hi z=>⟨c6.of (by rw [z.o.1]; exact ha1),?_⟩) ?_ ?_
  ·rw [z.o.2,List.length_map]
   refine aU (Nat.le_trans (List.length_filter_le _ _) ?_)
   rw [List.length_take]
   omega
  ·rintro i x ys H' hi ⟨⟨rfl,rfl⟩⟩
   have il:=(List.getElem?_eq_some_iff.mp hi).1
   rw [List.getElem?_map] at hi
   obtain ⟨x,hx,rfl⟩:=Option.map_eq_some_iff.mp hi
   have ft:cO (ps.take (i + 1)) f=cO (ps.take i) f ++ (if Txt.startswith x f=true then [x] else []):=cP (p:=fun x:Str=>Txt.startswith x f) hx
   walk_at "rd"
   refine iteB (fun e=>?_) (fun e=>?_)
   ·walk_at "rd"
    refine ⟨⟨rfl,?_⟩⟩
    rw [ft,if_pos e,List.map_append]
    rfl
   ·walk_at "rd"
    refine ⟨⟨rfl,?_⟩⟩
    rw [ft,if_neg (by rw [e]; exact Bool.false_ne_true),List.append_nil]
  ·rintro ys H' ⟨⟨rfl,rfl⟩⟩ z hz
   rw [List.length_map,List.take_length]
   exact ⟨⟨z,aM hz _,aE,rfl⟩⟩
 rintro J Z σ' H2 ⟨⟨l,S2,hl,rfl⟩⟩
 refine Z _ _ ?_
 clear Z
 have hd2:=S2 _ _ hd
 have dt2:=dt.mono S2.t
 clear hd dt
 have a1 := @uB
 refine aP (fun σ' H3=>Iv (∃ (c:Addr),H3=H2/\H2 c=some (rt (Rat.divInt (wA t f) B))/\σ' = [some v,some (.ref a),some (.str f),some (.ref d),some (.ref l),some (.ref c),none])) (fun _ _ _=>?_) ?_
 ·obtain ⟨p,k,c,r,g,hp,hc⟩:=rW b0 hd2 dt2 pm fk
  have a1:=uB (k:=k) (c:=c) (r:=r)
  walk_at "rd"
  exact ⟨⟨c,rfl,hc,rfl⟩⟩
 rintro J Z σ' H3 ⟨⟨c,rfl,hc,rfl⟩⟩
 refine Z _ _ ?_
 clear Z
 have wf:=iM tb fk
 have um:∀ x∈cO ps f,x∈(dG t "").map (·.1):=fun x hx=>pk x (List.mem_filter.mp hx).1
 have bd:∀ i,-10000000000000000000000000000000000<=wA t f - (((cO ps f).take i).map (wA t)).sum/\wA t f - (((cO ps f).take i).map (wA t)).sum<=10000000000000000000000000000000000:=fun i=>by
  have h1:=lZ (W:=wA t) (l:=(cO ps f).take i) fun x hx=>iM tb (um x (List.mem_of_mem_take hx))
  have h2:((cO ps f).take i).length<=63:=by rw [List.length_take]; omega
  omega
 have rzi:∀ i,Rz 700 (Rat.divInt (wA t f - (((cO ps f).take i).map (wA t)).sum) B):=fun i=>(z8 (by omega) (lR (bd i).1 (bd i).2) bz).mono (by decide)
 have rzx:∀ x∈cO ps f,Rz 700 (Rat.divInt (wA t x) B):=fun x hx=>by
  have:=iM tb (um x hx)
  exact (z8 (by omega) (lR (by omega) (by omega)) bz).mono (by decide)
 refine aP (fun σ' H4=>Iv (∃ (c:Addr) (o6:Option V),aN H3 H4/\H4 c=some (rt (Rat.divInt (wA t f - ((cO ps f).map (wA t)).sum) B))/\σ' = [some v,some (.ref a),some (.str f),some (.ref d),some (.ref l),some (.ref c),o6])) (fun _ _ _=>?_) ?_
 ·walk_at "rd"
  refine c5 (K:=K) (a:=l) (xs:=(cO ps f).map V.str) (fun i σ' H'=>Iv (∃ (c:Addr) (o6:Option V),aN H3 H'/\H' c=some (rt (Rat.divInt (wA t f - (((cO ps f).take i).map (wA t)).sum) B))/\σ' = [some v,some (.ref a),some (.str f),some (.ref d),some (.ref l),some (.ref c),o6])) ⟨⟨c,_,aN.refl _,by rw [List.take_zero,List.map_nil,List.sum_nil,Int.sub_zero]; exact hc,rfl⟩⟩ (fun i σ' H' _ y=>by obtain ⟨⟨_,_,s,_⟩⟩:=y; exact c6.of (s _ _ hl)) ?_ ?_
  ·refine fun i x σ' H4 hx h0=>hid fun J Z=>?_
   obtain ⟨⟨c,o6,S4,hc,rfl⟩⟩ :=h0
   refine Z ?_
   clear Z
   rw [List.getElem?_map] at hx
   obtain ⟨x,hx2,rfl⟩:=Option.map_eq_some_iff.mp hx
   have xm:=List.mem_of_getElem? hx2
   obtain ⟨p,k,c2,r,g,hp,hc2⟩:=rW b0 (S4 _ _ hd2) (dt2.mono S4.t) pm (um x xm)
   have a1:=uB (k:=k) (c:=c2) (r:=r)
   walk_at "rd"
   refine ⟨rzi i,rzx x xm,fun p2 H5 fp S5 hp2=>?_⟩
   refine ⟨⟨p2,_,S4.trans S5,?_,rfl⟩⟩
   rw [hp2,gX b0,List.take_add_one,hx2,List.map_append,List.sum_append]
   show some (rt (Rat.divInt (wA t f - (((cO ps f).take i).map (wA t)).sum - wA t x) B))=some (rt (Rat.divInt (wA t f - ((((cO ps f).take i).map (wA t)).sum + (wA t x + 0))) B))
   rw [show wA t f - (((cO ps f).take i).map (wA t)).sum - wA t x=wA t f - ((((cO ps f).take i).map (wA t)).sum + (wA t x + 0)) by omega]
  ·refine fun σ' H4 h0=>hid fun J Z=>?_
   obtain ⟨⟨c,o6,S4,hc,rfl⟩⟩ :=h0
   refine Z ?_
   clear Z
   rw [List.length_map,List.take_length] at hc
   exact ⟨⟨c,o6,S4,hc,rfl⟩⟩
 rintro J Z σ' H4 ⟨⟨c,o6,S4,hc4,rfl⟩⟩
 refine Z _ _ ?_
 clear Z
 have hl4:=S4 _ _ hl
 have rze:=rzi (cO ps f).length
 rw [List.take_length] at rze
 walk_at "rd"
 have el:(((cO ps f).map V.str).length:Int)=((cO ps f).length:Int):=by rw [List.length_map]
 rw [el]
 refine ⟨by omega,by omega,rze,fun p hp=>?_⟩
 refine q _ p (((S1.trans S2).trans S4).new hp _) ?_
 rw [aE,sQ]
theorem ok_jC (T:Tx K mg) : FnOk P w K mg base (cK P w) 2 T.f_jC T.d_jC ["places", "places_of_forks"] (sp_cut K):=by
 have sc:=sc_jC
 refine T.F_jC.okx sc (fun vs H Q E h=>?_) (fun cdv A outer s H vs Q E hr h=>?_)
 ·obtain ⟨a,b,ps,fs,rfl,ha,hb,hl,q⟩:=h
  rfl
 obtain ⟨a,b,ps,fs,rfl,ha,hb,hl,q⟩:=h
 have hu:=hr.units0
 have hu2:=hr.units
 have hu1:=Nat.lt_of_le_of_lt (Nat.add_le_add_left (show 1<=64 by decide) _) hu2
 refine ⟨_,(@aD _ _ _ _ _ (@aO _ _ _ (by first | exact eU (i:=2) sc.nd rfl (by walk_at "o1") (ts:=["place"]) (js:=[1]) (LcOk.of rfl) rfl (bL (pv 0)) (fun _ _ _ _=>(aY (i:=0) (bK rfl) rfl (Or.inl rfl))) (fun _ _ _ _=>(dJ (@aX _ _ _ _ _ _ _ _ dD (aV aT rfl T.z_len bZ (aA (aH (oD T) (hr.mono (by decide)) rfl T.m_qH T.F_qH.kp T.b_qH .nil jW (aA (pv 0) (aA (pv 1) aC))) aC)) aB (bB _)))) (fun _ _ _ _=>(pv 0)) | exact aK (i:=2) sc.nd rfl (by walk_at "o1") (dH (ts:=["place"]) (js:=[1]) (LcOk.of rfl) rfl (bL (pv 0)) (fun _ _ _ _=>(aY (i:=0) (bK rfl) rfl (Or.inl rfl))) (fun _ _ _ _=>(dJ (@aX _ _ _ _ _ _ _ _ dD (aV aT rfl T.z_len bZ (aA (aH (oD T) (hr.mono (by decide)) rfl T.m_qH T.F_qH.kp T.b_qH .nil jW (aA (pv 0) (aA (pv 1) aC))) aC)) aB (bB _)))) (fun _ _ _ _=>(pv 0)))))
   (@aD _ _ _ _ _ (@aO _ _ _ (by first | exact eU (i:=3) sc.nd rfl (by walk_at "o1") (ts:=["place"]) (js:=[1]) (LcOk.of rfl) rfl (bL (pv 1)) (fun _ _ _ _=>(aY (i:=0) (bK rfl) rfl (Or.inl rfl))) (fun _ _ _ _=>(dJ (@aX _ _ _ _ _ _ _ _ dD (aV aT rfl T.z_len bZ (aA (aH (oD T) (hr.mono (by decide)) rfl T.m_qH T.F_qH.kp T.b_qH .nil jW (aA (pv 0) (aA (pv 1) aC))) aC)) aB (bB _)))) (fun _ _ _ _=>(pv 0)) | exact aK (i:=3) sc.nd rfl (by walk_at "o1") (dH (ts:=["place"]) (js:=[1]) (LcOk.of rfl) rfl (bL (pv 1)) (fun _ _ _ _=>(aY (i:=0) (bK rfl) rfl (Or.inl rfl))) (fun _ _ _ _=>(dJ (@aX _ _ _ _ _ _ _ _ dD (aV aT rfl T.z_len bZ (aA (aH (oD T) (hr.mono (by decide)) rfl T.m_qH T.F_qH.kp T.b_qH .nil jW (aA (pv 0) (aA (pv 1) aC))) aC)) aB (bB _)))) (fun _ _ _ _=>(pv 0)))))
   (@aF _ _ _ (@aS _ _ _ _ (aV iJ rfl T.z_sorted eW (aA (@aJ _ _ _ _ _ _ _ _ iN (pv 2) (pv 3)) aC)))))),?_⟩
 walk_at "kx"
 have hl1:(ps.map V.str).length=ps.length:=List.length_map _
 have hl2:(fs.map V.str).length=fs.length:=List.length_map _
 have f100:fs.length<=100:=by omega
 refine aP (fun σ' H'=>Iv (∃ p,aN H H'/\H' p=some (.lst ((kept ps fs).map V.str))/\σ' = [some (.ref a),some (.ref b),some (.ref p),none])) (fun _ _ _=>?_) ?_
 ·have hb0:=hb
  have ha0:=ha
  generalize hH:H=H0 at hb0 ha0 ⊢
  walk_at "rd"
  refine c7 (K:=K) (a:=a) (xs:=ps.map V.str) (fun i ys H'=>Iv (aN H0 H'/\ys=((ps.take i).filter fun x=>decide ((eM x fs).length=0)).map V.str)) ⟨⟨aN.refl _,rfl⟩⟩ (fun i ys H' hi z=>⟨c6.of (z.o.1 _ _ ha0),?_⟩) ?_ ?_
  ·rw [z.o.2,List.length_map]
   refine aU (Nat.le_trans (List.length_filter_le _ _) ?_)
   rw [List.length_take]
   omega
  ·rintro i v ys H' hi ⟨⟨S,rfl⟩⟩
   rw [List.getElem?_map] at hi
   obtain ⟨x,hx,rfl⟩:=Option.map_eq_some_iff.mp hi
   have il:=(List.getElem?_eq_some_iff.mp hx).1
   have ft:=cP (p:=fun x=>decide ((eM x fs).length=0)) hx
   have hb1:=S _ _ hb0
   walk_at "rd"
   rename_i p hp
   have S1:=S.new hp (.lst ((eM x fs).map V.str))
   refine dX (fun c=>?_) (fun c=>?_)
   ·rw [List.length_map] at c
    walk_at "rd"
    refine ⟨⟨S1,?_⟩⟩
    rw [ft,if_pos (decide_eq_true (by omega)),List.map_append]
    rfl
   ·rw [List.length_map] at c
    walk_at "rd"
    refine ⟨⟨S1,?_⟩⟩
    rw [ft,if_neg (by rw [decide_eq_false (by omega)]; decide),List.append_nil]
  ·rintro ys H' ⟨⟨S,rfl⟩⟩ p hp
   rw [hl1,List.take_length]
   walk_at "rd"
   exact ⟨⟨p,S.new hp _,aE,rfl⟩⟩
 rintro J Z σ' H0 ⟨⟨p1,S1,hp1,rfl⟩⟩
 refine Z _ _ ?_
 clear Z
 have ha0:=S1 _ _ ha
 have hb0:=S1 _ _ hb
 refine aP (fun σ' H'=>Iv (∃ p,aN H0 H'/\H' p=some (.lst ((lY fs).map V.str))/\σ' = [some (.ref a),some (.ref b),some (.ref p1),some (.ref p)])) (fun _ _ _=>?_) ?_
 ·walk_at "rd"
  refine c7 (K:=K) (a:=b) (xs:=fs.map V.str) (fun i ys H'=>Iv (aN H0 H'/\ys=((fs.take i).filter fun x=>decide ((eM x fs).length=1)).map V.str)) ⟨⟨aN.refl _,rfl⟩⟩ (fun i ys H' hi z=>⟨c6.of (z.o.1 _ _ hb0),?_⟩) ?_ ?_
  ·rw [z.o.2,List.length_map]
   refine aU (Nat.le_trans (List.length_filter_le _ _) ?_)
   rw [List.length_take]
   omega
  ·rintro i v ys H' hi ⟨⟨S,rfl⟩⟩
   rw [List.getElem?_map] at hi
   obtain ⟨x,hx,rfl⟩:=Option.map_eq_some_iff.mp hi
   have il:=(List.getElem?_eq_some_iff.mp hx).1
   have ft:=cP (p:=fun x=>decide ((eM x fs).length=1)) hx
   have hb1:=S _ _ hb0
   walk_at "rd"
   rename_i p hp
   have S1:=S.new hp (.lst ((eM x fs).map V.str))
   refine dX (fun c=>?_) (fun c=>?_)
   ·rw [List.length_map] at c
    walk_at "rd"
    refine ⟨⟨S1,?_⟩⟩
    rw [ft,if_pos (decide_eq_true (by omega)),List.map_append]
    rfl
   ·rw [List.length_map] at c
    walk_at "rd"
    refine ⟨⟨S1,?_⟩⟩
    rw [ft,if_neg (by rw [decide_eq_false (by omega)]; decide),List.append_nil]
  ·rintro ys H' ⟨⟨S,rfl⟩⟩ p hp
   rw [hl2,List.take_length]
   walk_at "rd"
   exact ⟨⟨p,S.new hp _,aE,rfl⟩⟩
 rintro J Z σ' H2 ⟨⟨p2,S2,hp2,rfl⟩⟩
 refine Z _ _ ?_
 clear Z
 have hp3:=S2 _ _ hp1
 have k1:(kept ps fs).length<=ps.length:=List.length_filter_le _ _
 have k2:(lY fs).length<=fs.length:=List.length_filter_le _ _
 have k3:((kept ps fs).map V.str).length + ((lY fs).map V.str).length<=sizeLine:=jM (by rw [List.length_map,List.length_map]; omega)
 walk_at "rd"
 rename_i p3 hp4
 refine ⟨(c6.of (show _=some (HO.lst ((kept ps fs ++ lY fs).map V.str)) by rw [List.map_append]; exact aE) : c6 _ _ _ ((kept ps fs ++ lY fs).map V.str)),by rw [List.length_append]; omega,fun p5 ws hp5 pm so=>?_⟩
 have S3:=((S1.trans S2).new hp4 (.lst ((kept ps fs).map V.str ++ (lY fs).map V.str)))
 exact q _ _ ws (S3.new hp5 _) (aN.free S3 hp5) aE pm so
theorem ok_q2 (T:Tx K mg) : FnOk P w K mg base (cK P w) 5 T.f_q2 T.d_q2 ["whole", "places"] (yB K):=by
 have sc:=sc_q2
 refine T.F_q2.okx sc (fun vs H Q E h=>?_) (fun cdv A outer s H vs Q E hr h=>?_)
 ·obtain ⟨v,t,a,ps,gs,rfl,tv,lt,tb,ha,pi,q⟩:=h
  rfl
 obtain ⟨v,t,a,ps,gs,rfl,tv,lt,tb,ha,pi,q⟩:=h
 have hu:=hr.units0
 have hu2:=hr.units
 have hu1:=Nat.lt_of_le_of_lt (Nat.add_le_add_left (show 1<=64 by decide) _) hu2
 refine ⟨_,(@aD _ _ _ _ _ (@aO _ _ _ (@aK _ _ 2 _ _ _ _ sc.nd rfl (by walk_at "o1") (aH (lE T) (hr.mono (by decide)) rfl T.m_q3 T.F_q3.kp T.b_q3 .nil (aL fun _ _ z=>z) (aA (pv 0) aC)) (by rfl) (by walk_at "o2")))
   (@aD _ _ _ _ _ (@aO _ _ _ (@aK _ _ 3 _ _ _ _ sc.nd rfl (by walk_at "o1") iB (by rfl) (by walk_at "o2")))
   (@aD _ _ _ _ _ (@aO _ _ _ (cS dS rfl (bL (pv 1)) (aY (i:=4) sc.nd rfl (by walk_at "o1"))
   (@aF _ _ _ (hZ hu1 (pv 3) (pv 4) (aZ (aA (@aI _ _ _ _ _ _ _ aG (dW hu1 (pv 2) (pv 4) (fun _ _=>rfl)) aB (fun _ _=>rfl)) (aA aB aC))) rfl))))
   (@aD _ _ _ _ _ (@aO _ _ _ (cS dS rfl (vO rfl T.z_reversed (aA (aH (ok_qA T) (hr.mono (by decide)) rfl T.m_qA T.F_qA.kp T.b_qA .nil (aL fun _ _ z=>z) (aA (pv 0) (aA (pv 1) aC))) aC)) (aY (i:=4) sc.nd rfl (by walk_at "o1"))
   (@aD _ _ _ _ _ (@aO _ _ _ (@aK _ _ 5 _ _ _ _ sc.nd rfl (by walk_at "o1") (dW hu1 (pv 3) (@aJ _ _ _ _ _ _ _ _ bV (pv 4) bA) (fun _ _=>rfl)) (by rfl) (by walk_at "o2")))
   (@aD _ _ _ _ _ (@aO _ _ _ (@aK _ _ 6 _ _ _ _ sc.nd rfl (by walk_at "o1") (dW hu1 (pv 3) (@aJ _ _ _ _ _ _ _ _ bV (pv 4) bA) (fun _ _=>rfl)) (by rfl) (by walk_at "o2")))
   (@aF _ _ _ (hZ hu1 (pv 3) (pv 4) (aZ (aA (@aJ _ _ _ _ _ _ _ _ cG (@aI _ _ _ _ _ _ _ aG (pv 5) aB (fun _ _=>rfl)) (@aI _ _ _ _ _ _ _ aG (pv 6) aB (fun _ _=>rfl))) (aA (@aJ _ _ _ _ _ _ _ _ cG (@aI _ _ _ _ _ _ _ aG (pv 5) aB (fun _ _=>rfl)) (@aI _ _ _ _ _ _ _ aG (pv 6) aB (fun _ _=>rfl))) aC))) rfl))))))
   (@aF _ _ _ (@aS _ _ _ _ (pv 3))))))),?_⟩
 walk_at "kx"
 have lt30:t.lv<=30:=by omega
 have tv0:TV K H v (eF 0 t):=by rw [oN]; exact tv
 have pl:=pi.len
 have pk:=pi.kn
 have fa:=pi.facts
 have psl:ps.length < 64:=by omega
 have wsm:∀ x∈ps,-100000000000000000000000000000000 < wA t x/\wA t x < 100000000000000000000000000000000:=fun x hx=>iM tb (pk x hx)
 have esm:∀ x,Bz 128 (gC (wA t) ps x).2.1/\Bz 128 (gC (wA t) ps x).2.2:=fun x=>by
  have h1:=lZ (W:=wA t) (l:=cO ps x) fun y hy=>wsm y (List.mem_filter.mp hy).1
  have h2:(cO ps x).length<=ps.length:=List.length_filter_le _ _
  exact ⟨lR (by show _<=((cO ps x).map (wA t)).sum; omega) (by show ((cO ps x).map (wA t)).sum<=_; omega),lR (by show _<=((cO ps x).length:Int); omega) (by show ((cO ps x).length:Int)<=_; omega)⟩
 refine aP (fun σ' H1=>Iv (∃ (d:Addr) (kvs:List (bG × V)) (es:List (Str × Tr)),aN H H1/\H1 d=some (.dK kvs)/\DT K 0 H1 kvs es/\es.Perm (fP t "")/\σ' = [some v,some (.ref a),some (.ref d),none,none,none,none])) (fun _ _ _=>?_) ?_
 ·walk_at "rd"
  rename_i H1 d kvs es S1 fd hd dt pm
  exact ⟨⟨d,kvs,es,S1,hd,dt,pm,rfl⟩⟩
 rintro J Z σ' H1 ⟨⟨d,kvs,es,S1,hd,dt,pm,rfl⟩⟩
 refine Z _ _ ?_
 clear Z
 have ha1:=S1 _ _ ha
 refine aP (fun σ' H2=>Iv (∃ (z:Addr),H1 z=none/\H2=upd H1 z (.dK [])/\σ' = [some v,some (.ref a),some (.ref d),some (.ref z),none,none,none])) (fun _ _ _=>?_) ?_
 ·walk_at "rd"
  rename_i z hz
  exact ⟨⟨z,hz,rfl,rfl⟩⟩
 rintro J Z σ' H2 ⟨⟨z,hz,e2,rfl⟩⟩
 refine Z _ _ ?_
 clear Z
 have S2:aN H1 H2:=by rw [e2]; exact aM hz _
 have hz2:H2 z=some (.dK []):=by rw [e2]; exact aE
 have zd:z ≠ d:=fun e=>by rw [e,hd] at hz; cases hz
 have za:z ≠ a:=fun e=>by rw [e,ha1] at hz; cases hz
 have Hz:H z=none:=S1.free hz
 clear e2
 have hd2:=S2 _ _ hd
 have dt2:=dt.mono S2.t
 have ha2:=S2 _ _ ha1
 refine aP (fun σ' H3=>Iv (∃ (kv:List (bG × V)) (o4:Option V),aN H1 H3/\bF H2 H3/\H3 z=some (.dK kv)/\DR H3 kv (ps.map (gC (wA t) ps))/\σ' = [some v,some (.ref a),some (.ref d),some (.ref z),o4,none,none])) (fun _ _ _=>?_) ?_
 ·walk_at "rd"
  refine c5 (K:=K) (a:=a) (xs:=ps.map V.str) (fun i σ' H'=>Iv (∃ (kv:List (bG × V)) (o4:Option V),aN H1 H'/\bF H2 H'/\H' d=some (.dK kvs)/\H' z=some (.dK kv)/\DR H' kv ((ps.take i).map (gC (wA t) ps))/\σ' = [some v,some (.ref a),some (.ref d),some (.ref z),o4,none,none])) ⟨⟨[],_,S2,bF.refl _,hd2,hz2,.nil,rfl⟩⟩ (fun i σ' H' _ y=>by obtain ⟨⟨_,_,s,_⟩⟩:=y; exact c6.of (s _ _ ha1)) ?_ ?_
  ·refine fun i x σ' H3 hx h0=>hid fun J Z=>?_
   obtain ⟨⟨kv,o4,S3,st3,hd3,hz3,dr,rfl⟩⟩ :=h0
   refine Z ?_
   clear Z
   rw [List.getElem?_map] at hx
   obtain ⟨x,hx2,rfl⟩:=Option.map_eq_some_iff.mp hx
   have xm:=List.mem_of_getElem? hx2
   obtain ⟨p0,k0,r0,g0,hp0⟩:=xB hd3 (dt2.mono st3) pm (pk x xm)
   have a1:=at1' (k:=k0) (w:=wA t x) (r:=r0)
   have kz:kv.length < sizeLine:=aU (by rw [dr.length,List.length_map,List.length_take]; omega)
   walk_at "rd"
   rename_i p hp
   have nx:x ∉ ((ps.take i).map (gC (wA t) ps)).map (·.1):=by rw [mV]; exact mQ fa.n1 hx2
   refine ⟨kN.k (k:=.inr x) (kp hz3 hp) kz,?_⟩
   rw [hX _ (dr.vno nx)]
   obtain ⟨p1,p2,p3,p4⟩:=jR (x:=x) (a:=wA t x) (b:=1) hp hz3 dr
   refine ⟨⟨_,_,aN.over (S3.new hp _) hz _,fun c o e=>p1 c o (st3 c o e),p4 _ _ (Ne.symm zd) hd3,p2,?_,rfl⟩⟩
   rw [List.take_add_one,hx2,List.map_append]
   have e1:gC (wA t) ps x=(x,wA t x,1):=by
    unfold gC
    rw [pi.leaf xm]
    show (x,wA t x + 0,((1:Nat) : Int))=_
    rw [Int.add_zero]
    rfl
   show DR _ _ (_ ++ [gC (wA t) ps x])
   rw [e1]
   exact p3
  ·refine fun σ' H3 h0=>hid fun J Z=>?_
   obtain ⟨⟨kv,o4,S3,st3,hd3,hz3,dr,rfl⟩⟩ :=h0
   refine Z ?_
   clear Z
   rw [List.length_map,List.take_length] at dr
   exact ⟨⟨kv,o4,S3,st3,hz3,dr,rfl⟩⟩
 rintro J Z σ' H3 ⟨⟨kv,o4,S3,st3,hz3,dr3,rfl⟩⟩
 refine Z _ _ ?_
 clear Z
 have ha3:=S3 _ _ ha1
 have tv3:TV K H3 v (eF 0 t):=tv0.mono (S1.trans S3).t
 refine aP (fun σ' H4=>Iv (∃ (kv:List (bG × V)) (fs:List Str) (o4 o5 o6:Option V),aN H1 H4/\H4 z=some (.dK kv)/\fs.Perm gs/\DR H4 kv ((ps ++ fs).map (gC (wA t) ps))/\σ' = [some v,some (.ref a),some (.ref d),some (.ref z),o4,o5,o6])) (fun _ _ _=>?_) ?_
 ·walk_at "rd"
  rename_i H4 p rs S4 fp hp pm2 so
  have pm3:rs.Perm gs:=pm2.trans (tN pi)
  have hz4:=S4 _ _ hz3
  have zp:p ≠ z:=fun e=>by rw [e,hz3] at fp; cases fp
  have dr4:=dr3.mono S4.t
  have rl:rs.length + 1=ps.length:=by rw [pm3.length_eq]; exact pl.2
  have spw:=gI so
  have ndk:∀ i,(ps ++ rs.reverse.take i).Nodup:=fun i=>by
   rw [List.nodup_append]
   refine ⟨fa.n1,List.Nodup.sublist (List.take_sublist _ _) ((List.reverse_perm _).nodup_iff.mpr (pm3.nodup_iff.mpr fa.n2)),fun x hx y hy e=>?_⟩
   subst e
   exact fa.ap x hx x (pm3.mem_iff.mp (List.mem_reverse.mp (List.mem_of_mem_take hy))) (List.prefix_refl _)
  refine rT (K:=K) (a:=p) (xs:=rs.map V.str) (fun i σ' H'=>Iv (∃ (kv:List (bG × V)) (o4 o5 o6:Option V),aN H1 H'/\H' p=some (.lst (rs.map V.str))/\H' z=some (.dK kv)/\DR H' kv ((ps ++ rs.reverse.take i).map (gC (wA t) ps))/\σ' = [some v,some (.ref a),some (.ref d),some (.ref z),o4,o5,o6])) ⟨⟨kv,_,_,_,S3.trans S4,hp,hz4,by rw [List.take_zero,List.append_nil]; exact dr4,rfl⟩⟩ (fun i σ' H' _ y=>by obtain ⟨⟨_,_,_,_,_,s,_⟩⟩:=y; exact c6.of s) ?_ ?_
  ·refine fun i x σ' H5 hx h0=>hid fun J Z=>?_
   obtain ⟨⟨kv,o4,o5,o6,S5,hp5,hz5,dr5,rfl⟩⟩ :=h0
   refine Z ?_
   clear Z
   rw [<- List.map_reverse,List.getElem?_map] at hx
   obtain ⟨f,hf2,rfl⟩:=Option.map_eq_some_iff.mp hx
   have il:i < rs.length:=by have:=(List.getElem?_eq_some_iff.mp hf2).1; rw [List.length_reverse] at this; exact this
   have fg:f∈gs:=pm3.mem_iff.mp (List.mem_reverse.mp (List.mem_of_getElem? hf2))
   have kd:=pi.kids f fg
   have lt1:∀ (s:Str) (c:Nat),bI s = [c]->bI f < bI (f ++ s):=fun s c e=>by
    rw [bT,e]
    have:=qB (l:=bI f) (a:=[]) (b:=[c]) (List.nil_lt_cons _ _)
    rw [List.append_nil] at this
    exact this
   have mem:∀ g,(g∈ps\/g∈gs)->bI f < bI g->g∈ps ++ rs.reverse.take i:=fun g hg l=>hg.elim (fun z=>List.mem_append_left _ z) fun z=>List.mem_append_right _ (pS spw hf2 (pm3.mem_iff.mpr z) l)
   have my:=mem _ kd.1 (lt1 "y" 121 i4.1)
   have mn:=mem _ kd.2 (lt1 "n" 110 i4.2)
   have nk:(((ps ++ rs.reverse.take i).map (gC (wA t) ps)).map (·.1)).Nodup:=by rw [mV]; exact ndk i
   obtain ⟨py,vy,hy⟩:=dr5.val (e:=gC (wA t) ps (f ++ "y")) nk (List.mem_map.mpr ⟨_,my,rfl⟩)
   obtain ⟨pn,vn,hn⟩:=dr5.val (e:=gC (wA t) ps (f ++ "n")) nk (List.mem_map.mpr ⟨_,mn,rfl⟩)
   have gy:gH H5 z (.str (f ++ "y")) (some (.ref py)):=by rw [<- vy]; exact gH.k (k:=.inr (f ++ "y")) hz5
   have gn:gH H5 z (.str (f ++ "n")) (some (.ref pn)):=by rw [<- vn]; exact gH.k (k:=.inr (f ++ "n")) hz5
   have fl:f.length<=60:=by
    have h1:=(pi.short).2 f fg
    have h2:=t.dp_lt
    rw [show ("" : Str).length=0 by decide +kernel] at h1
    omega
   have k1:f.length + ("y" : Str).length<=sizeLine:=jM (by rw [kO.1]; omega)
   have k2:f.length + ("n" : Str).length<=sizeLine:=jM (by rw [kO.2]; omega)
   have kz:kv.length < sizeLine:=aU (by rw [dr5.length,List.length_map,List.length_append,List.length_take,List.length_reverse]; omega)
   have ef:=w9 (W:=wA t) pi fg
   walk_at "rd"
   refine aP (fun σ' H6=>Iv (H6=H5/\σ' = [some v,some (.ref a),some (.ref d),some (.ref z),some (.str f),some (.ref py),o6])) (fun _ _ _=>?_) ?_
   ·walk_at "rd"
    exact ⟨⟨rfl,rfl⟩⟩
   rintro J Z σ' H6 ⟨⟨rfl,rfl⟩⟩
   refine Z _ _ ?_
   clear Z
   refine aP (fun σ' H7=>Iv (H7=H6/\σ' = [some v,some (.ref a),some (.ref d),some (.ref z),some (.str f),some (.ref py),some (.ref pn)])) (fun _ _ _=>?_) ?_
   ·walk_at "rd"
    exact ⟨⟨rfl,rfl⟩⟩
   rintro J Z σ' H7 ⟨⟨rfl,rfl⟩⟩
   refine Z _ _ ?_
   clear Z
   walk_at "rd"
   rename_i p7 hp7
   have nx:f ∉ ((ps ++ rs.reverse.take i).map (gC (wA t) ps)).map (·.1):=by
    rw [mV]
    intro z
    rcases List.mem_append.mp z with z | z
    ·exact fa.ap f z f fg (List.prefix_refl _)
    ·exact mQ ((List.reverse_perm _).nodup_iff.mpr (pm3.nodup_iff.mpr fa.n2)) hf2 z
   refine ⟨kN.k (k:=.inr f) (kp hz5 hp7) kz,?_⟩
   rw [hX _ (dr5.vno nx)]
   obtain ⟨p1,p2,p3,p4⟩:=jR (x:=f) (a:=(gC (wA t) ps (f ++ "y")).2.1 + (gC (wA t) ps (f ++ "n")).2.1) (b:=(gC (wA t) ps (f ++ "y")).2.2 + (gC (wA t) ps (f ++ "n")).2.2) hp7 hz5 dr5
   refine ⟨⟨_,_,_,_,aN.over (S5.new hp7 _) hz _,p4 _ _ zp hp5,p2,?_,rfl⟩⟩
   rw [List.take_add_one,hf2,<- List.append_assoc,List.map_append]
   show DR _ _ (_ ++ [gC (wA t) ps f])
   rw [ef]
   exact p3
  ·refine fun σ' H5 h0=>hid fun J Z=>?_
   obtain ⟨⟨kv,o4,o5,o6,S5,hp5,hz5,dr5,rfl⟩⟩ :=h0
   refine Z ?_
   clear Z
   rw [List.length_map,<- List.length_reverse,List.take_length] at dr5
   exact ⟨⟨kv,rs.reverse,o4,o5,o6,S5,hz5,(List.reverse_perm _).trans pm3,dr5,rfl⟩⟩
 rintro J Z σ' H4 ⟨⟨kv,fs,o4,o5,o6,S4,hz4,pmf,dr4,rfl⟩⟩
 refine Z _ _ ?_
 clear Z
 walk_at "rd"
 exact q _ z kv fs (S1.trans S4) Hz hz4 pmf dr4
theorem ok_qF (T:Tx K mg) : FnOk P w K mg base (cK P w) 6 T.f_qF T.d_qF ["whole", "places"] (sJ K):=by
 have sc:=sc_qF
 refine T.F_qF.okx sc (fun vs H Q E h=>?_) (fun cdv A outer s H vs Q E hr h=>?_)
 ·obtain ⟨v,t,a,ps,gs,rfl,tv,lt,tb,ha,pi,q⟩:=h
  rfl
 obtain ⟨v,t,a,ps,gs,rfl,tv,lt,tb,ha,pi,q⟩:=h
 have hu:=hr.units0
 have hu2:=hr.units
 have hu1:=Nat.lt_of_le_of_lt (Nat.add_le_add_left (show 1<=64 by decide) _) hu2
 refine ⟨_,(@aD _ _ _ _ _ (@aO _ _ _ (@aK _ _ 2 _ _ _ _ sc.nd rfl (by walk_at "o1") (aH (lE T) (hr.mono (by decide)) rfl T.m_q3 T.F_q3.kp T.b_q3 .nil (aL fun _ _ z=>z) (aA (pv 0) aC)) (by rfl) (by walk_at "o2")))
   (@aD _ _ _ _ _ (@aO _ _ _ (@aK _ _ 3 _ _ _ _ sc.nd rfl (by walk_at "o1") iB (by rfl) (by walk_at "o2")))
   (@aD _ _ _ _ _ (@aO _ _ _ (cS dS rfl (jU (aH (ok_q2 T) (hr.mono (by decide)) rfl T.m_q2 T.F_q2.kp T.b_q2 .nil (aL fun _ _ z=>z) (aA (pv 0) (aA (pv 1) aC))) rfl rfl) (mK rfl (dR (aY (i:=4) sc.nd rfl (by walk_at "o1")) (dR (aY (i:=5) sc.nd rfl (by walk_at "o1")) i9)))
   (@aF _ _ _ (@bY _ _ _ _ _ _ _ _ (@aX _ _ _ _ _ _ _ _ n5 (@aI _ _ _ _ _ _ _ aG (pv 5) aB (fun _ _=>rfl)) aB (bB _)) (@aF _ _ _ (hZ hu1 (pv 3) (pv 4) (aZ (aA (@aJ _ _ _ _ _ _ _ _ cF (@aI _ _ _ _ _ _ _ aG (dW hu1 (pv 2) (pv 4) (fun _ _=>rfl)) aB (fun _ _=>rfl)) (@aI _ _ _ _ _ _ _ aG (pv 5) aB (fun _ _=>rfl))) (aA (@aJ _ _ _ _ _ _ _ _ cF (@aI _ _ _ _ _ _ _ aG (pv 5) aB (fun _ _=>rfl)) aB) aC))) rfl)) bD))))
   (@aF _ _ _ (@aS _ _ _ _ (pv 3)))))),?_⟩
 walk_at "kx"
 have lt30:t.lv<=30:=by omega
 have tv0:TV K H v (eF 0 t):=by rw [oN]; exact tv
 have pl:=pi.len
 have pk:=pi.kn
 have fa:=pi.facts
 have psl:ps.length < 64:=by omega
 obtain ⟨us,s0,m0,lk,eus⟩:=pi.lk
 have vals:=(lk.vals (wA t) eO).2.2
 have two:∀ f∈gs,2<=(cO ps f).length:=fun f hf=>by
  rw [<- eus] at hf
  obtain ⟨u,hu,rfl⟩:=List.mem_map.mp hf
  exact (vals u hu).2.2
 refine aP (fun σ' H1=>Iv (∃ (d:Addr) (kvs:List (bG × V)) (es:List (Str × Tr)),aN H H1/\H1 d=some (.dK kvs)/\DT K 0 H1 kvs es/\es.Perm (fP t "")/\σ' = [some v,some (.ref a),some (.ref d),none,none,none])) (fun _ _ _=>?_) ?_
 ·walk_at "rd"
  rename_i H1 d kvs es S1 fd hd dt pm
  exact ⟨⟨d,kvs,es,S1,hd,dt,pm,rfl⟩⟩
 rintro J Z σ' H1 ⟨⟨d,kvs,es,S1,hd,dt,pm,rfl⟩⟩
 refine Z _ _ ?_
 clear Z
 have ha1:=S1 _ _ ha
 have tv1:=tv.mono S1.t
 refine aP (fun σ' H2=>Iv (∃ (z:Addr),H1 z=none/\H2=upd H1 z (.dK [])/\σ' = [some v,some (.ref a),some (.ref d),some (.ref z),none,none])) (fun _ _ _=>?_) ?_
 ·walk_at "rd"
  rename_i z hz
  exact ⟨⟨z,hz,rfl,rfl⟩⟩
 rintro J Z σ' H2 ⟨⟨z,hz,e2,rfl⟩⟩
 refine Z _ _ ?_
 clear Z
 have S2:aN H1 H2:=by rw [e2]; exact aM hz _
 have hz2:H2 z=some (.dK []):=by rw [e2]; exact aE
 have zd:z ≠ d:=fun e=>by rw [e,hd] at hz; cases hz
 have Hz:H z=none:=S1.free hz
 clear e2
 have hd2:=S2 _ _ hd
 have dt2:=dt.mono S2.t
 have ha2:=S2 _ _ ha1
 have tv2:=tv1.mono S2.t
 refine aP (fun σ' H3=>Iv (∃ (kv:List (bG × V)) (fs:List Str) (o4 o5:Option V),aN H1 H3/\H3 z=some (.dK kv)/\fs.Perm gs/\DR H3 kv (fs.map (tG (wA t) ps))/\σ' = [some v,some (.ref a),some (.ref d),some (.ref z),o4,o5])) (fun _ _ _=>?_) ?_
 ·walk_at "rd"
  rename_i H3 d3 kvs3 fs S3 fd3 hd3 pmf dr3
  have hz3:=S3 _ _ hz2
  have hdd3:=S3 _ _ hd2
  have dt3:=dt2.mono S3.t
  have zd3:z ≠ d3:=fun e=>by rw [<- e,hz2] at fd3; cases fd3
  have dd3:d ≠ d3:=fun e=>by rw [<- e,hd2] at fd3; cases fd3
  have fd1:H1 d3=none:=S2.free fd3
  have fl:=pmf.length_eq
  have kl:kvs3.length=(ps ++ fs).length:=by rw [dr3.length,List.length_map]
  have nda:(ps ++ fs).Nodup:=by
   rw [List.nodup_append]
   refine ⟨fa.n1,pmf.nodup_iff.mpr fa.n2,fun x hx y hy e=>?_⟩
   subst e
   exact fa.ap x hx x (pmf.mem_iff.mp hy) (List.prefix_refl _)
  refine .inl ⟨hd3,fun ep=>?_⟩
  refine tT (P:=P) (w:=w) (a:=d3) (kvs:=kvs3) (ep:=ep) (fun i σ' H'=>Iv (∃ (kv:List (bG × V)) (o4 o5:Option V),aN H1 H'/\bF H3 H'/\H' d3=some (nH P w d3 kvs3 ep)/\H' d=some (.dK kvs)/\H' z=some (.dK kv)/\DR H' kv ((((ps ++ fs).take i).filter fun x=>decide (1 < (cO ps x).length)).map (tG (wA t) ps))/\σ' = [some v,some (.ref a),some (.ref d),some (.ref z),o4,o5])) ?_ ?_ ?_ ?_
  ·exact ⟨⟨[],_,_,aN.over (S2.trans S3) fd1 _,iQ (bF.refl _) hd3 _,aE,by rw [aR dd3]; exact hdd3,by rw [aR zd3]; exact hz3,.nil,rfl⟩⟩
  ·refine fun i σ' H4 hi h0=>hid fun J Z=>?_
   obtain ⟨⟨kv,o4,o5,S4,st4,hf,_⟩⟩ :=h0
   refine Z ?_
   clear Z
   exact hf
  ·rintro i k x T0 σ' H4 hk ⟨⟨kv,o4,o5,S4,st4,hf,hd4,hz4,dr4,rfl⟩⟩ hT
   obtain ⟨e,pp,he,rfl,rfl,hpp⟩:=dr3.get hk
   rw [List.getElem?_map] at he
   obtain ⟨f,hf2,rfl⟩:=Option.map_eq_some_iff.mp he
   have fm:=List.mem_of_getElem? hf2
   have fk:f∈(dG t "").map (·.1):=by
    rcases List.mem_append.mp fm with z | z
    ·exact pk f z
    ·exact List.mem_map.mpr ⟨_,pi.forks.1 f (pmf.mem_iff.mp z),rfl⟩
   have S5:=S4.new hT (.tup [kV (.inr (gC (wA t) ps f).1),.ref pp])
   have st5:=st4.new hT (.tup [kV (.inr (gC (wA t) ps f).1),.ref pp])
   have hf5:=kp hf hT (u:=.tup [kV (.inr (gC (wA t) ps f).1),.ref pp])
   have hd5:=kp hd4 hT (u:=.tup [kV (.inr (gC (wA t) ps f).1),.ref pp])
   have hz5:=kp hz4 hT (u:=.tup [kV (.inr (gC (wA t) ps f).1),.ref pp])
   have dr5:=dr4.mono ((bF.refl H4).new hT (.tup [kV (.inr (gC (wA t) ps f).1),.ref pp]))
   have hT5:upd H4 T0 (.tup [kV (.inr (gC (wA t) ps f).1),.ref pp]) T0=some (.tup [.str f,.ref pp]):=aE
   generalize upd H4 T0 (.tup [kV (.inr (gC (wA t) ps f).1),.ref pp])=H5 at S5 st5 hf5 hd5 hz5 dr5 hT5 ⊢
   have hpp5:H5 pp=some (.tup [.int ((cO ps f).map (wA t)).sum,.int ((cO ps f).length:Int)]):=st5 _ _ hpp
   obtain ⟨p0,k0,r0,g0,hp0⟩:=xB hd5 (dt3.mono st5) pm fk
   have a1:=at1' (k:=k0) (w:=wA t f) (r:=r0)
   have kz:kv.length < sizeLine:=aU (by
    rw [dr5.length,List.length_map]
    have z1:=List.length_filter_le (fun x=>decide (1 < (cO ps x).length)) ((ps ++ fs).take i)
    have z2:((ps ++ fs).take i).length<=(ps ++ fs).length:=by rw [List.length_take]; omega
    rw [List.length_append] at z2
    omega)
   have ft:=cP (p:=fun x:Str=>decide (1 < (cO ps x).length)) hf2
   have nx:f ∉ ((((ps ++ fs).take i).filter fun x=>decide (1 < (cO ps x).length)).map (tG (wA t) ps)).map (·.1):=by
    rw [rK]
    exact fun z=>mQ nda hf2 (List.mem_filter.mp z).1
   walk_at "rd"
   refine dX (fun c=>?_) (fun c=>?_)
   ·have c2:1 < (cO ps f).length:=by omega
    rw [if_pos (decide_eq_true c2)] at ft
    walk_at "rd"
    rename_i p7 hp7
    refine ⟨kN.k (k:=.inr f) (kp hz5 hp7) kz,?_⟩
    rw [hX _ (dr5.vno nx)]
    obtain ⟨p1,p2,p3,p4⟩:=jR (x:=f) (a:=wA t f - ((cO ps f).map (wA t)).sum) (b:=((cO ps f).length:Int) - 1) hp7 hz5 dr5
    refine ⟨⟨_,_,_,aN.over (S5.new hp7 _) hz _,fun c o e=>p1 c o (st5 c o e),p4 _ _ (Ne.symm zd3) hf5,p4 _ _ (Ne.symm zd) hd5,p2,?_,rfl⟩⟩
    rw [ft,List.map_append]
    exact p3
   ·have c2:¬ 1 < (cO ps f).length:=by omega
    rw [if_neg (by rw [decide_eq_false c2]; exact Bool.false_ne_true),List.append_nil] at ft
    walk_at "rd"
    refine ⟨⟨_,_,_,S5,st5,hf5,hd5,hz5,?_,rfl⟩⟩
    rw [ft]
    exact dr5
  ·refine fun σ' H4 h0=>hid fun J Z=>?_
   obtain ⟨⟨kv,o4,o5,S4,st4,hf,hd4,hz4,dr4,rfl⟩⟩ :=h0
   refine Z ?_
   clear Z
   have e1:((ps ++ fs).filter fun x=>decide (1 < (cO ps x).length))=fs:=by
    rw [List.filter_append,List.filter_eq_nil_iff.mpr,List.nil_append,List.filter_eq_self.mpr]
    ·exact fun x hx=>decide_eq_true (two x (pmf.mem_iff.mp hx))
    ·intro x hx
     rw [pi.leaf hx]
     exact Bool.false_ne_true
   rw [kl,List.take_length,e1] at dr4
   exact ⟨⟨kv,fs,o4,o5,S4,hz4,pmf,dr4,rfl⟩⟩
 rintro J Z σ' H3 ⟨⟨kv,fs,o4,o5,S3,hz3,pmf,dr3,rfl⟩⟩
 refine Z _ _ ?_
 clear Z
 walk_at "rd"
 exact q _ z kv fs (S1.trans S3) Hz hz3 pmf dr3
theorem ok_qB (T:Tx K mg) : FnOk P w K mg base (cK P w) 7 T.f_qB T.d_qB ["whole", "places"] (uZ K):=by
 have sc:=sc_qB
 refine T.F_qB.okx sc (fun vs H Q E h=>?_) (fun cdv A outer s H vs Q E hr h=>?_)
 ·obtain ⟨v,t,a,ps,us,s0,m0,rfl,tv,lt,tb,ha,lk,une,q⟩:=h
  rfl
 obtain ⟨v,t,a,ps,us,s0,m0,rfl,tv,lt,tb,ha,lk,une,q⟩:=h
 have hu:=hr.units0
 have hu2:=hr.units
 have hu1:=Nat.lt_of_le_of_lt (Nat.add_le_add_left (show 1<=64 by decide) _) hu2
 refine ⟨_,(@aD _ _ _ _ _ (@aO _ _ _ (@aK _ _ 2 _ _ _ _ sc.nd rfl (by walk_at "o1") (aH (ok_qF T) (hr.mono (by decide)) rfl T.m_qF T.F_qF.kp T.b_qF .nil (aL fun _ _ z=>z) (aA (pv 0) (aA (pv 1) aC))) (by rfl) (by walk_at "o2")))
   (@aD _ _ _ _ _ (@aO _ _ _ (@aK _ _ 3 _ _ _ _ sc.nd rfl (by walk_at "o1") (dW hu1 (pv 2) bA (fun _ _=>rfl)) (by rfl) (by walk_at "o2")))
   (@aD _ _ _ _ _ (@aO _ _ _ (cS dS rfl (lB (pv 2) rfl rfl) (aY (i:=4) sc.nd rfl (by walk_at "o1"))
   (@aF _ _ _ (@bY _ _ _ _ _ _ _ _ (cZ (aH (iV T) (hr.mono (by decide)) rfl T.m_j5 T.F_j5.kp T.b_j5 .nil (aL fun _ _ z=>z) (aA (pv 4) (aA (pv 3) aC)))) (@aF _ _ _ (@aK _ _ 3 _ _ _ _ sc.nd rfl (by walk_at "o1") (pv 4) (by rfl) (by walk_at "o2"))) bD))))
   (@aF _ _ _ (@aS _ _ _ _ (dH (ts:=["place", "one"]) (js:=[3]) (LcOk.of rfl) rfl (jU (pv 2) rfl rfl) (fun _ _ _ _=>(mK rfl (dR (aY (i:=0) (bK rfl) rfl (Or.inl rfl)) (dR (aY (i:=1) (bK rfl) rfl (Or.inl rfl)) i9)))) (fun _ _ _ _=>(dJ (gW (cZ (aH (iV T) (hr.mono (by decide)) rfl T.m_j5 T.F_j5.kp T.b_j5 .nil jW (aA (pv 2) (aA (pv 1) aC))))))) (fun _ _ _ _=>(pv 0)))))))),?_⟩
 walk_at "kx"
 have pi:=lk.pi
 have pk:=pi.kn
 have pl:=pi.len
 have lo:=lk.one
 have vals:=(lk.vals (wA t) eO).2.2
 have euv:∀ u∈us,tG (wA t) ps u.1=u:=fun u hu=>by
  have:=vals u hu
  unfold tG
  rw [<- this.1,<- this.2.1]
 have fgk:∀ f∈us.map (·.1),f∈(dG t "").map (·.1):=fun f hf=>List.mem_map.mpr ⟨_,pi.forks.1 f hf,rfl⟩
 refine aP (fun σ' H1=>Iv (∃ (d:Addr) (kvs:List (bG × V)) (fs:List Str),aN H H1/\H d=none/\H1 d=some (.dK kvs)/\fs.Perm (us.map (·.1))/\DR H1 kvs (fs.map (tG (wA t) ps))/\σ' = [some v,some (.ref a),some (.ref d),none,none])) (fun _ _ _=>?_) ?_
 ·walk_at "rd"
  rename_i H1 d kvs fs S1 fd hd pmf dr
  exact ⟨⟨d,kvs,fs,S1,fd,hd,pmf,dr,rfl⟩⟩
 rintro J Z σ' H1 ⟨⟨d,kvs,fs,S1,fd,hd,pmf,dr,rfl⟩⟩
 refine Z _ _ ?_
 clear Z
 have ndf:fs.Nodup:=pmf.nodup_iff.mpr pi.facts.n2
 have iE:∀ g,g∈fs.map (tG (wA t) ps)↔g∈us:=fun g=>by
  constructor
  ·intro hg
   obtain ⟨f,hf,rfl⟩:=List.mem_map.mp hg
   obtain ⟨u,hu,rfl⟩:=List.mem_map.mp (pmf.mem_iff.mp hf)
   rw [euv u hu]
   exact hu
  ·intro hg
   exact List.mem_map.mpr ⟨g.1,pmf.mem_iff.mpr (List.mem_map.mpr ⟨g,hg,rfl⟩),euv g hg⟩
 have dpos:∀ g∈fs.map (tG (wA t) ps),0 < g.2.2:=fun g hg=>by have:=lo.2.2.1 g ((iE g).mp hg); omega
 have wsm:∀ x∈ps,-100000000000000000000000000000000 < wA t x/\wA t x < 100000000000000000000000000000000:=fun x hx=>iM tb (pk x hx)
 have bzs:∀ g∈fs.map (tG (wA t) ps),Bz 8000 g.2.1/\Bz 8000 g.2.2:=fun g hg=>by
  obtain ⟨f,hf,rfl⟩:=List.mem_map.mp hg
  have h1:=lZ (W:=wA t) (l:=cO ps f) fun y hy=>wsm y (List.mem_filter.mp hy).1
  have h2:(cO ps f).length<=ps.length:=List.length_filter_le _ _
  have h3:=iM tb (fgk f (pmf.mem_iff.mp hf))
  exact ⟨(lR (by show _<=wA t f - ((cO ps f).map (wA t)).sum; omega) (by show wA t f - ((cO ps f).map (wA t)).sum<=_; omega)).mono (by decide),(lR (by show _<=((cO ps f).length:Int) - 1; omega) (by show ((cO ps f).length:Int) - 1<=_; omega)).mono (by decide)⟩
 have ndk:((fs.map (tG (wA t) ps)).map (·.1)).Nodup:=by rw [rK]; exact ndf
 have rootg:Str.ofString "" ∈ us.map (·.1):=by
  cases lk with
  | stop=>exact absurd rfl une
  | go=>exact List.mem_cons_self
 generalize hE:fs.map (tG (wA t) ps)=E at dr iE dpos bzs ndk
 have kl:=dr.length
 have el:E.length<=60:=by
  have h1:=pmf.length_eq
  have h2:=pl.2
  rw [<- hE,List.length_map]
  omega
 have r0E:∃ g∈E,g.1=Str.ofString "" := by
  obtain ⟨u,hu,e⟩:=List.mem_map.mp rootg
  exact ⟨u,(iE u).mpr hu,e⟩
 obtain ⟨g0,g0E,g0e⟩:=r0E
 refine aP (fun σ' H2=>Iv (∃ (p0:Addr),H2=H1/\H1 p0=some (.tup [.int g0.2.1,.int g0.2.2])/\σ' = [some v,some (.ref a),some (.ref d),some (.ref p0),none])) (fun _ _ _=>?_) ?_
 ·obtain ⟨p0,v0,hp0⟩:=dr.val ndk g0E
  rw [g0e] at v0
  have gg:gH H1 d (.str "") (some (.ref p0)):=by rw [<- v0]; exact gH.k (k:=.inr "") hd
  walk_at "rd"
  exact ⟨⟨p0,rfl,hp0,rfl⟩⟩
 rintro J Z σ' H2 ⟨⟨p0,rfl,hp0,rfl⟩⟩
 refine Z _ _ ?_
 clear Z
 refine aP (fun σ' H3=>Iv (∃ (ep:Nat) (p1:Addr) (g1:Str × Int × Int) (o4:Option V),aN H H3/\bF H2 H3/\H3 d=some (nH P w d kvs ep)/\g1∈E/\H3 p1=some (.tup [.int g1.2.1,.int g1.2.2])/\(∀ g∈E,g1.2.1 * g.2.2<=g.2.1 * g1.2.2)/\σ' = [some v,some (.ref a),some (.ref d),some (.ref p1),o4])) (fun _ _ _=>?_) ?_
 ·walk_at "rd"
  refine .inl ⟨hd,fun ep=>?_⟩
  refine j8 (P:=P) (w:=w) (a:=d) (kvs:=kvs) (ep:=ep) (fun i σ' H'=>Iv (∃ (p1:Addr) (g1:Str × Int × Int) (o4:Option V),aN H H'/\bF H2 H'/\H' d=some (nH P w d kvs ep)/\g1∈E/\H' p1=some (.tup [.int g1.2.1,.int g1.2.2])/\(∀ g∈E.take i,g1.2.1 * g.2.2<=g.2.1 * g1.2.2)/\σ' = [some v,some (.ref a),some (.ref d),some (.ref p1),o4])) ?_ ?_ ?_ ?_
  ·exact ⟨⟨p0,g0,_,aN.over S1 fd _,iQ (bF.refl _) hd _,aE,g0E,iQ (bF.refl _) hd _ _ _ hp0,fun g hg=>(by rw [List.take_zero] at hg; cases hg),rfl⟩⟩
  ·refine fun i σ' H3 hi h0=>hid fun J Z=>?_
   obtain ⟨⟨p1,g1,o4,S3,st3,hf,_⟩⟩ :=h0
   refine Z ?_
   clear Z
   exact hf
  ·refine fun i k x σ' H3 hk h0=>hid fun J Z=>?_
   obtain ⟨⟨p1,g1,o4,S3,st3,hf,g1E,hp1,le,rfl⟩⟩ :=h0
   refine Z ?_
   clear Z
   obtain ⟨g2,p2,he,rfl,rfl,hpp⟩:=dr.get hk
   have g2E:=List.mem_of_getElem? he
   have hp2:=st3 _ _ hpp
   have b1:=bzs g1 g1E
   have b2:=bzs g2 g2E
   have d1:=dpos g1 g1E
   have d2:=dpos g2 g2E
   have z1:=b1.1
   have z2:=b1.2
   have z3:=b2.1
   have z4:=b2.2
   walk_at "rd"
   refine dX (fun c=>?_) (fun c=>?_)
   ·walk_at "rd"
    refine ⟨⟨p2,g2,_,S3,st3,hf,g2E,hp2,fun g hg=>?_,rfl⟩⟩
    rw [List.take_add_one,he] at hg
    rcases List.mem_append.mp hg with z | z
    ·have gE:=List.mem_of_mem_take z
     exact mT d2 d1 (dpos g gE) (Int.le_of_lt c) (le g z)
    ·have z:g∈[g2]:=z
     rw [List.mem_singleton.mp z]
     exact Int.le_refl _
   ·walk_at "rd"
    refine ⟨⟨p1,g1,_,S3,st3,hf,g1E,hp1,fun g hg=>?_,rfl⟩⟩
    rw [List.take_add_one,he] at hg
    rcases List.mem_append.mp hg with z | z
    ·exact le g z
    ·have z:g∈[g2]:=z
     rw [List.mem_singleton.mp z]
     omega
  ·refine fun σ' H3 h0=>hid fun J Z=>?_
   obtain ⟨⟨p1,g1,o4,S3,st3,hf,g1E,hp1,le,rfl⟩⟩ :=h0
   refine Z ?_
   clear Z
   rw [kl,List.take_length] at le
   exact ⟨⟨ep,p1,g1,o4,S3,st3,hf,g1E,hp1,le,rfl⟩⟩
 rintro J Z σ' H3 ⟨⟨ep,p1,g1,o4,S3,st3,hf,g1E,hp1,le,rfl⟩⟩
 refine Z _ _ ?_
 clear Z
 have b1:=bzs g1 g1E
 have d1:=dpos g1 g1E
 walk_at "rd"
 refine .inr ⟨ep,hf,?_⟩
 intro C s2 H2' fp
 refine oK (P:=P) (w:=w) (a:=d) (kvs:=kvs) (ep:=ep) (fun i ys H'=>Iv (aN H H'/\bF H3 H'/\H' d=some (nH P w d kvs ep)/\ys=((((E.take i).filter fun g => !decide (g1.2.1 * g.2.2 < g.2.1 * g1.2.2)).map (·.1)).map V.str))) ?_ ?_ ?_ ?_
 ·exact ⟨⟨S3,bF.refl _,hf,by rw [List.take_zero]; rfl⟩⟩
 ·rintro i ys H4 hi ⟨⟨_,_,e1,e2⟩⟩
  refine ⟨e1,?_⟩
  rw [e2,List.length_map,List.length_map]
  have z1:=List.length_filter_le (fun g:Str × Int × Int => !decide (g1.2.1 * g.2.2 < g.2.1 * g1.2.2)) (E.take i)
  have z2:(E.take i).length<=E.length:=by rw [List.length_take]; omega
  exact aU (by omega)
 ·rintro i k x T0 ys H4 hk ⟨⟨S4,st4,hf4,rfl⟩⟩ hT
  obtain ⟨g2,p2,he,rfl,rfl,hpp⟩:=dr.get hk
  have g2E:=List.mem_of_getElem? he
  have b2:=bzs g2 g2E
  have z1:=b1.1
  have z2:=b1.2
  have z3:=b2.1
  have z4:=b2.2
  have S5:=S4.new hT (.tup [kV (.inr g2.1),.ref p2])
  have st5:=st4.new hT (.tup [kV (.inr g2.1),.ref p2])
  have hf5:=kp hf4 hT (u:=.tup [kV (.inr g2.1),.ref p2])
  have hT5:upd H4 T0 (.tup [kV (.inr g2.1),.ref p2]) T0=some (.tup [.str g2.1,.ref p2]):=aE
  have ft:=cP (p:=fun g:Str × Int × Int => !decide (g1.2.1 * g.2.2 < g.2.1 * g1.2.2)) he
  have hlt:i < E.length:=(List.getElem?_eq_some_iff.mp he).1
  generalize upd H4 T0 (.tup [kV (.inr g2.1),.ref p2])=H5 at S5 st5 hf5 hT5 ⊢
  have hp2:=st5 _ _ (st3 _ _ hpp)
  have hp1':=st5 _ _ hp1
  walk_at "rd"
  show if (!decide (g1.2.1 * g2.2.2 < g2.2.1 * g1.2.2))=true then _ else _
  by_cases c:(!decide (g1.2.1 * g2.2.2 < g2.2.1 * g1.2.2))=true
  ·rw [if_pos c] at ft ⊢
   walk_at "rd"
   refine ⟨S5,st5,hf5,?_⟩
   rw [ft,List.map_append,List.map_append]
   rfl
  ·rw [if_neg c] at ft ⊢
   refine ⟨by omega,⟨⟨S5,st5,hf5,?_⟩⟩⟩
   rw [ft,List.append_nil]
 ·rintro ys H4 ⟨⟨S4,st4,hf4,rfl⟩⟩ p hp
  rw [kl,List.take_length]
  refine q _ p _ (S4.new hp _) aE (List.Nodup.sublist (List.Sublist.map _ List.filter_sublist) ndk) ?_ fun x=>?_
  ·have mg:g1.1∈(E.filter fun g => !decide (g1.2.1 * g.2.2 < g.2.1 * g1.2.2)).map (·.1):=List.mem_map.mpr ⟨g1,List.mem_filter.mpr ⟨g1E,by rw [decide_eq_false (by omega)]; rfl⟩,rfl⟩
   exact List.ne_nil_of_mem mg
  ·rw [List.mem_map]
   constructor
   ·rintro ⟨g,hg,rfl⟩
    obtain ⟨gE,c⟩:=List.mem_filter.mp hg
    rw [Bool.not_eq_true',decide_eq_false_iff_not] at c
    refine ⟨g,⟨(iE g).mp gE,fun u hu=>?_⟩,rfl⟩
    have uE:=(iE u).mpr hu
    exact mT (dpos g gE) d1 (dpos u uE) (by omega) (le u uE)
   ·rintro ⟨u,⟨hu,lu⟩,rfl⟩
    have uE:=(iE u).mpr hu
    refine ⟨u,List.mem_filter.mpr ⟨uE,?_⟩,rfl⟩
    rw [Bool.not_eq_true',decide_eq_false_iff_not]
    have:=lu g1 ((iE g1).mp g1E)
    omega
theorem ok_jA (T:Tx K mg) : FnOk P w K mg base (cK P w) 24 T.f_jA T.d_jA ["tree"] (yD K):=by
 have sc:=sc_jA
 refine T.F_jA.okx sc (fun vs H Q E h=>?_) (fun cdv A outer s H vs Q E hr h=>?_)
 ·obtain ⟨v,t,B,rfl,tv,lt,b1,b2,tb,q⟩:=h
  rfl
 obtain ⟨v,t,B,rfl,tv,lt,b1,b2,tb,q⟩:=h
 have hu:=hr.units0
 have hu2:=hr.units
 have hu1:=Nat.lt_of_le_of_lt (Nat.add_le_add_left (show 1<=64 by decide) _) hu2
 refine ⟨_,(@aD _ _ _ _ _ (@aO _ _ _ (@aK _ _ 1 _ _ _ _ sc.nd rfl (by walk_at "o1") (aH (ok_q4 T) (hr.mono (by decide)) rfl T.m_q4 T.F_q4.kp T.b_q4 .nil (aL fun _ _ z=>z) (aA (pv 0) aC)) (by rfl) (by walk_at "o2")))
   (@aD _ _ _ _ _ (@aO _ _ _ (@aK _ _ 2 _ _ _ _ sc.nd rfl (by walk_at "o1") (aH (ok_qU T) (hr.mono (by decide)) rfl T.m_qU T.F_qU.kp T.b_qU .nil (aL fun _ _ z=>z) (aA (pv 0) (aA (aZ (aA aB (aA aB aC))) aC))) (by rfl) (by walk_at "o2")))
   (@aD _ _ _ _ _ (@aO _ _ _ (@aK _ _ 3 _ _ _ _ sc.nd rfl (by walk_at "o1") (@cD _ _ _ _ (aA (aZ (aA (aZ (aA aB (aA aB aC))) (aA (pv 2) aC))) aC)) (by rfl) (by walk_at "o2")))
   (@aD _ _ _ _ _ (eS dS (@aX _ _ _ _ _ _ _ _ (jX hu2) (pv 2) (@cD _ _ _ _ (aA bA aC dI)) (bB _)) (@aD _ _ _ _ _ (@aO _ _ _ (@aK _ _ 4 _ _ _ _ sc.nd rfl (by walk_at "o1") (aH (ok_qB T) (hr.mono (by decide)) rfl T.m_qB T.F_qB.kp T.b_qB .nil (aL fun _ _ z=>z) (aA (pv 1) (aA (pv 2) aC))) (by rfl) (by walk_at "o2")))
   (@aD _ _ _ _ _ (@aO _ _ _ (@aK _ _ 5 _ _ _ _ sc.nd rfl (by walk_at "o1") (aH (ok_qE T) (hr.mono (by decide)) rfl T.m_qE T.F_qE.kp T.b_qE .nil (aL fun _ _ z=>z) (aA (pv 0) (aA (pv 2) (aA (@aI _ _ _ _ _ _ _ bN (pv 4) aB (fun _ _=>rfl)) aC)))) (by rfl) (by walk_at "o2")))
   (@aD _ _ _ _ _ (@aO _ _ _ (@aK _ _ 2 _ _ _ _ sc.nd rfl (by walk_at "o1") (aH (ok_jC T) (hr.mono (by decide)) rfl T.m_jC T.F_jC.kp T.b_jC .nil (aL fun _ _ z=>z) (aA (pv 2) (aA (pv 4) aC))) (by rfl) (by walk_at "o2")))
   (@aF _ _ _ (cW (dU PySem.F.plainAttrs_list PySem.F.slot_list_append PySem.F.type_list_append cV (pv 3) (aA (aZ (aA (pv 5) (aA (pv 2) aC))) aC))))))))
   (@aF _ _ _ (@aS _ _ _ _ (pv 3))))))),?_⟩
 walk_at "kx"
 have b0:0 < B:=by omega
 have bz:Bz 128 B:=Bz.w (by omega) (by omega)
 have td:t.dp<=20:=by have:=t.dp_lt; omega
 have lt30:t.lv<=30:=by omega
 refine aP (fun σ' H1=>Iv (∃ (x:V) (t':Tr) (C:Int),aN H H1/\TV K H1 x (cU t')/\Sc B C t t'/\0 < C/\t'.B/\σ' = [some v,some x,none,none,none,none])) (fun _ _ _=>?_) ?_
 ·walk_at "rd"
  rename_i H1 x t' C S1 tx sc c0 cb tb'
  exact ⟨⟨x,t',C,S1,tx,sc,c0,tb',rfl⟩⟩
 rintro J Z σ' H1 ⟨⟨x,t',C,S1,tx,sc,c0,tb',rfl⟩⟩
 refine Z _ _ ?_
 clear Z
 have tv1:=tv.mono S1.t
 have cv1:=TV.cv b0 tv1
 have pr:Pr29 0 1 B:=⟨Int.le_refl _,by decide,Int.le_refl _,by decide,b1,b2⟩
 refine aP (fun σ' H2=>Iv (∃ (pa:Addr),aN H1 H2/\H2 pa=some (.lst ((bM 1 0 t "").1.map V.str))/\σ' = [some v,some x,some (.ref pa),none,none,none])) (fun _ _ _=>?_) ?_
 ·walk_at "rd"
  rename_i p0 hp0
  have cv2:=cv1.same (aM hp0 (.tup [.int 0,.int 1]))
  have e01:rt (Rat.divInt 0 1) = .tup [.int 0,.int 1]:=by
   rw [Rat.zero_divInt]
   rfl
  refine ⟨cv2,td,lt,tb,pr,(by rw [e01]; exact aE:_=some (rt (Rat.divInt 0 1))),fun H2 l S2 hl=>?_⟩
  rw [Int.zero_mul] at hl
  exact ⟨⟨l,(aM hp0 _).trans S2,hl,rfl⟩⟩
 rintro J Z σ' H2 ⟨⟨pa,S2,hpa,rfl⟩⟩
 refine Z _ _ ?_
 clear Z
 obtain ⟨us0,m0,lk0,up0⟩:=nB (b:=1) (by decide) t ""
 have P0:Pth t B [(0,(bM 1 0 t "").1)] 0 1 us0:=.one lk0 up0
 have tx2:=tx.mono S2.t
 have tv2:=tv1.mono S2.t
 have S02:=S1.trans S2
 refine aP (fun σ' H3=>Iv (∃ (z p0:Addr),aN H2 H3/\H2 z=none/\H3 z=some (.lst [.ref p0])/\QVs H3 [.ref p0] [(0,(bM 1 0 t "").1)]/\σ' = [some v,some x,some (.ref pa),some (.ref z),none,none])) (fun _ _ _=>?_) ?_
 ·walk_at "rd"
  rename_i r hr p0 hp0 z hz
  have S3:=((aM hr (H:=H2) (.tup [.int 0,.int 1])).new hp0 (.tup [.ref r,.ref pa])).new hz (.lst [.ref p0])
  exact ⟨⟨z,p0,S3,aN.free ((aM hr _).new hp0 _) hz,aE,.cons (kp aE hz) (kp (kp aE hp0) hz:_=some (rt 0)) (S3 _ _ hpa) .nil,rfl⟩⟩
 rintro J Z σ' H3 ⟨⟨z,p0,S3,fz,hz3,qv3,rfl⟩⟩
 refine Z _ _ ?_
 clear Z
 have Hz:H z=none:=S02.free fz
 have hpa3:=S3 _ _ hpa
 refine eN (fun σ' H'=>Iv (∃ (pa:Addr) (xs:List V) (sts l:List (Rat × List Str)) (y:Rat × List Str) (a b:Int) (us:List (Str × Int × Int)) (s m:Int) (o4 o5:Option V),aN H2 H'/\H' z=some (.lst (.ref p0 :: xs))/\QVs H' (.ref p0 :: xs) sts/\sts=l ++ [y]/\Pth t B sts a b us/\LK t "" y.2 us s m/\H' pa=some (.lst (y.2.map V.str))/\sts.length + y.2.length<=22/\σ' = [some v,some x,some (.ref pa),some (.ref z),o4,o5])) (fun σ H=>match σ.getD 2 none with | some (.ref a)=>(match H a with | some (.lst xs)=>xs.length | _=>0) | _=>0) ⟨⟨pa,[],_,[],_,0,1,us0,_,m0,_,_,S3,hz3,qv3,rfl,P0,lk0,hpa3,by have:=kH 1 0 t ""; show 1 + (bM 1 0 t "").1.length<=22; omega,rfl⟩⟩ ?_ ?_
 ·refine fun σ' H4 h0=>hid fun J Z=>?_
  obtain ⟨⟨pa,xs,sts,l,y,a,b,us,s,m,o4,o5,S4,hz4,qv4,est,pth,lk,hpa4,sl,rfl⟩⟩ :=h0
  refine Z ?_
  clear Z
  have pi:=lk.pi
  have asc:=(pi.asc (fun c hc=>by cases hc)).1
  have lo:=lk.one
  walk_at "rd"
  rename_i n hn
  refine ⟨.list (y.2.map PyData.str),.list ([Str.ofString ""].map PyData.str),dvS (kp hpa4 hn),dvS aE,((shS (n:=62) asc).mono (by decide)).shaped,((shS (n:=62) (ps:=[Str.ofString ""]) (fun u hu=>by rw [List.mem_singleton.mp hu]; exact fun c hc=>by cases hc)).mono (by decide)).shaped,?_⟩
  rw [uP]
  refine ⟨_,rfl,?_⟩
  have S45:=aM hn (H:=H4) (.lst [.str (Str.ofString "")])
  generalize upd H4 n (.lst [.str (Str.ofString "")])=H5 at S45 ⊢
  have S5:=S4.trans S45
  have hz5:=S45 _ _ hz4
  have qv5:=qv4.same S45
  have hpa5:=S45 _ _ hpa4
  by_cases c:y.2 = [Str.ofString ""]
  ·rw [decide_eq_true c]
   have ue:us = []:=by
    cases us with
    | nil=>rfl
    | cons u us =>
     have h1:=lo.2.2.2 (by simp)
     have h2:=lo.2.1
     rw [c] at h2
     have h3:m=1:=h2
     omega
   subst ue
   walk_at "rd"
   exact q _ z _ sts a b (S02.trans S5) Hz hz5 qv5 pth (by have h1:1<=y.2.length:=(by rw [c]; exact Nat.le_refl 1); omega)
  ·rw [decide_eq_false c]
   have une:us ≠ []:=fun e=>by
    subst e
    generalize hps:y.2=ps at lk c
    cases lk
    exact c rfl
   obtain ⟨us',s',lk',_,h1,h2⟩:=Sc.lk lk sc
   have une':us' ≠ []:=fun e=>by
    obtain ⟨u,hu⟩:=List.exists_mem_of_ne_nil us une
    obtain ⟨v',hv,_⟩:=h1 u hu
    rw [e] at hv
    cases hv
   have lt':t'.lv<=21:=by rw [sc.lv]; exact lt
   have tx5:=tx2.mono S5.t
   have tv5:=tv2.mono S5.t
   have wsc:=gZ.sc b0 c0 h1 h2
   walk_at "rd"
   refine aP (fun σ' H6=>Iv (∃ (wk:Addr) (rs:List Str),aN H5 H6/\H6 wk=some (.lst (rs.map V.str))/\rs.Nodup/\rs ≠ []/\(∀ x,x∈rs↔∃ u,gZ us u/\u.1=x)/\σ' = [some v,some x,some (.ref pa),some (.ref z),some (.ref wk),o5])) (fun _ _ _=>?_) ?_
   ·walk_at "rd"
    rename_i H6 wk rs S6 hwk ndr rne me
    exact ⟨⟨wk,rs,S6,hwk,ndr,rne,fun z=>(me z).trans (wsc z),rfl⟩⟩
   rintro J Z σ' H6 ⟨⟨wk,rs,S6,hwk,ndr,rne,me,rfl⟩⟩
   refine Z _ _ ?_
   clear Z
   obtain ⟨f,rs',rfl⟩:=List.exists_cons_of_ne_nil rne
   obtain ⟨u,wu,eu⟩:=(me f).mp List.mem_cons_self
   have vl:=(lk.vals (wA t) eO).2.2 u wu.1
   have at0:gP ((f :: rs').map V.str) 0=some (.str f):=cX (j:=0) rfl
   have sub:∀ g∈f :: rs',g∈us.map (·.1):=fun g hg=>by
    obtain ⟨v',wv,ev⟩:=(me g).mp hg
    exact List.mem_map.mpr ⟨v',wv.1,ev⟩
   have fgk:∀ g∈us.map (·.1),g∈(dG t "").map (·.1):=fun g hg=>List.mem_map.mpr ⟨_,pi.forks.1 g hg,rfl⟩
   have fk:=fgk f (sub f List.mem_cons_self)
   have pk:=pi.kn
   have pl:=pi.len
   have rl:(f :: rs').length<=(us.map (·.1)).length:=wF ndr sub
   have y64:y.2.length < 64:=by omega
   rw [eu] at vl
   have u2:=vl.2.2
   have tv6:=tv5.mono S6.t
   have hpa6:=S6 _ _ hpa5
   have hz6:=S6 _ _ hz5
   have qv6:=qv5.same S6
   refine aP (fun σ' H7=>Iv (∃ (r:Addr),aN H6 H7/\H7 r=some (rt (Rat.divInt u.2.1 (u.2.2 * B)))/\σ' = [some v,some x,some (.ref pa),some (.ref z),some (.ref wk),some (.ref r)])) (fun _ _ _=>?_) ?_
   ·walk_at "rd"
    rename_i H7 r S7 hr
    refine ⟨⟨r,S7,?_,rfl⟩⟩
    rw [hr,vl.1,vl.2.1]
   rintro J Z σ' H7 ⟨⟨r,S7,hr7,rfl⟩⟩
   refine Z _ _ ?_
   clear Z
   obtain ⟨ps',us2,s2,m2,ct⟩:=lk.cutc (nI pi.facts.n2 lo.2.2.1 me wu) (uG ndr me)
   have ml:=ct.lt ⟨u,wu.1,decide_eq_true (by rw [eu]; exact List.mem_cons_self)⟩
   have lo2:=ct.lk.one
   have sm:y.2.length + (f :: rs').length < 64:=by omega
   have hpa7:=S7 _ _ hpa6
   have hwk7:=S7 _ _ hwk
   have hz7:=S7 _ _ hz6
   have qv7:=qv6.same S7
   refine aP (fun σ' H8=>Iv (∃ (pb:Addr),aN H7 H8/\H8 pb=some (.lst (ps'.map V.str))/\σ' = [some v,some x,some (.ref pb),some (.ref z),some (.ref wk),some (.ref r)])) (fun _ _ _=>?_) ?_
   ·walk_at "rd"
    rename_i H8 pb qs S8 fb hb pmq soq
    obtain rfl:=cut_is lk ct ndr sub pmq soq
    exact ⟨⟨pb,S8,hb,rfl⟩⟩
   rintro J Z σ' H8 ⟨⟨pb,S8,hb8,rfl⟩⟩
   refine Z _ _ ?_
   clear Z
   have hr8:=S8 _ _ hr7
   have hz8:=S8 _ _ hz7
   have qv8:=qv7.same S8
   have S28:=((S5.trans S6).trans S7).trans S8
   have xl:(V.ref p0 :: xs).length < sizeLine:=aU (by rw [qv8.len]; omega)
   walk_at "rd"
   rename_i p9 hp9
   subst est
   have S9:=aM hp9 (H:=H8) (.tup [.ref r,.ref pb])
   have hz9:=kp hz8 hp9 (u:=.tup [.ref r,.ref pb])
   have qv9:=((qv8.same S9).snoc aE (S9 _ _ hr8) (S9 _ _ hb8)).put hz9 (.lst ((.ref p0 :: xs) ++ [.ref p9]))
   have nbz:pb ≠ z:=fQ hb8 hz8 (by intro e; cases ps' <;> cases e)
   have hb9:upd (upd H8 p9 (.tup [.ref r,.ref pb])) z (.lst ((.ref p0 :: xs) ++ [.ref p9])) pb=some (.lst (ps'.map V.str)):=by
    rw [aR nbz]
    exact S9 _ _ hb8
   have qv10:QVs (upd (upd H8 p9 (.tup [.ref r,.ref pb])) z (.lst ((.ref p0 :: xs) ++ [.ref p9]))) (V.ref p0 :: (xs ++ [V.ref p9])) (l ++ [y] ++ [(Rat.divInt u.2.1 (u.2.2 * B),ps')]):=qv9
   refine ⟨⟨⟨pb,xs ++ [V.ref p9],_,l ++ [y],(Rat.divInt u.2.1 (u.2.2 * B),ps'),u.2.1,u.2.2,us2,s2,m2,_,_,aN.over (S28.trans S9) fz _,aE,qv10,rfl,.step pth lk wu me (nI pi.facts.n2 lo.2.2.1 me wu) (uG ndr me) ct ml,ct.lk,hb9,?_,rfl⟩⟩,?_⟩
   ·have h1:=lo.2.1
    have h2:=lo2.2.1
    show (l ++ [y] ++ [(Rat.divInt u.2.1 (u.2.2 * B),ps')]).length + ps'.length<=22
    rw [List.length_append,List.length_singleton]
    omega
   ·show (match upd (upd H8 p9 (.tup [.ref r,.ref pb])) z (.lst ((.ref p0 :: xs) ++ [.ref p9])) pb with | some (.lst xs)=>xs.length | _=>0) < (match H4 pa with | some (.lst xs)=>xs.length | _=>0)
    rw [hb9,hpa4]
    show (ps'.map V.str).length < (y.2.map V.str).length
    rw [List.length_map,List.length_map]
    have h1:=lo.2.1
    have h2:=lo2.2.1
    omega
 ·rintro σ' H' Q1 Q2 hq ⟨v,e,ln,f⟩
  exact ⟨v,e,ln,fun p hp=>by
   obtain ⟨dx,dy,d1,d2,s1,s2,k,ek,y⟩:=f p hp
   exact ⟨dx,dy,d1,d2,s1,s2,k,ek,hq _ _ y⟩⟩
theorem ok_q5 (T:Tx K mg) : FnOk P w K mg base (cK P w) 3 T.f_q5 T.d_q5 ["steps", "price"] (sM K):=by
 have sc:=sc_q5
 refine T.F_q5.okx sc (fun vs H Q E h=>?_) (fun cdv A outer s H vs Q E hr h=>?_)
 ·obtain ⟨a,xs,sts,pa,r,rfl,ha,qv,sl,hp,rz,rzs,c,⟨i0,x0,hx0,nx0⟩,q⟩:=h
  rfl
 obtain ⟨a,xs,sts,pa,r,rfl,ha,qv,sl,hp,rz,rzs,c,⟨i0,x0,hx0,nx0⟩,q⟩:=h
 have hu:=hr.units0
 have hu2:=hr.units
 have hu1:=Nat.lt_of_le_of_lt (Nat.add_le_add_left (show 1<=64 by decide) _) hu2
 refine ⟨_,(@aD _ _ _ _ _ (cW (aH (ok_qD T) (hr.mono (by decide)) rfl T.m_qD T.F_qD.kp T.b_qD .nil (aL fun _ _ z=>z) (aA (pv 1) aC)))
   (@aF _ _ _ (@aS _ _ _ _ (@aI _ _ _ _ _ _ _ bN (dH (ts:=["step"]) (js:=[1]) (LcOk.of rfl) rfl (bL (pv 0)) (fun _ _ _ _=>(aY (i:=0) (bK rfl) rfl (Or.inl rfl))) (fun _ _ _ _=>(dJ (gW (cZ (aH (iV T) (hr.mono (by decide)) rfl T.m_j5 T.F_j5.kp T.b_j5 .nil jW (aA (pv 1) (aA (@aI _ _ _ _ _ _ _ aG (pv 0) aB (fun _ _=>rfl)) aC))))))) (fun _ _ _ _=>(pv 0))) (iS fU aB) (fun _ _=>rfl))))),?_⟩
 walk_at "kx"
 have hp':H pa=some (.tup [.int r.num,.int (r.den:Int)]):=hp
 have z1:=rz.zn
 have z2:=rz.zd
 walk_at "rd"
 rename_i H1 S1 cA sA hA fA
 have ha1:=S1 _ _ ha
 have hp1:=S1 _ _ hp'
 have qv1:=qv.same S1
 have xl:=qv.len
 walk_at "rd"
 refine c7 (K:=K) (a:=a) (xs:=xs) (fun i ys H'=>Iv (H'=H1/\QVs H1 ys ((sts.take i).filter (kQ r)))) ⟨⟨rfl,.nil⟩⟩ (fun i ys H' hi z=>⟨c6.of (by rw [z.o.1]; exact ha1),?_⟩) ?_ ?_
 ·rw [z.o.2.len]
  refine aU (Nat.le_trans (List.length_filter_le _ _) ?_)
  rw [List.length_take]
  omega
 ·rintro i x ys H' hi ⟨⟨rfl,qy⟩⟩
  have il:=(List.getElem?_eq_some_iff.mp hi).1
  refine hid fun J Z=>?_
  obtain ⟨p,rr,l,q0,ps,rfl,hpp,hr,hl,hs⟩ := qv1.at hi
  refine Z ?_
  clear Z
  have hr':H' rr=some (.tup [.int q0.num,.int (q0.den:Int)]):=hr
  have ft:=cP (p:=kQ r) hs
  have rq:=rzs _ (List.mem_of_getElem? hs)
  have z3:Bz 8000 q0.num:=rq.zn
  have z4:Bz 8000 (q0.den:Int):=rq.zd
  walk_at "rd"
  show if kQ r (q0,ps)=true then _ else _
  by_cases c:kQ r (q0,ps)=true
  ·rw [if_pos c] at ft ⊢
   walk_at "rd"
   refine ⟨rfl,?_⟩
   rw [ft]
   exact qy.snoc hpp hr hl
  ·rw [if_neg c] at ft ⊢
   refine ⟨by omega,⟨⟨rfl,?_⟩⟩⟩
   rw [ft,List.append_nil]
   exact qy
 ·rintro ys H' ⟨⟨rfl,qy⟩⟩ z hz
  rw [xl,List.take_length] at qy
  have ne:(sts.filter (kQ r)) ≠ []:=List.ne_nil_of_mem (List.mem_filter.mpr ⟨List.mem_of_getElem? hx0,nx0⟩)
  obtain ⟨L,y,eL⟩ : ∃ L y,sts.filter (kQ r)=L ++ [y]:=⟨_,_,(List.dropLast_concat_getLast ne).symm⟩
  have yl:=qy.len
  obtain ⟨Y,v,eY⟩ : ∃ Y v,ys=Y ++ [v]:=by
   have:ys ≠ []:=fun e=>by rw [e,eL,List.length_append] at yl; exact absurd yl (by rw [List.length_nil,List.length_singleton]; omega)
   exact ⟨_,_,(List.dropLast_concat_getLast this).symm⟩
  subst eY
  have la:=last_at Y v
  have iv:(Y ++ [v])[Y.length]? = some v:=by rw [List.getElem?_append_right (Nat.le_refl _),Nat.sub_self]; rfl
  refine hid fun J Z=>?_
  obtain ⟨p,rr,l,q0,ps,rfl,hpp,hr,hl,hs⟩ := qy.at iv
  refine Z ?_
  clear Z
  walk_at "rd"
  have S2:=S1.new hz (.lst (Y ++ [.ref p]))
  refine q _ p rr l q0 ps S2 ?_ (kp hpp hz) (kp hl hz)
  rw [eL] at hs yl ⊢
  rw [List.length_append,List.length_append,List.length_singleton,List.length_singleton] at yl
  rw [show Y.length=L.length by omega,List.getElem?_append_right (Nat.le_refl _),Nat.sub_self] at hs
  have hs:some y=some (q0,ps):=hs
  rw [List.getLast?_append,<- hs]
  rfl
theorem ok_qN (T:Tx K mg) : FnOk P w K mg base (cK P w) 4 T.f_qN T.d_qN ["steps", "price"] (sO K):=by
 have sc:=sc_qN
 refine T.F_qN.okx sc (fun vs H Q E h=>?_) (fun cdv A outer s H vs Q E hr h=>?_)
 ·obtain ⟨a,xs,sts,pa,r,rfl,ha,qv,sl,hp,rz,rzs,c,ex,pl,q⟩:=h
  rfl
 obtain ⟨a,xs,sts,pa,r,rfl,ha,qv,sl,hp,rz,rzs,c,ex,pl,q⟩:=h
 have hu:=hr.units0
 have hu2:=hr.units
 have hu1:=Nat.lt_of_le_of_lt (Nat.add_le_add_left (show 1<=64 by decide) _) hu2
 refine ⟨_,(@aF _ _ _ (@aS _ _ _ _ (dL m9 rfl T.z_list sD (aA (@aI _ _ _ _ _ _ _ aG (aH (ok_q5 T) (hr.mono (by decide)) rfl T.m_q5 T.F_q5.kp T.b_q5 .nil (aL fun _ _ z=>z) (aA (pv 0) (aA (pv 1) aC))) aB (fun _ _=>rfl)) aC)))),?_⟩
 walk_at "kx"
 walk_at "rd"
 rename_i H1 p rr l q0 ps S1 la hpp hl z hz
 exact q _ z q0 ps (S1.new hz _) (S1.free hz) la aE
theorem ok_q6 (T:Tx K mg) : FnOk P w K mg base (cK P w) 4 T.f_q6 T.d_q6 ["known", "own", "before", "places"] (sp_cbc K):=by
 have sc:=sc_q6
 refine T.F_q6.okx sc (fun vs H Q E h=>?_) (fun cdv A outer s H vs Q E hr h=>?_)
 ·obtain ⟨d,c,ba,pa,t,B,s,kvs,es,bs,ps,rfl,hd,dt,pm,b0,bz,tb,hc,s0,s1,hba,hpa,nb,np,lb,lp,kb,kp,q⟩:=h
  rfl
 obtain ⟨d,c,ba,pa,t,B,s,kvs,es,bs,ps,rfl,hd,dt,pm,b0,bz,tb,hc,s0,s1,hba,hpa,nb,np,lb,lp,kb,kp,q⟩:=h
 have hu:=hr.units0
 have hu2:=hr.units
 have hu1:=Nat.lt_of_le_of_lt (Nat.add_le_add_left (show 1<=64 by decide) _) hu2
 refine ⟨_,(@aD _ _ _ _ _ (@aO _ _ _ (cS dS rfl (bL (aV (eI rfl) rfl T.z_sorted eW (aA (@aJ _ _ _ _ _ _ _ _ iU (dL (eV rfl) rfl T.z_set kG (aA (pv 2) aC)) (dL (eV rfl) rfl T.z_set kG (aA (pv 3) aC))) aC))) (aY (i:=4) sc.nd rfl (by walk_at "o1"))
   (@aF _ _ _ (@aK _ _ 1 _ _ _ _ sc.nd rfl (by walk_at "o1") (aH (v9 T) (hr.mono (by decide)) rfl T.m_j4 T.F_j4.kp T.b_j4 .nil (aL fun _ _ z=>z) (aA (pv 1) (aA (@aI _ _ _ _ _ _ _ aG (dW hu1 (pv 0) (pv 4) (fun _ _=>rfl)) aB (fun _ _=>rfl)) aC))) (by rfl) (by walk_at "o2")))))
   (@aD _ _ _ _ _ (@aO _ _ _ (cS dS rfl (bL (aV (eI rfl) rfl T.z_sorted eW (aA (@aJ _ _ _ _ _ _ _ _ iU (dL (eV rfl) rfl T.z_set kG (aA (pv 3) aC)) (dL (eV rfl) rfl T.z_set kG (aA (pv 2) aC))) aC))) (aY (i:=4) sc.nd rfl (by walk_at "o1"))
   (@aF _ _ _ (@aK _ _ 1 _ _ _ _ sc.nd rfl (by walk_at "o1") (aH (ok_j9 T) (hr.mono (by decide)) rfl T.m_j9 T.F_j9.kp T.b_j9 .nil (aL fun _ _ z=>z) (aA (pv 1) (aA (@aI _ _ _ _ _ _ _ aG (dW hu1 (pv 0) (pv 4) (fun _ _=>rfl)) aB (fun _ _=>rfl)) aC))) (by rfl) (by walk_at "o2")))))
   (@aF _ _ _ (@aS _ _ _ _ (pv 1))))),?_⟩
 walk_at "kx"
 have b1:=rH bs ps
 have p1:=rH ps bs
 have mb:∀ x∈oJ bs ps,x∈(dG t "").map (·.1):=fun x hx=>kb x (List.mem_filter.mp hx).1
 have mp:∀ x∈oJ ps bs,x∈(dG t "").map (·.1):=fun x hx=>kp x (List.mem_filter.mp hx).1
 have dl1:=mZ bs
 have dl2:=mZ ps
 have dn1:=iO bs
 have dn2:=iO ps
 have rzx:∀ x,x∈(dG t "").map (·.1)->Rz 700 (Rat.divInt (wA t x) B):=fun x hx=>by
  have:=iM tb hx
  exact (z8 (by omega) (bz27 (by omega) (by omega)) bz).mono (by decide)
 have rzs:∀ z:Int,-100000000000000000000000000000000000<=z->z<=100000000000000000000000000000000000->Rz 700 (Rat.divInt z B):=fun z h1 h2=>(z8 (by omega) (bz27 h1 h2) bz).mono (by decide)
 refine aP (fun σ' H1=>Iv (∃ (c1:Addr) (o5:Option V),aN H H1/\H1 c1=some (rt (Rat.divInt (s - ((oJ bs ps).map (wA t)).sum) B))/\σ' = [some (.ref d),some (.ref c1),some (.ref ba),some (.ref pa),o5])) (fun _ _ _=>?_) ?_
 ·walk_at "rd"
  rename_i p1 hp1 p2 hp2 p3 hp3
  rw [xH nb np]
  refine ⟨by omega,fun q1 ws hq1 pw so=>?_⟩
  have S1:=(((aM hp1 _).new hp2 _).new hp3 _).new hq1 (.lst (ws.map V.str))
  have mw:∀ x∈ws,x∈(dG t "").map (·.1):=fun x hx=>mb x (pw.mem_iff.mp hx)
  have lw:ws.length < 64:=by rw [pw.length_eq]; omega
  have bd:∀ i,-(64:Int) * 100000000000000000000000000000000<=((ws.take i).map (wA t)).sum/\((ws.take i).map (wA t)).sum<=(64:Int) * 100000000000000000000000000000000:=fun i=>by
   have h1:=lZ (W:=wA t) (l:=ws.take i) fun x hx=>iM tb (mw x (List.mem_of_mem_take hx))
   have h2:(ws.take i).length<=63:=by rw [List.length_take]; omega
   omega
  walk_at "rd"
  refine c5 (K:=K) (a:=q1) (xs:=ws.map V.str) (fun i σ' H'=>Iv (∃ (c2:Addr) (o5:Option V),aN H H'/\H' q1=some (.lst (ws.map V.str))/\H' c2=some (rt (Rat.divInt (s - ((ws.take i).map (wA t)).sum) B))/\σ' = [some (.ref d),some (.ref c2),some (.ref ba),some (.ref pa),o5])) ⟨⟨c,_,S1,aE,by rw [List.take_zero,List.map_nil,List.sum_nil,Int.sub_zero]; exact S1 _ _ hc,rfl⟩⟩ (fun i σ' H' _ y=>by obtain ⟨⟨_,_,_,k,_⟩⟩:=y; exact c6.of k) ?_ ?_
  ·refine fun i x σ' H4 hx h0=>hid fun J Z=>?_
   obtain ⟨⟨c2,o5,S4,k4,hc4,rfl⟩⟩ :=h0
   refine Z ?_
   clear Z
   rw [List.getElem?_map] at hx
   obtain ⟨x,hx2,rfl⟩:=Option.map_eq_some_iff.mp hx
   have xm:=mw x (List.mem_of_getElem? hx2)
   obtain ⟨p,k,c3,r,g,hp,hc3⟩:=rW b0 (S4 _ _ hd) (dt.mono S4.t) pm xm
   have a1:=uB (k:=k) (c:=c3) (r:=r)
   have bi:=bd i
   walk_at "rd"
   refine ⟨rzs _ (by omega) (by omega),rzx x xm,fun p2 H5 fp S5 hp2=>?_⟩
   refine ⟨⟨p2,_,S4.trans S5,S5 _ _ k4,?_,rfl⟩⟩
   rw [hp2,gX b0,List.take_add_one,hx2,List.map_append,List.sum_append]
   show some (rt (Rat.divInt (s - ((ws.take i).map (wA t)).sum - wA t x) B))=some (rt (Rat.divInt (s - (((ws.take i).map (wA t)).sum + (wA t x + 0))) B))
   rw [show s - ((ws.take i).map (wA t)).sum - wA t x=s - (((ws.take i).map (wA t)).sum + (wA t x + 0)) by omega]
  ·refine fun σ' H4 h0=>hid fun J Z=>?_
   obtain ⟨⟨c2,o5,S4,k4,hc4,rfl⟩⟩ :=h0
   refine Z ?_
   clear Z
   rw [List.length_map,List.take_length,jV pw] at hc4
   exact ⟨⟨c2,o5,S4,hc4,rfl⟩⟩
 rintro J Z σ' H1 ⟨⟨c1,o5,T1,hc1,rfl⟩⟩
 refine Z _ _ ?_
 clear Z
 have hd1:=T1 _ _ hd
 have dt1:=dt.mono T1.t
 have hba1:=T1 _ _ hba
 have hpa1:=T1 _ _ hpa
 have sb:=lZ (W:=wA t) (l:=oJ bs ps) fun x hx=>iM tb (mb x hx)
 have u0 : -20000000000000000000000000000000000<=s - ((oJ bs ps).map (wA t)).sum:=by omega
 have u1:s - ((oJ bs ps).map (wA t)).sum<=20000000000000000000000000000000000:=by omega
 generalize s - ((oJ bs ps).map (wA t)).sum=s2 at hc1 u0 u1 q
 clear hd dt hba hpa hc sb s0 s1
 refine aP (fun σ' H2=>Iv (∃ (c1:Addr) (o5:Option V),aN H1 H2/\H2 c1=some (rt (Rat.divInt (s2 + ((oJ ps bs).map (wA t)).sum) B))/\σ' = [some (.ref d),some (.ref c1),some (.ref ba),some (.ref pa),o5])) (fun _ _ _=>?_) ?_
 ·walk_at "rd"
  rename_i p1 hp1 p2 hp2 p3 hp3
  rw [xH np nb]
  refine ⟨by omega,fun q1 ws hq1 pw so=>?_⟩
  have S1:=(((aM hp1 _).new hp2 _).new hp3 _).new hq1 (.lst (ws.map V.str))
  have mw:∀ x∈ws,x∈(dG t "").map (·.1):=fun x hx=>mp x (pw.mem_iff.mp hx)
  have lw:ws.length < 64:=by rw [pw.length_eq]; omega
  have bd:∀ i,-(64:Int) * 100000000000000000000000000000000<=((ws.take i).map (wA t)).sum/\((ws.take i).map (wA t)).sum<=(64:Int) * 100000000000000000000000000000000:=fun i=>by
   have h1:=lZ (W:=wA t) (l:=ws.take i) fun x hx=>iM tb (mw x (List.mem_of_mem_take hx))
   have h2:(ws.take i).length<=63:=by rw [List.length_take]; omega
   omega
  walk_at "rd"
  refine c5 (K:=K) (a:=q1) (xs:=ws.map V.str) (fun i σ' H'=>Iv (∃ (c2:Addr) (o5:Option V),aN H1 H'/\H' q1=some (.lst (ws.map V.str))/\H' c2=some (rt (Rat.divInt (s2 + ((ws.take i).map (wA t)).sum) B))/\σ' = [some (.ref d),some (.ref c2),some (.ref ba),some (.ref pa),o5])) ⟨⟨c1,_,S1,aE,by rw [List.take_zero,List.map_nil,List.sum_nil,Int.add_zero]; exact S1 _ _ hc1,rfl⟩⟩ (fun i σ' H' _ y=>by obtain ⟨⟨_,_,_,k,_⟩⟩:=y; exact c6.of k) ?_ ?_
  ·refine fun i x σ' H4 hx h0=>hid fun J Z=>?_
   obtain ⟨⟨c2,o5,S4,k4,hc4,rfl⟩⟩ :=h0
   refine Z ?_
   clear Z
   rw [List.getElem?_map] at hx
   obtain ⟨x,hx2,rfl⟩:=Option.map_eq_some_iff.mp hx
   have xm:=mw x (List.mem_of_getElem? hx2)
   obtain ⟨p,k,c3,r,g,hp,hc3⟩:=rW b0 (S4 _ _ hd1) (dt1.mono S4.t) pm xm
   have a1:=uB (k:=k) (c:=c3) (r:=r)
   have bi:=bd i
   walk_at "rd"
   refine ⟨rzs _ (by omega) (by omega),rzx x xm,fun p2 hp2=>?_⟩
   have S5:=aM hp2 (H:=H4) (rt (Rat.divInt (s2 + ((ws.take i).map (wA t)).sum) B + Rat.divInt (wA t x) B))
   refine ⟨⟨p2,_,S4.trans S5,S5 _ _ k4,?_,rfl⟩⟩
   rw [aE,qH b0,List.take_add_one,hx2,List.map_append,List.sum_append]
   show some (rt (Rat.divInt (s2 + ((ws.take i).map (wA t)).sum + wA t x) B))=some (rt (Rat.divInt (s2 + (((ws.take i).map (wA t)).sum + (wA t x + 0))) B))
   rw [show s2 + ((ws.take i).map (wA t)).sum + wA t x=s2 + (((ws.take i).map (wA t)).sum + (wA t x + 0)) by omega]
  ·refine fun σ' H4 h0=>hid fun J Z=>?_
   obtain ⟨⟨c2,o5,S4,k4,hc4,rfl⟩⟩ :=h0
   refine Z ?_
   clear Z
   rw [List.length_map,List.take_length,jV pw] at hc4
   exact ⟨⟨c2,o5,S4,hc4,rfl⟩⟩
 rintro J Z σ' H2 ⟨⟨c2,o6,T2,hc2,rfl⟩⟩
 refine Z _ _ ?_
 clear Z
 walk_at "rd"
 exact q _ c2 (T1.trans T2) hc2
theorem ok_qO (T:Tx K mg) : FnOk P w K mg base (cK P w) 1 T.f_qO T.d_qO ["yes", "no", "leaves"] (yG K):=by
 have sc:=sc_qO
 refine T.F_qO.okx sc (fun vs H Q E h=>?_) (fun cdv A outer s H vs Q E hr h=>?_)
 ·obtain ⟨a,b,L,ty,tn,ys,ns,us,ws,rfl,ha,hb,ru,rn,gu,gw,lu,lw,l50,L2,Ll,q⟩:=h
  rfl
 obtain ⟨a,b,L,ty,tn,ys,ns,us,ws,rfl,ha,hb,ru,rn,gu,gw,lu,lw,l50,L2,Ll,q⟩:=h
 have hu:=hr.units0
 have hu2:=hr.units
 have hu1:=Nat.lt_of_le_of_lt (Nat.add_le_add_left (show 1<=64 by decide) _) hu2
 refine ⟨_,(@aD _ _ _ _ _ (@aO _ _ _ (@aK _ _ 3 _ _ _ _ sc.nd rfl (by walk_at "o1") (aV (t9 rfl) rfl T.z_max bt_max (aA aB (aA (@aJ _ _ _ _ _ _ _ _ cF (pv 2) (aV aT rfl T.z_len bZ (aA (pv 1) aC))) aC))) (by rfl) (by walk_at "o2")))
   (@aD _ _ _ _ _ (@aO _ _ _ (@aK _ _ 4 _ _ _ _ sc.nd rfl (by walk_at "o1") (aV (t8 rfl) rfl T.z_min xK (aA (aV aT rfl T.z_len bZ (aA (pv 0) aC)) (aA (@aJ _ _ _ _ _ _ _ _ cF (pv 2) aB) aC))) (by rfl) (by walk_at "o2")))
   (@aD _ _ _ _ _ (@aO _ _ _ (by first | exact eU (i:=5) sc.nd rfl (by walk_at "o1") (ts:=["many"]) (js:=[0,1,2]) (LcOk.of rfl) rfl (gK rfl T.z_range (aA (pv 3) (aA (@aJ _ _ _ _ _ _ _ _ cG (pv 4) aB) aC))) (fun _ _ _ _=>(aY (i:=0) (bK rfl) rfl (Or.inl rfl))) (fun _ _ _ _=>d9) (fun _ _ _ _=>(aZ (aA (@aJ _ _ _ _ _ _ _ _ cG (@aI _ _ _ _ _ _ _ aG (@aI _ _ _ _ _ _ _ bN (pv 1) (@aJ _ _ _ _ _ _ _ _ cF (pv 0) aB) (fun _ _=>rfl)) aB (fun _ _=>rfl)) (@aI _ _ _ _ _ _ _ aG (@aI _ _ _ _ _ _ _ bN (pv 2) (@aJ _ _ _ _ _ _ _ _ cF (@aJ _ _ _ _ _ _ _ _ cF (pv 3) (pv 0)) aB) (fun _ _=>rfl)) aB (fun _ _=>rfl))) (aA (pv 0) aC)))) | exact aK (i:=5) sc.nd rfl (by walk_at "o1") (dH (ts:=["many"]) (js:=[0,1,2]) (LcOk.of rfl) rfl (gK rfl T.z_range (aA (pv 3) (aA (@aJ _ _ _ _ _ _ _ _ cG (pv 4) aB) aC))) (fun _ _ _ _=>(aY (i:=0) (bK rfl) rfl (Or.inl rfl))) (fun _ _ _ _=>d9) (fun _ _ _ _=>(aZ (aA (@aJ _ _ _ _ _ _ _ _ cG (@aI _ _ _ _ _ _ _ aG (@aI _ _ _ _ _ _ _ bN (pv 1) (@aJ _ _ _ _ _ _ _ _ cF (pv 0) aB) (fun _ _=>rfl)) aB (fun _ _=>rfl)) (@aI _ _ _ _ _ _ _ aG (@aI _ _ _ _ _ _ _ bN (pv 2) (@aJ _ _ _ _ _ _ _ _ cF (@aJ _ _ _ _ _ _ _ _ cF (pv 3) (pv 0)) aB) (fun _ _=>rfl)) aB (fun _ _=>rfl))) (aA (pv 0) aC)))))))
   (@aD _ _ _ _ _ (@aO _ _ _ (@aK _ _ 6 _ _ _ _ sc.nd rfl (by walk_at "o1") (aV (t7 rfl hu2) rfl T.z_min xK (aA (pv 5) aC)) (by rfl) (by walk_at "o2")))
   (@aD _ _ _ _ _ (@aO _ _ _ (by first | exact eU (i:=7) sc.nd rfl (by walk_at "o1") (ts:=["place"]) (js:=[]) (LcOk.of rfl) rfl (bL (@aI _ _ _ _ _ _ _ aG (@aI _ _ _ _ _ _ _ bN (pv 1) (@aJ _ _ _ _ _ _ _ _ cF (@aJ _ _ _ _ _ _ _ _ cF (pv 2) (@aI _ _ _ _ _ _ _ aG (pv 6) aB (fun _ _=>rfl))) aB) (fun _ _=>rfl)) aB (fun _ _=>rfl))) (fun _ _ _ _=>(aY (i:=0) (bK rfl) rfl (Or.inl rfl))) (fun _ _ _ _=>d9) (fun _ _ _ _=>(@aJ _ _ _ _ _ _ _ _ bV bA (pv 0))) | exact aK (i:=7) sc.nd rfl (by walk_at "o1") (dH (ts:=["place"]) (js:=[]) (LcOk.of rfl) rfl (bL (@aI _ _ _ _ _ _ _ aG (@aI _ _ _ _ _ _ _ bN (pv 1) (@aJ _ _ _ _ _ _ _ _ cF (@aJ _ _ _ _ _ _ _ _ cF (pv 2) (@aI _ _ _ _ _ _ _ aG (pv 6) aB (fun _ _=>rfl))) aB) (fun _ _=>rfl)) aB (fun _ _=>rfl))) (fun _ _ _ _=>(aY (i:=0) (bK rfl) rfl (Or.inl rfl))) (fun _ _ _ _=>d9) (fun _ _ _ _=>(@aJ _ _ _ _ _ _ _ _ bV bA (pv 0))))))
   (@aD _ _ _ _ _ (@aO _ _ _ (cW (dU PySem.F.plainAttrs_list PySem.F.slot_list_extend PySem.F.type_list_extend tD (pv 7) (aA (dH (ts:=["place"]) (js:=[]) (LcOk.of rfl) rfl (bL (@aI _ _ _ _ _ _ _ aG (@aI _ _ _ _ _ _ _ bN (pv 0) (@aJ _ _ _ _ _ _ _ _ cF (@aI _ _ _ _ _ _ _ aG (pv 6) aB (fun _ _=>rfl)) aB) (fun _ _=>rfl)) aB (fun _ _=>rfl))) (fun _ _ _ _=>(aY (i:=0) (bK rfl) rfl (Or.inl rfl))) (fun _ _ _ _=>d9) (fun _ _ _ _=>(@aJ _ _ _ _ _ _ _ _ bV bA (pv 0)))) aC))))
   (@aF _ _ _ (@aS _ _ _ _ (aZ (aA (@aI _ _ _ _ _ _ _ aG (pv 6) aB (fun _ _=>rfl)) (aA (pv 7) aC))))))))))),?_⟩
 walk_at "kx"
 have xl:=ru.length
 have nl:=rn.length
 have ly:=ty.lv_pos
 have ln:=tn.lv_pos
 have ys0:ys.length < sizeLine:=aU (by omega)
 have ns0:ns.length < sizeLine:=aU (by omega)
 have fi:∃ f:Nat,(if (L:Int) - (ns.length:Int) > 1 then (L:Int) - (ns.length:Int) else 1)=(f:Int)/\1<=f/\L<=f + tn.lv/\f + 1<=L/\f<=ty.lv/\(∀ m:Nat,1<=m->L<=m + tn.lv->f<=m):=by
  split
  ·exact ⟨L - ns.length,by omega,by omega,by omega,by omega,by omega,fun m _ _=>by omega⟩
  ·exact ⟨1,rfl,by omega,by omega,by omega,by omega,fun m _ _=>by omega⟩
 obtain ⟨f,ef,f1,f2,f3,f4,fm⟩:=fi
 have gi:∃ g:Nat,(if (L:Int) - 1 < (ys.length:Int) then (L:Int) - 1 else (ys.length:Int))=(g:Int)/\f<=g/\g + 1<=L/\g<=ty.lv/\(∀ m:Nat,m + 1<=L->m<=ty.lv->m<=g):=by
  split
  ·exact ⟨L - 1,by omega,by omega,by omega,by omega,fun m _ _=>by omega⟩
  ·exact ⟨ys.length,rfl,by omega,by omega,by omega,fun m _ _=>by omega⟩
 obtain ⟨g,eg,g1,g2,g3,gm⟩:=gi
 refine aP (fun σ' H'=>Iv (H'=H/\σ' = [some (.ref a),some (.ref b),some (.int (L:Int)),some (.int (f:Int)),none,none,none,none])) (fun _ _ _=>?_) ?_
 ·walk_at "rd"
  rw [ef]
  exact ⟨⟨rfl,rfl⟩⟩
 rintro J Z σ' H' ⟨⟨rfl,rfl⟩⟩
 refine Z _ _ ?_
 clear Z
 refine aP (fun σ' H1=>Iv (H1=H'/\σ' = [some (.ref a),some (.ref b),some (.int (L:Int)),some (.int (f:Int)),some (.int (g:Int)),none,none,none])) (fun _ _ _=>?_) ?_
 ·walk_at "rd"
  rw [eg]
  exact ⟨⟨rfl,rfl⟩⟩
 rintro J Z σ' H ⟨⟨rfl,rfl⟩⟩
 refine Z _ _ ?_
 clear Z
 have at_u:∀ m:Nat,1<=m->m<=ty.lv->∃ p l u,gP ys ((m:Int) - 1)=some (.ref p)/\us[m - 1]? = some u/\H p=some (.tup [.int u.1,.ref l])/\H l=some (.lst (u.2.map V.str)):=fun m h1 h2=>by
  obtain ⟨p,l,u,ex,eu,hp,hl⟩:=ru.get (List.getElem?_eq_getElem (show m - 1 < ys.length by omega))
  refine ⟨p,l,u,?_,eu,hp,hl⟩
  rw [<- ex,show (m:Int) - 1=((m - 1:Nat) : Int) by omega]
  exact cX (List.getElem?_eq_getElem _)
 have at_w:∀ m:Nat,1<=m->m<=tn.lv->∃ p l u,gP ns ((m:Int) - 1)=some (.ref p)/\ws[m - 1]? = some u/\H p=some (.tup [.int u.1,.ref l])/\H l=some (.lst (u.2.map V.str)):=fun m h1 h2=>by
  obtain ⟨p,l,u,ex,eu,hp,hl⟩:=rn.get (List.getElem?_eq_getElem (show m - 1 < ns.length by omega))
  refine ⟨p,l,u,?_,eu,hp,hl⟩
  rw [<- ex,show (m:Int) - 1=((m - 1:Nat) : Int) by omega]
  exact cX (List.getElem?_eq_getElem _)
 refine aP (fun σ' H1=>Iv (∃ (pp:Addr) (cs:List (Addr × Int × Int)),aN H H1/\H1 pp=some (.lst (cs.map fun c=>V.ref c.1))/\(∀ c∈cs,H1 c.1=some (.tup [.int c.2.1,.int c.2.2]))/\cs.length=g + 1 - f/\(∀ (i:Nat) c,cs[i]? = some c->∃ u v,us[f + i - 1]? = some u/\ws[L - (f + i) - 1]? = some v/\c.2.1=u.1 + v.1/\c.2.2=((f + i:Nat) : Int))/\σ' = [some (.ref a),some (.ref b),some (.int (L:Int)),some (.int (f:Int)),some (.int (g:Int)),some (.ref pp),none,none])) (fun _ _ _=>?_) ?_
 ·walk_at "rd"
  rw [show ((g:Int) + 1 - (f:Int)).toNat=g + 1 - f by omega]
  refine wO (lo:=(f:Int)) (n:=g + 1 - f) (fun i xs H1=>Iv (∃ cs:List (Addr × Int × Int),aN H H1/\xs=cs.map (fun c=>V.ref c.1)/\(∀ c∈cs,H1 c.1=some (.tup [.int c.2.1,.int c.2.2]))/\cs.length=i/\(∀ (i:Nat) c,cs[i]? = some c->∃ u v,us[f + i - 1]? = some u/\ws[L - (f + i) - 1]? = some v/\c.2.1=u.1 + v.1/\c.2.2=((f + i:Nat) : Int)))) ⟨⟨[],aN.refl _,rfl,fun c hc=>(by cases hc),rfl,fun i c hc=>(by cases hc)⟩⟩ (fun i xs H1 hi z=>?_) ?_ ?_
  ·obtain ⟨⟨cs,_,rfl,_,e,_⟩⟩:=z
   rw [List.length_map]
   exact aU (by omega)
  ·rintro i xs H1 hi ⟨⟨cs,S1,rfl,ht,el,hc⟩⟩
   have e0:(f:Int) + (i:Int)=((f + i:Nat) : Int):=by omega
   obtain ⟨p1,l1,u,x1,u1,hp1,hl1⟩:=at_u (f + i) (by omega) (by omega)
   obtain ⟨p2,l2,v,x2,u2,hp2,hl2⟩:=at_w (L - (f + i)) (by omega) (by omega)
   rw [show ((L - (f + i) : Nat) : Int) - 1=(L:Int) - ((f + i:Nat) : Int) - 1 by omega] at x2
   have ha1:=S1 _ _ ha
   have hb1:=S1 _ _ hb
   have hp1:=S1 _ _ hp1
   have hp2:=S1 _ _ hp2
   walk_at "rd"
   rename_i p hp
   refine ⟨⟨cs ++ [(p,u.1 + v.1,((f + i:Nat) : Int))],S1.new hp _,by rw [List.map_append]; rfl,fun c hcm=>?_,by rw [List.length_append,el]; rfl,fun j c hj=>?_⟩⟩
   ·rcases List.mem_append.mp hcm with hcm | hcm
    ·exact kp (ht c hcm) hp
    ·rw [List.mem_singleton.mp hcm,<- e0]
     exact aE
   ·rw [List.getElem?_append] at hj
    split at hj
    ·exact hc j c hj
    ·rename_i hlt
     have e1:j - cs.length=0:=by
      rcases Nat.eq_zero_or_pos (j - cs.length) with z | z
      ·exact z
      ·rw [List.getElem?_eq_none (by rw [List.length_singleton]; omega)] at hj
       cases hj
     rw [e1] at hj
     obtain rfl:=Option.some.inj hj
     obtain rfl:j=i:=by omega
     exact ⟨u,v,u1,u2,rfl,rfl⟩
  ·rintro xs H1 ⟨⟨cs,S1,rfl,ht,el,hc⟩⟩ z hz
   walk_at "rd"
   exact ⟨⟨z,cs,S1.new hz _,aE,fun c hcm=>kp (ht c hcm) hz,el,hc,rfl⟩⟩
 rintro J Z σ' H1 ⟨⟨pp,cs,S1,hpp,ht,el,hc,rfl⟩⟩
 refine Z _ _ ?_
 clear Z
 have ha:=S1 _ _ ha
 have hb:=S1 _ _ hb
 have ne:cs ≠ []:=fun e=>by rw [e] at el; have:(0:Nat)=g + 1 - f:=el; omega
 refine aP (fun σ' H2=>Iv (∃ (fa:Addr) (m:Nat) (u v:Int × List Str),H2=H1/\H1 fa=some (.tup [.int (u.1 + v.1),.int (m:Int)])/\f<=m/\m<=g/\us[m - 1]? = some u/\ws[L - m - 1]? = some v/\(∀ (m':Nat) u' v',f<=m'->m'<=g->us[m' - 1]? = some u'->ws[L - m' - 1]? = some v'->u.1 + v.1<=u'.1 + v'.1)/\σ' = [some (.ref a),some (.ref b),some (.int (L:Int)),some (.int (f:Int)),some (.int (g:Int)),some (.ref pp),some (.ref fa),none])) (fun _ _ _=>?_) ?_
 ·walk_at "rd"
  rename_i n hn low
  obtain ⟨i,hi⟩:=List.getElem?_of_mem hn
  have il:=(List.getElem?_eq_some_iff.mp hi).1
  obtain ⟨u,v,u1,u2,e1,e2⟩:=hc i n hi
  have hn1:=ht n hn
  rw [e1,e2] at hn1
  refine ⟨⟨n.1,f + i,u,v,rfl,hn1,by omega,by omega,u1,u2,fun m' u' v' h1 h2 x1 x2=>?_,rfl⟩⟩
  have hx:=List.getElem?_eq_getElem (show m' - f < cs.length by omega)
  have lo:=low _ (List.mem_of_getElem? hx)
  obtain ⟨u3,v3,y1,y2,e3,_⟩:=hc _ _ hx
  rw [show f + (m' - f)=m' by omega] at y1 y2
  rw [x1] at y1
  rw [x2] at y2
  obtain rfl:=Option.some.inj y1
  obtain rfl:=Option.some.inj y2
  rw [e1,e3] at lo
  exact lo
 rintro J Z σ' H2 ⟨⟨fa,m,u,v,rfl,hfa,m1,m2,hu,hv,low,rfl⟩⟩
 refine Z _ _ ?_
 clear Z
 clear hc ht hpp
 obtain ⟨p1,l1,u',x1,y1,hp1,hl1⟩:=at_u m (by omega) (by omega)
 obtain ⟨p2,l2,v',x2,y2,hp2,hl2⟩:=at_w (L - m) (by omega) (by omega)
 rw [hu] at y1
 rw [hv] at y2
 obtain rfl:=Option.some.inj y1
 obtain rfl:=Option.some.inj y2
 rw [show ((L - m:Nat) : Int) - 1=(L:Int) - (m:Int) - 1 by omega] at x2
 have hp1:=S1 _ _ hp1
 have hl1:=S1 _ _ hl1
 have hp2:=S1 _ _ hp2
 have hl2:=S1 _ _ hl2
 have gu1:=gu _ _ hu
 have gv1:=gw _ _ hv
 have res:∀ w,Rg (.fk w ty tn) (L - 1) (u.1 + v.1,pf "n" v.2 ++ pf "y" u.2):=fun w=>by
  have:=Rg.fk (w:=w) gu1 gv1 fun a b s1 s2 h1 h2 e=>?_
  ·rw [show L - 1=m - 1 + (L - m - 1) + 1 by omega]
   exact this
  ·have b1:=h1.bd
   have b2:=h2.bd
   have fa:=fm a (by omega) (by omega)
   have ga:=gm a (by omega) (by omega)
   have z1:=List.getElem?_eq_getElem (show a - 1 < us.length by omega)
   have z2:=List.getElem?_eq_getElem (show L - a - 1 < ws.length by omega)
   have lo:=low a _ _ fa ga z1 z2
   have r1:=(gu _ _ z1).low s1 (by rw [show a - 1 + 1=a by omega]; exact h1)
   have r2:=(gw _ _ z2).low s2 (by rw [show L - a - 1 + 1=b by omega]; exact h2)
   omega
 have lu2:=gu1.len
 have lv2:=gv1.len
 have sv:(v.2.map V.str).length=v.2.length:=List.length_map _
 have su:(u.2.map V.str).length=u.2.length:=List.length_map _
 have en:("n" : Str).length=1:=by decide +kernel
 have ey:("y" : Str).length=1:=by decide +kernel
 have tyd:=ty.dp_lt
 have tnd:=tn.dp_lt
 have e00:("" : Str).length=0:=by decide +kernel
 have wu:=gu1.ps.wd
 have wv:=gv1.ps.wd
 rw [e00] at wu wv
 refine aP (fun σ' H3=>Iv (∃ (z:Addr),aN H2 H3/\H2 z=none/\H3 z=some (.lst ((pf "n" v.2).map V.str))/\σ' = [some (.ref a),some (.ref b),some (.int (L:Int)),some (.int (f:Int)),some (.int (g:Int)),some (.ref pp),some (.ref fa),some (.ref z)])) (fun _ _ _=>?_) ?_
 ·walk_at "rd"
  refine c7 (K:=K) (a:=l2) (xs:=v.2.map V.str) (fun i ys H'=>Iv (H'=H2/\ys=(pf "n" (v.2.take i)).map V.str)) ⟨⟨rfl,rfl⟩⟩ (fun i ys H' hi z=>⟨c6.of (by rw [z.o.1]; exact hl2),?_⟩) ?_ ?_
  ·rw [z.o.2,pf,List.length_map,List.length_map,List.length_take]
   exact aU (by omega)
  ·rintro i x ys H' hi ⟨⟨rfl,rfl⟩⟩
   have il:=(List.getElem?_eq_some_iff.mp hi).1
   rw [List.getElem?_map] at hi
   obtain ⟨x,hx,rfl⟩:=Option.map_eq_some_iff.mp hi
   have xl:=wv x (List.mem_of_getElem? hx)
   have xz:("n" : Str).length + x.length<=sizeLine:=jM (by omega)
   walk_at "rd"
   refine ⟨⟨rfl,?_⟩⟩
   rw [List.take_add_one,hx,pf,pf,List.map_append,List.map_append]
   rfl
  ·rintro ys H' ⟨⟨rfl,rfl⟩⟩ z hz
   rw [sv,List.take_length]
   walk_at "rd"
   exact ⟨⟨z,aM hz _,hz,aE,rfl⟩⟩
 rintro J Z σ' H3 ⟨⟨z,S2,fz,hz,rfl⟩⟩
 refine Z _ _ ?_
 clear Z
 have ha:=S2 _ _ ha
 have hb:=S2 _ _ hb
 have hfa0:=hfa
 have hfa:=S2 _ _ hfa
 have hp1:=S2 _ _ hp1
 have hl1:=S2 _ _ hl1
 refine aP (fun σ' H4=>Iv (aN H2 H4/\H4 z=some (.lst ((pf "n" v.2 ++ pf "y" u.2).map V.str))/\σ' = [some (.ref a),some (.ref b),some (.int (L:Int)),some (.int (f:Int)),some (.int (g:Int)),some (.ref pp),some (.ref fa),some (.ref z)])) (fun _ _ _=>?_) ?_
 ·walk_at "rd"
  refine c7 (K:=K) (a:=l1) (xs:=u.2.map V.str) (fun i ys H'=>Iv (H'=H3/\ys=(pf "y" (u.2.take i)).map V.str)) ⟨⟨rfl,rfl⟩⟩ (fun i ys H' hi z=>⟨c6.of (by rw [z.o.1]; exact hl1),?_⟩) ?_ ?_
  ·rw [z.o.2,pf,List.length_map,List.length_map,List.length_take]
   exact aU (by omega)
  ·rintro i x ys H' hi ⟨⟨rfl,rfl⟩⟩
   have il:=(List.getElem?_eq_some_iff.mp hi).1
   rw [List.getElem?_map] at hi
   obtain ⟨x,hx,rfl⟩:=Option.map_eq_some_iff.mp hi
   have xl:=wu x (List.mem_of_getElem? hx)
   have xz:("y" : Str).length + x.length<=sizeLine:=jM (by omega)
   walk_at "rd"
   refine ⟨⟨rfl,?_⟩⟩
   rw [List.take_add_one,hx,pf,pf,List.map_append,List.map_append]
   rfl
  ·rintro ys H' ⟨⟨rfl,rfl⟩⟩ z2 hz2
   rw [su,List.take_length]
   have hz3:=kp hz hz2 (u:=.lst ((pf "y" u.2).map V.str))
   have zz:((pf "n" v.2).map V.str).length + ((pf "y" u.2).map V.str).length<=sizeLine:=jM (by rw [List.length_map,List.length_map,pf,pf,List.length_map,List.length_map]; omega)
   walk_at "rd"
   rw [<- List.map_append]
   exact ⟨⟨(S2.new hz2 _).upd fz _,aE,rfl⟩⟩
 rintro J Z σ' H4 ⟨⟨S4,hz4,rfl⟩⟩
 refine Z _ _ ?_
 clear Z
 have hfa:=S4 _ _ hfa0
 walk_at "rd"
 rename_i p hp
 exact q _ p z (u.1 + v.1,pf "n" v.2 ++ pf "y" u.2) ((S1.trans S4).new hp _) aE (kp hz4 hp) res
theorem ok_j70 (T:Tx K mg) : FnOk P w K mg base (cK P w) (0 + 2) T.f_j7 T.d_j7 ["whole"] (fV K 0):=by
 have sc:=sc_j7
 refine T.F_j7.okx sc (fun vs H Q E h=>?_) (fun cdv A outer s H vs Q E hr h=>?_)
 ·obtain ⟨v,t,rfl,tv,td,tl,q⟩:=h
  rfl
 obtain ⟨v,t,rfl,tv,td,tl,q⟩:=h
 have hu:=hr.units0
 have hu2:=hr.units
 have hu1:=Nat.lt_of_le_of_lt (Nat.add_le_add_left (show 1<=64 by decide) _) hu2
 refine ⟨_,(@aD _ _ _ _ _ (@aO _ _ _ (@aK _ _ 1 _ _ _ _ sc.nd rfl (by walk_at "o1") (@cD _ _ _ _ (aA (aZ (aA (@aI _ _ _ _ _ _ _ aG (pv 0) aB (fun _ _=>rfl)) (aA (@cD _ _ _ _ (aA bA aC dI)) aC))) aC)) (by rfl) (by walk_at "o2")))
   (@aD _ _ _ _ _ (@bY _ _ _ _ _ _ _ _ (@aX _ _ _ _ _ _ _ _ dC (@aI _ _ _ _ _ _ _ aG (pv 0) aB (fun _ _=>rfl)) bA (bB _)) (@aD _ _ _ _ _ cR
   (@aD _ _ _ _ _ cR
   (@aF _ _ _ (cS dS rfl (gK rfl T.z_range (aA aB (aA (@aJ _ _ _ _ _ _ _ _ cG (@aJ _ _ _ _ _ _ _ _ cG (aV aT rfl T.z_len bZ (aA (pv 2) aC)) (aV aT rfl T.z_len bZ (aA (pv 3) aC))) aB) aC))) (aY (i:=4) sc.nd rfl (by walk_at "o1"))
   (@aF _ _ _ (cW (dU PySem.F.plainAttrs_list PySem.F.slot_list_append PySem.F.type_list_append cV (pv 1) (aA (aH (ok_qO T) (hr.mono (by decide)) rfl T.m_qO T.F_qO.kp T.b_qO .nil (aL fun _ _ z=>z) (aA (pv 2) (aA (pv 3) (aA (pv 4) aC)))) aC)))))))) bD)
   (@aF _ _ _ (@aS _ _ _ _ (pv 1))))),?_⟩
 walk_at "kx"
 cases t with
 | en w =>
  obtain ⟨p,rfl,hp⟩:=TV.en tv
  have e0:("" : Str).length=0:=by decide +kernel
  refine aP (fun σ' H1=>Iv (∃ (z p1 l1:Addr),aN H H1/\H z=none/\H1 z=some (.lst [.ref p1])/\H1 p1=some (.tup [.int w,.ref l1])/\H1 l1=some (.lst [.str ""])/\σ' = [some (.ref p),some (.ref z),none,none,none])) (fun _ _ _=>?_) ?_
  ·walk_at "rd"
   rename_i l1 hl1 p1 hp1 z hz
   exact ⟨⟨z,p1,l1,((aM hl1 _).new hp1 _).new hz _,((aM hl1 _).new hp1 _).free hz,aE,kp aE hz,kp (kp aE hp1) hz,rfl⟩⟩
  rintro J Z σ' H1 ⟨⟨z,p1,l1,S1,fz,hz,hp1,hl1,rfl⟩⟩
  refine Z _ _ ?_
  clear Z
  have hp:=S1 _ _ hp
  walk_at "rd"
  exact q _ z [.ref p1] [(w,[("" : Str)])] S1 fz hz (.cons hp1 hl1 .nil) (kL.snoc (us:=[]) (fun i u hu=>by cases hu) (Rg.top (.en w))) rfl
 | fk w y n=>exact absurd td (by show ¬ max _ _ + 1<=0; omega)
theorem ok_j7S (T:Tx K mg)(d:Nat)(ih:FnOk P w K mg base (cK P w) (d + 2) T.f_j7 T.d_j7 ["whole"] (fV K d)) : FnOk P w K mg base (cK P w) (d + 1 + 2) T.f_j7 T.d_j7 ["whole"] (fV K (d + 1)):=by
 have sc:=sc_j7
 refine T.F_j7.okx sc (fun vs H Q E h=>?_) (fun cdv A outer s H vs Q E hr h=>?_)
 ·obtain ⟨v,t,rfl,tv,td,tl,q⟩:=h
  rfl
 obtain ⟨v,t,rfl,tv,td,tl,q⟩:=h
 have hu:=hr.units0
 have hu2:=hr.units
 have hu1:=Nat.lt_of_le_of_lt (Nat.add_le_add_left (show 1<=64 by decide) _) hu2
 refine ⟨_,(@aD _ _ _ _ _ (@aO _ _ _ (@aK _ _ 1 _ _ _ _ sc.nd rfl (by walk_at "o1") (@cD _ _ _ _ (aA (aZ (aA (@aI _ _ _ _ _ _ _ aG (pv 0) aB (fun _ _=>rfl)) (aA (@cD _ _ _ _ (aA bA aC dI)) aC))) aC)) (by rfl) (by walk_at "o2")))
   (@aD _ _ _ _ _ (@bY _ _ _ _ _ _ _ _ (@aX _ _ _ _ _ _ _ _ dC (@aI _ _ _ _ _ _ _ aG (pv 0) aB (fun _ _=>rfl)) bA (bB _)) (@aD _ _ _ _ _ (@aO _ _ _ (@aK _ _ 2 _ _ _ _ sc.nd rfl (by walk_at "o1") (aH ih (hr.mono (by omega)) rfl T.m_j7 T.F_j7.kp T.b_j7 .nil (aL fun _ _ z=>z) (aA (@aI _ _ _ _ _ _ _ aG (pv 0) aB (fun _ _=>rfl)) aC)) (by rfl) (by walk_at "o2")))
   (@aD _ _ _ _ _ (@aO _ _ _ (@aK _ _ 3 _ _ _ _ sc.nd rfl (by walk_at "o1") (aH ih (hr.mono (by omega)) rfl T.m_j7 T.F_j7.kp T.b_j7 .nil (aL fun _ _ z=>z) (aA (@aI _ _ _ _ _ _ _ aG (pv 0) aB (fun _ _=>rfl)) aC)) (by rfl) (by walk_at "o2")))
   (@aF _ _ _ (cS dS rfl (gK rfl T.z_range (aA aB (aA (@aJ _ _ _ _ _ _ _ _ cG (@aJ _ _ _ _ _ _ _ _ cG (aV aT rfl T.z_len bZ (aA (pv 2) aC)) (aV aT rfl T.z_len bZ (aA (pv 3) aC))) aB) aC))) (aY (i:=4) sc.nd rfl (by walk_at "o1"))
   (@aF _ _ _ (cW (dU PySem.F.plainAttrs_list PySem.F.slot_list_append PySem.F.type_list_append cV (pv 1) (aA (aH (ok_qO T) (hr.mono (by omega)) rfl T.m_qO T.F_qO.kp T.b_qO .nil (aL fun _ _ z=>z) (aA (pv 2) (aA (pv 3) (aA (pv 4) aC)))) aC)))))))) bD)
   (@aF _ _ _ (@aS _ _ _ _ (pv 1))))),?_⟩
 walk_at "kx"
 cases t with
 | en w =>
  obtain ⟨p,rfl,hp⟩:=TV.en tv
  have e0:("" : Str).length=0:=by decide +kernel
  refine aP (fun σ' H1=>Iv (∃ (z p1 l1:Addr),aN H H1/\H z=none/\H1 z=some (.lst [.ref p1])/\H1 p1=some (.tup [.int w,.ref l1])/\H1 l1=some (.lst [.str ""])/\σ' = [some (.ref p),some (.ref z),none,none,none])) (fun _ _ _=>?_) ?_
  ·walk_at "rd"
   rename_i l1 hl1 p1 hp1 z hz
   exact ⟨⟨z,p1,l1,((aM hl1 _).new hp1 _).new hz _,((aM hl1 _).new hp1 _).free hz,aE,kp aE hz,kp (kp aE hp1) hz,rfl⟩⟩
  rintro J Z σ' H1 ⟨⟨z,p1,l1,S1,fz,hz,hp1,hl1,rfl⟩⟩
  refine Z _ _ ?_
  clear Z
  have hp:=S1 _ _ hp
  walk_at "rd"
  exact q _ z [.ref p1] [(w,[("" : Str)])] S1 fz hz (.cons hp1 hl1 .nil) (kL.snoc (us:=[]) (fun i u hu=>by cases hu) (Rg.top (.en w))) rfl
 | fk w y n =>
  obtain ⟨p,u1,u2,rfl,hp,t1,t2⟩:=TV.fk tv
  have dd:max y.dp n.dp + 1<=d + 1:=td
  have ll:y.lv + n.lv<=50:=tl
  have yp:=y.lv_pos
  have np:=n.lv_pos
  have e0:("" : Str).length=0:=by decide +kernel
  refine aP (fun σ' H1=>Iv (∃ (z p1 l1:Addr),aN H H1/\H z=none/\H1 z=some (.lst [.ref p1])/\H1 p1=some (.tup [.int w,.ref l1])/\H1 l1=some (.lst [.str ""])/\σ' = [some (.ref p),some (.ref z),none,none,none])) (fun _ _ _=>?_) ?_
  ·walk_at "rd"
   rename_i l1 hl1 p1 hp1 z hz
   exact ⟨⟨z,p1,l1,((aM hl1 _).new hp1 _).new hz _,((aM hl1 _).new hp1 _).free hz,aE,kp aE hz,kp (kp aE hp1) hz,rfl⟩⟩
  rintro J Z σ' H1 ⟨⟨z,p1,l1,S1,fz,hz,hp1,hl1,rfl⟩⟩
  refine Z _ _ ?_
  clear Z
  have hp:=S1 _ _ hp
  have t1:=t1.mono S1.t
  have t2:=t2.mono S1.t
  walk_at "rd"
  refine aP (fun σ' H2=>Iv (∃ (ya:Addr) (ys:List V) (us:List (Int × List Str)),aN H1 H2/\H1 ya=none/\H2 ya=some (.lst ys)/\RVs H2 ys us/\kL y us/\us.length=y.lv/\σ' = [some (.ref p),some (.ref z),some (.ref ya),none,none])) (fun _ _ _=>?_) ?_
  ·walk_at "rd"
   rename_i H2 ya ys us S2 fy hy rv rg lu
   exact ⟨⟨ya,ys,us,S2,fy,hy,rv,rg,lu,rfl⟩⟩
  rintro J Z σ' H2 ⟨⟨ya,ys,us,S2,fy,hy,ru,gu,lu,rfl⟩⟩
  refine Z _ _ ?_
  clear Z
  have t2:=t2.mono S2.t
  have hp:=S2 _ _ hp
  refine aP (fun σ' H3=>Iv (∃ (na:Addr) (ns:List V) (ws:List (Int × List Str)),aN H2 H3/\H2 na=none/\H3 na=some (.lst ns)/\RVs H3 ns ws/\kL n ws/\ws.length=n.lv/\σ' = [some (.ref p),some (.ref z),some (.ref ya),some (.ref na),none])) (fun _ _ _=>?_) ?_
  ·walk_at "rd"
   rename_i H3 na ns ws S3 fn hn rv rg lw
   exact ⟨⟨na,ns,ws,S3,fn,hn,rv,rg,lw,rfl⟩⟩
  rintro J Z σ' H3 ⟨⟨na,ns,ws,S3,fn,hn,rn,gw,lw,rfl⟩⟩
  refine Z _ _ ?_
  clear Z
  have hz2:=S2 _ _ hz
  have nyz:ya ≠ z:=Ne.symm (bE hz fy)
  have nnz:na ≠ z:=Ne.symm (bE hz2 fn)
  have hz3:=S3 _ _ hz2
  have hy3:=S3 _ _ hy
  have ru3:=ru.mono S3
  have S03:=(S1.trans S2).trans S3
  have r0:RVs H3 [.ref p1] [(w,[("" : Str)])]:=.cons (S3 _ _ (S2 _ _ hp1)) (S3 _ _ (S2 _ _ hl1)) .nil
  have g0:kL (.fk w y n) [(w,[("" : Str)])]:=kL.snoc (us:=[]) (fun i u hu=>by cases hu) (Rg.top (.fk w y n))
  have xl:=ru3.length
  have nl:=rn.length
  have ys0:ys.length < sizeLine:=aU (by omega)
  have ns0:ns.length < sizeLine:=aU (by omega)
  walk_at "rd"
  rw [show ((ys.length:Int) + (ns.length:Int) + 1 - 2).toNat=y.lv + n.lv - 1 by omega]
  refine tR (lo:=2) (n:=y.lv + n.lv - 1) (fun i σ' H'=>Iv (∃ (xs:List V) (vs:List (Int × List Str)) (o4:Option V),aN H H'/\H' z=some (.lst (.ref p1 :: xs))/\RVs H' (.ref p1 :: xs) vs/\kL (.fk w y n) vs/\vs.length=i + 1/\H' ya=some (.lst ys)/\H' na=some (.lst ns)/\RVs H' ys us/\RVs H' ns ws/\σ' = [some (.ref p),some (.ref z),some (.ref ya),some (.ref na),o4])) ⟨⟨[],_,_,S03,hz3,r0,g0,rfl,hy3,hn,ru3,rn,rfl⟩⟩ ?_ ?_
  ·refine fun i σ' H4 hi h0=>hid fun J Z=>?_
   obtain ⟨⟨xs,vs,o4,S4,hz4,r4,g4,l4,hy4,hn4,ru4,rn4,rfl⟩⟩ :=h0
   refine Z ?_
   clear Z
   have e2:(2:Int) + (i:Int)=((i + 2:Nat) : Int):=by omega
   have vl:=r4.length
   have xs0:(V.ref p1 :: xs).length < sizeLine:=aU (by omega)
   rw [e2]
   walk_at "rd"
   rename_i H5 r l u S5 hr hl rg
   have hz5:=S5 _ _ hz4
   have od:Odd H5 z:=⟨_,hz5,fun s r e=>by cases e⟩
   have ny5:=S5 _ _ hy4
   have nn5:=S5 _ _ hn4
   have rgl:Rg (.fk w y n) vs.length u:=by rw [l4]; exact rg w
   have r6:RVs (upd H5 z (.lst ((.ref p1 :: xs) ++ [.ref r]))) (.ref p1 :: (xs ++ [V.ref r])) (vs ++ [u]):=((r4.mono S5).snoc hr hl).over od (g4.snoc rgl).ne (.lst ((.ref p1 :: xs) ++ [.ref r]))
   refine ⟨⟨xs ++ [.ref r],vs ++ [u],_,(S4.trans S5).upd fz _,?_,r6,g4.snoc rgl,by rw [List.length_append,l4]; rfl,?_,?_,(ru4.mono S5).over od gu.ne _,(rn4.mono S5).over od gw.ne _,rfl⟩⟩
   ·exact aE
   ·rw [aR nyz]; exact ny5
   ·rw [aR nnz]; exact nn5
  ·refine fun σ' H4 h0=>hid fun J Z=>?_
   obtain ⟨⟨xs,vs,o4,S4,hz4,r4,g4,l4,hy4,hn4,ru4,rn4,rfl⟩⟩ :=h0
   refine Z ?_
   clear Z
   walk_at "rd"
   exact q _ z _ vs S4 fz hz4 r4 g4 (by show vs.length=y.lv + n.lv; omega)
theorem ok_j7A (T:Tx K mg) : ∀ d:Nat,FnOk P w K mg base (cK P w) (d + 2) T.f_j7 T.d_j7 ["whole"] (fV K d):=by
 intro d
 induction d with
 | zero=>exact ok_j70 T
 | succ d ih=>exact ok_j7S T d ih
theorem ok_j7 (T:Tx K mg) : FnOk P w K mg base (cK P w) (20 + 2) T.f_j7 T.d_j7 ["whole"] (fV K 20):=by exact ok_j7A T 20
theorem ok_j3 (T:Tx K mg) : FnOk P w K mg base (cK P w) 23 T.f_j3 T.d_j3 ["tree"] (sN K):=by
 have sc:=sc_j3
 refine T.F_j3.okx sc (fun vs H Q E h=>?_) (fun cdv A outer s H vs Q E hr h=>?_)
 ·obtain ⟨v,t,B,rfl,tv,lt,td,b0,bz,tb,q⟩:=h
  rfl
 obtain ⟨v,t,B,rfl,tv,lt,td,b0,bz,tb,q⟩:=h
 have hu:=hr.units0
 have hu2:=hr.units
 have hu1:=Nat.lt_of_le_of_lt (Nat.add_le_add_left (show 1<=64 by decide) _) hu2
 refine ⟨_,(@aD _ _ _ _ _ (@aO _ _ _ (@aK _ _ 1 _ _ _ _ sc.nd rfl (by walk_at "o1") (aH (lE T) (hr.mono (by decide)) rfl T.m_q3 T.F_q3.kp T.b_q3 .nil (aL fun _ _ z=>z) (aA (pv 0) aC)) (by rfl) (by walk_at "o2")))
   (@aD _ _ _ _ _ (@aK _ _ 2 _ _ _ _ sc.nd rfl (by walk_at "o1") (aZ (aA aB (aA aB aC))) (by rfl) (by walk_at "o2"))
   (@aD _ _ _ _ _ (@aO _ _ _ (@aK _ _ 3 _ _ _ _ sc.nd rfl (by walk_at "o1") (@cD _ _ _ _ aC) (by rfl) (by walk_at "o2")))
   (@aD _ _ _ _ _ (@aO _ _ _ (@aK _ _ 4 _ _ _ _ sc.nd rfl (by walk_at "o1") (@cD _ _ _ _ aC) (by rfl) (by walk_at "o2")))
   (@aD _ _ _ _ _ (cS dS rfl (bL (aH (ok_j7 T) (hr.mono (by decide)) rfl T.m_j7 T.F_j7.kp T.b_j7 .nil (aL fun _ _ z=>z) (aA (aH (ok_q4 T) (hr.mono (by decide)) rfl T.m_q4 T.F_q4.kp T.b_q4 .nil (aL fun _ _ z=>z) (aA (pv 0) aC)) aC))) (aY (i:=5) sc.nd rfl (by walk_at "o1"))
   (@aD _ _ _ _ _ (@aO _ _ _ (@aK _ _ 6 _ _ _ _ sc.nd rfl (by walk_at "o1") (@aI _ _ _ _ _ _ _ aG (pv 5) aB (fun _ _=>rfl)) (by rfl) (by walk_at "o2")))
   (@aD _ _ _ _ _ (@aO _ _ _ (@aK _ _ 2 _ _ _ _ sc.nd rfl (by walk_at "o1") (aH (ok_q6 T) (hr.mono (by decide)) rfl T.m_q6 T.F_q6.kp T.b_q6 .nil (aL fun _ _ z=>z) (aA (pv 1) (aA (pv 2) (aA (pv 3) (aA (pv 6) aC))))) (by rfl) (by walk_at "o2")))
   (@aD _ _ _ _ _ (cW (dU PySem.F.plainAttrs_list PySem.F.slot_list_append PySem.F.type_list_append cV (pv 4) (aA (aZ (aA (aV aT rfl T.z_len bZ (aA (pv 6) aC)) (aA (pv 2) (aA (pv 6) aC)))) aC)))
   (@aF _ _ _ (@aO _ _ _ (@aK _ _ 3 _ _ _ _ sc.nd rfl (by walk_at "o1") (pv 6) (by rfl) (by walk_at "o2"))))))))
   (@aF _ _ _ (@aS _ _ _ _ (pv 4)))))))),?_⟩
 walk_at "kx"
 have lt30:t.lv<=30:=by omega
 have ld:=t.lv_pos
 refine aP (fun σ' H1=>Iv (∃ (d:Addr) (kvs:List (bG × V)) (es:List (Str × Tr)),aN H H1/\H1 d=some (.dK kvs)/\DT K B H1 kvs es/\es.Perm (fP t "")/\σ' = [some v,some (.ref d),none,none,none,none,none])) (fun _ _ _=>?_) ?_
 ·walk_at "rd"
  rename_i H1 d kvs es S1 fd hd dt pm
  exact ⟨⟨d,kvs,es,S1,hd,dt,pm,rfl⟩⟩
 rintro J Z σ' H1 ⟨⟨d,kvs,es,S1,hd,dt,pm,rfl⟩⟩
 refine Z _ _ ?_
 clear Z
 have tv1:=tv.mono S1.t
 walk_at "rd"
 rename_i c hc
 have Sc1:=aM hc (H:=H1) (.tup [.int 0,.int 1])
 have hc1:upd H1 c (.tup [.int 0,.int 1]) c=some (rt (Rat.divInt 0 B)):=by rw [z9]; exact aE
 generalize upd H1 c (.tup [.int 0,.int 1])=H1' at Sc1 hc1 ⊢
 refine aP (fun σ' H2=>Iv (∃ (ba:Addr),aN H1' H2/\H2 ba=some (.lst (([] : List Str).map V.str))/\σ' = [some v,some (.ref d),some (.ref c),some (.ref ba),none,none,none])) (fun _ _ _=>?_) ?_
 ·walk_at "rd"
  rename_i ba hba
  exact ⟨⟨ba,aM hba _,aE,rfl⟩⟩
 rintro J Z σ' H2 ⟨⟨ba,S2',hba,rfl⟩⟩
 refine Z _ _ ?_
 clear Z
 have S2:=Sc1.trans S2'
 have hc:=S2' _ _ hc1
 refine aP (fun σ' H3=>Iv (∃ (z:Addr),aN H2 H3/\H2 z=none/\H3 z=some (.lst [])/\σ' = [some v,some (.ref d),some (.ref c),some (.ref ba),some (.ref z),none,none])) (fun _ _ _=>?_) ?_
 ·walk_at "rd"
  rename_i z hz
  exact ⟨⟨z,aM hz _,hz,aE,rfl⟩⟩
 rintro J Z σ' H3 ⟨⟨z,S3,fz,hz,rfl⟩⟩
 refine Z _ _ ?_
 clear Z
 have tv3:=(tv1.mono S2.t).mono S3.t
 have fz0:H z=none:=(S1.trans S2).free fz
 have nbz:ba ≠ z:=bE hba fz
 walk_at "rd"
 rename_i H4 x t' C S4 tx sc c0 cb tb'
 have l1:=sc.lv
 have d1:=sc.dp
 walk_at "rd"
 rename_i H5 r xs us S5 fr hr rv rg lu
 have S35:=S4.trans S5
 have nrz:r ≠ z:=Ne.symm (bE (S4 _ _ hz) fr)
 have xl:=rv.length
 refine c5 (K:=K) (a:=r) (xs:=xs) (fun i σ' H'=>Iv (∃ (c ba:Addr) (zs:List V) (ws:List (Int × List Str)) (bs:List Str) (o5 o6:Option V),aN H H'/\H' d=some (.dK kvs)/\DT K B H' kvs es/\H' r=some (.lst xs)/\RVs H' xs us/\H' c=some (rt (Rat.divInt (c8 t bs) B))/\H' ba=some (.lst (bs.map V.str))/\ba ≠ z/\(bs = []\/∃ gs,PI t "" bs gs)/\H' z=some (.lst zs)/\LDs B H' zs ws/\kL t ws/\ws.length=i/\σ' = [some v,some (.ref d),some (.ref c),some (.ref ba),some (.ref z),o5,o6])) ⟨⟨c,ba,[],[],[],_,_,((S1.trans S2).trans S3).trans S35,S35 _ _ (S3 _ _ (S2 _ _ hd)),dt.mono (((S2.trans S3).trans S35).t),hr,rv,S35 _ _ (S3 _ _ hc),S35 _ _ (S3 _ _ hba),nbz,.inl rfl,S35 _ _ hz,.nil,fun i u hu=>(by cases hu),rfl,rfl⟩⟩ (fun i σ' H' _ y=>by obtain ⟨⟨_,_,_,_,_,_,_,_,_,_,k,_⟩⟩:=y; exact c6.of k) ?_ ?_
 ·refine fun i y σ' H6 hx h0=>hid fun J Z=>?_
  obtain ⟨⟨c,ba,zs,ws,bs,o5,o6,S6,hd6,dt6,hr6,rv6,hc6,hba6,nbz,hbs,hz6,lv6,gw,lw,rfl⟩⟩ :=h0
  refine Z ?_
  clear Z
  obtain ⟨p,l,u,rfl,hu,hp,hl⟩:=rv6.get hx
  have il:=(List.getElem?_eq_some_iff.mp hu).1
  have ru:=rg i u hu
  obtain ⟨s,rs⟩:=sc.rg b0 c0 ru
  obtain ⟨gs,pi⟩:=rs.ps.pi
  have es_:s=c8 t u.2:=rs.ps.sum (W:=wA t) eO
  have ul:=rs.len
  have ul64:u.2.length < 64:=by show u.2.length < 64; have:u.2.length=i + 1:=ul; omega
  have cO:u.2.Nodup:=hV pi.up
  have ukn:∀ x∈u.2,x∈(dG t "").map (·.1):=pi.kn
  have bnd:bs.Nodup/\bs.length < 64/\(∀ x∈bs,x∈(dG t "").map (·.1)) /\ -10000000000000000000000000000000000<=c8 t bs/\c8 t bs<=10000000000000000000000000000000000:=by
   rcases hbs with rfl | ⟨gs2,pi2⟩
   ·exact ⟨List.nodup_nil,by decide,fun x hx=>(by cases hx),(show -10000000000000000000000000000000000<=(0:Int) by decide),(show (0:Int)<=10000000000000000000000000000000000 by decide)⟩
   ·have pl2:=pi2.len.1
    have:=m8 tb pi2 (by omega)
    exact ⟨hV pi2.up,by omega,pi2.kn,this.1,this.2⟩
  obtain ⟨b1,b2,b3,b4,b5⟩:=bnd
  refine aP (fun σ' H7=>Iv (H7=H6/\σ' = [some v,some (.ref d),some (.ref c),some (.ref ba),some (.ref z),some (.ref p),some (.ref l)])) (fun _ _ _=>?_) ?_
  ·walk_at "rd"
   exact ⟨⟨rfl,rfl⟩⟩
  rintro J Z σ' H7 ⟨⟨rfl,rfl⟩⟩
  refine Z _ _ ?_
  clear Z
  refine aP (fun σ' H8=>Iv (∃ (c2:Addr),aN H7 H8/\H8 c2=some (rt (Rat.divInt (c8 t u.2) B))/\σ' = [some v,some (.ref d),some (.ref c2),some (.ref ba),some (.ref z),some (.ref p),some (.ref l)])) (fun _ _ _=>?_) ?_
  ·walk_at "rd"
   rename_i H8 c2 S8 hc8
   rw [show c8 t bs - ((oJ bs u.2).map (wA t)).sum + ((oJ u.2 bs).map (wA t)).sum=c8 t u.2 from pG (wA t) b1 cO] at hc8
   walk_at "rd"
   exact ⟨⟨c2,S8,hc8,rfl⟩⟩
  rintro J Z σ' H8 ⟨⟨c2,S8,hc8,rfl⟩⟩
  refine Z _ _ ?_
  clear Z
  have hz8:=S8 _ _ hz6
  have hl8:=S8 _ _ hl
  have zl:=lv6.length
  have zs0:zs.length < sizeLine:=aU (by omega)
  have ls0:(u.2.map V.str).length < sizeLine:=aU (by rw [List.length_map]; omega)
  have eul:(u.2.map V.str).length=u.2.length:=List.length_map _
  walk_at "rd"
  rename_i pp hpp
  subst es_
  rw [eul]
  have hpp1:=aE (H:=H8) (a:=pp) (o:=.tup [.int (u.2.length:Int),.ref c2,.ref l])
  have Sn:=aM hpp (H:=H8) (.tup [.int (u.2.length:Int),.ref c2,.ref l])
  generalize upd H8 pp (.tup [.int (u.2.length:Int),.ref c2,.ref l])=H9 at hpp1 Sn ⊢
  have S79:=S8.trans Sn
  have hz9:=Sn _ _ hz8
  have lv9:=lv6.mono S79
  have od9:=lv9.odd hz9
  have hl9:=Sn _ _ hl8
  have hc9:=Sn _ _ hc8
  have une:u.2 ≠ []:=fun e=>by rw [e] at ul; cases ul
  have nlz:=od9.lst hl9 une
  have ndz:d ≠ z:=fun e=>by rw [e,hz6] at hd6; cases hd6
  have rs2:Rg t ws.length (c8 t u.2,u.2):=by rw [lw]; exact rs
  have gw2:=gw.snoc rs2
  have lv10:=(lv9.snoc (u:=(c8 t u.2,u.2)) hpp1 hc9 hl9).over od9 gw2.ne (.lst (zs ++ [.ref pp]))
  have hd10:upd H9 z (.lst (zs ++ [.ref pp])) d=some (.dK kvs):=by rw [aR ndz]; exact S79 _ _ hd6
  have hr10:upd H9 z (.lst (zs ++ [.ref pp])) r=some (.lst xs):=by rw [aR nrz]; exact S79 _ _ hr6
  have hc10:upd H9 z (.lst (zs ++ [.ref pp])) c2=some (rt (Rat.divInt (c8 t u.2) B)):=by rw [aR (od9.tup hc9)]; exact hc9
  have hl10:upd H9 z (.lst (zs ++ [.ref pp])) l=some (.lst (u.2.map V.str)):=by rw [aR nlz]; exact hl9
  have rv10:=(rv6.mono S79).over od9 rg.ne (.lst (zs ++ [.ref pp]))
  have dt10:=dt6.mono (S79.t.lst hz9 (.lst (zs ++ [.ref pp])))
  have hz10:=aE (H:=H9) (a:=z) (o:=.lst (zs ++ [.ref pp]))
  have S10:=(S6.trans S79).upd fz0 (.lst (zs ++ [.ref pp]))
  generalize upd H9 z (.lst (zs ++ [.ref pp]))=H10 at lv10 hd10 hr10 hc10 hl10 rv10 dt10 hz10 S10 ⊢
  refine aP (fun σ' H11=>Iv (H11=H10/\σ' = [some v,some (.ref d),some (.ref c2),some (.ref l),some (.ref z),some (.ref p),some (.ref l)])) (fun _ _ _=>?_) ?_
  ·walk_at "rd"
   exact ⟨⟨rfl,rfl⟩⟩
  rintro J Z σ' H11 ⟨⟨rfl,rfl⟩⟩
  refine Z _ _ ?_
  clear Z
  exact ⟨⟨c2,l,_,_,u.2,_,_,S10,hd10,dt10,hr10,rv10,hc10,hl10,nlz,.inr ⟨gs,pi⟩,hz10,lv10,gw2,by rw [List.length_append,lw]; rfl,rfl⟩⟩
 ·refine fun σ' H6 h0=>hid fun J Z=>?_
  obtain ⟨⟨c,ba,zs,ws,bs,o5,o6,S6,hd6,dt6,hr6,rv6,hc6,hba6,nbz,hbs,hz6,lv6,gw,lw,rfl⟩⟩ :=h0
  refine Z ?_
  clear Z
  walk_at "rd"
  exact q _ z zs ws S6 hz6 lv6 gw (by omega)
theorem ok_qV (T:Tx K mg) : FnOk P w K mg base (cK P w) 1 T.f_qV T.d_qV ["value"] nT:=by
 have sc:=sc_qV
 refine T.F_qV.okx sc (fun vs H Q E h=>?_) (fun cdv A outer s H vs Q E hr h=>?_)
 ·obtain ⟨i,rfl,q⟩:=h
  rfl
 obtain ⟨i,rfl,q⟩:=h
 have hu:=hr.units0
 have hu2:=hr.units
 have hu1:=Nat.lt_of_le_of_lt (Nat.add_le_add_left (show 1<=64 by decide) _) hu2
 refine ⟨_,(@aF _ _ _ (@aS _ _ _ _ (vT (aV kE rfl T.z_isinstance eJ (aA (pv 0) (aA (mL (v:=.ty "int") rfl T.z_int xL rfl) aC))) (vQ (vR (aV kE rfl T.z_isinstance eJ (aA (pv 0) (aA (mL (v:=.ty "bool") rfl T.z_bool bt_bool rfl) aC)))))))),?_⟩
 walk_at "kx"
 walk_at "rd"
 exact q
theorem ok_j8 (T:Tx K mg) : FnOk P w K mg base (cK P w) 2 T.f_j8 T.d_j8 ["top", "bottom"] (uW T.c_R0):=by
 have sc:=sc_j8
 refine T.F_j8.okx sc (fun vs H Q E h=>?_) (fun cdv A outer s H vs Q E hr h=>?_)
 ·obtain ⟨t,b,rfl,bz,q⟩:=h
  rfl
 obtain ⟨t,b,rfl,bz,q⟩:=h
 have hu:=hr.units0
 have hu2:=hr.units
 have hu1:=Nat.lt_of_le_of_lt (Nat.add_le_add_left (show 1<=64 by decide) _) hu2
 refine ⟨_,(@aD _ _ _ _ _ (@bY _ _ _ _ _ _ _ _ (PW.pt (iR (gW (cZ (aH (ok_qV T) (hr.mono (by decide)) rfl T.m_qV T.F_qV.kp T.b_qV .nil (aL fun _ _ z=>z) (aA (pv 0) aC)))) (fY (gW (cZ (aH (ok_qV T) (hr.mono (by decide)) rfl T.m_qV T.F_qV.kp T.b_qV .nil (aL fun _ _ z=>z) (aA (pv 1) aC))))))) (@aF _ _ _ (nV T.x_R0 rfl (aA bA aC dI))) bD)
   (@aD _ _ _ _ _ (@bY _ _ _ _ _ _ _ _ (@aX _ _ _ _ _ _ _ _ dD (pv 1) aB (bB _)) (@aF _ _ _ (nV T.x_R0 rfl (aA bA aC dI))) bD)
   (@aD _ _ _ _ _ (@aK _ _ 2 _ _ _ _ sc.nd rfl (by walk_at "o1") (aH (oE T) (hr.mono (by decide)) rfl T.m_q1 T.F_q1.kp T.b_q1 .nil (aL fun _ _ z=>z) (aA (pv 0) (aA (pv 1) aC))) (by rfl) (by walk_at "o2"))
   (@aD _ _ _ _ _ (@bY _ _ _ _ _ _ _ _ (@aX _ _ _ _ _ _ _ _ fZ (pv 1) aB (bB _)) (@aF _ _ _ (@aK _ _ 2 _ _ _ _ sc.nd rfl (by walk_at "o1") (iS fU (pv 2)) (by rfl) (by walk_at "o2"))) bD)
   (@aF _ _ _ (@aS _ _ _ _ (aZ (aA (@aJ _ _ _ _ _ _ _ _ n6 (pv 0) (pv 2)) (aA (@aJ _ _ _ _ _ _ _ _ n6 (pv 1) (pv 2)) aC))))))))),?_⟩
 walk_at "kx"
 rcases q with ⟨hb,q⟩ | ⟨hb,q⟩
 ·subst hb
  walk_at "rd"
  exact q
 ·walk_at "rd"
  refine dX (fun c=>?_) (fun c=>?_)
  ·have cm:=cM' (t:=t) hb bz t
   have cm2:=cM' (t:=t) hb bz b
   walk_at "rd"
   exact q.neg c _ (by assumption)
  ·have cm:=cM (t:=t) hb bz t
   have cm2:=cM (t:=t) hb bz b
   walk_at "rd"
   exact q.pos (by omega) _ (by assumption)
theorem ok_jB (T:Tx K mg) : FnOk P w K mg base (cK P w) 3 T.f_jB T.d_jB ["one", "other"] (yE T.c_R0):=by
 have sc:=sc_jB
 refine T.F_jB.okx sc (fun vs H Q E h=>?_) (fun cdv A outer s H vs Q E hr h=>?_)
 ·obtain ⟨p1,p2,r1,r2,rfl,h1,h2,L1,L2',q⟩:=h
  rfl
 obtain ⟨p1,p2,r1,r2,rfl,h1,h2,L1,L2',q⟩:=h
 have hu:=hr.units0
 have hu2:=hr.units
 have hu1:=Nat.lt_of_le_of_lt (Nat.add_le_add_left (show 1<=64 by decide) _) hu2
 refine ⟨_,(@aF _ _ _ (@aS _ _ _ _ (aH (ok_j8 T) (hr.mono (by decide)) rfl T.m_j8 T.F_j8.kp T.b_j8 .nil (aL fun _ _ z=>z) (aA (@aJ _ _ _ _ _ _ _ _ bH (@aI _ _ _ _ _ _ _ aG (pv 0) aB (fun _ _=>rfl)) (@aI _ _ _ _ _ _ _ aG (pv 1) aB (fun _ _=>rfl))) (aA (@aJ _ _ _ _ _ _ _ _ bH (@aI _ _ _ _ _ _ _ aG (pv 0) aB (fun _ _=>rfl)) (@aI _ _ _ _ _ _ _ aG (pv 1) aB (fun _ _=>rfl))) aC))))),?_⟩
 walk_at "kx"
 have z1:=L1.zn
 have z2:=L1.zd
 have z3:=L2'.zn
 have z4:=L2'.zd
 have d1:=dp r1
 have d2:=dp r2
 have h1:H p1=some (rt r1):=h1
 have h2:H p2=some (rt r2):=h2
 have zb:Bz 8000 ((r1.den:Int) * r2.num):=(z2.mul z3).mono (by decide)
 walk_at "rd"
 rcases q with ⟨hz,q⟩ | ⟨hz,q⟩
 ·subst hz
  exact .inl ⟨Int.mul_zero _,q⟩
 ·refine .inr ⟨Int.mul_ne_zero (by omega) (num0 hz),?_⟩
  rw [M.div_q]
  exact q
theorem ok_qJ (T:Tx K mg) : FnOk P w K mg base (cK P w) 4 T.f_qJ T.d_qJ ["fewer", "more"] (yF K):=by
 have sc:=sc_qJ
 refine T.F_qJ.okx sc (fun vs H Q E h=>?_) (fun cdv A outer s H vs Q E hr h=>?_)
 ·obtain ⟨p1,p2,a,b,rfl,t1,t2,oa,ob,lt,q⟩:=h
  rfl
 obtain ⟨p1,p2,a,b,rfl,t1,t2,oa,ob,lt,q⟩:=h
 have hu:=hr.units0
 have hu2:=hr.units
 have hu1:=Nat.lt_of_le_of_lt (Nat.add_le_add_left (show 1<=64 by decide) _) hu2
 refine ⟨_,(@aF _ _ _ (@aS _ _ _ _ (aH (ok_jB T) (hr.mono (by decide)) rfl T.m_jB T.F_jB.kp T.b_jB .nil (aL fun _ _ z=>z) (aA (aH (v9 T) (hr.mono (by decide)) rfl T.m_j4 T.F_j4.kp T.b_j4 .nil (aL fun _ _ z=>z) (aA (@aI _ _ _ _ _ _ _ aG (pv 0) aB (fun _ _=>rfl)) (aA (@aI _ _ _ _ _ _ _ aG (pv 1) aB (fun _ _=>rfl)) aC))) (aA (aZ (aA (@aJ _ _ _ _ _ _ _ _ cF (@aI _ _ _ _ _ _ _ aG (pv 1) aB (fun _ _=>rfl)) (@aI _ _ _ _ _ _ _ aG (pv 0) aB (fun _ _=>rfl))) (aA aB aC))) aC))))),?_⟩
 walk_at "kx"
 obtain ⟨p1',q1,e1,h1,g1⟩:=TV.pt t1
 cases e1
 obtain ⟨p2',q2,e2,h2,g2⟩:=TV.pt t2
 cases e2
 have w1:Rz 700 a.2:=oa.c.mono (by decide)
 have w2:Rz 700 b.2:=ob.c.mono (by decide)
 have w3:Rz 2000 (a.2 - b.2):=(oa.c.minus ob.c (k:=401) (by decide)).mono (by decide)
 have w4:Rz 2000 ((b.1 - a.1:Int) : Rat):=rz_int ((ob.l.sub' oa.l).mono (by decide)) (by decide)
 have g1:Rt H q1 a.2:=g1
 have g2:Rt H q2 b.2:=g2
 walk_at "rd"
 rename_i r H1 hr S1 h3 z hz
 refine ⟨(kp h3 hz:Rt _ r (a.2 - b.2)),(aE:Rt _ z ((b.1 - a.1:Int) : Rat)),w3,w4,.inr ⟨even_ne lt,fun p hp=>?_⟩⟩
 exact q _ _ ((S1.new hz _).new hp _) aE
theorem ok_qC (T:Tx K mg) : FnOk P w K mg base (cK P w) 2 T.f_qC T.d_qC ["last", "price"] (pK K):=by
 have sc:=sc_qC
 refine T.F_qC.okx sc (fun vs H Q E h=>?_) (fun cdv A outer s H vs Q E hr h=>?_)
 ·obtain ⟨p1,p2,k,x,rfl,t1,h2,zx,ek,q⟩:=h
  rfl
 obtain ⟨p1,p2,k,x,rfl,t1,h2,zx,ek,q⟩:=h
 have hu:=hr.units0
 have hu2:=hr.units
 have hu1:=Nat.lt_of_le_of_lt (Nat.add_le_add_left (show 1<=64 by decide) _) hu2
 refine ⟨_,(@aD _ _ _ _ _ (@aK _ _ 2 _ _ _ _ sc.nd rfl (by walk_at "o1") (@aI _ _ _ _ _ _ _ aG (pv 0) aB (fun _ _=>rfl)) (by rfl) (by walk_at "o2"))
   (@aF _ _ _ (@aS _ _ _ _ (vT (jA op_notN (pv 2) pX (bB _)) (vQ (vR (aH (iV T) (hr.mono (by decide)) rfl T.m_j5 T.F_j5.kp T.b_j5 .nil (aL fun _ _ z=>z) (aA (pv 1) (aA (pv 2) aC))))))))),?_⟩
 walk_at "kx"
 obtain ⟨p1',q1,v,e1,h1,_,tv⟩:=TV.kp t1
 cases e1
 rcases TV.op tv with ⟨e,rfl⟩ | ⟨r,y,e,rfl,hy⟩
 ·walk_at "rd"
  rw [e] at q
  exact q
 ·have hy1:H y=some (.tup [.int r.num,.int (r.den:Int)]):=hy
  have hx1:H p2=some (.tup [.int x.num,.int (x.den:Int)]):=h2
  have u1:Bz 8000 x.num:=zx.zn.mono (by decide)
  have u2:Bz 8000 (x.den:Int):=zx.zd.mono (by decide)
  have u3:Bz 8000 r.num:=(ek r e).zn.mono (by decide)
  have u4:Bz 8000 (r.den:Int):=(ek r e).zd.mono (by decide)
  have ee:p6 (some r) x = !decide (x.num * (r.den:Int) < r.num * (x.den:Int)):=by
   show (!decide (x < r))=_
   rw [decide_eq_decide.mpr (Rat.lt_iff x r)]
  rw [e,ee] at q
  clear zx ek h2 hy t1
  walk_at "rd"
  exact q
theorem ok_qG (T:Tx K mg) : FnOk P w K mg base (cK P w) 5 T.f_qG T.d_qG ["points"] (sP K):=by
 have sc:=sc_qG
 refine T.F_qG.okx sc (fun vs H Q E h=>?_) (fun cdv A outer s H vs Q E hr h=>?_)
 ·obtain ⟨a,ps,rfl,⟨xs,ha,ht⟩,ok,q⟩:=h
  rfl
 obtain ⟨a,ps,rfl,⟨xs,ha,ht⟩,ok,q⟩:=h
 have hu:=hr.units0
 have hu2:=hr.units
 have hu1:=Nat.lt_of_le_of_lt (Nat.add_le_add_left (show 1<=64 by decide) _) hu2
 refine ⟨_,(@aD _ _ _ _ _ (@aK _ _ 1 _ _ _ _ sc.nd rfl (by walk_at "o1") (@cD _ _ _ _ aC) (by rfl) (by walk_at "o2"))
   (@aD _ _ _ _ _ (cS dS rfl (bL (pv 0)) (aY (i:=2) sc.nd rfl (by walk_at "o1"))
   (@aD _ _ _ _ _ (@aK _ _ 3 _ _ _ _ sc.nd rfl (by walk_at "o1") pX (by rfl) (by walk_at "o2"))
   (@aD _ _ _ _ _ (@aO _ _ _ (eS dS (@aX _ _ _ _ _ _ _ _ n5 (aV aT rfl T.z_len bZ (aA (pv 1) aC)) aB (bB _)) (@aD _ _ _ _ _ (@aK _ _ 3 _ _ _ _ sc.nd rfl (by walk_at "o1") (aH (ok_qJ T) (hr.mono (by decide)) rfl T.m_qJ T.F_qJ.kp T.b_qJ .nil (aL fun _ _ z=>z) (aA (@aI _ _ _ _ _ _ _ aG (@aI _ _ _ _ _ _ _ bN (pv 1) (iS fU aB) (fun _ _=>rfl)) aB (fun _ _=>rfl)) (aA (pv 2) aC))) (by rfl) (by walk_at "o2"))
   (@aD _ _ _ _ _ (@bY _ _ _ _ _ _ _ _ (gW (cZ (aH (ok_qC T) (hr.mono (by decide)) rfl T.m_qC T.F_qC.kp T.b_qC .nil (aL fun _ _ z=>z) (aA (@aI _ _ _ _ _ _ _ bN (pv 1) (iS fU aB) (fun _ _=>rfl)) (aA (pv 3) aC))))) (@aF _ _ _ vH) bD)
   (@aF _ _ _ (cW (vS PySem.F.plainAttrs_list PySem.F.slot_list_pop PySem.F.type_list_pop wH (pv 1))))))))
   (@aF _ _ _ (@bY _ _ _ _ _ _ _ _ (PW.pt (iR (@aX _ _ _ _ _ _ _ _ op_isN (pv 3) pX (bB _)) (fY (cZ (aH (iV T) (hr.mono (by decide)) rfl T.m_j5 T.F_j5.kp T.b_j5 .nil (aL fun _ _ z=>z) (aA (aZ (aA aB (aA aB aC))) (aA (pv 3) aC))))))) (@aF _ _ _ (cW (dU PySem.F.plainAttrs_list PySem.F.slot_list_append PySem.F.type_list_append cV (pv 1) (aA (aZ (aA (pv 2) (aA (pv 3) aC))) aC)))) bD)))))
   (@aF _ _ _ (@aS _ _ _ _ (pv 1))))),?_⟩
 walk_at "kx"
 have hlen:xs.length=ps.length:=by have:=ht.length; rw [List.length_map] at this; exact this
 have l60:=ok.len
 walk_at "rd"
 rename_i z hz
 refine c5 (K:=K) (a:=a) (xs:=xs) (fun i σ H'=>Iv (∃ (ys:List V) (o2 o3:Option V),σ = [some (.ref a),some (.ref z),o2,o3]/\aN H H'/\H' z=some (.lst ys)/\TVs K H' ys (((ps.take i).foldl pH []).reverse.map kpD)/\Kin (ps.take i) ((ps.take i).foldl pH [])))
  ⟨⟨[],_,_,rfl,(aN.refl H).new hz _,aE,.nil,⟨Nat.le_refl _,(fun k hk=>by cases hk),(fun k hk=>by cases hk)⟩⟩⟩ (fun i σ H' _ y=>by obtain ⟨⟨ys,o2,o3,_,S,_⟩⟩:=y; exact c6.of (S _ _ ha)) ?_ ?_
 ·refine fun i x σ H' hi h0=>hid fun J Z=>?_
  obtain ⟨⟨ys,o2,o3,rfl,S,hz',tv,kin⟩⟩ :=h0
  refine Z ?_
  clear Z
  have il:i < ps.length:=by have:=(List.getElem?_eq_some_iff.mp hi).1; omega
  obtain ⟨d,hd,tx⟩:=(ht.mono S.t).get hi
  rw [List.getElem?_map,List.getElem?_eq_getElem il] at hd
  obtain rfl:=Option.some.inj hd
  have pm:=List.getElem_mem il
  have okp:=ok.ok _ pm
  have before:∀ p∈ps.take i,p.1 < ps[i].1:=fun p hp=>by
   obtain ⟨j,hj,rfl⟩:=List.mem_iff_getElem.mp hp
   rw [List.length_take] at hj
   rw [List.getElem_take]
   exact List.pairwise_iff_getElem.mp ok.pw j i (by omega) il (by omega)
  have e:(ps.take (i + 1)).foldl pH [] = pH ((ps.take i).foldl pH []) ps[i]:=by rw [List.take_add_one,List.getElem?_eq_getElem il,List.foldl_append]; rfl
  rw [e]
  have kl:=kin.len
  rw [List.length_take] at kl
  generalize (ps.take i).foldl pH [] = ks at tv kin kl ⊢
  generalize hp:ps[i] = p at tx okp before ⊢
  obtain ⟨pa,_,rfl,_,_⟩:=TV.pt tx
  have kok:∀ k∈ks,Okp k.1/\k.1.1 < p.1/\Ek k.2:=fun k hk=>⟨ok.ok _ (List.mem_of_mem_take (kin.mem k hk)),before _ (kin.mem k hk),kin.ek k hk⟩
  walk_at "rd"
  refine aP (fun σ' H2=>Iv (∃ (ys':List V) (ks':List Kp) (c:Option Rat) (v:V),σ' = [some (.ref a),some (.ref z),some (.ref pa),some v]/\aN H H2/\bF H' H2/\H2 z=some (.lst ys')/\TVs K H2 ys' (ks'.reverse.map kpD)/\TV K H2 v (opD c)/\i5 ks p none=(ks',c)/\(∀ k∈ks',k∈ks)/\ks'.length<=ks.length/\Ek c)) (fun _ _ _=>?_) ?_
  ·refine eN (fun σ' H2=>Iv (∃ (ys':List V) (ks':List Kp) (c:Option Rat) (v:V),σ' = [some (.ref a),some (.ref z),some (.ref pa),some v]/\aN H H2/\bF H' H2/\H2 z=some (.lst ys')/\TVs K H2 ys' (ks'.reverse.map kpD)/\TV K H2 v (opD c)/\i5 ks p none=i5 ks' p c/\(∀ k∈ks',k∈ks)/\ks'.length<=ks.length/\Ek c))
    (fun _ H2=>match H2 z with | some (.lst ys')=>ys'.length | _=>0) ⟨⟨ys,ks,none,.non,rfl,S,bF.refl H',hz',tv,.non,rfl,fun k hk=>hk,Nat.le_refl _,fun r h=>by cases h⟩⟩ ?_ ?_
   ·refine fun σ' H2 h0=>hid fun J Z=>?_
    obtain ⟨⟨ys',ks',c,v,rfl,S2,T2,hz2,tv2,tc,pe,sub,le,ec⟩⟩ :=h0
    refine Z ?_
    clear Z
    have lk:ys'.length=ks'.length:=by have:=tv2.length; rw [List.length_map,List.length_reverse] at this; exact this
    walk_at "rd"
    refine dX (fun c0=>?_) (fun c0=>?_)
    ·cases ks' with
     | nil=>rw [lk] at c0; exact absurd c0 (by decide)
     | cons k ks' =>
      rw [List.reverse_cons,List.map_append] at tv2
      obtain ⟨ys',y,rfl,tv3,ty⟩:=TVs.unsnoc tv2
      obtain ⟨ka,kq,kv,rfl,hka,tk1,tk2⟩:=TV.kp ty
      obtain ⟨ok1,lt1,ek1⟩:=kok k (sub k List.mem_cons_self)
      have e9:gP (ys' ++ [V.ref ka]) (-1)=some (.ref ka):=L2.o9 _ _
      have txx:=tx.mono T2
      walk_at "rd"
      rename_i H3 r S3 h3
      have ev:=even_rz ok1 okp lt1
      have hz3:=S3 _ _ hz2
      refine ⟨ty.mono S3.t,(h3:Rt _ _ _),ev,ek1,?_⟩
      walk_at "rd"
      refine iteBn (fun hb=>?_) (fun hb=>?_)
      ·walk_at "rd"
       refine ⟨⟨_,k :: ks',some (cH k.1 p),.ref r,rfl,S2.trans S3,T2.trans S3.t,hz3,?_,TV.ra h3,?_,sub,le,?_⟩⟩
       ·rw [List.reverse_cons,List.map_append]
        exact tv2.mono S3.t
       ·rw [pe,pU hb]
       ·intro r' e'
        cases e'
        exact ev
      ·have e8:(ys' ++ [V.ref ka])[(ys' ++ [V.ref ka]).length - 1]? = some (.ref ka):=by rw [List.length_append,List.length_singleton,Nat.add_sub_cancel,List.getElem?_append_right (Nat.le_refl _),Nat.sub_self]; rfl
       walk_at "rd"
       rw [List.dropLast_concat]
       have T3:bF H3 (upd H3 z (.lst ys')):=(bF.refl H3).lst hz3 _
       refine ⟨⟨⟨ys',ks',some (cH k.1 p),.ref r,rfl,(S2.trans S3).upd hz _,(T2.trans S3.t).trans T3,aE,(tv3.mono S3.t).mono T3,(TV.ra h3).mono T3,?_,fun k' hk=>sub k' (List.mem_cons_of_mem _ hk),?_,?_⟩⟩,?_⟩
       ·rw [pe,vM hb]
       ·rw [List.length_cons] at le; omega
       ·intro r' e'
        cases e'
        exact ev
       ·show (match upd H3 z (.lst ys') z with | some (.lst ys')=>ys'.length | _=>0) < (match H2 z with | some (.lst ys')=>ys'.length | _=>0)
        rw [aE,hz2]
        show ys'.length < (ys' ++ [V.ref ka]).length
        rw [List.length_append]
        exact Nat.lt_succ_self _
    ·cases ks' with
     | cons k ks'=>rw [lk,List.length_cons] at c0; exact absurd c0 (by omega)
     | nil=>exact ⟨⟨ys',[],c,v,rfl,S2,T2,hz2,tv2,tc,pe,sub,le,ec⟩⟩
   ·rintro σ' H2 Q1 Q2 hq ⟨v,ev,p,ys,e,hs,i,j,ei,ej,k,ek,y⟩
    exact ⟨v,ev,p,ys,e,hs,i,j,ei,ej,k,ek,hq _ _ y⟩
  rintro J Z σ' H2 ⟨⟨ys',ks',c,v,rfl,S2,T2,hz2,tv2,tc,pe,sub,le,ec⟩⟩
  refine Z _ _ ?_
  clear Z
  have lk:ys'.length=ks'.length:=by have:=tv2.length; rw [List.length_map,List.length_reverse] at this; exact this
  have lz:ys'.length < 1000:=by omega
  have kin':Kin (ps.take (i + 1)) (pH ks p)/\pH ks p=if okE c=true then (p,c) :: ks' else ks':=by
   have e2:pH ks p=if okE c=true then (p,c) :: ks' else ks':=by unfold pH; rw [pe]
   refine ⟨?_,e2⟩
   have sb:∀ k∈ks',k.1∈ps.take (i + 1)/\Ek k.2:=fun k hk=>⟨by rw [List.take_add_one]; exact List.mem_append_left _ (kin.mem k (sub k hk)),kin.ek k (sub k hk)⟩
   have lt:(ps.take (i + 1)).length=i + 1:=by rw [List.length_take]; omega
   rw [e2]
   split
   ·refine ⟨by rw [List.length_cons,lt]; omega,fun k hk=>?_,fun k hk=>?_⟩
    ·rcases List.mem_cons.mp hk with rfl | hk
     ·rw [List.take_add_one,List.getElem?_eq_getElem il,hp]
      exact List.mem_append_right _ List.mem_cons_self
     ·exact (sb k hk).1
    ·rcases List.mem_cons.mp hk with rfl | hk
     ·exact ec
     ·exact (sb k hk).2
   ·exact ⟨by rw [lt]; omega,fun k hk=>(sb k hk).1,fun k hk=>(sb k hk).2⟩
  obtain ⟨kin',est⟩:=kin'
  rcases TV.op tc with ⟨e,rfl⟩ | ⟨r,y,e,rfl,hy⟩
  ·walk_at "rd"
   rename_i w hw
   rw [if_pos (by rw [e]; rfl)] at est
   have hzw:=kp (u:=.tup [.ref pa,.non]) hz2 hw
   have T3:bF H2 (upd (upd H2 w (.tup [.ref pa,.non])) z (.lst (ys' ++ [.ref w]))):=((bF.refl H2).new hw _).lst hzw _
   refine ⟨⟨_,_,_,rfl,(S2.new hw _).upd hz _,aE,?_,kin'⟩⟩
   rw [est,List.reverse_cons,List.map_append]
   refine (tv2.mono T3).append (.cons (.tup (xs:=[.ref pa,.non]) ?_ (.cons ((tx.mono T2).mono T3) (.cons (by rw [e]; exact .non) .nil))) .nil)
   rw [aR (Ne.symm (bE hz2 hw))]
   exact aE
  ·have hy1:H2 y=some (.tup [.int r.num,.int (r.den:Int)]):=hy
   have u0:Bz 8000 0:=Bz.z _
   have u1:Bz 8000 1:=(Bz.w (x:=1) (by decide) (by decide)).mono (by decide)
   have u3:Bz 8000 r.num:=(ec r e).zn.mono (by decide)
   have u4:Bz 8000 (r.den:Int):=(ec r e).zd.mono (by decide)
   walk_at "rd"
   rename_i w0 hw0
   have ee:decide (0 * (r.den:Int) < r.num * 1)=decide ((0:Rat) < r):=decide_eq_decide.mpr (Rat.lt_iff 0 r).symm
   rw [ee]
   have hz0:=kp (u:=.tup [.int 0,.int 1]) hz2 hw0
   have T0:bF H2 (upd H2 w0 (.tup [.int 0,.int 1])):=(bF.refl H2).new hw0 _
   refine dX (fun c1=>?_) (fun c1=>?_)
   ·walk_at "rd"
    rename_i w hw
    rw [if_pos (by rw [e]; exact decide_eq_true c1)] at est
    have hzw:=kp (u:=.tup [.ref pa,.ref y]) hz0 hw
    have T3:bF H2 (upd (upd (upd H2 w0 (.tup [.int 0,.int 1])) w (.tup [.ref pa,.ref y])) z (.lst (ys' ++ [.ref w]))):=(T0.new hw _).lst hzw _
    refine ⟨⟨_,_,_,rfl,((S2.new hw0 _).new hw _).upd hz _,aE,?_,kin'⟩⟩
    rw [est,List.reverse_cons,List.map_append]
    refine (tv2.mono T3).append (.cons (.tup (xs:=[.ref pa,.ref y]) ?_ (.cons ((tx.mono T2).mono T3) (.cons (tc.mono T3) .nil))) .nil)
    rw [aR (Ne.symm (bE hz0 hw))]
    exact aE
   ·walk_at "rd"
    rw [if_neg (by rw [e]; show ¬ decide _=true; rw [decide_eq_true_eq]; exact c1)] at est
    refine ⟨⟨_,_,_,rfl,S2.new hw0 _,hz0,?_,kin'⟩⟩
    rw [est]
    exact tv2.mono T0
 ·refine fun σ H' h0=>hid fun J Z=>?_
  obtain ⟨⟨ys,o2,o3,rfl,S,hz',tv,kin⟩⟩ :=h0
  refine Z ?_
  clear Z
  rw [hlen,List.take_length] at tv kin
  walk_at "rd"
  exact q _ _ ys hz S hz' tv (Nat.le_trans kin.len l60)
theorem ok_j0 (T:Tx K mg) : FnOk P w K mg base (cK P w) 6 T.f_j0 T.d_j0 ["points"] (pO K):=by
 have sc:=sc_j0
 refine T.F_j0.okx sc (fun vs H Q E h=>?_) (fun cdv A outer s H vs Q E hr h=>?_)
 ·obtain ⟨a,ps,rfl,hp,ok,q⟩:=h
  rfl
 obtain ⟨a,ps,rfl,hp,ok,q⟩:=h
 have hu:=hr.units0
 have hu2:=hr.units
 have hu1:=Nat.lt_of_le_of_lt (Nat.add_le_add_left (show 1<=64 by decide) _) hu2
 refine ⟨_,(@aD _ _ _ _ _ (@aK _ _ 1 _ _ _ _ sc.nd rfl (by walk_at "o1") (@cD _ _ _ _ aC) (by rfl) (by walk_at "o2"))
   (@aD _ _ _ _ _ (@aK _ _ 2 _ _ _ _ sc.nd rfl (by walk_at "o1") (aZ (aA aB (aA aB aC))) (by rfl) (by walk_at "o2"))
   (@aD _ _ _ _ _ (cS dS rfl (vO rfl T.z_reversed (aA (aH (ok_qG T) (hr.mono (by decide)) rfl T.m_qG T.F_qG.kp T.b_qG .nil (aL fun _ _ z=>z) (aA (pv 0) aC)) aC)) (mK rfl (dR (aY (i:=3) sc.nd rfl (by walk_at "o1")) (dR (aY (i:=4) sc.nd rfl (by walk_at "o1")) i9)))
   (@aD _ _ _ _ _ (cW (dU PySem.F.plainAttrs_list PySem.F.slot_list_append PySem.F.type_list_append cV (pv 1) (aA (aZ (aA (pv 2) (aA (@aI _ _ _ _ _ _ _ aG (pv 3) aB (fun _ _=>rfl)) aC))) aC)))
   (@aF _ _ _ (@aK _ _ 2 _ _ _ _ sc.nd rfl (by walk_at "o1") (pv 4) (by rfl) (by walk_at "o2")))))
   (@aF _ _ _ (@aS _ _ _ _ (pv 1)))))),?_⟩
 walk_at "kx"
 walk_at "rd"
 rename_i z hz p0 hp0
 have S0:aN H (upd (upd H z (.lst [])) p0 (.tup [.int 0,.int 1])):=((aN.refl H).new hz _).new hp0 _
 obtain ⟨xs0,ha0,ht0⟩:=hp
 refine ⟨⟨xs0,S0 _ _ ha0,ht0.mono S0.t⟩,ok,fun H1 b ys hb0 S1 hb tb l60=>?_⟩
 have hz1:=S1 _ _ (kp (u:=.tup [.int 0,.int 1]) (aE (H:=H) (a:=z) (o:=.lst [])) hp0)
 have hp1:=S1 _ _ (aE (H:=upd H z (.lst [])) (a:=p0) (o:=.tup [.int 0,.int 1]))
 have S01:=S0.trans S1
 have ly:ys.length=(sE ps).length:=by have:=tb.length; rw [List.length_map,List.length_reverse] at this; exact this
 have nbz:b ≠ z:=Ne.symm (bE (kp (u:=.tup [.int 0,.int 1]) (aE (H:=H) (a:=z) (o:=.lst [])) hp0) hb0)
 walk_at "rd"
 refine rT (K:=K) (a:=b) (xs:=ys) (fun i σ H'=>Iv (∃ (ws:List V) (tl:List (Option Rat × Int)) (rest:List Kp) (c:Option Rat) (v:V) (o3 o4:Option V),σ = [some (.ref a),some (.ref z),some v,o3,o4]/\aN H H'/\bF H1 H'/\H' b=some (.lst ys)/\H' z=some (.lst ws)/\TVs K H' ws (tl.map toD)/\TV K H' v (opD c)/\(sE ps).drop i=rest/\tol (some 0) (sE ps)=tl ++ tol c rest/\tl.length=i))
  ⟨⟨[],[],_,some 0,_,_,_,rfl,S01,bF.refl H1,hb,hz1,.nil,TV.ra hp1,rfl,rfl,rfl⟩⟩ (fun i σ H' _ y=>by obtain ⟨⟨ws,tl,rest,c,v,o3,o4,_,_,_,h,_⟩⟩:=y; exact c6.of h) ?_ ?_
 ·refine fun i x σ H' hi h0=>hid fun J Z=>?_
  obtain ⟨⟨ws,tl,rest,c,v,o3,o4,rfl,S,T',hb',hz',tw,tv,hr,et,lt⟩⟩ :=h0
  refine Z ?_
  clear Z
  have il:i < (sE ps).length:=by have:=(List.getElem?_eq_some_iff.mp hi).1; rw [List.length_reverse] at this; omega
  have e0:rest=(sE ps)[i] :: (sE ps).drop (i + 1):=by rw [<- hr]; exact (List.getElem_cons_drop il).symm
  rw [List.getElem?_reverse (by omega)] at hi
  obtain ⟨d,hd,tx⟩:=tb.get hi
  rw [List.getElem?_map,List.getElem?_reverse (by omega),show (sE ps).length - 1 - (ys.length - 1 - i)=i by omega,List.getElem?_eq_getElem il] at hd
  obtain rfl:=Option.some.inj hd
  generalize hk:(sE ps)[i] = k at tx e0
  subst e0
  obtain ⟨ka,kq,kv,rfl,hka,tk1,tk2⟩:=TV.kp (tx.mono T')
  obtain ⟨_,kr,e9,hkq,_⟩:=TV.pt tk1
  cases e9
  have lw:ws.length < 1000:=by have:=tw.length; rw [List.length_map] at this; omega
  walk_at "rd"
  rename_i w hw
  have hzw:=kp (u:=.tup [v,.int k.1.1]) hz' hw
  have T3:bF H' (upd (upd H' w (.tup [v,.int k.1.1])) z (.lst (ws ++ [.ref w]))):=((bF.refl H').new hw _).lst hzw _
  refine ⟨⟨_,tl ++ [(c,k.1.1)],_,k.2,_,_,_,rfl,(S.new hw _).upd hz _,T'.trans T3,?_,aE,?_,tk2.mono T3,rfl,?_,?_⟩⟩
  ·rw [aR nbz]; exact kp hb' hw
  ·rw [List.map_append]
   refine (tw.mono T3).append (.cons (.tup (xs:=[v,.int k.1.1]) ?_ (.cons (tv.mono T3) (.cons (.int _) .nil))) .nil)
   rw [aR (Ne.symm (bE hz' hw))]
   exact aE
  ·rw [et,List.append_assoc]
   rfl
  ·rw [List.length_append,lt]; rfl
 ·refine fun σ H' h0=>hid fun J Z=>?_
  obtain ⟨⟨ws,tl,rest,c,v,o3,o4,rfl,S,T',hb',hz',tw,tv,hr,et,lt⟩⟩ :=h0
  refine Z ?_
  clear Z
  rw [ly,List.drop_length] at hr
  subst hr
  walk_at "rd"
  refine q _ _ ws hz S hz' ?_
  rw [et]
  show TVs K H' ws ((tl ++ []).map toD)
  rw [List.append_nil]
  exact tw
theorem oA (T:Tx K mg) : FnOk P w K mg base (cK P w) 1 T.f_qW T.d_qW ["_law_script", "_law_k"] (nR K):=by
 have sc:=sc_qW
 refine T.F_qW.okx sc (fun vs H Q E h=>?_) (fun cdv A outer s H vs Q E hr h=>?_)
 ·obtain ⟨a,ns,k,rfl,hS,hk,q⟩:=h
  rfl
 obtain ⟨a,ns,k,rfl,hS,hk,q⟩:=h
 have hu:=hr.units0
 have hu2:=hr.units
 have hu1:=Nat.lt_of_le_of_lt (Nat.add_le_add_left (show 1<=64 by decide) _) hu2
 refine ⟨_,(@aD _ _ _ _ _ (@bY _ _ _ _ _ _ _ _ (@aX _ _ _ _ _ _ _ _ fZ (pv 1) (aV aT rfl T.z_len bZ (aA (pv 0) aC)) (bB _)) (@aF _ _ _ (@aS _ _ _ _ (@aI _ _ _ _ _ _ _ bN (pv 0) (pv 1) (fun _ _=>rfl)))) bD)
   (@aF _ _ _ (@aS _ _ _ _ aB))),?_⟩
 walk_at "kx"
 have hl2:(ns.map V.int).length=ns.length:=List.length_map _
 walk_at "rd"
 refine dX (fun h=>?_) (fun h=>?_)
 ·obtain ⟨v,hv⟩:=at_ints (ns:=ns) (k:=k) hk (by omega)
  walk_at "rd"
  exact q v
 ·exact q 0
theorem vZ (T:Tx K mg) : FnOk P w K mg base (cK P w) 1 T.f_qX T.d_qX ["_law_cell_here", "_law_k"] nQ:=by
 have sc:=sc_qX
 refine T.F_qX.okx sc (fun vs H Q E h=>?_) (fun cdv A outer s H vs Q E hr h=>?_)
 ·obtain ⟨c,k,rfl,k0,k3,q⟩:=h
  rfl
 obtain ⟨c,k,rfl,k0,k3,q⟩:=h
 have hu:=hr.units0
 have hu2:=hr.units
 have hu1:=Nat.lt_of_le_of_lt (Nat.add_le_add_left (show 1<=64 by decide) _) hu2
 refine ⟨_,(@aF _ _ _ (@aS _ _ _ _ (@aJ _ _ _ _ _ _ _ _ cJ (@aJ _ _ _ _ _ _ _ _ cG (@aJ _ _ _ _ _ _ _ _ cG (@aJ _ _ _ _ _ _ _ _ bH (pv 0) (@aJ _ _ _ _ _ _ _ _ cG aB (@aJ _ _ _ _ _ _ _ _ bH aB (pv 1)))) aB) (pv 1)) aB))),?_⟩
 walk_at "kx"
 have m1:=mulN c k0 k3
 walk_at "rd"
 exact q _ (Int.emod_nonneg _ (by decide)) (Int.emod_lt_of_pos _ (by decide))
theorem oB (T:Tx K mg) : FnOk P w K mg base (cK P w) 1 T.f_qP T.d_qP ["_law_top", "_law_bottom"] mD:=by
 have sc:=sc_qP
 refine T.F_qP.okx sc (fun vs H Q E h=>?_) (fun cdv A outer s H vs Q E hr h=>?_)
 ·obtain ⟨t,b,rfl,hb,bz,q⟩:=h
  rfl
 obtain ⟨t,b,rfl,hb,bz,q⟩:=h
 have hu:=hr.units0
 have hu2:=hr.units
 have hu1:=Nat.lt_of_le_of_lt (Nat.add_le_add_left (show 1<=64 by decide) _) hu2
 refine ⟨_,(@aD _ _ _ _ _ (@aK _ _ 2 _ _ _ _ sc.nd rfl (by walk_at "o1") (aV kF rfl T.z_abs qJ (aA (pv 0) aC)) (by rfl) (by walk_at "o2"))
   (@aD _ _ _ _ _ (@aK _ _ 3 _ _ _ _ sc.nd rfl (by walk_at "o1") (pv 1) (by rfl) (by walk_at "o2"))
   (@aD _ _ _ _ _ (eS dS (@aX _ _ _ _ _ _ _ _ n5 (pv 3) aB (bB _)) (@aD _ _ _ _ _ (@aK _ _ 4 _ _ _ _ sc.nd rfl (by walk_at "o1") (@aJ _ _ _ _ _ _ _ _ cJ (pv 2) (pv 3)) (by rfl) (by walk_at "o2"))
   (@aD _ _ _ _ _ (@aK _ _ 2 _ _ _ _ sc.nd rfl (by walk_at "o1") (pv 3) (by rfl) (by walk_at "o2"))
   (@aF _ _ _ (@aK _ _ 3 _ _ _ _ sc.nd rfl (by walk_at "o1") (pv 4) (by rfl) (by walk_at "o2"))))))
   (@aF _ _ _ (@aS _ _ _ _ (aZ (aA (@aJ _ _ _ _ _ _ _ _ bQ (pv 0) (pv 2)) (aA (@aJ _ _ _ _ _ _ _ _ bQ (pv 1) (pv 2)) aC)))))))),?_⟩
 walk_at "kx"
 walk_at "rd"
 refine eN (fun σ H'=>H'=H/\∃ (x y:Int) (r:Option V),σ = [some (.int t),some (.int b),some (.int x),some (.int y),r]/\M.Inv t b x y)
  (fun σ _=>match σ with | [_,_,_,some (.int y),_]=>y.toNat | _=>0) ⟨rfl,_,_,_,rfl,M.Inv.start t b (by omega)⟩ ?_ ?_
 ·rintro σ' H' ⟨rfl,x,y,r,rfl,iv⟩
  have h1:=iv.y0
  walk_at "rd"
  refine dX (fun hy=>?_) (fun c=>?_)
  ·walk_at "rd"
   exact ⟨⟨rfl,_,_,_,rfl,iv.turn hy⟩,M.less hy⟩
  ·have e:=iv.out (show y=0 by omega) (by omega)
   subst e
   have cm:∀ i,iL i (M.G t b):=fun i=>⟨M.G_pos t b,(bz.le (M.G_le (by omega))).log2⟩
   have c1:=cm t
   have c2:=cm b
   walk_at "rd"
   exact Nw.low hb q _ (by assumption)
 ·rintro σ' H' Q1 Q2 hq ⟨v,e,i,j,ei,ej,k,ek,y⟩
  exact ⟨v,e,i,j,ei,ej,k,ek,hq _ _ y⟩
theorem v8 (T:Tx K mg) : FnOk P w K mg base (cK P w) 1 T.f_qK T.d_qK ["_law_pile", "_law_gain"] (nS K):=by
 have sc:=sc_qK
 refine T.F_qK.okx sc (fun vs H Q E h=>?_) (fun cdv A outer s H vs Q E hr h=>?_)
 ·obtain ⟨a,g,ys,v1,v2,t1,t2,rfl,ha,hl,tv1,tv2,q⟩:=h
  rfl
 obtain ⟨a,g,ys,v1,v2,t1,t2,rfl,ha,hl,tv1,tv2,q⟩:=h
 have hu:=hr.units0
 have hu2:=hr.units
 have hu1:=Nat.lt_of_le_of_lt (Nat.add_le_add_left (show 1<=64 by decide) _) hu2
 refine ⟨_,(@aD _ _ _ _ _ (@aK _ _ 2 _ _ _ _ sc.nd rfl (by walk_at "o1") (@aI _ _ _ _ _ _ _ bN (pv 0) (iS fU aB) (fun _ _=>rfl)) (by rfl) (by walk_at "o2"))
   (@aD _ _ _ _ _ (@aK _ _ 3 _ _ _ _ sc.nd rfl (by walk_at "o1") (@aI _ _ _ _ _ _ _ bN (pv 0) (iS fU aB) (fun _ _=>rfl)) (by rfl) (by walk_at "o2"))
   (@aF _ _ _ (@aS _ _ _ _ (@aJ _ _ _ _ _ _ _ _ iN (nY qT (pv 0) po_none (mI (iS fU aB))) (@cD _ _ _ _ (aA (aZ (aA bA (aA (@aJ _ _ _ _ _ _ _ _ cG (@aJ _ _ _ _ _ _ _ _ cG (@aI _ _ _ _ _ _ _ aG (pv 3) aB (fun _ _=>rfl)) (@aI _ _ _ _ _ _ _ aG (pv 2) aB (fun _ _=>rfl))) (pv 1)) (aA (pv 3) (aA (pv 2) aC))) dI)) aC))))))),?_⟩
 walk_at "kx"
 have a1:gP (ys ++ [v1] ++ [v2]) (-1)=some v2:=L2.o9 _ _
 have a2:=at_m2 ys v1 v2
 have ec:=cut_m2 ys v1 v2
 obtain ⟨p1,k1,r1,rfl,hp1⟩:=TV.wt tv1
 obtain ⟨p2,k2,r2,rfl,hp2⟩:=TV.wt tv2
 have lz:(ys ++ [V.ref p1] ++ [V.ref p2]).length=ys.length + 2:=by simp
 rw [Tr.wt_w] at hp1 hp2
 walk_at "rd"
 rename_i l1 hl1
 refine ⟨xN,?_⟩
 walk_at "rd"
 refine ⟨xN,?_⟩
 walk_at "rd"
 rename_i pp hpp lp hlp
 rw [ec] at hpp hlp ⊢
 refine ⟨jM (by show _ + 1<=_; omega),fun lr hlr=>?_⟩
 have S3:=((aM hl1 (H:=H) (.lst ys)).new hpp (.tup [.str "fork", .int (t1.w + t2.w + g),.ref p1,.ref p2])).new hlp (.lst [.ref pp])
 have S4:=S3.new hlr (.lst (ys ++ [.ref pp]))
 exact q _ lr (.ref pp) S4 (S3.free hlr) aE (TV.fk' (kp (kp aE hlp) hlr) (tv1.mono S4.t) (tv2.mono S4.t))
theorem ok_qY (T:Tx K mg) : FnOk P w K mg base (cK P w) 2 T.f_qY T.d_qY ["_law_cells", "_law_scale"] (sK K):=by
 have sc:=sc_qY
 refine T.F_qY.okx sc (fun vs H Q E h=>?_) (fun cdv A outer s H vs Q E hr h=>?_)
 ·obtain ⟨a,ns,s,rfl,ha,nl,s0,s1,q⟩:=h
  rfl
 obtain ⟨a,ns,s,rfl,ha,nl,s0,s1,q⟩:=h
 have hu:=hr.units0
 have hu2:=hr.units
 have hu1:=Nat.lt_of_le_of_lt (Nat.add_le_add_left (show 1<=64 by decide) _) hu2
 refine ⟨_,(@aD _ _ _ _ _ (@aK _ _ 2 _ _ _ _ sc.nd rfl (by walk_at "o1") (@cD _ _ _ _ aC) (by rfl) (by walk_at "o2"))
   (@aD _ _ _ _ _ (@aO _ _ _ (cS dS rfl (bL (pv 0)) (aY (i:=3) sc.nd rfl (by walk_at "o1"))
   (@aF _ _ _ (@bY _ _ _ _ _ _ _ _ (PW.pt (iR (@aX _ _ _ _ _ _ _ _ fZ (@aJ _ _ _ _ _ _ _ _ cJ (pv 3) aB) aB (bB _)) (fY (@aX _ _ _ _ _ _ _ _ fZ (aV aT rfl T.z_len bZ (aA (pv 2) aC)) aB (bB _))))) (@aF _ _ _ (cW (dU PySem.F.plainAttrs_list PySem.F.slot_list_append PySem.F.type_list_append cV (pv 2) (aA (aZ (aA bA (aA (@aJ _ _ _ _ _ _ _ _ bH (@aJ _ _ _ _ _ _ _ _ cF (@aJ _ _ _ _ _ _ _ _ cJ (@aJ _ _ _ _ _ _ _ _ bQ (pv 3) aB) aB) aB) (pv 1)) aC) dI)) aC)))) (@aF _ _ _ (@aK _ _ 2 _ _ _ _ sc.nd rfl (by walk_at "o1") (aH (v8 T) (hr.mono (by decide)) rfl T.m_qK T.F_qK.kp T.b_qK .nil (aL fun _ _ z=>z) (aA (pv 2) (aA (@aJ _ _ _ _ _ _ _ _ bH (@aJ _ _ _ _ _ _ _ _ cF (@aJ _ _ _ _ _ _ _ _ cJ (@aJ _ _ _ _ _ _ _ _ bQ (pv 3) aB) aB) aB) (pv 1)) aC))) (by rfl) (by walk_at "o2")))))))
   (@aD _ _ _ _ _ (@aO _ _ _ (@bY _ _ _ _ _ _ _ _ (@aX _ _ _ _ _ _ _ _ dD (aV aT rfl T.z_len bZ (aA (pv 2) aC)) aB (bB _)) (@aF _ _ _ (cW (dU PySem.F.plainAttrs_list PySem.F.slot_list_append PySem.F.type_list_append cV (pv 2) (aA (aZ (aA bA (aA (pv 1) aC) dI)) aC)))) bD))
   (@aD _ _ _ _ _ (@aO _ _ _ (eS dS (@aX _ _ _ _ _ _ _ _ n5 (aV aT rfl T.z_len bZ (aA (pv 2) aC)) aB (bB _)) (@aF _ _ _ (@aK _ _ 2 _ _ _ _ sc.nd rfl (by walk_at "o1") (aH (v8 T) (hr.mono (by decide)) rfl T.m_qK T.F_qK.kp T.b_qK .nil (aL fun _ _ z=>z) (aA (pv 2) (aA (@aJ _ _ _ _ _ _ _ _ bH (aV aT rfl T.z_len bZ (aA (pv 2) aC)) (pv 1)) aC))) (by rfl) (by walk_at "o2")))))
   (@aD _ _ _ _ _ (@aO _ _ _ (@bY _ _ _ _ _ _ _ _ (PW.pt (pw_and (vG fZ fZ aB (aV aT rfl T.z_len bZ (aA (pv 0) aC)) aB) (pw_and1 (@aX _ _ _ _ _ _ _ _ dD (@aJ _ _ _ _ _ _ _ _ cJ (@aI _ _ _ _ _ _ _ bN (pv 0) aB (fun _ _=>rfl)) aB) aB (bB _))))) (@aF _ _ _ (@aK _ _ 2 _ _ _ _ sc.nd rfl (by walk_at "o1") (aH (v8 T) (hr.mono (by decide)) rfl T.m_qK T.F_qK.kp T.b_qK .nil (aL fun _ _ z=>z) (aA (@cD _ _ _ _ (aA (@aI _ _ _ _ _ _ _ bN (pv 2) aB (fun _ _=>rfl)) (aA (@aI _ _ _ _ _ _ _ bN (pv 2) aB (fun _ _=>rfl)) aC))) (aA (@aJ _ _ _ _ _ _ _ _ bH (@aJ _ _ _ _ _ _ _ _ cJ (@aJ _ _ _ _ _ _ _ _ bQ (@aI _ _ _ _ _ _ _ bN (pv 0) aB (fun _ _=>rfl)) aB) aB) (pv 1)) aC))) (by rfl) (by walk_at "o2"))) bD))
   (@aF _ _ _ (@aS _ _ _ _ (@aI _ _ _ _ _ _ _ bN (pv 2) aB (fun _ _=>rfl))))))))),?_⟩
 walk_at "kx"
 have hl2:(ns.map V.int).length=ns.length:=List.length_map _
 walk_at "rd"
 rename_i z hz
 refine aP (fun σ' H'=>Iv (∃ (z:Addr) (xs:List V) (ts:List Tr) (o3:Option V),aN H H'/\H z=none/\H' z=some (.lst xs)/\TVs K H' xs (ts.map cU)/\nG ts<=ns.length/\(∀ t∈ts,t.sb)/\σ' = [some (.ref a),some (.int s),some (.ref z),o3])) (fun _ _ _=>?_) ?_
 ·walk_at "rd"
  refine c5 (K:=K) (a:=a) (xs:=ns.map V.int) (fun i σ' H'=>Iv (∃ (z:Addr) (xs:List V) (ts:List Tr) (o3:Option V),aN H H'/\H z=none/\H' z=some (.lst xs)/\TVs K H' xs (ts.map cU)/\nG ts<=i/\(∀ t∈ts,t.sb)/\σ' = [some (.ref a),some (.int s),some (.ref z),o3])) ⟨⟨z,[],[],_,aM hz _,hz,aE,.nil,Nat.le_refl _,fun t ht=>(by cases ht),rfl⟩⟩ (fun i σ' H' _ y=>by obtain ⟨⟨_,_,_,_,S,_⟩⟩:=y; exact c6.of (S _ _ ha)) ?_ ?_
  ·refine fun i x σ' H1 hx h0=>hid fun J Z=>?_
   obtain ⟨⟨z,xs,ts,o3,S1,fz,hz,tx,lv,sb,rfl⟩⟩ :=h0
   refine Z ?_
   clear Z
   have il:=(List.getElem?_eq_some_iff.mp hx).1
   rw [List.getElem?_map] at hx
   obtain ⟨c,hc,rfl⟩:=Option.map_eq_some_iff.mp hx
   have xl:=tx.length
   rw [List.length_map] at xl
   have tl:=jC ts
   have xz:xs.length < sizeLine:=aU (by omega)
   have x0:=Int.emod_nonneg (c / 4) (show (41:Int) ≠ 0 by decide)
   have x1:=Int.emod_lt_of_pos (c / 4) (show (0:Int) < 41 by decide)
   have mo:=rF (x:=c / 4 % 41 - 5) (by omega) (by omega) s0 s1
   have mb:=rE (x:=c / 4 % 41 - 5) (by omega) (by omega) s0 s1
   have y0:=Int.emod_nonneg (c / 4) (show (29:Int) ≠ 0 by decide)
   have y1:=Int.emod_lt_of_pos (c / 4) (show (0:Int) < 29 by decide)
   have mo2:=rF (x:=c / 4 % 29 - 3) (by omega) (by omega) s0 s1
   have mb2:=rE (x:=c / 4 % 29 - 3) (by omega) (by omega) s0 s1
   have put:∀ pp,H1 pp=none->Iv (∃ (z':Addr) (xs':List V) (ts':List Tr) (o3:Option V),aN H (upd (upd H1 pp (.tup [.str "end", .int ((c / 4 % 41 - 5) * s)])) z (.lst (xs ++ [.ref pp])))/\H z'=none/\upd (upd H1 pp (.tup [.str "end", .int ((c / 4 % 41 - 5) * s)])) z (.lst (xs ++ [.ref pp])) z'=some (.lst xs')/\TVs K (upd (upd H1 pp (.tup [.str "end", .int ((c / 4 % 41 - 5) * s)])) z (.lst (xs ++ [.ref pp]))) xs' (ts'.map cU)/\nG ts'<=i + 1/\(∀ t∈ts',t.sb)/\[some (.ref a),some (.int s),some (.ref z),some (.int c)] = [some (.ref a),some (.int s),some (.ref z'),o3]):=fun pp hpp=>by
    have st:bF H1 (upd (upd H1 pp (.tup [.str "end", .int ((c / 4 % 41 - 5) * s)])) z (.lst (xs ++ [.ref pp]))):=(aM hpp _).t.lst (kp hz hpp) _
    have npz:pp ≠ z:=Ne.symm (bE hz hpp)
    refine ⟨⟨z,xs ++ [.ref pp],ts ++ [.en ((c / 4 % 41 - 5) * s)],_,(S1.new hpp _).upd fz _,fz,aE,TVs.snoc38 (tx.mono st) (TV.en' (by rw [aR npz]; exact aE)),by rw [jD,jB]; show nG ts + 1<=i + 1; omega,u8 sb (show Tr.sb (.en _) from mb),rfl⟩⟩
   walk_at "rd"
   refine dX (fun e=>?_) (fun e=>?_)
   ·walk_at "rd"
    rename_i pp hpp
    exact put pp hpp
   ·walk_at "rd"
    refine dX (fun e2=>?_) (fun e2=>?_)
    ·walk_at "rd"
     rename_i pp hpp
     exact put pp hpp
    ·refine hid fun J Z=>?_
     obtain ⟨ys,v1,v2,us,t1,t2,rfl,rfl,ty,d1,d2⟩ := TVs.two38 tx (by omega)
     refine Z ?_
     clear Z
     have yl:ys.length<=100:=by rw [List.length_append,List.length_append,List.length_singleton,List.length_singleton] at xl; omega
     walk_at "rd"
     rename_i H2 p y S2 fp hp dy
     exact ⟨⟨p,ys ++ [y],us ++ [Tr.fk (t1.w + t2.w + (c / 4 % 29 - 3) * s) t1 t2],_,S1.trans S2,S1.free fp,hp,TVs.snoc38 (ty.mono S2.t) dy,by rw [rG]; omega,vA sb mb2.1 mb2.2,rfl⟩⟩
  ·refine fun σ' H1 h0=>hid fun J Z=>?_
   obtain ⟨⟨z,xs,ts,o3,S1,fz,hz,tx,lv,sb,rfl⟩⟩ :=h0
   refine Z ?_
   clear Z
   rw [hl2] at lv
   exact ⟨⟨z,xs,ts,o3,S1,fz,hz,tx,lv,sb,rfl⟩⟩
 rintro J Z σ' H1 ⟨⟨z,xs,ts,o3,S1,fz,hz,tx,lv,sb,rfl⟩⟩
 refine Z _ _ ?_
 clear Z
 have nn0:ns = []\/1<=ns.length:=by cases ns with
  | nil=>exact .inl rfl
  | cons _ _=>exact .inr (by rw [List.length_cons]; omega)
 refine aP (fun σ' H'=>Iv (∃ (z:Addr) (xs:List V) (ts:List Tr) (o3:Option V),aN H H'/\H z=none/\H' z=some (.lst xs)/\TVs K H' xs (ts.map cU)/\(nG ts<=ns.length\/(ns = []/\nG ts=1))/\0 < ts.length/\(∀ t∈ts,t.sb)/\σ' = [some (.ref a),some (.int s),some (.ref z),o3])) (fun _ _ _=>?_) ?_
 ·have xl:=tx.length
  rw [List.length_map] at xl
  have tl:=jC ts
  have xz:xs.length < sizeLine:=aU (by omega)
  walk_at "rd"
  refine dX (fun e=>?_) (fun e=>?_)
  ·walk_at "rd"
   rename_i pp hpp
   have npz:pp ≠ z:=Ne.symm (bE hz hpp)
   have ets:ts = []:=List.eq_nil_of_length_eq_zero (by omega)
   have exs:xs = []:=List.eq_nil_of_length_eq_zero (by omega)
   subst ets exs
   refine ⟨⟨z,[.ref pp],[.en s],_,(S1.new hpp _).upd fz _,fz,aE,.cons (TV.en' (by rw [aR npz]; exact aE)) .nil,?_,Nat.one_pos,fun t ht=>?_,rfl⟩⟩
   ·rcases nn0 with e | e
    ·exact .inr ⟨e,rfl⟩
    ·exact .inl e
   ·rw [List.mem_singleton.mp ht]
    exact (show _/\_ from ⟨by omega,by omega⟩)
  ·walk_at "rd"
   exact ⟨⟨z,xs,ts,_,S1,fz,hz,tx,.inl lv,by omega,sb,rfl⟩⟩
 clear hz tx sb lv S1 fz
 rintro J Z σ' H2 ⟨⟨z,xs,ts,o3,S2,fz,hz,tx,lv,t0,sb,rfl⟩⟩
 refine Z _ _ ?_
 clear Z
 refine aP (fun σ' H'=>Iv (∃ (z:Addr) (y:V) (t:Tr) (o3:Option V),aN H H'/\H z=none/\H' z=some (.lst [y])/\TV K H' y (cU t)/\(t.lv<=ns.length\/(ns = []/\t.lv=1))/\t.sb/\σ' = [some (.ref a),some (.int s),some (.ref z),o3])) (fun _ _ _=>?_) ?_
 ·walk_at "rd"
  refine eN (fun σ' H'=>Iv (∃ (z:Addr) (xs:List V) (ts:List Tr) (o3:Option V),aN H H'/\H z=none/\H' z=some (.lst xs)/\TVs K H' xs (ts.map cU)/\(nG ts<=ns.length\/(ns = []/\nG ts=1))/\0 < ts.length/\(∀ t∈ts,t.sb)/\σ' = [some (.ref a),some (.int s),some (.ref z),o3])) (fun σ H=>match σ with | [_,_,some (.ref z),_]=>(match H z with | some (.lst xs)=>xs.length | _=>0) | _=>0) ⟨⟨z,xs,ts,o3,S2,fz,hz,tx,lv,t0,sb,rfl⟩⟩ ?_ ?_
  ·clear hz tx sb lv S2 fz t0
   rintro σ' H3 ⟨⟨z,xs,ts,o3,S3,fz,hz,tx,lv,t0,sb,rfl⟩⟩
   have xl:=tx.length
   rw [List.length_map] at xl
   have tl:=jC ts
   have xz:xs.length < sizeLine:=aU (by omega)
   have mo:=rF (x:=(xs.length:Int)) (by omega) (by omega) s0 s1
   have mb:=rE (x:=(xs.length:Int)) (by omega) (by omega) s0 s1
   walk_at "rd"
   refine dX (fun e=>?_) (fun e=>?_)
   ·refine hid fun J Z=>?_
    obtain ⟨ys,v1,v2,us,t1,t2,ex,rfl,ty,d1,d2⟩ := TVs.two38 tx (by omega)
    refine Z ?_
    clear Z
    have yl:ys.length + 2=xs.length:=by rw [ex]; simp
    have yl2:ys.length<=100:=by omega
    have hz':=hz
    rw [ex] at hz
    walk_at "rd"
    rename_i H5 p y S5 fp hp dy
    refine ⟨⟨⟨p,ys ++ [y],us ++ [.fk (t1.w + t2.w + (xs.length:Int) * s) t1 t2],_,S3.trans S5,S3.free fp,hp,TVs.snoc38 (ty.mono S5.t) dy,by rw [rG]; exact lv,by rw [List.length_append]; exact Nat.succ_pos _,vA sb mb.1 mb.2,rfl⟩⟩,?_⟩
    show (match H5 p with | some (.lst xs)=>xs.length | _=>0) < (match H3 z with | some (.lst xs)=>xs.length | _=>0)
    rw [hp,hz']
    show (ys ++ [y]).length < xs.length
    rw [List.length_append,List.length_singleton]
    omega
   ·walk_at "rd"
    obtain ⟨zs,y,as,t,rfl,rfl,tz,te⟩:=TVs.last38 tx (by omega)
    rw [List.length_append,List.length_append,List.length_singleton,List.length_singleton] at xl
    rw [List.length_append,List.length_singleton] at e
    have ez:zs = []:=List.eq_nil_of_length_eq_zero (by omega)
    have ea:as = []:=List.eq_nil_of_length_eq_zero (by omega)
    subst ez ea
    exact ⟨⟨z,y,t,_,S3,fz,hz,te,lv,sb t List.mem_cons_self,rfl⟩⟩
  ·rintro σ' H' Q1 Q2 hq ⟨v,e,p,ys,ev,hs,i,j,ei,ej,k,ek,y⟩
   exact ⟨v,e,p,ys,ev,hs,i,j,ei,ej,k,ek,hq _ _ y⟩
 clear hz tx sb lv S2 fz t0
 rintro J Z σ' H4 ⟨⟨z,y,t,o3,S4,fz,hz,ty,lv,sb,rfl⟩⟩
 refine Z _ _ ?_
 clear Z
 refine aP (fun σ' H'=>Iv (∃ (z:Addr) (y:V) (t:Tr) (o3:Option V),aN H H'/\H' z=some (.lst [y])/\TV K H' y (cU t)/\t.lv<=20/\t.sb/\σ' = [some (.ref a),some (.int s),some (.ref z),o3])) (fun _ _ _=>?_) ?_
 ·have ha4:=S4 _ _ ha
  have cz:(ns.map V.int).length < sizeLine:=aU (by omega)
  have l20:t.lv<=20:=by rcases lv with h | h <;> omega
  have keep:∀ o3:Option V,Iv (∃ (z':Addr) (y:V) (t:Tr) (o3':Option V),aN H H4/\H4 z'=some (.lst [y])/\TV K H4 y (cU t)/\t.lv<=20/\t.sb/\[some (.ref a),some (.int s),some (.ref z),o3] = [some (.ref a),some (.int s),some (.ref z'),o3']):=fun o3=>⟨⟨z,y,t,_,S4,hz,ty,l20,sb,rfl⟩⟩
  walk_at "rd"
  refine dX (fun e1=>?_) (fun e1=>?_)
  ·walk_at "rd"
   refine dX (fun e2=>?_) (fun e2=>?_)
   ·obtain ⟨c,cs,rfl⟩ : ∃ c cs,ns=c :: cs:=by
     cases ns with
     | nil=>exact absurd e1 (by decide)
     | cons c cs=>exact ⟨c,cs,rfl⟩
    have a0:gP ((c :: cs).map V.int) 0=some (.int c):=cX (j:=0) rfl
    have b0:gP [y] 0=some y:=cX (j:=0) rfl
    have x0:=Int.emod_nonneg (c / 3) (show (40:Int) ≠ 0 by decide)
    have x1:=Int.emod_lt_of_pos (c / 3) (show (0:Int) < 40 by decide)
    have mo:=rF (x:=c / 3 % 40) (by omega) (by omega) s0 s1
    have mb:=rE (x:=c / 3 % 40) (by omega) (by omega) s0 s1
    have t10:t.lv<=10:=by
     rcases lv with h | h
     ·omega
     ·cases h.1
    walk_at "rd"
    refine dX (fun e3=>?_) (fun e3=>?_)
    ·walk_at "rd"
     rename_i p1 hp1
     have Sp:=aM hp1 (H:=H4) (.lst [y,y])
     refine ⟨(aE:_=some (.lst ([] ++ [y] ++ [y]))),Nat.zero_le _,ty.mono Sp.t,ty.mono Sp.t,fun H6 p2 y2 S6 fp hp2 dy=>?_⟩
     walk_at "rd"
     exact ⟨⟨p2,y2,_,_,(S4.trans Sp).trans S6,hp2,dy,by show t.lv + t.lv<=20; omega,sb.fk sb mb.1 mb.2,rfl⟩⟩
    ·walk_at "rd"
     exact keep _
   ·walk_at "rd"
    exact keep _
  ·walk_at "rd"
   exact keep _
 rintro J Z σ' H5 ⟨⟨z,y,t,o3,S5,hz,ty,lv,sb,rfl⟩⟩
 refine Z _ _ ?_
 clear Z
 walk_at "rd"
 exact q _ y t S5 ty lv sb
theorem ok_qL0 (T:Tx K mg) : FnOk P w K mg base (cK P w) (0 + 2) T.f_qL T.d_qL ["_law_tree_here", "_law_bottom"] (dQ K 0):=by
 have sc:=sc_qL
 refine T.F_qL.okx sc (fun vs H Q E h=>?_) (fun cdv A outer s H vs Q E hr h=>?_)
 ·obtain ⟨v,t,B,rfl,tv,td,d40,b0,bz,q⟩:=h
  rfl
 obtain ⟨v,t,B,rfl,tv,td,d40,b0,bz,q⟩:=h
 have hu:=hr.units0
 have hu2:=hr.units
 have hu1:=Nat.lt_of_le_of_lt (Nat.add_le_add_left (show 1<=64 by decide) _) hu2
 refine ⟨_,(@aD _ _ _ _ _ (@bY _ _ _ _ _ _ _ _ (@aX _ _ _ _ _ _ _ _ dC (@aI _ _ _ _ _ _ _ aG (pv 0) aB (fun _ _=>rfl)) bA (bB _)) (@aF _ _ _ (@aS _ _ _ _ (aZ (aA bA (aA (aH (oB T) (hr.mono (by decide)) rfl T.m_qP T.F_qP.kp T.b_qP .nil (aL fun _ _ z=>z) (aA (@aI _ _ _ _ _ _ _ aG (pv 0) aB (fun _ _=>rfl)) (aA (pv 1) aC))) aC) dI)))) bD)
   (@aD _ _ _ _ _ cR
   (@aD _ _ _ _ _ (@aK _ _ 3 _ _ _ _ sc.nd rfl (by walk_at "o1") (pv 2) (by rfl) (by walk_at "o2"))
   (@aD _ _ _ _ _ (@bY _ _ _ _ _ _ _ _ (@aX _ _ _ _ _ _ _ _ (jX hu2) (@aI _ _ _ _ _ _ _ aG (pv 0) aB (fun _ _=>rfl)) (@aI _ _ _ _ _ _ _ aG (pv 0) aB (fun _ _=>rfl)) (bB _)) (@aF _ _ _ cR) bD)
   (@aF _ _ _ (@aS _ _ _ _ (aZ (aA bA (aA (aH (oB T) (hr.mono (by decide)) rfl T.m_qP T.F_qP.kp T.b_qP .nil (aL fun _ _ z=>z) (aA (@aI _ _ _ _ _ _ _ aG (pv 0) aB (fun _ _=>rfl)) (aA (pv 1) aC))) (aA (pv 2) (aA (pv 3) aC))) dI)))))))),?_⟩
 walk_at "kx"
 cases t with
 | en w =>
  obtain ⟨p,rfl,hp⟩:=TV.en tv
  walk_at "rd"
  rename_i r hr pp hpp
  exact q _ _ ((aM hr _).new hpp _) (TV.hen' b0 aE (kp aE hpp))
 | fk w y n=>exact absurd td (by show ¬ max _ _ + 1<=0; omega)
theorem ok_qLS (T:Tx K mg)(d:Nat)(ih:FnOk P w K mg base (cK P w) (d + 2) T.f_qL T.d_qL ["_law_tree_here", "_law_bottom"] (dQ K d)) : FnOk P w K mg base (cK P w) (d + 1 + 2) T.f_qL T.d_qL ["_law_tree_here", "_law_bottom"] (dQ K (d + 1)):=by
 have sc:=sc_qL
 refine T.F_qL.okx sc (fun vs H Q E h=>?_) (fun cdv A outer s H vs Q E hr h=>?_)
 ·obtain ⟨v,t,B,rfl,tv,td,d40,b0,bz,q⟩:=h
  rfl
 obtain ⟨v,t,B,rfl,tv,td,d40,b0,bz,q⟩:=h
 have hu:=hr.units0
 have hu2:=hr.units
 have hu1:=Nat.lt_of_le_of_lt (Nat.add_le_add_left (show 1<=64 by decide) _) hu2
 refine ⟨_,(@aD _ _ _ _ _ (@bY _ _ _ _ _ _ _ _ (@aX _ _ _ _ _ _ _ _ dC (@aI _ _ _ _ _ _ _ aG (pv 0) aB (fun _ _=>rfl)) bA (bB _)) (@aF _ _ _ (@aS _ _ _ _ (aZ (aA bA (aA (aH (oB T) (hr.mono (by omega)) rfl T.m_qP T.F_qP.kp T.b_qP .nil (aL fun _ _ z=>z) (aA (@aI _ _ _ _ _ _ _ aG (pv 0) aB (fun _ _=>rfl)) (aA (pv 1) aC))) aC) dI)))) bD)
   (@aD _ _ _ _ _ (@aK _ _ 2 _ _ _ _ sc.nd rfl (by walk_at "o1") (aH ih (hr.mono (by omega)) rfl T.m_qL T.F_qL.kp T.b_qL .nil (aL fun _ _ z=>z) (aA (@aI _ _ _ _ _ _ _ aG (pv 0) aB (fun _ _=>rfl)) (aA (pv 1) aC))) (by rfl) (by walk_at "o2"))
   (@aD _ _ _ _ _ (@aK _ _ 3 _ _ _ _ sc.nd rfl (by walk_at "o1") (pv 2) (by rfl) (by walk_at "o2"))
   (@aD _ _ _ _ _ (@bY _ _ _ _ _ _ _ _ (@aX _ _ _ _ _ _ _ _ (jX hu2) (@aI _ _ _ _ _ _ _ aG (pv 0) aB (fun _ _=>rfl)) (@aI _ _ _ _ _ _ _ aG (pv 0) aB (fun _ _=>rfl)) (bB _)) (@aF _ _ _ (@aK _ _ 3 _ _ _ _ sc.nd rfl (by walk_at "o1") (aH ih (hr.mono (by omega)) rfl T.m_qL T.F_qL.kp T.b_qL .nil (aL fun _ _ z=>z) (aA (@aI _ _ _ _ _ _ _ aG (pv 0) aB (fun _ _=>rfl)) (aA (pv 1) aC))) (by rfl) (by walk_at "o2"))) bD)
   (@aF _ _ _ (@aS _ _ _ _ (aZ (aA bA (aA (aH (oB T) (hr.mono (by omega)) rfl T.m_qP T.F_qP.kp T.b_qP .nil (aL fun _ _ z=>z) (aA (@aI _ _ _ _ _ _ _ aG (pv 0) aB (fun _ _=>rfl)) (aA (pv 1) aC))) (aA (pv 2) (aA (pv 3) aC))) dI)))))))),?_⟩
 walk_at "kx"
 cases t with
 | en w =>
  obtain ⟨p,rfl,hp⟩:=TV.en tv
  walk_at "rd"
  rename_i r hr pp hpp
  exact q _ _ ((aM hr _).new hpp _) (TV.hen' b0 aE (kp aE hpp))
 | fk w y n =>
  obtain ⟨p,u1,u2,rfl,hp,t1,t2⟩:=TV.fk tv
  have dd:max y.dp n.dp + 1<=d + 1:=td
  have dy:y.dp<=d:=by omega
  have dn:n.dp<=d:=by omega
  have d4:max y.dp n.dp + 1<=40:=d40
  have y4:y.dp<=40:=by omega
  have n4:n.dp<=40:=by omega
  walk_at "rd"
  rename_i H1 x1 S1 c1
  have hp1:=S1 _ _ hp
  have t11:=t1.mono S1.t
  have t21:=t2.mono S1.t
  have fin:∀ H2 x2 r pp,aN H1 H2->TV K H2 x2 (eF B n)->H2 r=none->upd H2 r (rt (Rat.divInt w B)) pp=none->Q (.ref pp) (upd (upd H2 r (rt (Rat.divInt w B))) pp (.tup [.str "fork", .ref r,x1,x2])):=fun H2 x2 r pp S2 c2 hr hpp=>by
   have SN:=(aM hr (H:=H2) (rt (Rat.divInt w B))).new hpp (.tup [.str "fork", .ref r,x1,x2])
   exact q _ _ ((S1.trans S2).trans SN) (TV.hfk' b0 aE (kp aE hpp) ((c1.mono S2.t).mono SN.t) (c2.mono SN.t))
  refine ⟨cU n,cU y,t21.dv,t11.dv,((qV n).mono (by omega)).shaped,((qV y).mono (by omega)).shaped,?_⟩
  by_cases e:n=y
  ·subst e
   rw [(qR n n).mpr rfl]
   walk_at "rd"
   rename_i r hr pp hpp
   exact fin H1 x1 r pp (aN.refl _) c1 hr hpp
  ·have ev:PyData.eqv (cU n) (cU y)=false:=by rw [Bool.eq_false_iff]; exact fun z=>e ((qR n y).mp z)
   rw [ev]
   walk_at "rd"
   rename_i H2 x2 S2 c2 r hr pp hpp
   exact fin H2 x2 r pp S2 c2 hr hpp
theorem ok_qLA (T:Tx K mg) : ∀ d:Nat,FnOk P w K mg base (cK P w) (d + 2) T.f_qL T.d_qL ["_law_tree_here", "_law_bottom"] (dQ K d):=by
 intro d
 induction d with
 | zero=>exact ok_qL0 T
 | succ d ih=>exact ok_qLS T d ih
theorem ok_qL (T:Tx K mg) : FnOk P w K mg base (cK P w) (20 + 2) T.f_qL T.d_qL ["_law_tree_here", "_law_bottom"] (dQ K 20):=by exact ok_qLA T 20
theorem ok_qQ0 (T:Tx K mg) : FnOk P w K mg base (cK P w) (0 + 2) T.f_qQ T.d_qQ ["_law_tree_here", "_law_place", "_law_cell_here"] (d8 K 0):=by
 have sc:=sc_qQ
 refine T.F_qQ.okx sc (fun vs H Q E h=>?_) (fun cdv A outer s H vs Q E hr h=>?_)
 ·obtain ⟨v,t,q0,c,rfl,tv,td,lt,ql,q⟩:=h
  rfl
 obtain ⟨v,t,q0,c,rfl,tv,td,lt,ql,q⟩:=h
 have hu:=hr.units0
 have hu2:=hr.units
 have hu1:=Nat.lt_of_le_of_lt (Nat.add_le_add_left (show 1<=64 by decide) _) hu2
 refine ⟨_,(@aD _ _ _ _ _ (@bY _ _ _ _ _ _ _ _ (PW.pt (iR (@aX _ _ _ _ _ _ _ _ dC (@aI _ _ _ _ _ _ _ aG (pv 0) aB (fun _ _=>rfl)) bA (bB _)) (fY (@aX _ _ _ _ _ _ _ _ dD (@aJ _ _ _ _ _ _ _ _ cJ (pv 2) aB) aB (bB _))))) (@aF _ _ _ (@aS _ _ _ _ (@cD _ _ _ _ (aA (pv 1) aC)))) bD)
   (@aD _ _ _ _ _ cR
   (@aF _ _ _ cR))),?_⟩
 walk_at "kx"
 cases t with
 | en w =>
  obtain ⟨p,rfl,hp⟩:=TV.en tv
  walk_at "rd"
  rename_i z hz
  exact q _ z [q0] (Tr.en w).w (aM hz _) aE (.stop _ _)
 | fk w y n=>exact absurd td (by show ¬ max _ _ + 1<=0; omega)
theorem ok_qQS (T:Tx K mg)(d:Nat)(ih:FnOk P w K mg base (cK P w) (d + 2) T.f_qQ T.d_qQ ["_law_tree_here", "_law_place", "_law_cell_here"] (d8 K d)) : FnOk P w K mg base (cK P w) (d + 1 + 2) T.f_qQ T.d_qQ ["_law_tree_here", "_law_place", "_law_cell_here"] (d8 K (d + 1)):=by
 have sc:=sc_qQ
 refine T.F_qQ.okx sc (fun vs H Q E h=>?_) (fun cdv A outer s H vs Q E hr h=>?_)
 ·obtain ⟨v,t,q0,c,rfl,tv,td,lt,ql,q⟩:=h
  rfl
 obtain ⟨v,t,q0,c,rfl,tv,td,lt,ql,q⟩:=h
 have hu:=hr.units0
 have hu2:=hr.units
 have hu1:=Nat.lt_of_le_of_lt (Nat.add_le_add_left (show 1<=64 by decide) _) hu2
 refine ⟨_,(@aD _ _ _ _ _ (@bY _ _ _ _ _ _ _ _ (PW.pt (iR (@aX _ _ _ _ _ _ _ _ dC (@aI _ _ _ _ _ _ _ aG (pv 0) aB (fun _ _=>rfl)) bA (bB _)) (fY (@aX _ _ _ _ _ _ _ _ dD (@aJ _ _ _ _ _ _ _ _ cJ (pv 2) aB) aB (bB _))))) (@aF _ _ _ (@aS _ _ _ _ (@cD _ _ _ _ (aA (pv 1) aC)))) bD)
   (@aD _ _ _ _ _ (@aK _ _ 3 _ _ _ _ sc.nd rfl (by walk_at "o1") (aH ih (hr.mono (by omega)) rfl T.m_qQ T.F_qQ.kp T.b_qQ .nil (aL fun _ _ z=>z) (aA (@aI _ _ _ _ _ _ _ aG (pv 0) aB (fun _ _=>rfl)) (aA (@aJ _ _ _ _ _ _ _ _ bV (pv 1) bA) (aA (aH (vZ T) (hr.mono (by omega)) rfl T.m_qX T.F_qX.kp T.b_qX .nil (aL fun _ _ z=>z) (aA (pv 2) (aA aB aC))) aC)))) (by rfl) (by walk_at "o2"))
   (@aF _ _ _ (@aS _ _ _ _ (@aJ _ _ _ _ _ _ _ _ iN (pv 3) (aH ih (hr.mono (by omega)) rfl T.m_qQ T.F_qQ.kp T.b_qQ .nil (aL fun _ _ z=>z) (aA (@aI _ _ _ _ _ _ _ aG (pv 0) aB (fun _ _=>rfl)) (aA (@aJ _ _ _ _ _ _ _ _ bV (pv 1) bA) (aA (aH (vZ T) (hr.mono (by omega)) rfl T.m_qX T.F_qX.kp T.b_qX .nil (aL fun _ _ z=>z) (aA (pv 2) (aA aB aC))) aC))))))))),?_⟩
 walk_at "kx"
 cases t with
 | en w =>
  obtain ⟨p,rfl,hp⟩:=TV.en tv
  walk_at "rd"
  rename_i z hz
  exact q _ z [q0] (Tr.en w).w (aM hz _) aE (.stop _ _)
 | fk w y n =>
  obtain ⟨p,u1,u2,rfl,hp,t1,t2⟩:=TV.fk tv
  have dd:max y.dp n.dp + 1<=d + 1:=td
  have dy:y.dp<=d:=by omega
  have dn:n.dp<=d:=by omega
  have lt:y.lv + n.lv<=50:=lt
  have ql:q0.length + (max y.dp n.dp + 1)<=100:=ql
  have ey:("y" : Str).length=1:=by decide +kernel
  have en:("n" : Str).length=1:=by decide +kernel
  have l1:(q0 ++ ("y" : Str)).length=q0.length + 1:=by rw [cQ,ey]
  have l2:(q0 ++ ("n" : Str)).length=q0.length + 1:=by rw [cQ,en]
  have z1:q0.length + ("y" : Str).length<=sizeLine:=jM (by omega)
  have z2:q0.length + ("n" : Str).length<=sizeLine:=jM (by omega)
  have ly:y.lv<=50:=by omega
  have ln:n.lv<=50:=by omega
  have qy:(q0 ++ ("y" : Str)).length + y.dp<=100:=by omega
  have qn:(q0 ++ ("n" : Str)).length + n.dp<=100:=by omega
  walk_at "rd"
  refine dX (fun e=>?_) (fun e=>?_)
  ·walk_at "rd"
   rename_i z hz
   exact q _ z [q0] w (aM hz _) aE (.stop (.fk w y n) q0)
  walk_at "rd"
  rename_i H1 p1 ps1 s1 S1 h1 P1 c2 c20 c21
  refine ⟨t1.mono S1.t,dy,ly,qy,fun H2 p2 ps2 s2 S2 h2 P2=>?_⟩
  have h12:=S2 _ _ h1
  obtain ⟨g1,i1⟩:=P1.pi
  obtain ⟨g2,i2⟩:=P2.pi
  have e1:=i1.len.1
  have e2:=i2.len.1
  walk_at "rd"
  refine ⟨jM (by rw [List.length_map,List.length_map]; omega),fun p3 h3=>?_⟩
  exact q _ p3 (ps1 ++ ps2) _ ((S1.trans S2).new h3 _) (by rw [aE,<- List.map_append]) (.go P2 P1)
theorem ok_qQA (T:Tx K mg) : ∀ d:Nat,FnOk P w K mg base (cK P w) (d + 2) T.f_qQ T.d_qQ ["_law_tree_here", "_law_place", "_law_cell_here"] (d8 K d):=by
 intro d
 induction d with
 | zero=>exact ok_qQ0 T
 | succ d ih=>exact ok_qQS T d ih
theorem ok_qQ (T:Tx K mg) : FnOk P w K mg base (cK P w) (20 + 2) T.f_qQ T.d_qQ ["_law_tree_here", "_law_place", "_law_cell_here"] (d8 K 20):=by exact ok_qQA T 20
theorem wC (T:Tx K mg) : FnOk P w K mg base (cK P w) 1 T.f_j1 T.d_j1 ["_law_tree_here", "_law_places"] (uV K):=by
 have sc:=sc_j1
 refine T.F_j1.okx sc (fun vs H Q E h=>?_) (fun cdv A outer s H vs Q E hr h=>?_)
 ·obtain ⟨v,a,t,ps,rfl,tv,ha,pl,kn,dp,q⟩:=h
  rfl
 obtain ⟨v,a,t,ps,rfl,tv,ha,pl,kn,dp,q⟩:=h
 have hu:=hr.units0
 have hu2:=hr.units
 have hu1:=Nat.lt_of_le_of_lt (Nat.add_le_add_left (show 1<=64 by decide) _) hu2
 refine ⟨_,(@aD _ _ _ _ _ (@aK _ _ 2 _ _ _ _ sc.nd rfl (by walk_at "o1") aB (by rfl) (by walk_at "o2"))
   (@aD _ _ _ _ _ (cS dS rfl (bL (pv 1)) (aY (i:=3) sc.nd rfl (by walk_at "o1"))
   (@aD _ _ _ _ _ (@aK _ _ 4 _ _ _ _ sc.nd rfl (by walk_at "o1") (pv 0) (by rfl) (by walk_at "o2"))
   (@aD _ _ _ _ _ (@aO _ _ _ (cS dS rfl (pi_str (pv 3)) (aY (i:=5) sc.nd rfl (by walk_at "o1"))
   (@aF _ _ _ (@aK _ _ 4 _ _ _ _ sc.nd rfl (by walk_at "o1") (@aI _ _ _ _ _ _ _ aG (pv 4) (@aJ _ _ _ _ _ _ _ _ cG aB (dL uA rfl T.z_int xL (aA (jA dC (pv 5) bA (bB _)) aC))) (fun _ _=>rfl)) (by rfl) (by walk_at "o2")))))
   (@aF _ _ _ (ps_aug (i:=2) sc.nd rfl (by walk_at "o1") (@aI _ _ _ _ _ _ _ aG (pv 4) aB (fun _ _=>rfl)) iop_add)))))
   (@aF _ _ _ (@aS _ _ _ _ (pv 2))))),?_⟩
 walk_at "kx"
 have hl2:(ps.map V.str).length=ps.length:=List.length_map _
 walk_at "rd"
 refine c5 (K:=K) (a:=a) (xs:=ps.map V.str) (fun i σ H'=>Iv (H'=H/\∃ o3 o4 o5,σ = [some v,some (.ref a),some (.int (c8 t (ps.take i))),o3,o4,o5])) ⟨⟨rfl,_,_,_,rfl⟩⟩ (fun i σ H' _ z=>c6.of (by rw [z.o.1]; exact ha)) ?_ ?_
 ·refine fun i x σ H' hx h0=>hid fun J Z=>?_
  obtain ⟨⟨rfl,o3,o4,o5,rfl⟩⟩ :=h0
  refine Z ?_
  clear Z
  rw [List.getElem?_map] at hx
  obtain ⟨x,hx2,rfl⟩:=Option.map_eq_some_iff.mp hx
  have xm:=List.mem_of_getElem? hx2
  have xk:=kn x xm
  rw [dN,List.map_map] at xk
  obtain ⟨⟨pw,u⟩,he,ex⟩:=List.mem_map.mp xk
  obtain rfl:pw=x:=ex
  have hg:=qY he
  have wv:wA t pw=u.wt:=eO _ he
  have lw:pw.length<=40:=by
   obtain ⟨u2,hu2,e2⟩:=List.mem_map.mp (kn pw xm)
   have:=jT hu2
   rw [show ("" : Str).length=0 by decide +kernel,e2] at this
   omega
  have hcl:(bI pw).length=pw.cps.size:=c9 pw
  have hwz:pw.length<=sizeLine:=jM (by omega)
  walk_at "rd"
  refine aP (fun σ' H1=>Iv (H1=H'/\∃ (v':V) (o5:Option V),TV K H' v' (cU u)/\σ' = [some v,some (.ref a),some (.int (c8 t (ps.take i))),some (.str pw),some v',o5])) (fun _ _ _=>?_) ?_
  ·walk_at "rd"
   refine for_str (fun j σ H1=>Iv (H1=H'/\∃ (v':V) (t':Tr) (o5:Option V),σ = [some v,some (.ref a),some (.int (c8 t (ps.take i))),some (.str pw),some v',o5]/\TV K H' v' (cU t')/\t'.go ((bI pw).drop j)=some u)) ⟨⟨rfl,v,t,_,rfl,tv,hg⟩⟩ ?_ ?_
   ·refine fun j c σ H1 hj h0=>hid fun J Z=>?_
    obtain ⟨⟨rfl,v',t',o3,rfl,tv',hg'⟩⟩ :=h0
    refine Z ?_
    clear Z
    have e2:(bI pw)[j]? = some c:=by rw [show bI pw=pw.cps.toList from rfl,Array.getElem?_toList]; exact hj
    have ed:(bI pw).drop j=c :: (bI pw).drop (j + 1):=by
     have il:=(List.getElem?_eq_some_iff.mp e2)
     rw [List.drop_eq_getElem_cons il.1,il.2]
    rw [ed] at hg'
    cases t' with
    | en w=>cases hg'
    | fk w y n =>
     have hg':(if c=121 then y.go ((bI pw).drop (j + 1)) else if c=110 then n.go ((bI pw).drop (j + 1)) else none)=some u:=hg'
     obtain ⟨p,v1,v2,rfl,hp,ty,tn⟩:=TV.fk tv'
     have i2:gP [V.str "fork", V.int w,v1,v2] 2=some v1:=cX (j:=2) rfl
     have i3:gP [V.str "fork", V.int w,v1,v2] 3=some v2:=cX (j:=3) rfl
     by_cases e:c=121
     ·rw [if_pos e] at hg'
      subst e
      have k1:decide ((⟨#[121]⟩ : Str)=Str.ofString "n")=false:=by decide +kernel
      walk_at "rd"
      refine .inr ⟨_,rfl,?_⟩
      rw [k1]
      walk_at "rd"
      exact ⟨⟨rfl,_,y,_,rfl,ty,hg'⟩⟩
     ·rw [if_neg e] at hg'
      by_cases e2:c=110
      ·rw [if_pos e2] at hg'
       subst e2
       have k1:decide ((⟨#[110]⟩ : Str)=Str.ofString "n")=true:=by decide +kernel
       walk_at "rd"
       refine .inr ⟨_,rfl,?_⟩
       rw [k1]
       walk_at "rd"
       exact ⟨⟨rfl,_,n,_,rfl,tn,hg'⟩⟩
      ·rw [if_neg e2] at hg'
       cases hg'
   ·refine fun σ H1 h0=>hid fun J Z=>?_
    obtain ⟨⟨rfl,v',t',o3,rfl,tv',hg'⟩⟩ :=h0
    refine Z ?_
    clear Z
    rw [<- hcl,List.drop_length] at hg'
    have hg2:some t'=some u:=by rw [<- hg']; cases t' <;> rfl
    obtain rfl:t'=u:=Option.some.inj hg2
    exact ⟨⟨rfl,_,_,tv',rfl⟩⟩
  rintro J Z σ' H1 ⟨⟨rfl,v',o5,tv',rfl⟩⟩
  refine Z _ _ ?_
  clear Z
  obtain ⟨p,k,r,rfl,hp⟩:=tv'.wt
  walk_at "rd"
  refine ⟨xN,?_⟩
  walk_at "rd"
  have es:c8 t (ps.take (i + 1))=c8 t (ps.take i) + u.wt:=by
   unfold c8
   rw [List.take_add_one,hx2,List.map_append,List.sum_append,<- wv]
   show _ + (wA t pw + 0)=_
   omega
  exact ⟨⟨rfl,some (.str pw),some (.ref p),o5,by rw [es]; rfl⟩⟩
 ·refine fun σ H' h0=>hid fun J Z=>?_
  obtain ⟨⟨rfl,o3,o4,o5,rfl⟩⟩ :=h0
  refine Z ?_
  clear Z
  rw [hl2,List.take_length]
  walk_at "rd"
  exact q
theorem ok_qZ0 (T:Tx K mg) : FnOk P w K mg base (cK P w) (0 + 1) T.f_qZ T.d_qZ ["_law_tree_here", "_law_place"] (eQ K 0):=by
 have sc:=sc_qZ
 refine T.F_qZ.okx sc (fun vs H Q E h=>?_) (fun cdv A outer s H vs Q E hr h=>?_)
 ·obtain ⟨v,t,q0,rfl,tv,td,lt,ql,q⟩:=h
  rfl
 obtain ⟨v,t,q0,rfl,tv,td,lt,ql,q⟩:=h
 have hu:=hr.units0
 have hu2:=hr.units
 have hu1:=Nat.lt_of_le_of_lt (Nat.add_le_add_left (show 1<=64 by decide) _) hu2
 refine ⟨_,(@aD _ _ _ _ _ (@bY _ _ _ _ _ _ _ _ (@aX _ _ _ _ _ _ _ _ dC (@aI _ _ _ _ _ _ _ aG (pv 0) aB (fun _ _=>rfl)) bA (bB _)) (@aF _ _ _ (@aS _ _ _ _ (@cD _ _ _ _ (aA (pv 1) aC)))) bD)
   (@aF _ _ _ cR)),?_⟩
 walk_at "kx"
 cases t with
 | en w =>
  obtain ⟨p,rfl,hp⟩:=TV.en tv
  walk_at "rd"
  rename_i z hz
  exact q _ z (aM hz _) aE
 | fk w y n=>exact absurd td (by show ¬ max _ _ + 1<=0; omega)
theorem ok_qZS (T:Tx K mg)(d:Nat)(ih:FnOk P w K mg base (cK P w) (d + 1) T.f_qZ T.d_qZ ["_law_tree_here", "_law_place"] (eQ K d)) : FnOk P w K mg base (cK P w) (d + 1 + 1) T.f_qZ T.d_qZ ["_law_tree_here", "_law_place"] (eQ K (d + 1)):=by
 have sc:=sc_qZ
 refine T.F_qZ.okx sc (fun vs H Q E h=>?_) (fun cdv A outer s H vs Q E hr h=>?_)
 ·obtain ⟨v,t,q0,rfl,tv,td,lt,ql,q⟩:=h
  rfl
 obtain ⟨v,t,q0,rfl,tv,td,lt,ql,q⟩:=h
 have hu:=hr.units0
 have hu2:=hr.units
 have hu1:=Nat.lt_of_le_of_lt (Nat.add_le_add_left (show 1<=64 by decide) _) hu2
 refine ⟨_,(@aD _ _ _ _ _ (@bY _ _ _ _ _ _ _ _ (@aX _ _ _ _ _ _ _ _ dC (@aI _ _ _ _ _ _ _ aG (pv 0) aB (fun _ _=>rfl)) bA (bB _)) (@aF _ _ _ (@aS _ _ _ _ (@cD _ _ _ _ (aA (pv 1) aC)))) bD)
   (@aF _ _ _ (@aS _ _ _ _ (@aJ _ _ _ _ _ _ _ _ iN (aH ih (hr.mono (by omega)) rfl T.m_qZ T.F_qZ.kp T.b_qZ .nil (aL fun _ _ z=>z) (aA (@aI _ _ _ _ _ _ _ aG (pv 0) aB (fun _ _=>rfl)) (aA (@aJ _ _ _ _ _ _ _ _ bV (pv 1) bA) aC))) (aH ih (hr.mono (by omega)) rfl T.m_qZ T.F_qZ.kp T.b_qZ .nil (aL fun _ _ z=>z) (aA (@aI _ _ _ _ _ _ _ aG (pv 0) aB (fun _ _=>rfl)) (aA (@aJ _ _ _ _ _ _ _ _ bV (pv 1) bA) aC))))))),?_⟩
 walk_at "kx"
 cases t with
 | en w =>
  obtain ⟨p,rfl,hp⟩:=TV.en tv
  walk_at "rd"
  rename_i z hz
  exact q _ z (aM hz _) aE
 | fk w y n =>
  obtain ⟨p,u1,u2,rfl,hp,t1,t2⟩:=TV.fk tv
  have dd:max y.dp n.dp + 1<=d + 1:=td
  have dy:y.dp<=d:=by omega
  have dn:n.dp<=d:=by omega
  have lt:y.lv + n.lv<=50:=lt
  have ql:q0.length + (max y.dp n.dp + 1)<=100:=ql
  have ey:("y" : Str).length=1:=by decide +kernel
  have en:("n" : Str).length=1:=by decide +kernel
  have l1:(q0 ++ ("y" : Str)).length=q0.length + 1:=by rw [cQ,ey]
  have l2:(q0 ++ ("n" : Str)).length=q0.length + 1:=by rw [cQ,en]
  have z1:q0.length + ("y" : Str).length<=sizeLine:=jM (by omega)
  have z2:q0.length + ("n" : Str).length<=sizeLine:=jM (by omega)
  have ly:y.lv<=50:=by omega
  have ln:n.lv<=50:=by omega
  have qy:(q0 ++ ("y" : Str)).length + y.dp<=100:=by omega
  have qn:(q0 ++ ("n" : Str)).length + n.dp<=100:=by omega
  walk_at "rd"
  rename_i H1 p1 S1 h1
  have t1:=t1.mono S1.t
  have hp1:=S1 _ _ hp
  walk_at "rd"
  rename_i H2 p2 S2 h2
  have h12:=S2 _ _ h1
  have e1:=iD n (q0 ++ "n")
  have e2:=iD y (q0 ++ "y")
  walk_at "rd"
  refine ⟨jM (by rw [List.length_map,List.length_map]; omega),fun p3 h3=>?_⟩
  exact q _ p3 ((S1.trans S2).new h3 _) (by rw [aE,<- List.map_append]; rfl)
theorem ok_qZA (T:Tx K mg) : ∀ d:Nat,FnOk P w K mg base (cK P w) (d + 1) T.f_qZ T.d_qZ ["_law_tree_here", "_law_place"] (eQ K d):=by
 intro d
 induction d with
 | zero=>exact ok_qZ0 T
 | succ d ih=>exact ok_qZS T d ih
theorem ok_qZ (T:Tx K mg) : FnOk P w K mg base (cK P w) (20 + 1) T.f_qZ T.d_qZ ["_law_tree_here", "_law_place"] (eQ K 20):=by exact ok_qZA T 20
theorem ok_q7 (T:Tx K mg) : FnOk P w K mg base (cK P w) 22 T.f_q7 T.d_q7 ["_law_tree_here", "_law_places"] (u6 K):=by
 have sc:=sc_q7
 refine T.F_q7.okx sc (fun vs H Q E h=>?_) (fun cdv A outer s H vs Q E hr h=>?_)
 ·obtain ⟨v,a,t,ps,gs,rfl,tv,ha,lt,td,pi,q⟩:=h
  rfl
 obtain ⟨v,a,t,ps,gs,rfl,tv,ha,lt,td,pi,q⟩:=h
 have hu:=hr.units0
 have hu2:=hr.units
 have hu1:=Nat.lt_of_le_of_lt (Nat.add_le_add_left (show 1<=64 by decide) _) hu2
 refine ⟨_,(@aD _ _ _ _ _ (@aO _ _ _ (@bY _ _ _ _ _ _ _ _ (PW.pt (iR (gW (cZ (aV kE rfl T.z_isinstance eJ (aA (pv 1) (aA (mL (v:=.ty "list") rfl T.z_list sD rfl) aC))))) (fY (@aX _ _ _ _ _ _ _ _ (jX hu2) (aV (eI rfl) rfl T.z_sorted eW (aA (dL (eV rfl) rfl T.z_set kG (aA (pv 1) aC)) aC)) (pv 1) (bB _))))) (@aF _ _ _ (@aS _ _ _ _ iT)) bD))
   (@aD _ _ _ _ _ (@aO _ _ _ (@aK _ _ 2 _ _ _ _ sc.nd rfl (by walk_at "o1") iB (by rfl) (by walk_at "o2")))
   (@aD _ _ _ _ _ (cS dS rfl (bL (aH (ok_qZ T) (hr.mono (by decide)) rfl T.m_qZ T.F_qZ.kp T.b_qZ .nil (aL fun _ _ z=>z) (aA (pv 0) (aA bA aC dI)))) (aY (i:=3) sc.nd rfl (by walk_at "o1"))
   (@aD _ _ _ _ _ (@aO _ _ _ (by first | exact eU (i:=4) sc.nd rfl (by walk_at "o1") (ts:=["_law_place"]) (js:=[3]) (LcOk.of rfl) rfl (bL (pv 1)) (fun _ _ _ _=>(aY (i:=0) (bK rfl) rfl (Or.inl rfl))) (fun _ _ _ _=>(dJ (cZ (dU PySem.F.plainAttrs_str PySem.F.slot_str_startswith PySem.F.type_str_startswith dA (pv 1) (aA (pv 0) aC))))) (fun _ _ _ _=>(pv 0)) | exact aK (i:=4) sc.nd rfl (by walk_at "o1") (dH (ts:=["_law_place"]) (js:=[3]) (LcOk.of rfl) rfl (bL (pv 1)) (fun _ _ _ _=>(aY (i:=0) (bK rfl) rfl (Or.inl rfl))) (fun _ _ _ _=>(dJ (cZ (dU PySem.F.plainAttrs_str PySem.F.slot_str_startswith PySem.F.type_str_startswith dA (pv 1) (aA (pv 0) aC))))) (fun _ _ _ _=>(pv 0)))))
   (@aD _ _ _ _ _ (@bY _ _ _ _ _ _ _ _ (@aX _ _ _ _ _ _ _ _ vX (aV aT rfl T.z_len bZ (aA (pv 4) aC)) aB (bB _)) (@aF _ _ _ (@aS _ _ _ _ iT)) bD)
   (@aF _ _ _ (hZ hu1 (pv 2) (@aI _ _ _ _ _ _ _ bN (pv 4) aB (fun _ _=>rfl)) iT rfl)))))
   (@aF _ _ _ (@aS _ _ _ _ (jA dD (aV o0 rfl T.z_len bZ (aA (pv 2) aC)) (aV aT rfl T.z_len bZ (aA (pv 1) aC)) (bB _))))))),?_⟩
 walk_at "kx"
 have hl1:(ps.map V.str).length=ps.length:=List.length_map _
 have ip:=pi.isP
 have ln:=pi.len.1
 have pl64:ps.length < 64:=by omega
 have asc:=(pi.asc (fun c hc=>by cases hc)).1
 have e00:("" : Str).length=0:=by decide +kernel
 have dl2:(ddS ps).length < 64:=Nat.lt_of_le_of_lt (mZ ps) pl64
 have lt50:t.lv<=50:=by omega
 have el:=iD t ""
 have q00:("" : Str).length + t.dp<=100:=by omega
 have lz:(ps.map V.str).length < sizeLine:=aU (by omega)
 refine aP (fun σ' H2=>Iv (aN H H2/\σ' = [some v,some (.ref a),none,none,none])) (fun _ _ _=>?_) ?_
 ·walk_at "rd"
  rename_i z1 hz1 z2 ws hz2 pw sw
  have c:ps=ws:=(uT pw sw).mpr ip.up
  subst c
  refine ned (d:=.list (ps.map PyData.str)) (dvS aE) (dvS (kp (kp ha hz1) hz2)) ((shS (n:=62) asc).mono (by decide)) ?_
  walk_at "rd"
  exact ⟨⟨(aM hz1 _).new hz2 _,rfl⟩⟩
 rintro J Z σ' H2 ⟨⟨S2,rfl⟩⟩
 refine Z _ _ ?_
 clear Z
 have ha2:=S2 _ _ ha
 have tv2:=tv.mono S2.t
 refine aP (fun σ' H3=>Iv (∃ (z:Addr),aN H2 H3/\H2 z=none/\H3 z=some (.dK [])/\σ' = [some v,some (.ref a),some (.ref z),none,none])) (fun _ _ _=>?_) ?_
 ·walk_at "rd"
  rename_i z hz
  exact ⟨⟨z,aM hz _,hz,aE,rfl⟩⟩
 rintro J Z σ' H3 ⟨⟨z,S3,fz,hz,rfl⟩⟩
 refine Z _ _ ?_
 clear Z
 have fz0:=S2.free fz
 have tv3:=tv2.mono S3.t
 walk_at "rd"
 rename_i H4 p S4 hp
 refine c5 (K:=K) (a:=p) (xs:=(tV t "").map V.str) (fun i σ' H'=>Iv (∃ (kvs:List (bG × V)) (ms:List Str) (o3 o4:Option V),aN H H'/\H' z=some (.dK kvs)/\H' p=some (.lst ((tV t "").map V.str))/\Met ps ((tV t "").take i) kvs ms/\σ' = [some v,some (.ref a),some (.ref z),o3,o4])) ⟨⟨[],[],_,_,(S2.trans S3).trans S4,S4 _ _ hz,hp,⟨rfl,List.nodup_nil,fun x hx=>(by cases hx),fun e he=>(by rw [List.take_zero] at he; cases he),Nat.zero_le _⟩,rfl⟩⟩ (fun i σ' H' _ y=>by obtain ⟨⟨_,_,_,_,_,_,k,_⟩⟩:=y; exact c6.of k) ?_ ?_
 ·refine fun i x σ' H5 hx h0=>hid fun J Z=>?_
  obtain ⟨⟨kvs,ms,o3,o4,S5,hz5,hp5,met,rfl⟩⟩ :=h0
  refine Z ?_
  clear Z
  rw [List.getElem?_map] at hx
  obtain ⟨e,he,rfl⟩:=Option.map_eq_some_iff.mp hx
  have em:=mW (List.mem_of_getElem? he)
  have one:=pi.one _ em rfl
  have one:(eM e ps).length=1:=one
  have ha5:=S5 _ _ ha
  refine aP (fun σ' H6=>Iv (∃ (ab:Addr),aN H5 H6/\H6 ab=some (.lst ((eM e ps).map V.str))/\σ' = [some v,some (.ref a),some (.ref z),some (.str e),some (.ref ab)])) (fun _ _ _=>?_) ?_
  ·walk_at "rd"
   refine c7 (K:=K) (a:=a) (xs:=ps.map V.str) (fun i ys H'=>Iv (H'=H5/\ys=(eM e (ps.take i)).map V.str)) ⟨⟨rfl,rfl⟩⟩ (fun i ys H' hi z=>⟨c6.of (by rw [z.o.1]; exact ha5),?_⟩) ?_ ?_
   ·rw [z.o.2,List.length_map]
    refine aU (Nat.le_trans (List.length_filter_le _ _) ?_)
    rw [List.length_take]
    omega
   ·rintro i v ys H' hi ⟨⟨rfl,rfl⟩⟩
    rw [List.getElem?_map] at hi
    obtain ⟨o,ho,rfl⟩:=Option.map_eq_some_iff.mp hi
    have il:=(List.getElem?_eq_some_iff.mp ho).1
    have ft:=cP (p:=fun o=>Txt.startswith e o) ho
    walk_at "rd"
    refine iteB (fun c=>?_) (fun c=>?_)
    ·walk_at "rd"
     refine ⟨⟨rfl,?_⟩⟩
     unfold eM
     rw [ft,if_pos c,List.map_append]
     rfl
    ·walk_at "rd"
     refine ⟨⟨rfl,?_⟩⟩
     unfold eM
     rw [ft,if_neg (by rw [c]; decide),List.append_nil]
   ·rintro ys H' ⟨⟨rfl,rfl⟩⟩ ab hab
    rw [hl1,List.take_length]
    walk_at "rd"
    exact ⟨⟨ab,aM hab _,aE,rfl⟩⟩
  rintro J Z σ' H6 ⟨⟨ab,S6,hab,rfl⟩⟩
  refine Z _ _ ?_
  clear Z
  obtain ⟨x,hx1⟩:=List.length_eq_one_iff.mp one
  rw [hx1] at hab
  have hab:H6 ab=some (.lst [.str x]):=hab
  have a0:gP [V.str x] 0=some (.str x):=cX (j:=0) rfl
  have hz6:=S6 _ _ hz5
  have kl:kvs.length < sizeLine:=by
   have:=congrArg List.length met.ks
   rw [List.length_map,List.length_map] at this
   have le:=met.le
   rw [List.length_take] at le
   exact aU (by omega)
  have g3:kN H6 z (.str x) (.bl true) (upd H6 z (.dK (fF kvs (.inr x) (.bl true)))):=kN.k (k:=.inr x) hz6 kl
  have npz:p ≠ z:=fun e=>by rw [e,hz5] at hp5; cases hp5
  walk_at "rd"
  have met2:Met ps ((tV t "").take (i + 1)) (fF kvs (.inr x) (.bl true)) (if x∈ms then ms else ms ++ [x]):=by
   rw [List.take_add_one,he]
   exact met.step hx1
  exact ⟨⟨_,_,_,_,(S5.trans S6).upd fz0 _,aE,by rw [aR npz]; exact S6 _ _ hp5,met2,rfl⟩⟩
 ·refine fun σ' H5 h0=>hid fun J Z=>?_
  obtain ⟨⟨kvs,ms,o3,o4,S5,hz5,hp5,met,rfl⟩⟩ :=h0
  refine Z ?_
  clear Z
  rw [List.length_map,List.take_length] at met
  have ml:=met.len pi
  have ha5:=S5 _ _ ha
  walk_at "rd"
  show Q (.bl (decide _)) H5
  rw [decide_eq_true (by rw [hl1,ml])]
  exact q _ S5
theorem lD (T:Tx K mg) : FnOk P w K mg base (cK P w) 1 T.f_qR T.d_qR ["_law_bag", "_law_many"] pN:=by
 have sc:=sc_qR
 refine T.F_qR.okx sc (fun vs H Q E h=>?_) (fun cdv A outer s H vs Q E hr h=>?_)
 ·obtain ⟨b,x,k,m,rfl,hb,bd,hm,hm2,q⟩:=h
  rfl
 obtain ⟨b,x,k,m,rfl,hb,bd,hm,hm2,q⟩:=h
 have hu:=hr.units0
 have hu2:=hr.units
 have hu1:=Nat.lt_of_le_of_lt (Nat.add_le_add_left (show 1<=64 by decide) _) hu2
 refine ⟨_,(@aD _ _ _ _ _ (@bY _ _ _ _ _ _ _ _ (@aX _ _ _ _ _ _ _ _ dD (@aI _ _ _ _ _ _ _ bN (pv 0) aB (fun _ _=>rfl)) aB (bB _)) (@aD _ _ _ _ _ (@aK _ _ 2 _ _ _ _ sc.nd rfl (by walk_at "o1") (@aJ _ _ _ _ _ _ _ _ cJ (@aI _ _ _ _ _ _ _ bN (pv 0) aB (fun _ _=>rfl)) (pv 1)) (by rfl) (by walk_at "o2"))
   (@aD _ _ _ _ _ (vI (@aJ _ _ _ _ _ _ _ _ bQ (@aI _ _ _ _ _ _ _ bN (pv 0) aB (fun _ _=>rfl)) (pv 1)) (vP (pv 0) aB hU))
   (@aF _ _ _ (@aS _ _ _ _ (pv 2))))) bD)
   (@aD _ _ _ _ _ (vI (@aJ _ _ _ _ _ _ _ _ cJ (@aJ _ _ _ _ _ _ _ _ cG (@aJ _ _ _ _ _ _ _ _ bH (@aI _ _ _ _ _ _ _ bN (pv 0) aB (fun _ _=>rfl)) aB) aB) aB) (vP (pv 0) aB hU))
   (@aF _ _ _ (@aS _ _ _ _ (@aJ _ _ _ _ _ _ _ _ cJ (@aJ _ _ _ _ _ _ _ _ bQ (@aJ _ _ _ _ _ _ _ _ cJ (@aJ _ _ _ _ _ _ _ _ bH (@aI _ _ _ _ _ _ _ bN (pv 0) aB (fun _ _=>rfl)) aB) aB) aB) (pv 1)))))),?_⟩
 walk_at "kx"
 have cd:∀ i,iL i m:=fun i=>cN i hm (by omega)
 have cd1:=cd x
 walk_at "rd"
 refine dX (fun c=>?_) (fun c=>?_)
 ·walk_at "rd"
  exact q (x / m) _ ⟨bd.1,fun z=>by omega⟩ ⟨Int.emod_nonneg _ (by omega),Int.emod_lt_of_pos _ hm⟩
 ·have z0:=bd.2 (by have:=bd.1; omega)
  walk_at "rd"
  exact q ((x * 48271 + 11) % 2147483647) _ ⟨bd.1,fun _=>⟨by omega,by omega⟩⟩ ⟨Int.emod_nonneg _ (by omega),Int.emod_lt_of_pos _ hm⟩
theorem ok_qS0 (T:Tx K mg) : FnOk P w K mg base (cK P w) (0 + 2) T.f_qS T.d_qS ["_law_bag", "_law_left", "_law_scale"] (fW K 0):=by
 have sc:=sc_qS
 refine T.F_qS.okx sc (fun vs H Q E h=>?_) (fun cdv A outer s H vs Q E hr h=>?_)
 ·obtain ⟨b,la,x,k,n,s,rfl,hb,bd,hla,n0,nd,nbl,s0,s1,q⟩:=h
  rfl
 obtain ⟨b,la,x,k,n,s,rfl,hb,bd,hla,n0,nd,nbl,s0,s1,q⟩:=h
 have hu:=hr.units0
 have hu2:=hr.units
 have hu1:=Nat.lt_of_le_of_lt (Nat.add_le_add_left (show 1<=64 by decide) _) hu2
 refine ⟨_,(@aD _ _ _ _ _ (@bY _ _ _ _ _ _ _ _ (PW.pt (iR (@aX _ _ _ _ _ _ _ _ dD (@aI _ _ _ _ _ _ _ bN (pv 1) aB (fun _ _=>rfl)) aB (bB _)) (fY (@aX _ _ _ _ _ _ _ _ fZ (aH (lD T) (hr.mono (by decide)) rfl T.m_qR T.F_qR.kp T.b_qR .nil (aL fun _ _ z=>z) (aA (pv 0) (aA aB aC))) aB (bB _))))) (@aF _ _ _ (@aS _ _ _ _ (aZ (aA bA (aA (@aJ _ _ _ _ _ _ _ _ bH (@aJ _ _ _ _ _ _ _ _ cF (aH (lD T) (hr.mono (by decide)) rfl T.m_qR T.F_qR.kp T.b_qR .nil (aL fun _ _ z=>z) (aA (pv 0) (aA aB aC))) aB) (pv 2)) aC) dI)))) bD)
   (@aD _ _ _ _ _ (@aO _ _ _ (qX (pv 1) aB rQ aB wT hU))
   (@aD _ _ _ _ _ cR
   (@aD _ _ _ _ _ cR
   (@aF _ _ _ (@aS _ _ _ _ (aZ (aA bA (aA (@aJ _ _ _ _ _ _ _ _ cG (@aJ _ _ _ _ _ _ _ _ cG (@aI _ _ _ _ _ _ _ aG (pv 3) aB (fun _ _=>rfl)) (@aI _ _ _ _ _ _ _ aG (pv 4) aB (fun _ _=>rfl))) (@aJ _ _ _ _ _ _ _ _ bH (@aJ _ _ _ _ _ _ _ _ cF (aH (lD T) (hr.mono (by decide)) rfl T.m_qR T.F_qR.kp T.b_qR .nil (aL fun _ _ z=>z) (aA (pv 0) (aA aB aC))) aB) (pv 2))) (aA (pv 3) (aA (pv 4) aC))) dI)))))))),?_⟩
 walk_at "kx"
 have nlb:la ≠ b:=Ne.symm nbl
 have hb':H b=some (.lst [.int x,.int k]):=hb
 have zs:Bz 100 s:=by show s.natAbs < 2 ^ 100; omega
 have nd:n<=0:=nd
 walk_at "rd"
 rename_i x1 d1 bd1 hd1 p hp
 have mb:=oI (x:=d1 - 20) (by omega) (by omega) s0 s1
 have kb:upd H b (.lst [.int x1,.int k]) b=some (.lst [.int x1,.int k]):=aE
 have kl:upd H b (.lst [.int x1,.int k]) la=some (.lst [.int n]):=by rw [aR nlb]; exact hla
 exact q _ _ (.en ((d1 - 20) * s)) x1 n (((Bt.refl b la H).x _).new hp _) (kp kb hp) bd1 (kp kl hp) n0 (Int.le_refl _) (TV.en' aE) (by show ((1:Nat) : Int)=_; omega) (Nat.zero_le _) mb
theorem ok_qSS (T:Tx K mg)(d:Nat)(ih:FnOk P w K mg base (cK P w) (d + 2) T.f_qS T.d_qS ["_law_bag", "_law_left", "_law_scale"] (fW K d)) : FnOk P w K mg base (cK P w) (d + 1 + 2) T.f_qS T.d_qS ["_law_bag", "_law_left", "_law_scale"] (fW K (d + 1)):=by
 have sc:=sc_qS
 refine T.F_qS.okx sc (fun vs H Q E h=>?_) (fun cdv A outer s H vs Q E hr h=>?_)
 ·obtain ⟨b,la,x,k,n,s,rfl,hb,bd,hla,n0,nd,nbl,s0,s1,q⟩:=h
  rfl
 obtain ⟨b,la,x,k,n,s,rfl,hb,bd,hla,n0,nd,nbl,s0,s1,q⟩:=h
 have hu:=hr.units0
 have hu2:=hr.units
 have hu1:=Nat.lt_of_le_of_lt (Nat.add_le_add_left (show 1<=64 by decide) _) hu2
 refine ⟨_,(@aD _ _ _ _ _ (@bY _ _ _ _ _ _ _ _ (PW.pt (iR (@aX _ _ _ _ _ _ _ _ dD (@aI _ _ _ _ _ _ _ bN (pv 1) aB (fun _ _=>rfl)) aB (bB _)) (fY (@aX _ _ _ _ _ _ _ _ fZ (aH (lD T) (hr.mono (by omega)) rfl T.m_qR T.F_qR.kp T.b_qR .nil (aL fun _ _ z=>z) (aA (pv 0) (aA aB aC))) aB (bB _))))) (@aF _ _ _ (@aS _ _ _ _ (aZ (aA bA (aA (@aJ _ _ _ _ _ _ _ _ bH (@aJ _ _ _ _ _ _ _ _ cF (aH (lD T) (hr.mono (by omega)) rfl T.m_qR T.F_qR.kp T.b_qR .nil (aL fun _ _ z=>z) (aA (pv 0) (aA aB aC))) aB) (pv 2)) aC) dI)))) bD)
   (@aD _ _ _ _ _ (@aO _ _ _ (qX (pv 1) aB rQ aB wT hU))
   (@aD _ _ _ _ _ (@aO _ _ _ (@aK _ _ 3 _ _ _ _ sc.nd rfl (by walk_at "o1") (aH ih (hr.mono (by omega)) rfl T.m_qS T.F_qS.kp T.b_qS .nil (aL fun _ _ z=>z) (aA (pv 0) (aA (pv 1) (aA (pv 2) aC)))) (by rfl) (by walk_at "o2")))
   (@aD _ _ _ _ _ (@aO _ _ _ (@aK _ _ 4 _ _ _ _ sc.nd rfl (by walk_at "o1") (aH ih (hr.mono (by omega)) rfl T.m_qS T.F_qS.kp T.b_qS .nil (aL fun _ _ z=>z) (aA (pv 0) (aA (pv 1) (aA (pv 2) aC)))) (by rfl) (by walk_at "o2")))
   (@aF _ _ _ (@aS _ _ _ _ (aZ (aA bA (aA (@aJ _ _ _ _ _ _ _ _ cG (@aJ _ _ _ _ _ _ _ _ cG (@aI _ _ _ _ _ _ _ aG (pv 3) aB (fun _ _=>rfl)) (@aI _ _ _ _ _ _ _ aG (pv 4) aB (fun _ _=>rfl))) (@aJ _ _ _ _ _ _ _ _ bH (@aJ _ _ _ _ _ _ _ _ cF (aH (lD T) (hr.mono (by omega)) rfl T.m_qR T.F_qR.kp T.b_qR .nil (aL fun _ _ z=>z) (aA (pv 0) (aA aB aC))) aB) (pv 2))) (aA (pv 3) (aA (pv 4) aC))) dI)))))))),?_⟩
 walk_at "kx"
 have nlb:la ≠ b:=Ne.symm nbl
 have hb':H b=some (.lst [.int x,.int k]):=hb
 have zs:Bz 100 s:=by show s.natAbs < 2 ^ 100; omega
 walk_at "rd"
 refine dX (fun c=>?_) (fun c=>?_)
 ·walk_at "rd"
  rename_i x1 d1 bd1 hd1 p hp
  have mb:=oI (x:=d1 - 20) (by omega) (by omega) s0 s1
  have kb:upd H b (.lst [.int x1,.int k]) b=some (.lst [.int x1,.int k]):=aE
  have kl:upd H b (.lst [.int x1,.int k]) la=some (.lst [.int n]):=by rw [aR nlb]; exact hla
  exact q _ _ (.en ((d1 - 20) * s)) x1 n (((Bt.refl b la H).x _).new hp _) (kp kb hp) bd1 (kp kl hp) n0 (Int.le_refl _) (TV.en' aE) (by show ((1:Nat) : Int)=_; omega) (Nat.zero_le _) mb
 ·walk_at "rd"
  rename_i x0 d0 bd0 hd0
  refine dX (fun c1=>?_) (fun c1=>?_)
  ·walk_at "rd"
   rename_i x1 d1 bd1 hd1 p hp
   have mb:=oI (x:=d1 - 20) (by omega) (by omega) s0 s1
   have kb:upd (upd H b (.lst [.int x0,.int k])) b (.lst [.int x1,.int k]) b=some (.lst [.int x1,.int k]):=aE
   have kl:upd (upd H b (.lst [.int x0,.int k])) b (.lst [.int x1,.int k]) la=some (.lst [.int n]):=by rw [aR nlb,aR nlb]; exact hla
   exact q _ _ (.en ((d1 - 20) * s)) x1 n ((((Bt.refl b la H).x _).x _).new hp _) (kp kb hp) bd1 (kp kl hp) n0 (Int.le_refl _) (TV.en' aE) (by show ((1:Nat) : Int)=_; omega) (Nat.zero_le _) mb
  ·have kb0:upd H b (.lst [.int x0,.int k]) b=some (.lst [.int x0,.int k]):=aE
   have kl0:upd H b (.lst [.int x0,.int k]) la=some (.lst [.int n]):=by rw [aR nlb]; exact hla
   have bt0:=(Bt.refl b la H).x (.lst [.int x0,.int k])
   generalize upd H b (.lst [.int x0,.int k])=H0 at kb0 kl0 bt0 ⊢
   walk_at "rd"
   refine aP (fun σ' H1=>Iv (σ' = [some (.ref b),some (.ref la),some (.int s),none,none]/\H1=upd H0 la (.lst [.int (n - 1)]))) (fun _ _ _=>?_) ?_
   ·walk_at "rd"
    exact ⟨⟨rfl,rfl⟩⟩
   rintro J Z σ' H1 ⟨⟨rfl,rfl⟩⟩
   refine Z _ _ ?_
   clear Z
   have kb1:upd H0 la (.lst [.int (n - 1)]) b=some (.lst [.int x0,.int k]):=by rw [aR nbl]; exact kb0
   have kl1:upd H0 la (.lst [.int (n - 1)]) la=some (.lst [.int (n - 1)]):=aE
   have bt1:=bt0.y (.lst [.int (n - 1)])
   generalize upd H0 la (.lst [.int (n - 1)])=H1 at kb1 kl1 bt1 ⊢
   refine aP (fun σ' H2=>Iv (∃ (v1:V) (t1:Tr) (x2 n2:Int),σ' = [some (.ref b),some (.ref la),some (.int s),some v1,none]/\Bt b la H1 H2/\H2 b=some (.lst [.int x2,.int k])/\Bd x2 k/\H2 la=some (.lst [.int n2])/\0<=n2/\n2<=n - 1/\TV K H2 v1 (cU t1)/\(t1.lv:Int)=1 + (n - 1 - n2)/\t1.dp<=d/\t1.s2)) (fun _ _ _=>?_) ?_
   ·walk_at "rd"
    rename_i H2 v1 t1 x2 n2 bt2 h1 h2 h3 h4 h5 h6 h7 h8 h9
    exact ⟨⟨v1,t1,x2,n2,rfl,bt2,h1,h2,h3,h4,h5,h6,h7,h8,h9⟩⟩
   rintro J Z σ' H2 ⟨⟨v1,t1,x2,n2,rfl,bt2,kb2,bd2,kl2,m0,m1,tv1,l1,d1',sb1⟩⟩
   refine Z _ _ ?_
   clear Z
   refine aP (fun σ' H3=>Iv (∃ (v2:V) (t2:Tr) (x3 n3:Int),σ' = [some (.ref b),some (.ref la),some (.int s),some v1,some v2]/\Bt b la H2 H3/\H3 b=some (.lst [.int x3,.int k])/\Bd x3 k/\H3 la=some (.lst [.int n3])/\0<=n3/\n3<=n2/\TV K H3 v2 (cU t2)/\(t2.lv:Int)=1 + (n2 - n3)/\t2.dp<=d/\t2.s2)) (fun _ _ _=>?_) ?_
   ·walk_at "rd"
    rename_i H3 v2 t2 x3 n3 bt3 h1 h2 h3 h4 h5 h6 h7 h8 h9
    exact ⟨⟨v2,t2,x3,n3,rfl,bt3,h1,h2,h3,h4,h5,h6,h7,h8,h9⟩⟩
   rintro J Z σ' H3 ⟨⟨v2,t2,x3,n3,rfl,bt3,kb3,bd3,kl3,m2,m3,tv2,l2,d2',sb2⟩⟩
   refine Z _ _ ?_
   clear Z
   have tv1':=tv1.mono (bt3.t kb2 kl2)
   have bt03:=(bt1.trans bt2).trans bt3
   obtain ⟨p1,k1,r1,rfl,hp1⟩:=TV.wt tv1'
   obtain ⟨p2,k2,r2,rfl,hp2⟩:=TV.wt tv2
   rw [Tr.wt_w] at hp1 hp2
   have a1:=xN (k:=k1) (w:=t1.w) (r:=r1)
   have a2:=xN (k:=k2) (w:=t2.w) (r:=r2)
   have np1:p1 ≠ b:=fQ hp1 kb3 (by intro z; cases z)
   have np2:p2 ≠ b:=fQ hp2 kb3 (by intro z; cases z)
   walk_at "rd"
   rename_i x4 d4 bd4 hd4 p hp
   have mb:=oI (x:=d4 - 20) (by omega) (by omega) s0 s1
   have T4:=((bF.refl H3).lst kb3 (.lst [.int x4,.int k])).new hp (.tup [.str "fork", .int (t1.w + t2.w + (d4 - 20) * s),.ref p1,.ref p2])
   have kl4:upd H3 b (.lst [.int x4,.int k]) la=some (.lst [.int n3]):=by rw [aR nlb]; exact kl3
   exact q _ _ (.fk (t1.w + t2.w + (d4 - 20) * s) t1 t2) x4 n3 ((bt03.x _).new hp _) (kp aE hp) bd4 (kp kl4 hp) m2 (by omega) (TV.fk' aE (tv1'.mono T4) (tv2.mono T4)) (by show ((t1.lv + t2.lv:Nat) : Int)=_; omega) (by show max t1.dp t2.dp + 1<=d + 1; omega) (sb1.fk sb2 mb.1 mb.2)
theorem ok_qSA (T:Tx K mg) : ∀ d:Nat,FnOk P w K mg base (cK P w) (d + 2) T.f_qS T.d_qS ["_law_bag", "_law_left", "_law_scale"] (fW K d):=by
 intro d
 induction d with
 | zero=>exact ok_qS0 T
 | succ d ih=>exact ok_qSS T d ih
theorem ok_qS (T:Tx K mg) : FnOk P w K mg base (cK P w) (16 + 2) T.f_qS T.d_qS ["_law_bag", "_law_left", "_law_scale"] (fW K 16):=by exact ok_qSA T 16
theorem v7 (T:Tx K mg) : FnOk P w K mg base (cK P w) 1 T.f_qT T.d_qT ["_law_top", "_law_leaves", "_law_bottom", "_law_price"] pI:=by
 have sc:=sc_qT
 refine T.F_qT.okx sc (fun vs H Q E h=>?_) (fun cdv A outer s H vs Q E hr h=>?_)
 ·obtain ⟨c,l,b,p,x,y,rfl,hp,z1,z2,z3,z4,z5,q⟩:=h
  rfl
 obtain ⟨c,l,b,p,x,y,rfl,hp,z1,z2,z3,z4,z5,q⟩:=h
 have hu:=hr.units0
 have hu2:=hr.units
 have hu1:=Nat.lt_of_le_of_lt (Nat.add_le_add_left (show 1<=64 by decide) _) hu2
 refine ⟨_,(@aF _ _ _ (@aS _ _ _ _ (@aJ _ _ _ _ _ _ _ _ cG (@aJ _ _ _ _ _ _ _ _ bH (pv 0) (@aI _ _ _ _ _ _ _ aG (pv 3) aB (fun _ _=>rfl))) (@aJ _ _ _ _ _ _ _ _ bH (@aJ _ _ _ _ _ _ _ _ bH (@aI _ _ _ _ _ _ _ aG (pv 3) aB (fun _ _=>rfl)) (pv 2)) (pv 1))))),?_⟩
 walk_at "kx"
 walk_at "rd"
 exact q
theorem ok_law (T:Tx K mg) : FnOk P w K mg base (cK P w) 25 T.f_law T.d_law ["_law_script"] (u5 K):=by
 have sc:=sc_law
 refine T.F_law.okx sc (fun vs H Q E h=>?_) (fun cdv A outer s H vs Q E hr h=>?_)
 ·obtain ⟨a,ns,rfl,hS,hl,q⟩:=h
  rfl
 obtain ⟨a,ns,rfl,hS,hl,q⟩:=h
 have hu:=hr.units0
 have hu2:=hr.units
 have hu1:=Nat.lt_of_le_of_lt (Nat.add_le_add_left (show 1<=64 by decide) _) hu2
 refine ⟨_,(@aD _ _ _ _ _ (@aO _ _ _ (@aK _ _ 1 _ _ _ _ sc.nd rfl (by walk_at "o1") (@aI _ _ _ _ _ _ _ bN (@cD _ _ _ _ (aA aB (aA aB (aA (q9 (.int 100000000000000000000) (@aJ _ _ _ _ _ _ _ _ vW aB aB) (by walk_at "cf")) aC)))) (@aJ _ _ _ _ _ _ _ _ cJ (aH (oA T) (hr.mono (by decide)) rfl T.m_qW T.F_qW.kp T.b_qW .nil (aL fun _ _ z=>z) (aA (pv 0) (aA aB aC))) aB) (fun _ _=>rfl)) (by rfl) (by walk_at "o2")))
   (@aD _ _ _ _ _ (@aO _ _ _ (@aK _ _ 2 _ _ _ _ sc.nd rfl (by walk_at "o1") (@aJ _ _ _ _ _ _ _ _ cG aB (@aJ _ _ _ _ _ _ _ _ cJ (aH (oA T) (hr.mono (by decide)) rfl T.m_qW T.F_qW.kp T.b_qW .nil (aL fun _ _ z=>z) (aA (pv 0) (aA aB aC))) (q9 (.int 1000000000) (@aJ _ _ _ _ _ _ _ _ vW aB aB) (by walk_at "cf")))) (by rfl) (by walk_at "o2")))
   (@aD _ _ _ _ _ (@aO _ _ _ (@aK _ _ 3 _ _ _ _ sc.nd rfl (by walk_at "o1") (aH (ok_qY T) (hr.mono (by decide)) rfl T.m_qY T.F_qY.kp T.b_qY .nil (aL fun _ _ z=>z) (aA (nY qT (pv 0) (mI aB) (mI aB)) (aA (pv 1) aC))) (by rfl) (by walk_at "o2")))
   (@aD _ _ _ _ _ (@aO _ _ _ (@bY _ _ _ _ _ _ _ _ (@aX _ _ _ _ _ _ _ _ dD (@aJ _ _ _ _ _ _ _ _ cJ (@aJ _ _ _ _ _ _ _ _ bQ (aH (oA T) (hr.mono (by decide)) rfl T.m_qW T.F_qW.kp T.b_qW .nil (aL fun _ _ z=>z) (aA (pv 0) (aA aB aC))) aB) aB) aB (bB _)) (@aD _ _ _ _ _ (@aK _ _ 4 _ _ _ _ sc.nd rfl (by walk_at "o1") (aH (oA T) (hr.mono (by decide)) rfl T.m_qW T.F_qW.kp T.b_qW .nil (aL fun _ _ z=>z) (aA (pv 0) (aA aB aC))) (by rfl) (by walk_at "o2"))
   (@aF _ _ _ (@aK _ _ 3 _ _ _ _ sc.nd rfl (by walk_at "o1") (aH (ok_qS T) (hr.mono (by decide)) rfl T.m_qS T.F_qS.kp T.b_qS .nil (aL fun _ _ z=>z) (aA (@cD _ _ _ _ (aA (@aI _ _ _ _ _ _ _ bN (@cD _ _ _ _ (aA (@aJ _ _ _ _ _ _ _ _ cJ (@aJ _ _ _ _ _ _ _ _ bQ (pv 4) aB) aB) (aA (@aJ _ _ _ _ _ _ _ _ bQ (pv 4) aB) aC))) (@aJ _ _ _ _ _ _ _ _ cJ (pv 4) aB) (fun _ _=>rfl)) (aA (@aJ _ _ _ _ _ _ _ _ cJ (pv 4) aB) aC))) (aA (@cD _ _ _ _ (aA aB aC)) (aA (pv 1) aC)))) (by rfl) (by walk_at "o2")))) bD))
   (@aD _ _ _ _ _ (@aO _ _ _ (@aK _ _ 5 _ _ _ _ sc.nd rfl (by walk_at "o1") (aH (ok_qL T) (hr.mono (by decide)) rfl T.m_qL T.F_qL.kp T.b_qL .nil (aL fun _ _ z=>z) (aA (pv 3) (aA (pv 2) aC))) (by rfl) (by walk_at "o2")))
   (@aD _ _ _ _ _ (@aO _ _ _ (@aK _ _ 6 _ _ _ _ sc.nd rfl (by walk_at "o1") (aH (ok_j3 T) (hr.mono (by decide)) rfl T.m_j3 T.F_j3.kp T.b_j3 .nil (aL fun _ _ z=>z) (aA (pv 5) aC)) (by rfl) (by walk_at "o2")))
   (@aD _ _ _ _ _ (@aO _ _ _ (@aK _ _ 7 _ _ _ _ sc.nd rfl (by walk_at "o1") (aH (ok_jA T) (hr.mono (by decide)) rfl T.m_jA T.F_jA.kp T.b_jA .nil (aL fun _ _ z=>z) (aA (pv 5) aC)) (by rfl) (by walk_at "o2")))
   (@aD _ _ _ _ _ (@aO _ _ _ (@aK _ _ 8 _ _ _ _ sc.nd rfl (by walk_at "o1") (aH (ok_j0 T) (hr.mono (by decide)) rfl T.m_j0 T.F_j0.kp T.b_j0 .nil (aL fun _ _ z=>z) (aA (dH (ts:=["_law_rung"]) (js:=[]) (LcOk.of rfl) rfl (bL (pv 6)) (fun _ _ _ _=>(aY (i:=0) (bK rfl) rfl (Or.inl rfl))) (fun _ _ _ _=>d9) (fun _ _ _ _=>(aZ (aA (@aI _ _ _ _ _ _ _ aG (pv 0) aB (fun _ _=>rfl)) (aA (@aI _ _ _ _ _ _ _ aG (pv 0) aB (fun _ _=>rfl)) aC))))) aC)) (by rfl) (by walk_at "o2")))
   (@aD _ _ _ _ _ (@aO _ _ _ (@bY _ _ _ _ _ _ _ _ (@aX _ _ _ _ _ _ _ _ (jX hu2) (pv 8) (dH (ts:=["_law_step"]) (js:=[]) (LcOk.of rfl) rfl (bL (pv 7)) (fun _ _ _ _=>(aY (i:=0) (bK rfl) rfl (Or.inl rfl))) (fun _ _ _ _=>d9) (fun _ _ _ _=>(aZ (aA (@aI _ _ _ _ _ _ _ aG (pv 0) aB (fun _ _=>rfl)) (aA (aV aT rfl T.z_len bZ (aA (@aI _ _ _ _ _ _ _ aG (pv 0) aB (fun _ _=>rfl)) aC)) aC))))) (bB _)) (@aF _ _ _ (@aS _ _ _ _ iT)) bD))
   (@aD _ _ _ _ _ (@aO _ _ _ (@aK _ _ 4 _ _ _ _ sc.nd rfl (by walk_at "o1") (aH (oA T) (hr.mono (by decide)) rfl T.m_qW T.F_qW.kp T.b_qW .nil (aL fun _ _ z=>z) (aA (pv 0) (aA aB aC))) (by rfl) (by walk_at "o2")))
   (@aD _ _ _ _ _ (@aK _ _ 9 _ _ _ _ sc.nd rfl (by walk_at "o1") (@aJ _ _ _ _ _ _ _ _ cJ (@aJ _ _ _ _ _ _ _ _ bQ (pv 4) aB) (@aJ _ _ _ _ _ _ _ _ bH aB (pv 1))) (by rfl) (by walk_at "o2"))
   (@aD _ _ _ _ _ (@aO _ _ _ (cS dS rfl (bL (@cD _ _ _ _ (aA (aZ (aA (pv 9) (aA (pv 2) aC))) (aA (aZ (aA (@aJ _ _ _ _ _ _ _ _ bH (@aJ _ _ _ _ _ _ _ _ cJ (pv 4) aB) (pv 1)) (aA (pv 2) aC))) (aA (aZ (aA aB (aA aB aC))) (aA (aZ (aA (@aJ _ _ _ _ _ _ _ _ bQ (pv 9) aB) (aA aB aC))) aC)))))) (aY (i:=10) sc.nd rfl (by walk_at "o1"))
   (@aD _ _ _ _ _ (@aO _ _ _ (@aK _ _ 11 _ _ _ _ sc.nd rfl (by walk_at "o1") (aH (ok_qN T) (hr.mono (by decide)) rfl T.m_qN T.F_qN.kp T.b_qN .nil (aL fun _ _ z=>z) (aA (pv 7) (aA (aH (oB T) (hr.mono (by decide)) rfl T.m_qP T.F_qP.kp T.b_qP .nil (aL fun _ _ z=>z) (aA (@aI _ _ _ _ _ _ _ aG (pv 10) aB (fun _ _=>rfl)) (aA (@aI _ _ _ _ _ _ _ aG (pv 10) aB (fun _ _=>rfl)) aC))) aC))) (by rfl) (by walk_at "o2")))
   (@aD _ _ _ _ _ (@aO _ _ _ (@bY _ _ _ _ _ _ _ _ (gW (cZ (aH (ok_q7 T) (hr.mono (by decide)) rfl T.m_q7 T.F_q7.kp T.b_q7 .nil (aL fun _ _ z=>z) (aA (pv 3) (aA (pv 11) aC))))) (@aF _ _ _ (@aS _ _ _ _ iT)) bD))
   (@aD _ _ _ _ _ (@aO _ _ _ (@aK _ _ 12 _ _ _ _ sc.nd rfl (by walk_at "o1") (aH (v7 T) (hr.mono (by decide)) rfl T.m_qT T.F_qT.kp T.b_qT .nil (aL fun _ _ z=>z) (aA (aH (wC T) (hr.mono (by decide)) rfl T.m_j1 T.F_j1.kp T.b_j1 .nil (aL fun _ _ z=>z) (aA (pv 3) (aA (pv 11) aC))) (aA (aV aT rfl T.z_len bZ (aA (pv 11) aC)) (aA (pv 2) (aA (pv 10) aC))))) (by rfl) (by walk_at "o2")))
   (@aD _ _ _ _ _ (@aO _ _ _ (cS dS rfl (bL (pv 6)) (aY (i:=13) sc.nd rfl (by walk_at "o1"))
   (@aF _ _ _ (@bY _ _ _ _ _ _ _ _ (@aX _ _ _ _ _ _ _ _ fZ (aH (v7 T) (hr.mono (by decide)) rfl T.m_qT T.F_qT.kp T.b_qT .nil (aL fun _ _ z=>z) (aA (aH (wC T) (hr.mono (by decide)) rfl T.m_j1 T.F_j1.kp T.b_j1 .nil (aL fun _ _ z=>z) (aA (pv 3) (aA (@aI _ _ _ _ _ _ _ aG (pv 13) aB (fun _ _=>rfl)) aC))) (aA (@aI _ _ _ _ _ _ _ aG (pv 13) aB (fun _ _=>rfl)) (aA (pv 2) (aA (pv 10) aC))))) (pv 12) (bB _)) (@aF _ _ _ (@aS _ _ _ _ iT)) bD))))
   (@aD _ _ _ _ _ (@aO _ _ _ (@aK _ _ 14 _ _ _ _ sc.nd rfl (by walk_at "o1") (aH (ok_qQ T) (hr.mono (by decide)) rfl T.m_qQ T.F_qQ.kp T.b_qQ .nil (aL fun _ _ z=>z) (aA (pv 3) (aA bA (aA (aH (vZ T) (hr.mono (by decide)) rfl T.m_qX T.F_qX.kp T.b_qX .nil (aL fun _ _ z=>z) (aA (pv 4) (aA aB aC))) aC) dI))) (by rfl) (by walk_at "o2")))
   (@aF _ _ _ (@bY _ _ _ _ _ _ _ _ (@aX _ _ _ _ _ _ _ _ fZ (aH (v7 T) (hr.mono (by decide)) rfl T.m_qT T.F_qT.kp T.b_qT .nil (aL fun _ _ z=>z) (aA (aH (wC T) (hr.mono (by decide)) rfl T.m_j1 T.F_j1.kp T.b_j1 .nil (aL fun _ _ z=>z) (aA (pv 3) (aA (pv 14) aC))) (aA (aV aT rfl T.z_len bZ (aA (pv 14) aC)) (aA (pv 2) (aA (pv 10) aC))))) (pv 12) (bB _)) (@aF _ _ _ (@aS _ _ _ _ iT)) bD)))))))))
   (@aF _ _ _ (@aS _ _ _ _ iT)))))))))))))),?_⟩
 walk_at "kx"
 have hl2:(ns.map V.int).length=ns.length:=List.length_map _
 refine aP (fun σ' H1=>Iv (∃ s:Int,aN H H1/\1<=s/\s<=100000000000000000000/\σ' = [some (.ref a),some (.int s),none,none,none,none,none,none,none,none,none,none,none,none,none])) (fun _ _ _=>?_) ?_
 ·walk_at "rd"
  rename_i r hr c
  have j0:=Int.emod_nonneg c (show (3:Int) ≠ 0 by decide)
  have j1:=Int.emod_lt_of_pos c (show (0:Int) < 3 by decide)
  refine ⟨atV j0 (by show _ < (3:Int); omega),?_⟩
  have hj:(c % 3).toNat=0\/(c % 3).toNat=1\/(c % 3).toNat=2:=by omega
  rcases hj with hj | hj | hj
  ·rw [hj]
   exact ⟨⟨1,aM hr _,by decide,by decide,rfl⟩⟩
  ·rw [hj]
   exact ⟨⟨1,aM hr _,by decide,by decide,rfl⟩⟩
  ·rw [hj]
   exact ⟨⟨100000000000000000000,aM hr _,by decide,by decide,rfl⟩⟩
 rintro J Z σ' H1 ⟨⟨s,S1,s0,s1,rfl⟩⟩
 refine Z _ _ ?_
 clear Z
 have hS1:=hS.sm S1
 clear hS S1
 refine aP (fun σ' H2=>Iv (∃ B:Int,H2=H1/\1<=B/\B<=1000000000/\σ' = [some (.ref a),some (.int s),some (.int B),none,none,none,none,none,none,none,none,none,none,none,none])) (fun _ _ _=>?_) ?_
 ·walk_at "rd"
  exact ⟨⟨_,rfl,by omega,by omega,rfl⟩⟩
 rintro J Z σ' H2 ⟨⟨B,rfl,b1,b2,rfl⟩⟩
 refine Z _ _ ?_
 clear Z
 have b0:0 < B:=by omega
 have bz1:Bz 128 B:=Bz.w (by omega) (by omega)
 have bz:Bz 8000 B:=bz1.mono (by decide)
 refine aP (fun σ' H3=>Iv (∃ v t,aN H2 H3/\TV K H3 v (cU t)/\t.lv<=20/\t.sb/\σ' = [some (.ref a),some (.int s),some (.int B),some v,none,none,none,none,none,none,none,none,none,none,none])) (fun _ _ _=>?_) ?_
 ·obtain ⟨ms,ec,lm⟩:=xI ns 3 21
  have ec:m7 (ns.map V.int) (some 3) (some 21)=ms.map V.int:=ec
  walk_at "rd"
  rename_i r3 hr3
  rw [ec]
  refine ⟨(aE:_=some (.lst (ms.map V.int))),by omega,s0,s1,fun H3 v t S3 tv lt sb=>?_⟩
  walk_at "rd"
  exact ⟨⟨v,t,(aM hr3 _).trans S3,tv,lt,sb,rfl⟩⟩
 rintro J Z σ' H3 ⟨⟨v,t,S3,tv,lt,sb,rfl⟩⟩
 refine Z _ _ ?_
 clear Z
 have hS3:=hS1.sm S3
 clear hS1 S3
 have tdp:=t.dp_lt
 refine aP (fun σ' H4=>Iv (∃ (v:V) (t:Tr) (oc:Option V),aN H3 H4/\TV K H4 v (cU t)/\t.lv<=20/\t.dp<=20/\t.B/\σ' = [some (.ref a),some (.int s),some (.int B),some v,oc,none,none,none,none,none,none,none,none,none,none])) (fun _ _ _=>?_) ?_
 ·walk_at "rd"
  refine dX (fun e=>?_) (fun e=>?_)
  ·walk_at "rd"
   rename_i c0 c1 p1 hp1
   refine ⟨pk41 c1,?_⟩
   have bd:=bd41 c1
   generalize pkv c1=x1 at bd ⊢
   walk_at "rd"
   rename_i b hb la hla H4 v4 t4 x4 n4 bt h1 h2 h3 h4 h5 h6 h7 h8 h9
   have hb3:H3 b=none:=(hI hb).2
   have hla3:H3 la=none:=(hI (hI hla).2).2
   have SA:=((aM hp1 (H:=H3) (.lst [.int (c1 / 2 % 2147483647),.int (c1 / 2)])).new hb (.lst [.int x1,.int (c1 % 2)])).new hla (.lst [.int 15])
   exact ⟨⟨v4,t4,_,Bt.new2 SA hb3 hla3 bt,h6,by omega,by omega,h9.B (by omega),rfl⟩⟩
  ·walk_at "rd"
   exact ⟨⟨v,t,_,aN.refl _,tv,lt,by omega,sb.B (by omega),rfl⟩⟩
 clear tv lt sb tdp
 rintro J Z σ' H4 ⟨⟨v,t,oc,S4,tv,lt,td,tb,rfl⟩⟩
 refine Z _ _ ?_
 clear Z
 have hS4:=hS3.sm S4
 clear hS3 S4
 have d40:t.dp<=40:=by omega
 refine aP (fun σ' H5=>Iv (∃ v2,aN H4 H5/\TV K H5 v2 (eF B t)/\σ' = [some (.ref a),some (.int s),some (.int B),some v,oc,some v2,none,none,none,none,none,none,none,none,none])) (fun _ _ _=>?_) ?_
 ·walk_at "rd"
  rename_i H5 v2 S5 tv2
  exact ⟨⟨v2,S5,tv2,rfl⟩⟩
 rintro J Z σ' H5 ⟨⟨v2,S5,tv2,rfl⟩⟩
 refine Z _ _ ?_
 clear Z
 replace tv:=tv.mono S5.t
 have hS5:=hS4.sm S5
 clear hS4 S5
 have lt21:t.lv<=21:=by omega
 refine aP (fun σ' H6=>Iv (∃ (f:Addr) (xs:List V) (us:List (Int × List Str)),aN H5 H6/\H6 f=some (.lst xs)/\LDs B H6 xs us/\kL t us/\us.length=t.lv/\σ' = [some (.ref a),some (.int s),some (.int B),some v,oc,some v2,some (.ref f),none,none,none,none,none,none,none,none])) (fun _ _ _=>?_) ?_
 ·walk_at "rd"
  rename_i H6 f xs us S6 hf ld rg lu
  exact ⟨⟨f,xs,us,S6,hf,ld,rg,lu,rfl⟩⟩
 rintro J Z σ' H6 ⟨⟨f,xs,us,S6,hf,ld,rg,lu,rfl⟩⟩
 refine Z _ _ ?_
 clear Z
 replace tv:=tv.mono S6.t
 replace tv2:=tv2.mono S6.t
 have hS6:=hS5.sm S6
 clear hS5 S6
 have xl:=ld.length
 refine aP (fun σ' H7=>Iv (∃ (sp:Addr) (ys:List V) (sts:List (Rat × List Str)) (c d:Int),aN H6 H7/\H7 sp=some (.lst ys)/\QVs H7 ys sts/\Pth t B sts c d []/\sts.length<=21/\σ' = [some (.ref a),some (.int s),some (.int B),some v,oc,some v2,some (.ref f),some (.ref sp),none,none,none,none,none,none,none])) (fun _ _ _=>?_) ?_
 ·have bb:B<=1000000000000000000000000000000:=by omega
  walk_at "rd"
  rename_i H7 p ys sts c d S7 hp0 hp qv pth sl
  exact ⟨⟨p,ys,sts,c,d,S7,hp,qv,pth,sl,rfl⟩⟩
 rintro J Z σ' H7 ⟨⟨sp,ys,sts,c,d,S7,hsp,qv,pth,sl,rfl⟩⟩
 refine Z _ _ ?_
 clear Z
 replace tv:=tv.mono S7.t
 replace hf:=S7 _ _ hf
 replace ld:=ld.mono S7
 have hS7:=hS6.sm S7
 clear hS6 S7 tv2
 have yl:=qv.len
 refine aP (fun σ' H8=>Iv (∃ (fa:Addr) (ws:List V),aN H7 H8/\H8 fa=some (.lst ws)/\TVs K H8 ws ((sts.map fun s=>(some s.1,((s.2.length:Nat) : Int))).map toD)/\σ' = [some (.ref a),some (.int s),some (.int B),some v,oc,some v2,some (.ref f),some (.ref sp),some (.ref fa),none,none,none,none,none,none])) (fun _ _ _=>?_) ?_
 ·walk_at "rd"
  refine c7 (K:=K) (a:=f) (xs:=xs) (fun i zs H'=>Iv (aN H7 H'/\TVs K H' zs ((vF B (us.take i)).map ptD))) ⟨⟨aN.refl _,.nil⟩⟩ (fun i zs H' hi z=>⟨c6.of (z.o.1 _ _ hf),by have:=z.o.2.length; rw [List.length_map,List.length_map,List.length_take] at this; exact aU (by omega)⟩) ?_ ?_
  ·rintro i y zs H' hi ⟨⟨S,tz⟩⟩
   have il:=(List.getElem?_eq_some_iff.mp hi).1
   obtain ⟨p,c1,l,u,rfl,hu,hp,hc,hl'⟩:=ld.get hi
   have hp':=S _ _ hp
   have hc':=S _ _ hc
   walk_at "rd"
   rename_i w hw
   refine ⟨⟨S.new hw _,?_⟩⟩
   rw [List.take_add_one,hu,vF,List.map_append,List.map_append]
   exact (tz.mono (aM hw _).t).append (.cons (.tup (xs:=[.int ((u.2.length:Nat) : Int),.ref c1]) aE (.cons (.int _) (.cons (TV.ra (kp hc' hw)) .nil))) .nil)
  ·rintro zs H' ⟨⟨S,tz⟩⟩ w hw
   rw [xl,List.take_length] at tz
   have SW:=aM hw (H:=H') (.lst zs)
   have ok:Okl (vF B us):=⟨fun p hp=>okp41 tb lt b0 b2 rg hp,rg.pw,by rw [List.length_map]; omega⟩
   walk_at "rd"
   refine ⟨⟨zs,aE,tz.mono SW.t⟩,ok,fun H8 fa ws hfa0 S8 hfa tw=>?_⟩
   rw [meet b0 pth rg lu] at tw
   exact ⟨⟨fa,ws,(S.trans SW).trans S8,hfa,tw,rfl⟩⟩
 rintro J Z σ' H8 ⟨⟨fa,ws,S8,hfa,tw,rfl⟩⟩
 refine Z _ _ ?_
 clear Z
 replace tv:=tv.mono S8.t
 replace hf:=S8 _ _ hf
 replace ld:=ld.mono S8
 replace hsp:=S8 _ _ hsp
 replace qv:=qv.same S8
 have hS8:=hS7.sm S8
 clear hS7 S8
 refine aP (fun σ' H9=>Iv (aN H8 H9/\σ' = [some (.ref a),some (.int s),some (.int B),some v,oc,some v2,some (.ref f),some (.ref sp),some (.ref fa),none,none,none,none,none,none])) (fun _ _ _=>?_) ?_
 ·walk_at "rd"
  refine c7 (K:=K) (a:=sp) (xs:=ys) (fun i zs H'=>Iv (aN H8 H'/\TVs K H' zs (((sts.take i).map fun s=>(some s.1,((s.2.length:Nat) : Int))).map toD))) ⟨⟨aN.refl _,.nil⟩⟩ (fun i zs H' hi z=>⟨c6.of (z.o.1 _ _ hsp),by have:=z.o.2.length; rw [List.length_map,List.length_map,List.length_take] at this; exact aU (by omega)⟩) ?_ ?_
  ·rintro i y zs H' hi ⟨⟨S,tz⟩⟩
   have il:=(List.getElem?_eq_some_iff.mp hi).1
   refine hid fun J Z=>?_
   obtain ⟨p,r,l,q1,ps,rfl,hp,hr,hl',hs⟩ := qv.at hi
   refine Z ?_
   clear Z
   have hp':=S _ _ hp
   have hr':=S _ _ hr
   have hl2':=S _ _ hl'
   walk_at "rd"
   rename_i w hw
   refine ⟨⟨S.new hw _,?_⟩⟩
   rw [List.take_add_one,hs,List.map_append,List.map_append]
   exact (tz.mono (aM hw _).t).append (.cons (.tup (xs:=[.ref r,.int (((ps.map V.str).length:Nat) : Int)]) aE (.cons (TV.ra (kp hr' hw)) (.cons (by rw [List.length_map]; exact .int _) .nil))) .nil)
  ·rintro zs H' ⟨⟨S,tz⟩⟩ w hw
   rw [yl,List.take_length] at tz
   have SW:=S.trans (aM hw (H:=H') (.lst zs))
   refine ned (d:=.list ((sts.map fun s=>(some s.1,((s.2.length:Nat) : Int))).map toD)) (.lst (c6.of (SW _ _ hfa)) (tw.mono SW.t).dv) (.lst (c6.of aE) (tz.mono (aM hw _).t).dv) shTo ?_
   walk_at "rd"
   exact ⟨⟨SW,rfl⟩⟩
 rintro J Z σ' H9 ⟨⟨S9,rfl⟩⟩
 refine Z _ _ ?_
 clear Z
 replace tv:=tv.mono S9.t
 replace hf:=S9 _ _ hf
 replace ld:=ld.mono S9
 replace hsp:=S9 _ _ hsp
 replace qv:=qv.same S9
 have hS9:=hS8.sm S9
 clear hS8 S9 hfa tw
 refine aP (fun σ' HA=>Iv (∃ ch:Int,HA=H9/\σ' = [some (.ref a),some (.int s),some (.int B),some v,some (.int ch),some v2,some (.ref f),some (.ref sp),some (.ref fa),none,none,none,none,none,none])) (fun _ _ _=>?_) ?_
 ·walk_at "rd"
  exact ⟨⟨_,rfl,rfl⟩⟩
 rintro J Z σ' HA ⟨⟨ch,rfl,rfl⟩⟩
 refine Z _ _ ?_
 clear Z
 have cd60:∀ i,iL i (60 * s):=fun i=>cN i (by omega) (by omega)
 have t0:=Int.emod_nonneg (ch / 100) (show 60 * s ≠ 0 by omega)
 have t1:=Int.emod_lt_of_pos (ch / 100) (show 0 < 60 * s by omega)
 walk_at "rd"
 obtain ⟨⟨ps0,stl,es0⟩,al⟩:=pth.all b0
 have rzs:∀ x∈sts,Rz 8000 x.1:=fun x hx=>by
  obtain ⟨_,n,d,u,e,n0,d1,d2,nb⟩:=al x hx
  have nb:=nb lt21 tb
  have h1:d * B<=21 * 1000000000000000000000000000000:=Int.mul_le_mul (by omega) (by omega) (by omega) (by decide)
  have h2:0 < d * B:=Int.mul_pos (by omega) b0
  rw [e]
  exact z8 (by omega) ((Bz.w (by omega) (by omega)).mono (by decide)) ((Bz.w (by omega) (by omega)).mono (by decide))
 have plen:∀ x∈sts,x.2.length<=60:=fun x hx=>by
  obtain ⟨⟨gs,pi⟩,_⟩:=al x hx
  have:=pi.len
  omega
 have sl60:sts.length<=60:=by omega
 have m60:=oI (x:=ch % 60) (by omega) (by omega) s0 s1
 refine aP (fun σ' HB=>Iv (∃ o1 o2 o3 o4 o5:Option V,aN HA HB/\σ' = [some (.ref a),some (.int s),some (.int B),some v,some (.int ch),some v2,some (.ref f),some (.ref sp),some (.ref fa),some (.int (ch / 100 % (60 * s))),o1,o2,o3,o4,o5])) (fun _ _ _=>?_) ?_
 ·walk_at "rd"
  rename_i p1 h1 p2 h2 p3 h3 p4 h4 pl hpl
  have SL:=((((aM h1 (H:=HA) (.tup [.int (ch / 100 % (60 * s)),.int B])).new h2 (.tup [.int (ch % 60 * s),.int B])).new h3 (.tup [.int 0,.int 1])).new h4 (.tup [.int (ch / 100 % (60 * s) / 7),.int 1])).new hpl (.lst [.ref p1,.ref p2,.ref p3,.ref p4])
  have k1:Pr41 (upd (upd (upd (upd (upd HA p1 (.tup [.int (ch / 100 % (60 * s)),.int B])) p2 (.tup [.int (ch % 60 * s),.int B])) p3 (.tup [.int 0,.int 1])) p4 (.tup [.int (ch / 100 % (60 * s) / 7),.int 1])) pl (.lst [.ref p1,.ref p2,.ref p3,.ref p4])) p1 _ _:=⟨kp (kp (kp (kp aE h2) h3) h4) hpl,t0,by omega,b1,b2⟩
  have k2:Pr41 (upd (upd (upd (upd (upd HA p1 (.tup [.int (ch / 100 % (60 * s)),.int B])) p2 (.tup [.int (ch % 60 * s),.int B])) p3 (.tup [.int 0,.int 1])) p4 (.tup [.int (ch / 100 % (60 * s) / 7),.int 1])) pl (.lst [.ref p1,.ref p2,.ref p3,.ref p4])) p2 _ _:=⟨kp (kp (kp aE h3) h4) hpl,Int.mul_nonneg (by omega) (by omega),by have:=Int.mul_le_mul_of_nonneg_right (show ch % 60<=59 by omega) (show 0<=s by omega); omega,b1,b2⟩
  have k3:Pr41 (upd (upd (upd (upd (upd HA p1 (.tup [.int (ch / 100 % (60 * s)),.int B])) p2 (.tup [.int (ch % 60 * s),.int B])) p3 (.tup [.int 0,.int 1])) p4 (.tup [.int (ch / 100 % (60 * s) / 7),.int 1])) pl (.lst [.ref p1,.ref p2,.ref p3,.ref p4])) p3 _ _:=⟨kp (kp aE h4) hpl,by decide,by decide,by decide,by decide⟩
  have k4:Pr41 (upd (upd (upd (upd (upd HA p1 (.tup [.int (ch / 100 % (60 * s)),.int B])) p2 (.tup [.int (ch % 60 * s),.int B])) p3 (.tup [.int 0,.int 1])) p4 (.tup [.int (ch / 100 % (60 * s) / 7),.int 1])) pl (.lst [.ref p1,.ref p2,.ref p3,.ref p4])) p4 _ _:=⟨kp aE hpl,by omega,by omega,by decide,by decide⟩
  have kl:upd (upd (upd (upd (upd HA p1 (.tup [.int (ch / 100 % (60 * s)),.int B])) p2 (.tup [.int (ch % 60 * s),.int B])) p3 (.tup [.int 0,.int 1])) p4 (.tup [.int (ch / 100 % (60 * s) / 7),.int 1])) pl (.lst [.ref p1,.ref p2,.ref p3,.ref p4]) pl=some (.lst [.ref p1,.ref p2,.ref p3,.ref p4]):=aE
  generalize upd (upd (upd (upd (upd HA p1 (.tup [.int (ch / 100 % (60 * s)),.int B])) p2 (.tup [.int (ch % 60 * s),.int B])) p3 (.tup [.int 0,.int 1])) p4 (.tup [.int (ch / 100 % (60 * s) / 7),.int 1])) pl (.lst [.ref p1,.ref p2,.ref p3,.ref p4])=HL at SL k1 k2 k3 k4 kl ⊢
  clear h1 h2 h3 h4 hpl
  refine c5 (K:=K) (a:=pl) (xs:=[.ref p1,.ref p2,.ref p3,.ref p4]) (fun j σ' H'=>Iv (∃ o1 o2 o3 o4 o5:Option V,aN HL H'/\σ' = [some (.ref a),some (.int s),some (.int B),some v,some (.int ch),some v2,some (.ref f),some (.ref sp),some (.ref fa),some (.int (ch / 100 % (60 * s))),o1,o2,o3,o4,o5])) ⟨⟨_,_,_,_,_,aN.refl _,rfl⟩⟩ (fun j σ' H' _ z=>by obtain ⟨⟨_,_,_,_,_,S,_⟩⟩:=z; exact c6.of (S _ _ kl)) ?_ ?_
  ·refine fun j zz σ' H' hj h0=>hid fun J Z=>?_
   obtain ⟨⟨o1,o2,o3,o4,o5,S,rfl⟩⟩ :=h0
   refine Z ?_
   clear Z
   obtain ⟨pp,x,y,rfl,pr⟩:=pr41_at k1 k2 k3 k4 hj
   have SA:=SL.trans S
   have hpp:=S _ _ pr.h
   have y0:0 < y:=by have:=pr.y0; omega
   have zy:Bz 128 y:=by have:=pr.y0; have:=pr.y1; exact Bz.w (by omega) (by omega)
   have zx:Bz 128 x:=by have:=pr.x0; have:=pr.x1; exact Bz.w (by omega) (by omega)
   have zy8:Bz 8000 y:=zy.mono (by decide)
   have r0:=low_0 (t:=x) y0 pr.x0
   have rr8:Rz 8000 (Rat.divInt x y):=z8 (by omega) (zx.mono (by decide)) zy8
   have nx0:kQ (Rat.divInt x y) (0,ps0)=true:=by
    rw [wG y0]
    refine decide_eq_true ?_
    show (0:Int) * y<=x * (1:Int)
    have:=pr.x0
    omega
   have ex0:∃ (i:Nat) (x':Rat × List Str),sts[i]? = some x'/\kQ (Rat.divInt x y) x'=true:=⟨0,(0,ps0),by rw [es0]; rfl,nx0⟩
   have hsp1:=SA _ _ hsp
   have qv1:=qv.same SA
   walk_at "rd"
   refine aP (fun σ' H1=>Iv (∃ (tz:Addr) (q1:Rat) (ps:List Str),aN H' H1/\(sts.filter (kQ (Rat.divInt x y))).getLast? = some (q1,ps)/\H1 tz=some (.lst (ps.map V.str))/\σ' = [some (.ref a),some (.int s),some (.int B),some v,some (.int ch),some v2,some (.ref f),some (.ref sp),some (.ref fa),some (.int (ch / 100 % (60 * s))),some (.ref pp),some (.ref tz),o3,o4,o5])) (fun _ _ _=>?_) ?_
   ·walk_at "rd"
    rename_i rp hrp
    have Sr:=aM hrp (H:=H') (rt (Rat.divInt x y))
    refine ⟨qv1.same Sr,sl60,aE,rr8,rzs,r0,ex0,plen,fun H1 z q1 ps S1 fz la hz=>?_⟩
    walk_at "rd"
    exact ⟨⟨z,q1,ps,Sr.trans S1,la,hz,rfl⟩⟩
   rintro J Z σ' H1 ⟨⟨tz,q1,ps,S1,la,htz,rfl⟩⟩
   refine Z _ _ ?_
   clear Z
   obtain ⟨s',hps,op⟩:=pth.price b0 y0 la
   obtain ⟨gs,pi⟩:=hps.pi
   have ln:=pi.len
   have lps:ps.length<=60:=by omega
   have es:s'=c8 t ps:=hps.sum (W:=wA t) eO
   have cb:=m8 tb pi (by omega)
   have SH1:=SA.trans S1
   have tv1:=tv.mono SH1.t
   have hpp1:=S1 _ _ hpp
   have kn:=pi.kn
   have mlen:(ps.map V.str).length=ps.length:=List.length_map _
   have zc:Bz 400 (c8 t ps):=(Bz.w (by omega) (by omega)).mono (by decide)
   have zl:Bz 20 ((ps.length:Nat) : Int):=by show ((ps.length:Nat) : Int).natAbs < 2 ^ 20; omega
   refine aP (fun σ' H2=>Iv (aN H1 H2/\σ' = [some (.ref a),some (.int s),some (.int B),some v,some (.int ch),some v2,some (.ref f),some (.ref sp),some (.ref fa),some (.int (ch / 100 % (60 * s))),some (.ref pp),some (.ref tz),o3,o4,o5])) (fun _ _ _=>?_) ?_
   ·walk_at "rd"
    rename_i H2 S2
    exact ⟨⟨S2,rfl⟩⟩
   rintro J Z σ' H2 ⟨⟨S2,rfl⟩⟩
   refine Z _ _ ?_
   clear Z
   have SA2:=SH1.trans S2
   have tv2:=tv.mono SA2.t
   have hpp2:=S2 _ _ hpp1
   have htz2:=S2 _ _ htz
   have hf2:=SA2 _ _ hf
   have ld2:=ld.mono SA2
   have l100:ps.length < 100:=by omega
   have zl2:Bz 20 (((ps.map V.str).length:Nat) : Int):=by rw [mlen]; exact zl
   clear htz tv1 hpp1 hpp hsp1 qv1 nx0 ex0 rr8 zy8 r0
   have cmp:∀ qs r,PS t "" qs r->r=c8 t qs/\¬ (c8 t qs * y + x * B * ((qs.length:Nat) : Int) < c8 t ps * y + x * B * (((ps.map V.str).length:Nat) : Int))/\Bz 400 (c8 t qs)/\Bz 20 ((qs.length:Nat) : Int)/\qs.length < 100/\∀ z∈qs,z∈(dG t "").map (·.1):=fun qs r hq=>by
    obtain ⟨g2,pq⟩:=hq.pi
    have lq:=pq.len
    have er:r=c8 t qs:=hq.sum (W:=wA t) eO
    have o1:=(op qs r hq).1
    have cq:=m8 tb pq (by omega)
    rw [es,er,Int.mul_right_comm x _ B,Int.mul_right_comm x _ B] at o1
    refine ⟨er,?_,(Bz.w (by omega) (by omega)).mono (by decide),(by show ((qs.length:Nat) : Int).natAbs < 2 ^ 20; omega),by omega,pq.kn⟩
    rw [mlen]
    exact Int.not_lt.mpr o1
   refine aP (fun σ' H3=>Iv (H3=H2/\σ' = [some (.ref a),some (.int s),some (.int B),some v,some (.int ch),some v2,some (.ref f),some (.ref sp),some (.ref fa),some (.int (ch / 100 % (60 * s))),some (.ref pp),some (.ref tz),some (.int (c8 t ps * y + x * B * ((ps.map V.str).length:Nat))),o4,o5])) (fun _ _ _=>?_) ?_
   ·walk_at "rd"
    exact ⟨⟨rfl,rfl⟩⟩
   rintro J Z σ' H3 ⟨⟨rfl,rfl⟩⟩
   refine Z _ _ ?_
   clear Z
   refine aP (fun σ' H4=>Iv (∃ o4:Option V,H4=H3/\σ' = [some (.ref a),some (.int s),some (.int B),some v,some (.int ch),some v2,some (.ref f),some (.ref sp),some (.ref fa),some (.int (ch / 100 % (60 * s))),some (.ref pp),some (.ref tz),some (.int (c8 t ps * y + x * B * ((ps.map V.str).length:Nat))),o4,o5])) (fun _ _ _=>?_) ?_
   ·walk_at "rd"
    refine c5 (K:=K) (a:=f) (xs:=xs) (fun i σ' H'=>Iv (∃ o4:Option V,H'=H3/\σ' = [some (.ref a),some (.int s),some (.int B),some v,some (.int ch),some v2,some (.ref f),some (.ref sp),some (.ref fa),some (.int (ch / 100 % (60 * s))),some (.ref pp),some (.ref tz),some (.int (c8 t ps * y + x * B * ((ps.map V.str).length:Nat))),o4,o5])) ⟨⟨_,rfl,rfl⟩⟩ (fun i σ' H' _ z=>by obtain ⟨⟨_,e,_⟩⟩:=z; rw [e]; exact c6.of hf2) ?_ ?_
    ·rintro i zz σ' H' hi ⟨⟨o4,rfl,rfl⟩⟩
     obtain ⟨p,c1,l,u,rfl,hu,hp,hc,hl'⟩:=ld2.get hi
     obtain ⟨_,nlt,zu,zlu,lu1,knu⟩:=cmp _ _ (rg i u hu).ps
     walk_at "rd"
     exact ⟨⟨_,rfl,rfl⟩⟩
    ·rintro σ' H' ⟨⟨o4,rfl,rfl⟩⟩
     exact ⟨⟨o4,rfl,rfl⟩⟩
   rintro J Z σ' H4 ⟨⟨o4,rfl,rfl⟩⟩
   refine Z _ _ ?_
   clear Z
   refine aP (fun σ' H5=>Iv (∃ (pc:Addr) (qs:List Str) (r:Int),aN H4 H5/\H5 pc=some (.lst (qs.map V.str))/\PS t "" qs r/\σ' = [some (.ref a),some (.int s),some (.int B),some v,some (.int ch),some v2,some (.ref f),some (.ref sp),some (.ref fa),some (.int (ch / 100 % (60 * s))),some (.ref pp),some (.ref tz),some (.int (c8 t ps * y + x * B * ((ps.map V.str).length:Nat))),o4,some (.ref pc)])) (fun _ _ _=>?_) ?_
   ·have e0:("" : Str).length=0:=by decide +kernel
    have l0:("" : Str).length + t.dp<=100:=by omega
    have l50:t.lv<=50:=by omega
    walk_at "rd"
    rename_i nx n0 n1 H5 pc qs r S5 hpc hq
    exact ⟨⟨pc,qs,r,S5,hpc,hq,rfl⟩⟩
   rintro J Z σ' H5 ⟨⟨pc,qs,r,S5,hpc,hq,rfl⟩⟩
   refine Z _ _ ?_
   clear Z
   obtain ⟨_,nlt,zu,zlu,lu1,knu⟩:=cmp _ _ hq
   have tv5:=tv2.mono S5.t
   have hpp5:=S5 _ _ hpp2
   have mq:(qs.map V.str).length=qs.length:=List.length_map _
   have zlq:Bz 20 (((qs.map V.str).length:Nat) : Int):=by rw [mq]; exact zlu
   have nlt2:¬ (c8 t qs * y + x * B * (((qs.map V.str).length:Nat) : Int) < c8 t ps * y + x * B * (((ps.map V.str).length:Nat) : Int)):=by rw [mq]; exact nlt
   walk_at "rd"
   exact ⟨⟨_,_,_,_,_,S.trans (S1.trans (S2.trans S5)),rfl⟩⟩
  ·refine fun σ' H' h0=>hid fun J Z=>?_
   obtain ⟨⟨o1,o2,o3,o4,o5,S,rfl⟩⟩ :=h0
   refine Z ?_
   clear Z
   exact ⟨⟨_,_,_,_,_,SL.trans S,rfl⟩⟩
 rintro J Z σ' HB ⟨⟨o1,o2,o3,o4,o5,SB,rfl⟩⟩
 refine Z _ _ ?_
 clear Z
 walk_at "rd"
 exact q _
end
theorem ln1 {us : List Value} (h : us.length = 1) : ∃ v0, us = [v0] := by
 match us, h with
 | [v0], _ => exact ⟨v0, rfl⟩
theorem ln2 {us : List Value} (h : us.length = 2) : ∃ v0 v1, us = [v0, v1] := by
 match us, h with
 | [v0, v1], _ => exact ⟨v0, v1, rfl⟩
theorem ln3 {us : List Value} (h : us.length = 3) : ∃ v0 v1 v2, us = [v0, v1, v2] := by
 match us, h with
 | [v0, v1, v2], _ => exact ⟨v0, v1, v2, rfl⟩
theorem ln4 {us : List Value} (h : us.length = 4) : ∃ v0 v1 v2 v3, us = [v0, v1, v2, v3] := by
 match us, h with
 | [v0, v1, v2, v3], _ => exact ⟨v0, v1, v2, v3, rfl⟩
local macro_rules | `(tactic| walk_at "b1") => `(tactic| exact fun _ _ _ _ _ _ _ h=>by(obtain ⟨v0,e⟩:=ln1 h;subst e;rfl))
local macro_rules | `(tactic| walk_at "b2") => `(tactic| exact fun _ _ _ _ _ _ _ h=>by(obtain ⟨v0, v1,e⟩:=ln2 h;subst e;rfl))
local macro_rules | `(tactic| walk_at "b3") => `(tactic| exact fun _ _ _ _ _ _ _ h=>by(obtain ⟨v0, v1, v2,e⟩:=ln3 h;subst e;rfl))
local macro_rules | `(tactic| walk_at "b4") => `(tactic| exact fun _ _ _ _ _ _ _ h=>by(obtain ⟨v0, v1, v2, v3,e⟩:=ln4 h;subst e;rfl))
abbrev fA (K:PySem.W.Frag) (n:Str) (f:Addr):Prop:=PySem.W.nsIn K mainGlobals n = some (some (.ref f))
abbrev fK (K:PySem.W.Frag) (f:Addr):Prop:=PySem.W.keepIn K (.ref f)=true
abbrev fL (K:PySem.W.Frag) (f:Addr) (oc) (od) (n q:Str) (st:Stmt) (kV) (dc) (pm) (an) (cd) (ct) (sl):=K.lookup f=some ⟨oc,od,.func (PySem.W.fnOf n q (iF st) (gL st) (aQ st) .none kV dc pm an cd ct),sl⟩
theorem fin {K:PySem.W.Frag}{h:Heap}{mg:Str->Option Value}{fa f0 f1 f2 f3 f4 f5 f6 f7 f8 f9 f10 f11 f12 f13 f14 f15 f16 f17 f18 f19 f20 f21 f22 f23 f24 f25 f26 f27 f28 f29 f30 f31 f32 f33 f34 f35 f36 f37 f38 f39 f40 f41 f42 f43 f44 f45 f46 f47 f48 f49 c_R0 c_I0:Addr}(X:K.In h) (G:h.Ns mainGlobals mg) (hfa:mg "law" = some (.ref fa))
  {od0 an0 od1 an1 od2 an2 od3 an3 od4 an4 od5 an5 od6 an6 od7 an7 od8 an8 od9 an9 od10 an10 od11 an11 od12 an12 od13 an13 od14 an14 od15 an15 od16 an16 od17 an17 od18 an18 od19 an19 od20 an20 od21 an21 od22 an22 od23 an23 od24 an24 od25 an25 od26 an26 od27 an27 od28 an28 od29 an29 od30 an30 od31 an31 od32 an32 od33 an33 od34 an34 od35 an35 od36 an36 od37 an37 od38 an38 od39 an39 od40 an40 od41 an41 od42 an42 od43 an43 od44 an44 od45 an45 od46 an46 od47 an47 od48 an48 od49 an49:Option Addr}{sl0 sl1 sl2 sl3 sl4 sl5 sl6 sl7 sl8 sl9 sl10 sl11 sl12 sl13 sl14 sl15 sl16 sl17 sl18 sl19 sl20 sl21 sl22 sl23 sl24 sl25 sl26 sl27 sl28 sl29 sl30 sl31 sl32 sl33 sl34 sl35 sl36 sl37 sl38 sl39 sl40 sl41 sl42 sl43 sl44 sl45 sl46 sl47 sl48 sl49:Array (Option Value)}{oc0 kV0 dc0 pm0 cd0 ct0 oc1 kV1 dc1 pm1 cd1 ct1 oc2 kV2 dc2 pm2 cd2 ct2 oc3 kV3 dc3 pm3 cd3 ct3 oc4 kV4 dc4 pm4 cd4 ct4 oc5 kV5 dc5 pm5 cd5 ct5 oc6 kV6 dc6 pm6 cd6 ct6 oc7 kV7 dc7 pm7 cd7 ct7 oc8 kV8 dc8 pm8 cd8 ct8 oc9 kV9 dc9 pm9 cd9 ct9 oc10 kV10 dc10 pm10 cd10 ct10 oc11 kV11 dc11 pm11 cd11 ct11 oc12 kV12 dc12 pm12 cd12 ct12 oc13 kV13 dc13 pm13 cd13 ct13 oc14 kV14 dc14 pm14 cd14 ct14 oc15 kV15 dc15 pm15 cd15 ct15 oc16 kV16 dc16 pm16 cd16 ct16 oc17 kV17 dc17 pm17 cd17 ct17 oc18 kV18 dc18 pm18 cd18 ct18 oc19 kV19 dc19 pm19 cd19 ct19 oc20 kV20 dc20 pm20 cd20 ct20 oc21 kV21 dc21 pm21 cd21 ct21 oc22 kV22 dc22 pm22 cd22 ct22 oc23 kV23 dc23 pm23 cd23 ct23 oc24 kV24 dc24 pm24 cd24 ct24 oc25 kV25 dc25 pm25 cd25 ct25 oc26 kV26 dc26 pm26 cd26 ct26 oc27 kV27 dc27 pm27 cd27 ct27 oc28 kV28 dc28 pm28 cd28 ct28 oc29 kV29 dc29 pm29 cd29 ct29 oc30 kV30 dc30 pm30 cd30 ct30 oc31 kV31 dc31 pm31 cd31 ct31 oc32 kV32 dc32 pm32 cd32 ct32 oc33 kV33 dc33 pm33 cd33 ct33 oc34 kV34 dc34 pm34 cd34 ct34 oc35 kV35 dc35 pm35 cd35 ct35 oc36 kV36 dc36 pm36 cd36 ct36 oc37 kV37 dc37 pm37 cd37 ct37 oc38 kV38 dc38 pm38 cd38 ct38 oc39 kV39 dc39 pm39 cd39 ct39 oc40 kV40 dc40 pm40 cd40 ct40 oc41 kV41 dc41 pm41 cd41 ct41 oc42 kV42 dc42 pm42 cd42 ct42 oc43 kV43 dc43 pm43 cd43 ct43 oc44 kV44 dc44 pm44 cd44 ct44 oc45 kV45 dc45 pm45 cd45 ct45 oc46 kV46 dc46 pm46 cd46 ct46 oc47 kV47 dc47 pm47 cd47 ct47 oc48 kV48 dc48 pm48 cd48 ct48 oc49 kV49 dc49 pm49 cd49 ct49:Value}
  (a_R0:fA K "NoRatio" c_R0)
  (e_R0:PySem.W.excIn K c_R0 [.type "ValueError", .type "Exception", .type "BaseException", .type "object"] "ValueError.__new__" = true)
  (ga_R0:PySem.W.findIn K (.ref c_R0) "__getattribute__" = some (some (.builtin "BaseException.__getattribute__")))
  (gt_R0:PySem.W.findIn K (.ref c_R0) "__getattr__" = some none)
  (cl_R0:PySem.W.findIn K (.ref c_R0) "__class__" = some (some (.builtin "object.__class__")))
  (mb_R0:PySem.W.mroIn K c_R0 (.type "BaseException")=some true)
  (mo_R0:PySem.W.mroIn K c_R0 (.type "object")=some true)
  (a_I0:fA K "NoPrice" c_I0)
  (a0:fA K "greatest_divisor" f0)
  (l0:fL K f0 oc0 od0 "greatest_divisor" "greatest_divisor" zN kV0 dc0 pm0 an0 cd0 ct0 sl0)
  (kc0:PySem.W.codeIn K cd0 "greatest_divisor" = true)
  (kk0:fK K f0)
  (a1:fA K "plus" f1)
  (l1:fL K f1 oc1 od1 "plus" "plus" zS kV1 dc1 pm1 an1 cd1 ct1 sl1)
  (kc1:PySem.W.codeIn K cd1 "plus" = true)
  (kk1:fK K f1)
  (a2:fA K "minus" f2)
  (l2:fL K f2 oc2 od2 "minus" "minus" zX kV2 dc2 pm2 an2 cd2 ct2 sl2)
  (kc2:PySem.W.codeIn K cd2 "minus" = true)
  (kk2:fK K f2)
  (a3:fA K "under" f3)
  (l3:fL K f3 oc3 od3 "under" "under" zW kV3 dc3 pm3 an3 cd3 ct3 sl3)
  (kc3:PySem.W.codeIn K cd3 "under" = true)
  (kk3:fK K f3)
  (a4:fA K "trees_by_place" f4)
  (l4:fL K f4 oc4 od4 "trees_by_place" "trees_by_place" zL kV4 dc4 pm4 an4 cd4 ct4 sl4)
  (kc4:PySem.W.codeIn K cd4 "trees_by_place" = true)
  (kk4:fK K f4)
  (a5:fA K "places_of" f5)
  (l5:fL K f5 oc5 od5 "places_of" "places_of" yV kV5 dc5 pm5 an5 cd5 ct5 sl5)
  (kc5:PySem.W.codeIn K cd5 "places_of" = true)
  (kk5:fK K f5)
  (a6:fA K "forks" f6)
  (l6:fL K f6 oc6 od6 "forks" "forks" zV kV6 dc6 pm6 an6 cd6 ct6 sl6)
  (kc6:PySem.W.codeIn K cd6 "forks" = true)
  (kk6:fK K f6)
  (a7:fA K "common_bottom" f7)
  (l7:fL K f7 oc7 od7 "common_bottom" "common_bottom" zG kV7 dc7 pm7 an7 cd7 ct7 sl7)
  (kc7:PySem.W.codeIn K cd7 "common_bottom" = true)
  (kk7:fK K f7)
  (a8:fA K "lifted" f8)
  (l8:fL K f8 oc8 od8 "lifted" "lifted" zZ kV8 dc8 pm8 an8 cd8 ct8 sl8)
  (kc8:PySem.W.codeIn K cd8 "lifted" = true)
  (kk8:fK K f8)
  (a9:fA K "in_whole_costs" f9)
  (l9:fL K f9 oc9 od9 "in_whole_costs" "in_whole_costs" zK kV9 dc9 pm9 an9 cd9 ct9 sl9)
  (kc9:PySem.W.codeIn K cd9 "in_whole_costs" = true)
  (kk9:fK K f9)
  (a10:fA K "beginnings" f10)
  (l10:fL K f10 oc10 od10 "beginnings" "beginnings" y7 kV10 dc10 pm10 an10 cd10 ct10 sl10)
  (kc10:PySem.W.codeIn K cd10 "beginnings" = true)
  (kk10:fK K f10)
  (a11:fA K "check_price" f11)
  (l11:fL K f11 oc11 od11 "check_price" "check_price" zB kV11 dc11 pm11 an11 cd11 ct11 sl11)
  (kc11:PySem.W.codeIn K cd11 "check_price" = true)
  (kk11:fK K f11)
  (a12:fA K "unreduced_sum" f12)
  (l12:fL K f12 oc12 od12 "unreduced_sum" "unreduced_sum" zF kV12 dc12 pm12 an12 cd12 ct12 sl12)
  (kc12:PySem.W.codeIn K cd12 "unreduced_sum" = true)
  (kk12:fK K f12)
  (a13:fA K "cheapest_with_cost" f13)
  (l13:fL K f13 oc13 od13 "cheapest_with_cost" "cheapest_with_cost" zO kV13 dc13 pm13 an13 cd13 ct13 sl13)
  (kc13:PySem.W.codeIn K cd13 "cheapest_with_cost" = true)
  (kk13:fK K f13)
  (a14:fA K "cheapest" f14)
  (l14:fL K f14 oc14 od14 "cheapest" "cheapest" yN kV14 dc14 pm14 an14 cd14 ct14 sl14)
  (kc14:PySem.W.codeIn K cd14 "cheapest" = true)
  (kk14:fK K f14)
  (a15:fA K "forks_inside" f15)
  (l15:fL K f15 oc15 od15 "forks_inside" "forks_inside" zE kV15 dc15 pm15 an15 cd15 ct15 sl15)
  (kc15:PySem.W.codeIn K cd15 "forks_inside" = true)
  (kk15:fK K f15)
  (a16:fA K "shared_out" f16)
  (l16:fL K f16 oc16 od16 "shared_out" "shared_out" yZ kV16 dc16 pm16 an16 cd16 ct16 sl16)
  (kc16:PySem.W.codeIn K cd16 "shared_out" = true)
  (kk16:fK K f16)
  (a17:fA K "link_inside" f17)
  (l17:fL K f17 oc17 od17 "link_inside" "link_inside" zA kV17 dc17 pm17 an17 cd17 ct17 sl17)
  (kc17:PySem.W.codeIn K cd17 "link_inside" = true)
  (kk17:fK K f17)
  (a18:fA K "cut" f18)
  (l18:fL K f18 oc18 od18 "cut" "cut" zP kV18 dc18 pm18 an18 cd18 ct18 sl18)
  (kc18:PySem.W.codeIn K cd18 "cut" = true)
  (kk18:fK K f18)
  (a19:fA K "sums_and_leaves" f19)
  (l19:fL K f19 oc19 od19 "sums_and_leaves" "sums_and_leaves" zM kV19 dc19 pm19 an19 cd19 ct19 sl19)
  (kc19:PySem.W.codeIn K cd19 "sums_and_leaves" = true)
  (kk19:fK K f19)
  (a20:fA K "whole_links" f20)
  (l20:fL K f20 oc20 od20 "whole_links" "whole_links" y9 kV20 dc20 pm20 an20 cd20 ct20 sl20)
  (kc20:PySem.W.codeIn K cd20 "whole_links" = true)
  (kk20:fK K f20)
  (a21:fA K "least_linked" f21)
  (l21:fL K f21 oc21 od21 "least_linked" "least_linked" zD kV21 dc21 pm21 an21 cd21 ct21 sl21)
  (kc21:PySem.W.codeIn K cd21 "least_linked" = true)
  (kk21:fK K f21)
  (a22:fA K "path" f22)
  (l22:fL K f22 oc22 od22 "path" "path" zR kV22 dc22 pm22 an22 cd22 ct22 sl22)
  (kc22:PySem.W.codeIn K cd22 "path" = true)
  (kk22:fK K f22)
  (a23:fA K "last_not_above" f23)
  (l23:fL K f23 oc23 od23 "last_not_above" "last_not_above" zJ kV23 dc23 pm23 an23 cd23 ct23 sl23)
  (kc23:PySem.W.codeIn K cd23 "last_not_above" = true)
  (kk23:fK K f23)
  (a24:fA K "for_price" f24)
  (l24:fL K f24 oc24 od24 "for_price" "for_price" yU kV24 dc24 pm24 an24 cd24 ct24 sl24)
  (kc24:PySem.W.codeIn K cd24 "for_price" = true)
  (kk24:fK K f24)
  (a25:fA K "cost_by_change" f25)
  (l25:fL K f25 oc25 od25 "cost_by_change" "cost_by_change" zI kV25 dc25 pm25 an25 cd25 ct25 sl25)
  (kc25:PySem.W.codeIn K cd25 "cost_by_change" = true)
  (kk25:fK K f25)
  (a26:fA K "best_pair" f26)
  (l26:fL K f26 oc26 od26 "best_pair" "best_pair" yT kV26 dc26 pm26 an26 cd26 ct26 sl26)
  (kc26:PySem.W.codeIn K cd26 "best_pair" = true)
  (kk26:fK K f26)
  (a27:fA K "rungs" f27)
  (l27:fL K f27 oc27 od27 "rungs" "rungs" zU kV27 dc27 pm27 an27 cd27 ct27 sl27)
  (kc27:PySem.W.codeIn K cd27 "rungs" = true)
  (kk27:fK K f27)
  (a28:fA K "ladder" f28)
  (l28:fL K f28 oc28 od28 "ladder" "ladder" zY kV28 dc28 pm28 an28 cd28 ct28 sl28)
  (kc28:PySem.W.codeIn K cd28 "ladder" = true)
  (kk28:fK K f28)
  (a29:fA K "is_whole" f29)
  (l29:fL K f29 oc29 od29 "is_whole" "is_whole" yM kV29 dc29 pm29 an29 cd29 ct29 sl29)
  (kc29:PySem.W.codeIn K cd29 "is_whole" = true)
  (kk29:fK K f29)
  (a30:fA K "ratio" f30)
  (l30:fL K f30 oc30 od30 "ratio" "ratio" zT kV30 dc30 pm30 an30 cd30 ct30 sl30)
  (kc30:PySem.W.codeIn K cd30 "ratio" = true)
  (kk30:fK K f30)
  (a31:fA K "over" f31)
  (l31:fL K f31 oc31 od31 "over" "over" zQ kV31 dc31 pm31 an31 cd31 ct31 sl31)
  (kc31:PySem.W.codeIn K cd31 "over" = true)
  (kk31:fK K f31)
  (a32:fA K "even_price" f32)
  (l32:fL K f32 oc32 od32 "even_price" "even_price" yY kV32 dc32 pm32 an32 cd32 ct32 sl32)
  (kc32:PySem.W.codeIn K cd32 "even_price" = true)
  (kk32:fK K f32)
  (a33:fA K "best_nowhere" f33)
  (l33:fL K f33 oc33 od33 "best_nowhere" "best_nowhere" zC kV33 dc33 pm33 an33 cd33 ct33 sl33)
  (kc33:PySem.W.codeIn K cd33 "best_nowhere" = true)
  (kk33:fK K f33)
  (a34:fA K "best_points" f34)
  (l34:fL K f34 oc34 od34 "best_points" "best_points" y8 kV34 dc34 pm34 an34 cd34 ct34 sl34)
  (kc34:PySem.W.codeIn K cd34 "best_points" = true)
  (kk34:fK K f34)
  (a35:fA K "corners" f35)
  (l35:fL K f35 oc35 od35 "corners" "corners" z7 kV35 dc35 pm35 an35 cd35 ct35 sl35)
  (kc35:PySem.W.codeIn K cd35 "corners" = true)
  (kk35:fK K f35)
  (a36:fA K "_law_cell" f36)
  (l36:fL K f36 oc36 od36 "_law_cell" "_law_cell" yL kV36 dc36 pm36 an36 cd36 ct36 sl36)
  (kc36:PySem.W.codeIn K cd36 "_law_cell" = true)
  (kk36:fK K f36)
  (a37:fA K "_law_next" f37)
  (l37:fL K f37 oc37 od37 "_law_next" "_law_next" yK kV37 dc37 pm37 an37 cd37 ct37 sl37)
  (kc37:PySem.W.codeIn K cd37 "_law_next" = true)
  (kk37:fK K f37)
  (a38:fA K "_law_ratio" f38)
  (l38:fL K f38 oc38 od38 "_law_ratio" "_law_ratio" yS kV38 dc38 pm38 an38 cd38 ct38 sl38)
  (kc38:PySem.W.codeIn K cd38 "_law_ratio" = true)
  (kk38:fK K f38)
  (a39:fA K "_law_joined" f39)
  (l39:fL K f39 oc39 od39 "_law_joined" "_law_joined" yX kV39 dc39 pm39 an39 cd39 ct39 sl39)
  (kc39:PySem.W.codeIn K cd39 "_law_joined" = true)
  (kk39:fK K f39)
  (a40:fA K "_law_tree" f40)
  (l40:fL K f40 oc40 od40 "_law_tree" "_law_tree" yJ kV40 dc40 pm40 an40 cd40 ct40 sl40)
  (kc40:PySem.W.codeIn K cd40 "_law_tree" = true)
  (kk40:fK K f40)
  (a41:fA K "_law_handed" f41)
  (l41:fL K f41 oc41 od41 "_law_handed" "_law_handed" yW kV41 dc41 pm41 an41 cd41 ct41 sl41)
  (kc41:PySem.W.codeIn K cd41 "_law_handed" = true)
  (kk41:fK K f41)
  (a42:fA K "_law_drawn" f42)
  (l42:fL K f42 oc42 od42 "_law_drawn" "_law_drawn" yR kV42 dc42 pm42 an42 cd42 ct42 sl42)
  (kc42:PySem.W.codeIn K cd42 "_law_drawn" = true)
  (kk42:fK K f42)
  (a43:fA K "_law_sum" f43)
  (l43:fL K f43 oc43 od43 "_law_sum" "_law_sum" z6 kV43 dc43 pm43 an43 cd43 ct43 sl43)
  (kc43:PySem.W.codeIn K cd43 "_law_sum" = true)
  (kk43:fK K f43)
  (a44:fA K "_law_ends" f44)
  (l44:fL K f44 oc44 od44 "_law_ends" "_law_ends" yI kV44 dc44 pm44 an44 cd44 ct44 sl44)
  (kc44:PySem.W.codeIn K cd44 "_law_ends" = true)
  (kk44:fK K f44)
  (a45:fA K "_law_is_pruning" f45)
  (l45:fL K f45 oc45 od45 "_law_is_pruning" "_law_is_pruning" zH kV45 dc45 pm45 an45 cd45 ct45 sl45)
  (kc45:PySem.W.codeIn K cd45 "_law_is_pruning" = true)
  (kk45:fK K f45)
  (a46:fA K "_law_digit" f46)
  (l46:fL K f46 oc46 od46 "_law_digit" "_law_digit" yQ kV46 dc46 pm46 an46 cd46 ct46 sl46)
  (kc46:PySem.W.codeIn K cd46 "_law_digit" = true)
  (kk46:fK K f46)
  (a47:fA K "_law_grown" f47)
  (l47:fL K f47 oc47 od47 "_law_grown" "_law_grown" yP kV47 dc47 pm47 an47 cd47 ct47 sl47)
  (kc47:PySem.W.codeIn K cd47 "_law_grown" = true)
  (kk47:fK K f47)
  (a48:fA K "_law_worth" f48)
  (l48:fL K f48 oc48 od48 "_law_worth" "_law_worth" yO kV48 dc48 pm48 an48 cd48 ct48 sl48)
  (kc48:PySem.W.codeIn K cd48 "_law_worth" = true)
  (kk48:fK K f48)
  (a49:fA K "law" f49)
  (l49:fL K f49 oc49 od49 "law" "law" qW kV49 dc49 pm49 an49 cd49 ct49 sl49)
  (kc49:PySem.W.codeIn K cd49 "law" = true)
  (kk49:fK K f49)
  (z_abs:PySem.W.nsIn K mainGlobals "abs" = some none)
  (z_bool:PySem.W.nsIn K mainGlobals "bool" = some none)
  (z_int:PySem.W.nsIn K mainGlobals "int" = some none)
  (z_isinstance:PySem.W.nsIn K mainGlobals "isinstance" = some none)
  (z_len:PySem.W.nsIn K mainGlobals "len" = some none)
  (z_list:PySem.W.nsIn K mainGlobals "list" = some none)
  (z_max:PySem.W.nsIn K mainGlobals "max" = some none)
  (z_min:PySem.W.nsIn K mainGlobals "min" = some none)
  (z_range:PySem.W.nsIn K mainGlobals "range" = some none)
  (z_reversed:PySem.W.nsIn K mainGlobals "reversed" = some none)
  (z_set:PySem.W.nsIn K mainGlobals "set" = some none)
  (z_sorted:PySem.W.nsIn K mainGlobals "sorted" = some none)
  : ∃ T:Tx K mg,T.f_law=fa/\∀ (s:Shared) (u:Value),BindsTo s T.d_law ⟨[u],[]⟩ [("_law_script", u)]:=by
 have e:=hfa.symm.trans (PySem.W.mg_of X G a49)
 cases e
 have F0:=bC (st:=zN) l0 kc0 kk0
 have b0:=F0.binds (ps:=["one", "other"]) (by walk_at "b2")
 have F1:=bC (st:=zS) l1 kc1 kk1
 have b1:=F1.binds (ps:=["one", "other"]) (by walk_at "b2")
 have F2:=bC (st:=zX) l2 kc2 kk2
 have b2:=F2.binds (ps:=["one", "other"]) (by walk_at "b2")
 have F3:=bC (st:=zW) l3 kc3 kk3
 have b3:=F3.binds (ps:=["one", "other"]) (by walk_at "b2")
 have F4:=bC (st:=zL) l4 kc4 kk4
 have b4:=F4.binds (ps:=["tree"]) (by walk_at "b1")
 have F5:=bC (st:=yV) l5 kc5 kk5
 have b5:=F5.binds (ps:=["tree", "sort"]) (by walk_at "b2")
 have F6:=bC (st:=zV) l6 kc6 kk6
 have b6:=F6.binds (ps:=["tree"]) (by walk_at "b1")
 have F7:=bC (st:=zG) l7 kc7 kk7
 have b7:=F7.binds (ps:=["tree"]) (by walk_at "b1")
 have F8:=bC (st:=zZ) l8 kc8 kk8
 have b8:=F8.binds (ps:=["tree", "bottom"]) (by walk_at "b2")
 have F9:=bC (st:=zK) l9 kc9 kk9
 have b9:=F9.binds (ps:=["tree"]) (by walk_at "b1")
 have F10:=bC (st:=y7) l10 kc10 kk10
 have b10:=F10.binds (ps:=["place", "places"]) (by walk_at "b2")
 have F11:=bC (st:=zB) l11 kc11 kk11
 have b11:=F11.binds (ps:=["price"]) (by walk_at "b1")
 have F12:=bC (st:=zF) l12 kc12 kk12
 have b12:=F12.binds (ps:=["one", "other"]) (by walk_at "b2")
 have F13:=bC (st:=zO) l13 kc13 kk13
 have b13:=F13.binds (ps:=["tree", "price"]) (by walk_at "b2")
 have F14:=bC (st:=yN) l14 kc14 kk14
 have b14:=F14.binds (ps:=["tree", "price"]) (by walk_at "b2")
 have F15:=bC (st:=zE) l15 kc15 kk15
 have b15:=F15.binds (ps:=["tree", "places"]) (by walk_at "b2")
 have F16:=bC (st:=yZ) l16 kc16 kk16
 have b16:=F16.binds (ps:=["one", "many"]) (by walk_at "b2")
 have F17:=bC (st:=zA) l17 kc17 kk17
 have b17:=F17.binds (ps:=["tree", "places", "fork"]) (by walk_at "b3")
 have F18:=bC (st:=zP) l18 kc18 kk18
 have b18:=F18.binds (ps:=["places", "places_of_forks"]) (by walk_at "b2")
 have F19:=bC (st:=zM) l19 kc19 kk19
 have b19:=F19.binds (ps:=["whole", "places"]) (by walk_at "b2")
 have F20:=bC (st:=y9) l20 kc20 kk20
 have b20:=F20.binds (ps:=["whole", "places"]) (by walk_at "b2")
 have F21:=bC (st:=zD) l21 kc21 kk21
 have b21:=F21.binds (ps:=["whole", "places"]) (by walk_at "b2")
 have F22:=bC (st:=zR) l22 kc22 kk22
 have b22:=F22.binds (ps:=["tree"]) (by walk_at "b1")
 have F23:=bC (st:=zJ) l23 kc23 kk23
 have b23:=F23.binds (ps:=["steps", "price"]) (by walk_at "b2")
 have F24:=bC (st:=yU) l24 kc24 kk24
 have b24:=F24.binds (ps:=["steps", "price"]) (by walk_at "b2")
 have F25:=bC (st:=zI) l25 kc25 kk25
 have b25:=F25.binds (ps:=["known", "own", "before", "places"]) (by walk_at "b4")
 have F26:=bC (st:=yT) l26 kc26 kk26
 have b26:=F26.binds (ps:=["yes", "no", "leaves"]) (by walk_at "b3")
 have F27:=bC (st:=zU) l27 kc27 kk27
 have b27:=F27.binds (ps:=["whole"]) (by walk_at "b1")
 have F28:=bC (st:=zY) l28 kc28 kk28
 have b28:=F28.binds (ps:=["tree"]) (by walk_at "b1")
 have F29:=bC (st:=yM) l29 kc29 kk29
 have b29:=F29.binds (ps:=["value"]) (by walk_at "b1")
 have F30:=bC (st:=zT) l30 kc30 kk30
 have b30:=F30.binds (ps:=["top", "bottom"]) (by walk_at "b2")
 have F31:=bC (st:=zQ) l31 kc31 kk31
 have b31:=F31.binds (ps:=["one", "other"]) (by walk_at "b2")
 have F32:=bC (st:=yY) l32 kc32 kk32
 have b32:=F32.binds (ps:=["fewer", "more"]) (by walk_at "b2")
 have F33:=bC (st:=zC) l33 kc33 kk33
 have b33:=F33.binds (ps:=["last", "price"]) (by walk_at "b2")
 have F34:=bC (st:=y8) l34 kc34 kk34
 have b34:=F34.binds (ps:=["points"]) (by walk_at "b1")
 have F35:=bC (st:=z7) l35 kc35 kk35
 have b35:=F35.binds (ps:=["points"]) (by walk_at "b1")
 have F36:=bC (st:=yL) l36 kc36 kk36
 have b36:=F36.binds (ps:=["_law_script", "_law_k"]) (by walk_at "b2")
 have F37:=bC (st:=yK) l37 kc37 kk37
 have b37:=F37.binds (ps:=["_law_cell_here", "_law_k"]) (by walk_at "b2")
 have F38:=bC (st:=yS) l38 kc38 kk38
 have b38:=F38.binds (ps:=["_law_top", "_law_bottom"]) (by walk_at "b2")
 have F39:=bC (st:=yX) l39 kc39 kk39
 have b39:=F39.binds (ps:=["_law_pile", "_law_gain"]) (by walk_at "b2")
 have F40:=bC (st:=yJ) l40 kc40 kk40
 have b40:=F40.binds (ps:=["_law_cells", "_law_scale"]) (by walk_at "b2")
 have F41:=bC (st:=yW) l41 kc41 kk41
 have b41:=F41.binds (ps:=["_law_tree_here", "_law_bottom"]) (by walk_at "b2")
 have F42:=bC (st:=yR) l42 kc42 kk42
 have b42:=F42.binds (ps:=["_law_tree_here", "_law_place", "_law_cell_here"]) (by walk_at "b3")
 have F43:=bC (st:=z6) l43 kc43 kk43
 have b43:=F43.binds (ps:=["_law_tree_here", "_law_places"]) (by walk_at "b2")
 have F44:=bC (st:=yI) l44 kc44 kk44
 have b44:=F44.binds (ps:=["_law_tree_here", "_law_place"]) (by walk_at "b2")
 have F45:=bC (st:=zH) l45 kc45 kk45
 have b45:=F45.binds (ps:=["_law_tree_here", "_law_places"]) (by walk_at "b2")
 have F46:=bC (st:=yQ) l46 kc46 kk46
 have b46:=F46.binds (ps:=["_law_bag", "_law_many"]) (by walk_at "b2")
 have F47:=bC (st:=yP) l47 kc47 kk47
 have b47:=F47.binds (ps:=["_law_bag", "_law_left", "_law_scale"]) (by walk_at "b3")
 have F48:=bC (st:=yO) l48 kc48 kk48
 have b48:=F48.binds (ps:=["_law_top", "_law_leaves", "_law_bottom", "_law_price"]) (by walk_at "b4")
 have F49:=bC (st:=qW) l49 kc49 kk49
 have b49:=F49.binds (ps:=["_law_script"]) (by walk_at "b1")
 exact ⟨⟨c_R0,PySem.W.mg_of X G a_R0,⟨PySem.W.mg_of X G a_R0,e_R0⟩,⟨ga_R0,gt_R0,cl_R0,mb_R0,mo_R0⟩,c_I0,PySem.W.mg_of X G a_I0,_,_,F0,b0,PySem.W.mg_of X G a0,_,_,F1,b1,PySem.W.mg_of X G a1,_,_,F2,b2,PySem.W.mg_of X G a2,_,_,F3,b3,PySem.W.mg_of X G a3,_,_,F4,b4,PySem.W.mg_of X G a4,_,_,F5,b5,PySem.W.mg_of X G a5,_,_,F6,b6,PySem.W.mg_of X G a6,_,_,F7,b7,PySem.W.mg_of X G a7,_,_,F8,b8,PySem.W.mg_of X G a8,_,_,F9,b9,PySem.W.mg_of X G a9,_,_,F10,b10,PySem.W.mg_of X G a10,_,_,F11,b11,PySem.W.mg_of X G a11,_,_,F12,b12,PySem.W.mg_of X G a12,_,_,F13,b13,PySem.W.mg_of X G a13,_,_,F14,b14,PySem.W.mg_of X G a14,_,_,F15,b15,PySem.W.mg_of X G a15,_,_,F16,b16,PySem.W.mg_of X G a16,_,_,F17,b17,PySem.W.mg_of X G a17,_,_,F18,b18,PySem.W.mg_of X G a18,_,_,F19,b19,PySem.W.mg_of X G a19,_,_,F20,b20,PySem.W.mg_of X G a20,_,_,F21,b21,PySem.W.mg_of X G a21,_,_,F22,b22,PySem.W.mg_of X G a22,_,_,F23,b23,PySem.W.mg_of X G a23,_,_,F24,b24,PySem.W.mg_of X G a24,_,_,F25,b25,PySem.W.mg_of X G a25,_,_,F26,b26,PySem.W.mg_of X G a26,_,_,F27,b27,PySem.W.mg_of X G a27,_,_,F28,b28,PySem.W.mg_of X G a28,_,_,F29,b29,PySem.W.mg_of X G a29,_,_,F30,b30,PySem.W.mg_of X G a30,_,_,F31,b31,PySem.W.mg_of X G a31,_,_,F32,b32,PySem.W.mg_of X G a32,_,_,F33,b33,PySem.W.mg_of X G a33,_,_,F34,b34,PySem.W.mg_of X G a34,_,_,F35,b35,PySem.W.mg_of X G a35,_,_,F36,b36,PySem.W.mg_of X G a36,_,_,F37,b37,PySem.W.mg_of X G a37,_,_,F38,b38,PySem.W.mg_of X G a38,_,_,F39,b39,PySem.W.mg_of X G a39,_,_,F40,b40,PySem.W.mg_of X G a40,_,_,F41,b41,PySem.W.mg_of X G a41,_,_,F42,b42,PySem.W.mg_of X G a42,_,_,F43,b43,PySem.W.mg_of X G a43,_,_,F44,b44,PySem.W.mg_of X G a44,_,_,F45,b45,PySem.W.mg_of X G a45,_,_,F46,b46,PySem.W.mg_of X G a46,_,_,F47,b47,PySem.W.mg_of X G a47,_,_,F48,b48,PySem.W.mg_of X G a48,_,_,F49,b49,PySem.W.mg_of X G a49,PySem.W.mg_none_of X G z_abs,PySem.W.mg_none_of X G z_bool,PySem.W.mg_none_of X G z_int,PySem.W.mg_none_of X G z_isinstance,PySem.W.mg_none_of X G z_len,PySem.W.mg_none_of X G z_list,PySem.W.mg_none_of X G z_max,PySem.W.mg_none_of X G z_min,PySem.W.mg_none_of X G z_range,PySem.W.mg_none_of X G z_reversed,PySem.W.mg_none_of X G z_set,PySem.W.mg_none_of X G z_sorted⟩,rfl,fun s u=>.of_eq rfl⟩
end Lw
abbrev PySem.W.Fast.tw2489401318106421437:PySem.Program:=PySem.Challenge.pw_prunepath_k41_whole_ladder_meets_path
theorem PySem.W.Fast.te2489401318106421437:PySem.Challenge.pw_prunepath_k41_whole_ladder_meets_path=PySem.W.Fast.tw2489401318106421437:=rfl
open PySem PySem.W PyProof.Rows
local macro_rules | `(tactic| o_head $H) => `(tactic| (refine holds_open (q := Cz.q) (loose := Cz.loose) (Xt := fun s => xlAt Cz.q [] s && recOk (RowW.records (OpenRow.toRowW (OpenLaw.row PySem.Challenge.rw_prunepath_k41_whole_ladder_meets_path))) s) (XP := XL Cz.q []) (Yf := Hook.obs $H) (Ya := Hook.val $H) (YP := Hook.says $H) (N := 4752) ?hl (Hook.of $H) (Hook.keeps $H) (fun s e => xl_of s (Bool.and_eq_true_iff.mp e).1) XL.keeps (by rfl) (by rfl) (by rfl) (fun s e => recFacts_of (Bool.and_eq_true_iff.mp e).2) (by rfl) (by first | assumption | decide +kernel) (by decide +kernel) ⟨rfl, rfl, rfl, rfl, rfl, by decide +kernel⟩ ?hw ?hc; (case hl => (refine Cz.left_tree (boot_open (by kernel_rfl) (by decide) fun s => by kernel_rfl) Cz.run1 ?_; rw [PySem.W.Fast.te6613529449190102663, PySem.W.Fast.te10156331382660048174, PySem.W.Fast.te11892475500146522536, PySem.W.Fast.te14364793385576792824]; (intro w; kernel_rfl))); (case hw => w_witness2)))
set_option maxRecDepth 100000 in
set_option maxHeartbeats 0 in
theorem PySem.Challenge.cw_prunepath_k41_whole_ladder_meets_path_holds : PySem.Challenge.rw_prunepath_k41_whole_ladder_meets_path.Holds := by
  w_on; o_law; k_head
  k_fill
  refine L2.uH (l := PySem.Challenge.rw_prunepath_k41_whole_ladder_meets_path) (n := 63) (k := 25) (x := "_law_script") (sp := Lw.u5) rfl (by decide) rfl ⟨rfl, by decide, by decide, rfl⟩ (fun w h Y => PySem.W.kIn_of Y) ?F ?S
  case F =>
    intro w mg fa h KX G hmg
    have T : ∃ T : Lw.Tx (L2.KOf KX) mg, T.f_law = fa /\ ∀ (s : Shared) (u : Value), BindsTo s T.d_law ⟨[u], []⟩ [("_law_script", u)] := by
      dsimp only [L2.KOf]
      refine' Lw.fin KX G hmg ?ga_R0 ?ge_R0 ?gga_R0 ?ggt_R0 ?gcl_R0 ?gmb_R0 ?gmo_R0 ?ga_I0 ?a0 ?l0 ?c0 ?k0 ?a1 ?l1 ?c1 ?k1 ?a2 ?l2 ?c2 ?k2 ?a3 ?l3 ?c3 ?k3 ?a4 ?l4 ?c4 ?k4 ?a5 ?l5 ?c5 ?k5 ?a6 ?l6 ?c6 ?k6 ?a7 ?l7 ?c7 ?k7 ?a8 ?l8 ?c8 ?k8 ?a9 ?l9 ?c9 ?k9 ?a10 ?l10 ?c10 ?k10 ?a11 ?l11 ?c11 ?k11 ?a12 ?l12 ?c12 ?k12 ?a13 ?l13 ?c13 ?k13 ?a14 ?l14 ?c14 ?k14 ?a15 ?l15 ?c15 ?k15 ?a16 ?l16 ?c16 ?k16 ?a17 ?l17 ?c17 ?k17 ?a18 ?l18 ?c18 ?k18 ?a19 ?l19 ?c19 ?k19 ?a20 ?l20 ?c20 ?k20 ?a21 ?l21 ?c21 ?k21 ?a22 ?l22 ?c22 ?k22 ?a23 ?l23 ?c23 ?k23 ?a24 ?l24 ?c24 ?k24 ?a25 ?l25 ?c25 ?k25 ?a26 ?l26 ?c26 ?k26 ?a27 ?l27 ?c27 ?k27 ?a28 ?l28 ?c28 ?k28 ?a29 ?l29 ?c29 ?k29 ?a30 ?l30 ?c30 ?k30 ?a31 ?l31 ?c31 ?k31 ?a32 ?l32 ?c32 ?k32 ?a33 ?l33 ?c33 ?k33 ?a34 ?l34 ?c34 ?k34 ?a35 ?l35 ?c35 ?k35 ?a36 ?l36 ?c36 ?k36 ?a37 ?l37 ?c37 ?k37 ?a38 ?l38 ?c38 ?k38 ?a39 ?l39 ?c39 ?k39 ?a40 ?l40 ?c40 ?k40 ?a41 ?l41 ?c41 ?k41 ?a42 ?l42 ?c42 ?k42 ?a43 ?l43 ?c43 ?k43 ?a44 ?l44 ?c44 ?k44 ?a45 ?l45 ?c45 ?k45 ?a46 ?l46 ?c46 ?k46 ?a47 ?l47 ?c47 ?k47 ?a48 ?l48 ?c48 ?k48 ?a49 ?l49 ?c49 ?k49 ?gz_abs ?gz_bool ?gz_int ?gz_isinstance ?gz_len ?gz_list ?gz_max ?gz_min ?gz_range ?gz_reversed ?gz_set ?gz_sorted
      (case ga_R0|ge_R0|gga_R0|ggt_R0|gcl_R0|gmb_R0|gmo_R0|ga_I0|a0|l0|c0|k0|a1|l1|c1|k1|a2|l2|c2|k2|a3|l3|c3|k3|a4|l4|c4|k4|a5|l5|c5|k5|a6|l6|c6|k6|a7|l7|c7|k7|a8|l8|c8|k8|a9|l9|c9|k9|a10|l10|c10|k10|a11|l11|c11|k11|a12|l12|c12|k12|a13|l13|c13|k13|a14|l14|c14|k14|a15|l15|c15|k15|a16|l16|c16|k16|a17|l17|c17|k17|a18|l18|c18|k18|a19|l19|c19|k19|a20|l20|c20|k20|a21|l21|c21|k21|a22|l22|c22|k22|a23|l23|c23|k23|a24|l24|c24|k24|a25|l25|c25|k25|a26|l26|c26|k26|a27|l27|c27|k27|a28|l28|c28|k28|a29|l29|c29|k29|a30|l30|c30|k30|a31|l31|c31|k31|a32|l32|c32|k32|a33|l33|c33|k33|a34|l34|c34|k34|a35|l35|c35|k35|a36|l36|c36|k36|a37|l37|c37|k37|a38|l38|c38|k38|a39|l39|c39|k39|a40|l40|c40|k40|a41|l41|c41|k41|a42|l42|c42|k42|a43|l43|c43|k43|a44|l44|c44|k44|a45|l45|c45|k45|a46|l46|c46|k46|a47|l47|c47|k47|a48|l48|c48|k48|a49|l49|c49|k49|gz_abs|gz_bool|gz_int|gz_isinstance|gz_len|gz_list|gz_max|gz_min|gz_range|gz_reversed|gz_set|gz_sorted => (try delta Lw.fA); (try delta Lw.fK); (try delta Lw.fL); first | k_is | k_exc | kit_is | kts_exm)
    obtain ⟨T, rfl, hb⟩ := T
    exact ⟨T.d_law, hb, fun base kb nb => Lw.ok_law T⟩
  case S => exact fun K H a ns hl hO hS => ⟨a, ns, rfl, L2.iP.of_only hO hS, hl, fun _ => rfl⟩
