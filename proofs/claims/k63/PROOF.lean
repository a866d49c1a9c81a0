import PyProof.Rows.All
import Wide.All
import OpenK.AllK
import Wide.FinOn
import Lean
import PyProof.EqAt
import PyProof.EqKinds
import PyProof.TupleCall
import PySem.SetOps
import PyProof.ZipIter
import PyProof.CollectWalk
import PyProof.Rows.SetFrom
import PyProof.Rows.SortShell
import KE.KRevIter
import PyProof.MaxThree
import KE.KDictList
import PyProof.Rows.Chain
import PyProof.Rows.CountFlat
import KE.KSortAsk
import KE.KItemsList
import KE.KSortTup
import PyProof.Rows.SortRev
import PyProof.Rows.SortWalk
import PyProof.Rows.CallKwBuiltin
import PyProof.WalkInts
import KE.KMinBuiltin
import PySem.Challenge.RW_evenquay_k63_what_a_plan_costs
-- CHANGE: your row's module here, as the last of these rows
set_option compiler.extract_closed false
namespace QA
theorem a0 (h:True:=by first | exact .inl rfl | exact .inr rfl | assumption):True:=h
theorem a1 (h:True:=by decide):True:=h
theorem a2 (h:True:=by first | exact nobehind _ (by decide) (by decide) | rfl):True:=h
theorem a3 (h:True:=by intro _;rfl):True:=h
theorem a4 (h:True:=by rfl):True:=h
theorem a5 (h:True:=by with_unfolding_all rfl):True:=h
theorem a6 (h:True:=by first | exact fun _=>Or.inl rfl | exact fun _=>Or.inr (Or.inl rfl) | exact fun _=>Or.inr (Or.inr rfl)):True:=h
theorem a7 (h:True:=by exact fun _ _=>rfl):True:=h
theorem a8 (h:True:=by first | exact nomark _ | rfl):True:=h
theorem a9 (h:True:=by intro _ _;rfl):True:=h
theorem a10 (h:True:=by exact fun _=>PassesOwn.never):True:=h
end QA
set_option genInjectivity false
set_option bootstrap.genMatcherCode false
local macro_rules | `(tactic| omega)=>`(tactic| first | lia | omega (config:={}))
set_option Elab.async false
set_option linter.all false
set_option maxRecDepth 100000
namespace L2
open PySem PySem.Spec PyProof.Rows
noncomputable abbrev zi:=Sum Int Str
noncomputable def jau:zi->Value->Bool
 | .inl k,v=>Value.isInt k v
 | .inr x,v=>Value.isStrOf x v
noncomputable def joC (w:World):zi->Int
 | .inl k=>hashInt k
 | .inr x=>hashStr w x
theorem qj:∀{k:zi} {v:Value},jau k v=true->(∃i t,k=Sum.inl i/\v=Value.int i t)\/(∃x t,k=Sum.inr x/\v=Value.str x t)
 | .inl i,v,h=>by
   obtain ⟨t,e⟩:=Value.isInt_shape (k:=i) (v:=v) h
   exact .inl ⟨i,t,rfl,e⟩
 | .inr x,v,h=>by
   obtain ⟨t,e⟩:=Value.isStrOf_shape (x:=x) (v:=v) h
   exact .inr ⟨x,t,rfl,e⟩
theorem jg3 (i:Int) (t:Tok):jau (.inl i) (.int i t)=true:=by simp [jau,Value.isInt]
theorem jgs (x:Str) (t:Tok):jau (.inr x) (.str x t)=true:=by simp [jau,Value.isStrOf]
theorem jlJ (a b:Int):decide ((Sum.inl a:zi)=Sum.inl b)=(a == b):=by
 by_cases e:a=b
 . subst e;simp
 . have h:¬(Sum.inl a:zi)=Sum.inl b:=fun q=>e (Sum.inl.inj q)
   rw [decide_eq_false h]
   exact (beq_eq_false_iff_ne.mpr e).symm
theorem jkZ (a b:Str):decide ((Sum.inr a:zi)=Sum.inr b)=decide (a=b):=by
 by_cases e:a=b
 . subst e;simp
 . have h:¬(Sum.inr a:zi)=Sum.inr b:=fun q=>e (Sum.inr.inj q)
   rw [decide_eq_false h,decide_eq_false e]
theorem jl2 (a:Int) (b:Str):decide ((Sum.inl a:zi)=Sum.inr b)=false:=decide_eq_false (fun q=>nomatch q)
theorem jls (a:Str) (b:Int):decide ((Sum.inr a:zi)=Sum.inl b)=false:=decide_eq_false (fun q=>nomatch q)
noncomputable def j1 (prog:Program) (w:World):PySem.KeyKind prog w zi where
 is:=jau
 hash:=joC w
 inj:=fun v a b ha hb=>by
   rcases qj ha with ⟨i,t,rfl,rfl⟩ | ⟨x,t,rfl,rfl⟩
   . rcases qj hb with ⟨j,u,rfl,e⟩ | ⟨y,u,rfl,e⟩
     . injection e with e1 _;rw [e1]
     . exact nomatch e
   . rcases qj hb with ⟨j,u,rfl,e⟩ | ⟨y,u,rfl,e⟩
     . exact nomatch e
     . injection e with e1 _;rw [e1]
 byValue:=fun k v h=>by
   rcases qj h with ⟨i,t,rfl,rfl⟩ | ⟨x,t,rfl,rfl⟩ <;> rfl
 pyHash:=fun hv h=>by
   rcases qj hv with ⟨i,t,rfl,rfl⟩ | ⟨x,t,rfl,rfl⟩
   . exact wpAny_pyHash_int h
   . exact wpAny_pyHash_str h
 eqBool:=fun hu hv h=>by
   rcases qj hu with ⟨i,t,rfl,rfl⟩ | ⟨x,t,rfl,rfl⟩
   . rcases qj hv with ⟨j,u,rfl,rfl⟩ | ⟨y,u,rfl,rfl⟩
     . rw [jlJ] at h;exact wpAny_eqBool_int h
     . rw [jl2] at h;exact SeqAt.EqAt.int_str i t y u _ _ _ _ h
   . rcases qj hv with ⟨j,u,rfl,rfl⟩ | ⟨y,u,rfl,rfl⟩
     . rw [jls] at h;exact SeqAt.EqAt.str_int x t j u _ _ _ _ h
     . rw [jkZ] at h;exact wpAny_eqBool_str h
 «strs»:=fun k x t v h=>by
   rcases qj h with ⟨i,u,rfl,e⟩ | ⟨y,u,rfl,e⟩
   . exact nomatch e
   . injection e with e1 _
     subst e1
     cases v <;> rfl
theorem jdr (prog:Program) (w:World) (i:Int) (t:Tok):(j1 prog w).is (.inl i) (.int i t)=true:=jg3 i t
theorem jdv (prog:Program) (w:World) (x:Str) (t:Tok):(j1 prog w).is (.inr x) (.str x t)=true:=jgs x t
end L2
namespace L2
open PySem PySem.Spec PyProof.Rows
set_option genInjectivity true in
inductive V where
 | non | bl (b:Bool) | int (i:Int) | str (x:Str) | byt (b:Array UInt8) | flt (b:UInt64) | ref (a:Addr) | ty (n:String)
 deriving DecidableEq
noncomputable def RelV:V->Value->Prop
 | .non,u=>u=Value.none
 | .bl b,u=>u=Value.bool b
 | .int i,u=>∃t,u=Value.int i t
 | .str x,u=>∃t,u=Value.str x t
 | .byt b,u=>∃t,u=Value.bytes b t
 | .flt b,u=>∃t,u=Value.float b t
 | .ref a,u=>u=Value.ref a
 | .ty n,u=>u=Value.type n
noncomputable abbrev Vals:List V->List Value->Prop:=Paired RelV
theorem Vals.length {xs:List V} {us:List Value} (r:Vals xs us):xs.length=us.length:=Paired.length r
theorem Vals.get:∀{xs:List V} {us:List Value} {i:Nat} {x:V},Vals xs us->xs[i]?=some x->∃u,us[i]?=some u/\RelV x u
 | _,_,_,_,.nil,e=>by simp at e
 | _,_,0,_,.cons r _,e=>by simp at e;subst e;exact ⟨_,rfl,r⟩
 | _,_,i+1,x,.cons _ t,e=>by
   obtain ⟨u,h1,h2⟩:=Vals.get (i:=i) (x:=x) t (by simpa using e)
   exact ⟨u,by simpa using h1,h2⟩
theorem Vals.set {x:V} {u:Value} (r:RelV x u):∀{xs:List V} {us:List Value} (i:Nat),Vals xs us->Vals (xs.set i x) (us.set i u)
 | _,_,_,.nil=>.nil
 | _,_,0,.cons _ t=>.cons r t
 | _,_,i+1,.cons q t=>.cons q (Vals.set r i t)
theorem Vals.append:∀{xs ys:List V} {us ws:List Value},Vals xs us->Vals ys ws->Vals (xs++ys) (us++ws)
 | _,_,_,_,.nil,s=>s
 | _,_,_,_,.cons r t,s=>.cons r (Vals.append t s)
theorem Vals.take:∀{xs:List V} {us:List Value} (n:Nat),Vals xs us->Vals (xs.take n) (us.take n)
 | _,_,0,_=>.nil
 | _,_,_+1,.nil=>.nil
 | _,_,n+1,.cons r t=>.cons r (Vals.take n t)
theorem Vals.drop:∀{xs:List V} {us:List Value} (n:Nat),Vals xs us->Vals (xs.drop n) (us.drop n)
 | _,_,0,r=>r
 | _,_,_+1,.nil=>.nil
 | _,_,n+1,.cons _ t=>Vals.drop n t
noncomputable def RelO:Option V->Option Value->Prop
 | some v,some u=>RelV v u
 | none,none=>True
 | _,_=>False
noncomputable def KV {κ:Type}:List (κ×V)->List (κ×Value)->Prop:=Paired fun (p:κ×V) (q:κ×Value)=>p.1=q.1/\RelV p.2 q.2
noncomputable def kV:zi->V
 | .inl i=>.int i
 | .inr x=>.str x
set_option genInjectivity true in
inductive HO where
 /-- a list -/
 | lst (xs:List V)
 /-- a tuple (never changes) -/
 | tup (xs:List V)
 /-- a dict whose keys are ints and texts; one whose keys are tuples of ints and texts (the empty one is both) -/
 | dK (kvs:List (zi×V)) | dT (kvs:List (List zi×V))
 /-- a set of ints: its members, its size -/
 | set (S:Int->Bool) (n:Nat)
 /-- an instance of the class at C, its dict at dx, its attributes -/
 | ins (C dx:Addr) (fs:List (Str×V))
 /-- the dict of the instance at x -/
 | own (x:Addr)
 /-- the dict of an exception -/
 | xd (fs:List (Str×V))
 /-- a bound method, f of x -/
 | met (f x:Addr)
 /-- a range object lo, lo + 1, .. below hi -/
 | rng (lo hi:Int)
 /-- a thing that is known to the object (the script; a dict while a loop walks it): read, never written while it is so -/
 | frz (o:Obj) (u:HO)
 /-- a code object's table -/
 | tbl (ps:Array Value)
 /-- any other thing, by what is true of its one object (a def of one's own: SetO a S n := HO.ext fun h => ..) -/
 | ext (φ:Heap->Prop)
noncomputable abbrev Hp:=Addr->Option HO
noncomputable def upd (H:Hp) (a:Addr) (o:HO):Hp:=fun b=>if b=a then some o else H b
theorem jx {H:Hp} {a:Addr} {o:HO}:upd H a o a=some o:=by unfold upd;rw [if_pos rfl]
theorem jw {H:Hp} {a b:Addr} {o:HO} (h:b≠a):upd H a o b=H b:=by unfold upd;rw [if_neg h]
theorem jm2 {H:Hp} {a b:Addr} {o u:HO} (h:H a=some o) (h':H b=some u) (d:o≠u):a≠b:=by
 intro e;subst e;rw [h] at h';exact d (Option.some.inj h')
theorem jz {H:Hp} {a b:Addr} {o:HO} (h:H a=some o) (h':H b=none):a≠b:=by
 intro e;subst e;rw [h] at h';cases h'
section
variable (P:Program) (w:World)
noncomputable def ObjOk (H:Hp) (h:Heap) (a:Addr):HO->Prop
 | .lst xs=>xs.length ≤ sizeLine ∧ ∃(its:List Value) (n:Nat),Vals xs its ∧ h.get? a=some { cls:=.type "list", data := .seq its.toArray n }
 | .tup xs=>xs.length<=sizeLine/\∃its:List Value,Vals xs its/\IsTup h a its.toArray
 | .dK kvs=>kvs.length<=sizeLine/\(a == sysModules)=false/\∃vs,KV kvs vs/\h.DictOf (j1 P w) a vs
 | .dT kvs=>kvs.length<=sizeLine/\(a == sysModules)=false/\∃xs:List (List zi×Addr×Value),
  Paired (fun (p:List zi×V) (q:List zi×Addr×Value)=>p.1=q.1/\H q.2.1=some (.tup (p.1.map kV))/\RelV p.2 q.2.2) kvs xs /\
  ∃o es ep,h.get? a=some o/\o.ExactDict/\o.data=.dict es ep/\es.toList=xs.map (entryOfKey (tupleKind (j1 P w)))/\(xs.map (·.1)).Nodup
 | .set S n=>h.SetOf (intKind P w) a S n
 | .ins C dx fs=>H dx=some (.own a)/\fs.length<=1000/\dx≠a/\h.get? a=some (PySem.W.instObj C dx) /\
  ∃mA,h.Ns1 dx mA/\(∀f,RelO (fs.lookup f) (mA f))/\PySem.Within mA (fs.map (·.1))
 | .own _=>∃o,h.get? a=some o
 | .xd fs=>∃mA,h.Ns1 a mA/\∀f,RelO (fs.lookup f) (mA f)
 | .rng lo hi=>∃t u v,h.get? a=some { cls:=.type "range", data := .fields #[.int lo t, .int hi u, .int 1 v] }
 | .frz o u=>h.get? a=some o/\ObjOk H h a u
 | .tbl ps=>h.get? a=some { cls:=.none,data:=.fields ps }
 | .met f x=>h.get? a=some (PySem.W.methodObj (.ref f) (.ref x))
 | .ext φ=>φ h/\(∃o,h.get? a=some o)/\∀h1 h2:Heap,φ h1->(∀o,h1.get? a=some o->h2.get? a=some o)->φ h2
noncomputable def HOk (H:Hp) (h:Heap):Prop:=∀a o,H a=some o->ObjOk P w H h a o
end
section
variable {P:Program} {w:World} {H H':Hp} {h h':Heap} {a:Addr} {o:HO}
theorem ObjOk.lt (x:ObjOk P w H h a o):a<h.objs.size:=by
 cases o with
 | lst xs=>obtain ⟨_,_,_,_,e⟩:=x;exact Heap.lt_size e
 | tup xs=>obtain ⟨_,_,_,p⟩:=x;exact p.lt
 | dK kvs=>obtain ⟨_,_,_,_,o,_,_,e,_⟩:=x;exact Heap.lt_size e
 | dT kvs=>obtain ⟨_,_,_,_,o,_,_,e,_⟩:=x;exact Heap.lt_size e
 | set S n=>obtain ⟨o,_,_,_,e,_⟩:=x;exact Heap.lt_size e
 | ins C dx fs=>obtain ⟨_,_,_,e,_⟩:=x;exact Heap.lt_size e
 | own y=>obtain ⟨_,e⟩:=x;exact Heap.lt_size e
 | xd fs=>obtain ⟨_,⟨_,_,_,e,_⟩,_⟩:=x;exact Heap.lt_size e
 | rng lo hi=>obtain ⟨_,_,_,e⟩:=x;exact Heap.lt_size e
 | frz ob u=>obtain ⟨e,_⟩:=x;exact Heap.lt_size e
 | tbl ps=>exact Heap.lt_size (show h.get? a=some _ from x)
 | met f y=>exact Heap.lt_size (show h.get? a=some _ from x)
 | ext φ=>obtain ⟨_,⟨_,e⟩,_⟩:=x;exact Heap.lt_size e
theorem Paired.mapP {α β:Type} {F G:α->β->Prop}:∀{l₁:List α} {l₂:List β},Paired F l₁ l₂->(∀a b,F a b->G a b)->Paired G l₁ l₂
 | _,_,.nil,_=>.nil
 | _,_,.cons r t,f=>.cons (f _ _ r) (Paired.mapP t f)
theorem ObjOk.stay (x:ObjOk P w H h a o) (k:∀b u,(b=a\/H b=some (.own a))->h.get? b=some u->h'.get? b=some u)
 (ho:∀b,H b=some (.own a)->H' b=some (.own a)) (ht:∀b xs,H b=some (.tup xs)->H' b=some (.tup xs)):ObjOk P w H' h' a o:=by
 induction o with
 | lst xs=>obtain ⟨z,its,n,r,e⟩:=x;exact ⟨z,its,n,r,k _ _ (.inl rfl) e⟩
 | tup xs=>obtain ⟨z,its,r,ob,e,c⟩:=x;exact ⟨z,its,r,ob,k _ _ (.inl rfl) e,c⟩
 | dK kvs=>obtain ⟨z,y,vs,r,ob,es,ep,e,c⟩:=x;exact ⟨z,y,vs,r,ob,es,ep,k _ _ (.inl rfl) e,c⟩
 | dT kvs=>
   obtain ⟨z,y,xs,r,ob,es,ep,e,c⟩:=x
   exact ⟨z,y,xs,Paired.mapP r fun p q z=>⟨z.1,ht _ _ z.2.1,z.2.2⟩,ob,es,ep,k _ _ (.inl rfl) e,c⟩
 | set S n=>obtain ⟨ob,es,ep,t,e,c⟩:=x;exact ⟨ob,es,ep,t,k _ _ (.inl rfl) e,c⟩
 | ins C dx fs=>
   obtain ⟨d,z,ne,e,mA,⟨od,es,ep,e2,c⟩,r⟩:=x
   exact ⟨ho _ d,z,ne,k _ _ (.inl rfl) e,mA,⟨od,es,ep,k _ _ (.inr d) e2,c⟩,r⟩
 | own y=>obtain ⟨ob,e⟩:=x;exact ⟨ob,k _ _ (.inl rfl) e⟩
 | xd fs=>obtain ⟨mA,⟨od,es,ep,e,c⟩,r⟩:=x;exact ⟨mA,⟨od,es,ep,k _ _ (.inl rfl) e,c⟩,r⟩
 | rng lo hi=>obtain ⟨t,u,v,e⟩:=x;exact ⟨t,u,v,k _ _ (.inl rfl) e⟩
 | frz ob u ih=>obtain ⟨e,q⟩:=x;exact ⟨k _ _ (.inl rfl) e,ih q⟩
 | tbl ps=>
   have e:h.get? a=some { cls:=.none,data:=.fields ps }:=x
   show h'.get? a=some { cls:=.none,data:=.fields ps }
   exact k a _ (.inl rfl) e
 | met f y=>
   have e:h.get? a=some (PySem.W.methodObj (.ref f) (.ref y)):=x
   show h'.get? a=some (PySem.W.methodObj (.ref f) (.ref y))
   exact k a _ (.inl rfl) e
 | ext φ=>obtain ⟨p,⟨o,e⟩,st⟩:=x;exact ⟨st _ _ p fun o q=>k _ _ (.inl rfl) q,⟨o,k _ _ (.inl rfl) e⟩,st⟩
theorem HOk.lt (x:HOk P w H h) (e:H a=some o):a<h.objs.size:=(x a o e).lt
theorem HOk.fresh (x:HOk P w H h) (e:h.objs.size<=a):H a=none:=by
 cases q:H a with
 | none=>rfl
 | some u=>exact absurd (Nat.lt_of_lt_of_le (x.lt q) e) (Nat.lt_irrefl _)
theorem HOk.kept (x:HOk P w H h) (k:∀b u,h.get? b=some u->h'.get? b=some u):HOk P w H h':=fun a o e=>
 (x a o e).stay (fun b u _ q=>k b u q) (fun _ q=>q) fun _ _ q=>q
theorem HOk.laid (x:HOk P w H h) (k:∀b u,h.get? b=some u->h'.get? b=some u) (hp:h.objs.size<=a) (new:ObjOk P w (upd H a o) h' a o):HOk P w (upd H a o) h':=fun b u e=>by
 have hn:=x.fresh hp
 by_cases hb:b=a
 . subst hb;rw [jx] at e;cases e;exact new
 . rw [jw hb] at e
   exact (x b u e).stay (fun c v _ q=>k c v q) (fun c q=>by rw [jw (jz q hn)];exact q) fun c xs q=>by rw [jw (jz q hn)];exact q
end
noncomputable def Rd (H:Hp) (a:Addr) (u:HO):Prop:=H a=some u\/∃o,H a=some (.frz o u)
theorem Rd.ok {P:Program} {w:World} {H:Hp} {h:Heap} {a:Addr} {u:HO} (r:Rd H a u) (x:HOk P w H h):ObjOk P w H h a u:=by
 rcases r with r | ⟨o,r⟩
 . exact x a u r
 . obtain ⟨_,q⟩:=x a _ r
   exact q
noncomputable def Mut:Option HO->Prop
 | some (.lst _)=>True
 | some (.dK _)=>True
 | some (.dT _)=>True
 | some (.set _ _)=>True
 | some (.ins _ _ _)=>True
 | some (.ext _)=>True
 | _=>False
section
variable {P:Program} {w:World} {H:Hp} {h h':Heap} {x e:Addr} {o':HO}
theorem HOk.write (ok:HOk P w H h) (mu:Mut (H x)) (he:e=x\/H e=some (.own x)) (k:∀b u,b≠e->h.get? b=some u->h'.get? b=some u) (heo:∃u,h'.get? e=some u)
 (new:ObjOk P w (upd H x o') h' x o'):HOk P w (upd H x o') h':=fun b u q=>by
 have nown:∀c y,H c=some (.own y)->c≠x:=fun c y r z=>by subst z;rw [r] at mu;exact mu
 have ntup:∀c xs,H c=some (.tup xs)->c≠x:=fun c xs r z=>by subst z;rw [r] at mu;exact mu
 by_cases hb:b=x
 . subst hb;rw [jx] at q;cases q;exact new
 . rw [jw hb] at q
   by_cases hbe:b=e
   . have q':H b=some (.own x):=by
       rcases he with z | z
       . exact absurd (hbe.trans z) hb
       . rw [hbe];exact z
     rw [q] at q';cases q'
     obtain ⟨v,hv⟩:=heo
     exact ⟨v,by rw [hbe];exact hv⟩
   . refine (ok b u q).stay (fun c v hc r=>k c v ?_ r) (fun c r=>by rw [jw (nown c b r)];exact r) fun c xs r=>by rw [jw (ntup c xs r)];exact r
     rcases hc with rfl | hc
     . exact hbe
     . rintro rfl
       rcases he with z | z
       . exact nown c b hc z
       . rw [hc] at z;cases z;exact hb rfl
end
structure Un (fs ex:List Addr) (H H':Hp) (h h':Heap):Prop where
 keep:∀b o,h.get? b=some o->H b=none->b∉fs->b∉ex->h'.get? b=some o
 slot:∀b o,h.get? b=some o->H b=none->b∈fs->b∉ex->∃sl,h'.get? b=some { o with slots:=sl }
 free:∀b o,h.get? b=some o->H b=none->b∉ex->H' b=none
 there:∀b o,h.get? b=some o->b∉ex->∃o',h'.get? b=some o'
 tups:∀b xs,H b=some (.tup xs)->H' b=some (.tup xs)
 frzs:∀b o u,H b=some (.frz o u)->H' b=some (.frz o u)
 tbls:∀b ps,H b=some (.tbl ps)->∃more,H' b=some (.tbl (ps++more))
section
variable {fs fs' ex ex':List Addr} {H H1 H2:Hp} {h h1 h2 h':Heap} {a x e:Addr} {o:HO}
theorem Un.any (u:Un fs ex H H1 h h1) {b:Addr} {ob:Obj} (q:h.get? b=some ob) (n:H b=none) (hx:b∉ex):∃sl,h1.get? b=some { ob with slots:=sl }:=by
 by_cases hb:b∈fs
 . exact u.slot b ob q n hb hx
 . exact ⟨ob.slots,u.keep b ob q n hb hx⟩
theorem Un.trans (a:Un fs ex H H1 h h1) (b:Un fs ex H1 H2 h1 h2):Un fs ex H H2 h h2 where
 keep:=fun c ob q n hc hx=>b.keep c ob (a.keep c ob q n hc hx) (a.free c ob q n hx) hc hx
 slot:=fun c ob q n hc hx=>by
  obtain ⟨sl,e1⟩:=a.slot c ob q n hc hx
  obtain ⟨sl',e2⟩:=b.slot c _ e1 (a.free c ob q n hx) hc hx
  exact ⟨sl',e2⟩
 free:=fun c ob q n hx=>by
  obtain ⟨o',e1⟩:=a.there c ob q hx
  exact b.free c o' e1 (a.free c ob q n hx) hx
 there:=fun c ob q hx=>by
  obtain ⟨o',e1⟩:=a.there c ob q hx
  exact b.there c o' e1 hx
 tups:=fun c xs q=>b.tups c xs (a.tups c xs q)
 frzs:=fun c ob xs q=>b.frzs c ob xs (a.frzs c ob xs q)
 tbls:=fun c ps q=>by
  obtain ⟨m1,e1⟩:=a.tbls c ps q
  obtain ⟨m2,e2⟩:=b.tbls c _ e1
  exact ⟨m1++m2,by rw [e2,Array.append_assoc]⟩
theorem Un.kept (k:∀b u,h.get? b=some u->h'.get? b=some u):Un fs ex H H h h':=
 ⟨fun b ob q _ _ _=>k b ob q,fun b ob q _ _ _=>⟨ob.slots,k b ob q⟩,fun _ _ _ n _=>n,fun b ob q _=>⟨ob,k b ob q⟩,fun _ _ q=>q,fun _ _ _ q=>q,fun _ ps q=>⟨#[],by rw [q];simp⟩⟩
theorem Un.refl:Un fs ex H H h h:=Un.kept fun _ _ q=>q
theorem Un.laid (k:∀b u,h.get? b=some u->h'.get? b=some u) (hp:h.objs.size<=a) (hn:H a=none):Un fs ex H (upd H a o) h h' where
 keep:=fun b u q _ _ _=>k b u q
 slot:=fun b u q _ _ _=>⟨u.slots,k b u q⟩
 free:=fun b u q n _=>by rw [jw (Nat.ne_of_lt (Nat.lt_of_lt_of_le (Heap.lt_size q) hp))];exact n
 there:=fun b u q _=>⟨u,k b u q⟩
 tups:=fun b xs q=>by rw [jw (jz q hn)];exact q
 frzs:=fun b u xs q=>by rw [jw (jz q hn)];exact q
 tbls:=fun b ps q=>⟨#[],by rw [jw (jz q hn),q];simp⟩
theorem Un.write (mu:Mut (H x)) (he:e=x\/H e=some (.own x)) (k:∀b u,b≠e->h.get? b=some u->h'.get? b=some u) (heo:∃u,h'.get? e=some u):Un fs ex H (upd H x o) h h':=by
 have hx:∀b,H b=none->b≠x:=fun b n z=>by subst z;rw [n] at mu;exact mu
 have hb:∀b,H b=none->b≠e:=fun b n z=>by
  subst z
  rcases he with r | r
  . exact hx b n r
  . rw [n] at r;cases r
 have hm:∀b u,H b=some u->¬Mut (some u)->b≠x:=fun b u q nm z=>by subst z;rw [q] at mu;exact nm mu
 refine ⟨fun b u q n _ _=>k b u (hb b n) q,fun b u q n _ _=>⟨u.slots,k b u (hb b n) q⟩,fun b u q n _=>by rw [jw (hx b n)];exact n,fun b u q _=>?_,
  fun b xs q=>by rw [jw (hm b _ q fun z=>z)];exact q,fun b u xs q=>by rw [jw (hm b _ q fun z=>z)];exact q,fun b ps q=>⟨#[],by rw [jw (hm b _ q fun z=>z),q];simp⟩⟩
 by_cases hbe:b=e
 . subst hbe;exact heo
 . exact ⟨u,k b u hbe q⟩
theorem Un.mono (u:Un fs ex H H1 h h1) (hs:∀b∈fs,b∈fs') (hx:∀b∈ex,b∈ex'):Un fs' ex' H H1 h h1:=
 ⟨fun b ob q n hb he=>u.keep b ob q n (fun z=>hb (hs b z)) fun z=>he (hx b z),fun _ _ q n _ he=>u.any q n fun z=>he (hx _ z),fun b ob q n he=>u.free b ob q n fun z=>he (hx b z),fun b ob q he=>u.there b ob q fun z=>he (hx b z),u.tups,u.frzs,u.tbls⟩
end
noncomputable def trk (h:Heap) (H:Hp):List Addr:=(List.range h.objs.size).filter fun a=>(H a).isSome
noncomputable def jdb (h:Heap) (H:Hp):Heap:=PySem.W.hideAll h (trk h H)
theorem jgp (h:Heap) (H:Hp):(jdb h H).objs.size=h.objs.size:=PySem.W.hideAll_size _ _
theorem jhq {h:Heap} {H:Hp} {b:Addr} {o:Obj} (e:h.get? b=some o) (n:H b=none):(jdb h H).get? b=some o:=
 PySem.W.hideAll_get _ e fun hm=>by
  have q:(H b).isSome=true:=(List.mem_filter.mp hm).2
  rw [n] at q;simp at q
theorem jjq {h:Heap} {H:Hp} {b:Addr} {o:Obj} (e:(jdb h H).get? b=some o):h.get? b=some o/\H b=none:=by
 have e':h.get? b=some o:=PySem.W.of_hideAll (trk h H) e
 refine ⟨e',?_⟩
 cases q:H b with
 | none=>rfl
 | some x=>
   have hm:b∈trk h H:=List.mem_filter.mpr ⟨List.mem_range.mpr (Heap.lt_size e'),by simp [q]⟩
   have z:(jdb h H).get? b=none:=PySem.W.hideAll_none (trk h H) hm
   rw [z] at e;cases e
noncomputable def jj3 (g h:Heap) (L:Addr):List (Addr×Obj):=(List.range h.objs.size).filterMap fun a=>if a=L\/(g.get? a).isSome=true then none else (h.get? a).map fun o=>(a,o)
noncomputable def rest (g h:Heap) (L d:Addr):List (Addr×Obj):=(jj3 g h L).filter fun p=>decide (p.1≠d)
end L2
namespace L2
open PySem PySem.Spec PyProof.Rows
structure Mod (K:PySem.W.Frag) (mg:Str->Option Value) (base:Heap):Prop where
 kin:K.In base
 glob:base.Ns mainGlobals mg
 blt:∃mb,base.Ns builtinsNs mb ∧ ∀x:Str,x ≠ "__name__" → mb x = bootBuiltins x
 nolimit:base.NoLimit
/-- the context: a def's body (or a comprehension's block) running. base: fixed through the whole law; s₀, H₀: the entry; outer: the frames whose slots others may change (a def's callers); stack: all frames that run;
 ex: iterators that were made ahead of the entry and are walked here (a comprehension's);fn: the names whose cells were made at the entry (a def: all;a comprehension's block: its own);calm: not within an except suite;pn: pins that every state bears;xe: what is wanted of an exception that leaves the code -/
structure Cx where
 prog:Program
 w:World
 K:PySem.W.Frag
 mg:Str->Option Value
 base:Heap
 A:Around
 N:List Str
 s₀:Shared
 H₀:Hp
 env:Env
 outer:List Env
 stack:List Env
 ex:List Addr
 fn:Str->Bool
 calm:Bool
 pn:List (Addr×Obj)
 xe:Value->Shared->Prop
noncomputable def frs (l:List Env):List Addr:=l.filterMap (·.frame)
noncomputable abbrev Cx.fs (X:Cx):List Addr:=frs X.outer
noncomputable def Vis (sc:Scope) (x:Str):Prop:=sc.names.lookup x=some .local\/sc.names.lookup x=some .cell\/sc.names.lookup x=some .free
noncomputable def Loc (sc:Scope) (x:Str):Prop:=sc.names.lookup x=some .local\/sc.names.lookup x=some .cell
noncomputable def joA (env:Env) (h:Heap) (m:Str->Option Value) (x:Str) (u:Value):Prop:=
 (env.kindOf x=some .local/\m x=some u)\/((env.kindOf x=some .cell\/env.kindOf x=some .free)/\∃c,env.cells.lookup x=some c/\h.IsCell c (some u))
structure Cx.Ok (X:Cx):Prop where
 mod:Mod X.K X.mg X.base
 kind:X.env.scope.kind=.function
 glob:X.env.globals=mainGlobals
 blt:X.env.builtins=builtinsNs
 above:X.s₀.heap.objs.size<=X.env.locals
 inj:∀x y c,X.env.cells.lookup x=some c->X.env.cells.lookup y=some c->x=y
 has:∀x,(X.env.kindOf x=some .cell\/X.env.kindOf x=some .free)->∃c,X.env.cells.lookup x=some c
 cab:∀x c,X.fn x=true->X.env.cells.lookup x=some c->X.s₀.heap.objs.size<=c
 hd:X.calm=true->X.A.handled=none
 frames:X.A.frames=some X.stack
 stk:X.stack=X.outer\/(X.stack=X.env::X.outer/\X.env.frame=some X.env.locals)
 exf:∀b∈X.ex,b≠X.env.locals/\∀x c,X.env.cells.lookup x=some c->c≠b
 bs:∀b o,X.base.get? b=some o->X.s₀.heap.get? b=some o/\X.H₀ b=none
 bsz:X.base.objs.size<=X.s₀.heap.objs.size
 noex:∀b o,X.base.get? b=some o->b∉X.ex
 exfs:∀b∈X.ex,b∉X.fs
 funs:X.s₀.heap.FunFrames X.base X.outer
 frf:∀b∈X.fs,X.H₀ b=none
structure Inv (X:Cx) (pins:List (Addr×Obj)) (σ:List (Option V)) (H:Hp) (s:Shared):Prop where
 ok:X.Ok
 os:s.os=X.s₀.os
 bare:AllBare s.gens
 base:Un X.fs X.ex X.H₀ H X.s₀.heap s.heap
 loc:∃m,s.heap.Ns X.env.locals m/\∀(i:Nat) (x:Str) (v:V),X.N[i]?=some x->σ[i]?=some (some v)->Vis X.env.scope x->∃u,RelV v u/\joA X.env s.heap m x u
 cell:∀x c,X.env.cells.lookup x=some c->∃v,s.heap.IsCell c v
 free:H X.env.locals=none
 freeC:∀x c,X.env.cells.lookup x=some c->H c=none
 pin:∀p∈X.pn++pins,s.heap.get? p.1=some p.2/\H p.1=none/\p.1≠X.env.locals/\p.1∉X.fs/\∀v,p.2.data≠.cell v
 hok:HOk X.prog X.w H s.heap
 len:σ.length=X.N.length
section
variable {X:Cx} {pins:List (Addr×Obj)} {σ:List (Option V)} {H H':Hp} {s:Shared} {h':Heap}
theorem Cx.Ok.nofr (ok:X.Ok) {b:Addr} {o:Obj} (e:X.base.get? b=some o):b∉X.fs:=fun hb=>by
 have:=(ok.funs.mem hb).1
 rw [e] at this;cases this
theorem Inv.bs (I:Inv X pins σ H s):∀b o,X.base.get? b=some o->s.heap.get? b=some o/\H b=none:=fun b o e=>
 ⟨I.base.keep b o (I.ok.bs b o e).1 (I.ok.bs b o e).2 (I.ok.nofr e) (I.ok.noex b o e),I.base.free b o (I.ok.bs b o e).1 (I.ok.bs b o e).2 (I.ok.noex b o e)⟩
theorem Inv.bk (I:Inv X pins σ H s):∀b o,X.base.get? b=some o->s.heap.get? b=some o:=fun b o e=>(I.bs b o e).1
theorem Inv.mod (I:Inv X pins σ H s):Mod X.K X.mg X.base:=I.ok.mod
theorem Inv.kIn (I:Inv X pins σ H s):X.K.In s.heap:=I.ok.mod.kin.keeps I.bk
theorem Inv.fr (I:Inv X pins σ H s):∃m,Fr X.base X.env.locals s.heap m:=
 let ⟨m,hn,_⟩:=I.loc
 ⟨m,hn,I.bk,Nat.le_trans I.ok.bsz I.ok.above⟩
theorem Inv.lt (I:Inv X pins σ H s):X.env.locals<s.heap.objs.size:=let ⟨_,hn,_⟩:=I.loc;hn.lt
theorem Inv.sz (I:Inv X pins σ H s):X.s₀.heap.objs.size<=s.heap.objs.size:=Nat.le_trans I.ok.above (Nat.le_of_lt I.lt)
theorem Inv.nofs (I:Inv X pins σ H s) {a:Addr} (h:s.heap.objs.size<=a):a∉X.fs:=fun hb=>by
 obtain ⟨_,o,ho,_⟩:=I.ok.funs.mem hb
 exact absurd (Nat.lt_of_lt_of_le (Heap.lt_size ho) (Nat.le_trans I.sz h)) (Nat.lt_irrefl _)
theorem Inv.cne (I:Inv X pins σ H s):∀x c,X.env.cells.lookup x=some c->c≠X.env.locals:=fun x c e z=>by
 obtain ⟨v,o,ho,hd⟩:=I.cell x c e
 obtain ⟨m,⟨o',es,ep,ho',hd',_⟩,_⟩:=I.loc
 rw [z,ho'] at ho;cases ho;rw [hd'] at hd;cases hd
theorem Inv.funs (I:Inv X pins σ H s):s.heap.FunFrames X.base X.outer:=by
 have all:∀(l:List Env),(∀b∈frs l,b∈X.fs)->X.s₀.heap.FunFrames X.base l->s.heap.FunFrames X.base l:=by
  intro l
  induction l with
  | nil=>intro _ _;trivial
  | cons env r ih=>
    intro hs hl
    obtain ⟨hk,⟨L,o,hf,hn,ho,hd⟩,hr⟩:=hl
    have hL:L∈X.fs:=hs L (by unfold frs;rw [List.filterMap_cons,hf];exact List.mem_cons_self)
    obtain ⟨sl,e⟩:=I.base.slot L o ho (I.ok.frf L hL) hL fun z=>I.ok.exfs L z hL
    exact ⟨hk,⟨L,_,hf,hn,e,hd⟩,ih (fun b hb=>hs b (by unfold frs;rw [List.filterMap_cons,hf];exact List.mem_cons_of_mem _ hb)) hr⟩
 exact all X.outer (fun _ hb=>hb) I.ok.funs
theorem Inv.stack (I:Inv X pins σ H s):s.heap.FunFrames X.base X.stack:=by
 rcases I.ok.stk with e | ⟨e,hf⟩
 . rw [e];exact I.funs
 . rw [e]
   obtain ⟨m,hn,_⟩:=I.loc
   refine .cons (by rw [I.ok.kind];decide) hf hn ?_ I.funs
   exact Heap.get?_none_of_le (Nat.le_trans I.ok.bsz I.ok.above)
theorem Inv.stkSub (I:Inv X pins σ H s):∀b∈frs X.stack,b∈X.env.locals::X.fs:=fun b hb=>by
 rcases I.ok.stk with e | ⟨e,hf⟩
 . rw [e] at hb;exact List.mem_cons_of_mem _ hb
 . rw [e] at hb
   unfold frs at hb
   rw [List.filterMap_cons,hf] at hb
   exact hb
theorem Inv.stkFree (I:Inv X pins σ H s):∀b∈frs X.stack,H b=none:=fun b hb=>by
 rcases List.mem_cons.mp (I.stkSub b hb) with e | hb
 . rw [e];exact I.free
 . obtain ⟨_,o,ho,_⟩:=I.ok.funs.mem hb
   exact I.base.free b o ho (I.ok.frf b hb) fun z=>I.ok.exfs b z hb
theorem Inv.step {g':Array GenState} {t':Nat} {d':Drawn} {ch:List Addr} (I:Inv X pins σ H s)
 (hch:∀b∈ch,(b∈X.ex\/X.s₀.heap.objs.size<=b)/\b≠X.env.locals/\(∀x c,X.env.cells.lookup x=some c->c≠b)/\∀p∈X.pn++pins,p.1≠b)
 (keep:∀b o,b≠X.env.locals->b∉X.fs->b∉ch->s.heap.get? b=some o->H b=none->h'.get? b=some o)
 (slot:∀b o,b≠X.env.locals->b∈X.fs->b∉ch->s.heap.get? b=some o->H b=none->∃sl,h'.get? b=some { o with slots:=sl }) (free:∀b o,b∉ch->s.heap.get? b=some o->H b=none->H' b=none)
 (there:∀b o,b∉ch->s.heap.get? b=some o->∃o',h'.get? b=some o')
 (tups:∀b xs,H b=some (.tup xs)->H' b=some (.tup xs)) (frzs:∀b o u,H b=some (.frz o u)->H' b=some (.frz o u)) (tbls:∀b ps,H b=some (.tbl ps)->∃more,H' b=some (.tbl (ps++more)))
 (ns:∀m,s.heap.Ns X.env.locals m->h'.Ns X.env.locals m) (hok:HOk X.prog X.w H' h') (hg:AllBare g') :
 Inv X pins σ H' { s with heap:=h',gens:=g',drawn:=d',toks:=t' }:=by
 have neL:∀b o,X.s₀.heap.get? b=some o->b≠X.env.locals:=fun b o e=>Nat.ne_of_lt (Nat.lt_of_lt_of_le (Heap.lt_size e) I.ok.above)
 have neC:∀b o,X.s₀.heap.get? b=some o->b∉X.ex->b∉ch:=fun b o e hx hb=>by
  rcases (hch b hb).1 with z | z
  . exact hx z
  . exact absurd (Nat.lt_of_lt_of_le (Heap.lt_size e) z) (Nat.lt_irrefl _)
 have cellK:∀x c,X.env.cells.lookup x=some c->∀v,s.heap.IsCell c v->h'.IsCell c v:=fun x c e v ⟨o,ho,hd⟩=>by
  have nch:c∉ch:=fun z=>(hch c z).2.2.1 x c e rfl
  by_cases hc:c∈X.fs
  . obtain ⟨sl,q⟩:=slot c o (I.cne x c e) hc nch ho (I.freeC x c e)
    exact ⟨_,q,hd⟩
  . exact ⟨o,keep c o (I.cne x c e) hc nch ho (I.freeC x c e),hd⟩
 refine ⟨I.ok,I.os,hg,⟨fun b o e n hb hx=>?_,fun b o e n hb hx=>?_,fun b o e n hx=>?_,fun b o e hx=>?_,fun b xs e=>tups b xs (I.base.tups b xs e),fun b o xs e=>frzs b o xs (I.base.frzs b o xs e),fun b ps e=>?_⟩,?_,fun x c e=>?_,?_,fun x c e=>?_,fun p hp=>?_,hok,I.len⟩
 . exact keep b o (neL b o e) hb (neC b o e hx) (I.base.keep b o e n hb hx) (I.base.free b o e n hx)
 . obtain ⟨sl,e1⟩:=I.base.slot b o e n hb hx
   obtain ⟨sl',e2⟩:=slot b _ (neL b o e) hb (neC b o e hx) e1 (I.base.free b o e n hx)
   exact ⟨sl',e2⟩
 . obtain ⟨o',e1⟩:=I.base.there b o e hx
   exact free b o' (neC b o e hx) e1 (I.base.free b o e n hx)
 . obtain ⟨o',e1⟩:=I.base.there b o e hx
   exact there b o' (neC b o e hx) e1
 . obtain ⟨m1,e1⟩:=I.base.tbls b ps e
   obtain ⟨m2,e2⟩:=tbls b _ e1
   exact ⟨m1++m2,by rw [e2,Array.append_assoc]⟩
 . obtain ⟨m,hn,hl⟩:=I.loc
   refine ⟨m,ns m hn,fun i x v e1 e2 e3=>?_⟩
   obtain ⟨u,r,l⟩:=hl i x v e1 e2 e3
   refine ⟨u,r,?_⟩
   rcases l with l | ⟨k,c,e,z⟩
   . exact .inl l
   . exact .inr ⟨k,c,e,cellK x c e _ z⟩
 . obtain ⟨v,z⟩:=I.cell x c e
   exact ⟨v,cellK x c e v z⟩
 . obtain ⟨m,⟨o,_,_,ho,_⟩,_⟩:=I.loc
   exact free _ o (fun z=>(hch _ z).2.1 rfl) ho I.free
 . obtain ⟨v,o,ho,hd⟩:=I.cell x c e
   exact free c o (fun z=>(hch c z).2.2.1 x c e rfl) ho (I.freeC x c e)
 . obtain ⟨e,n,ne,nf,d⟩:=I.pin p hp
   have nch:p.1∉ch:=fun z=>(hch p.1 z).2.2.2 p hp rfl
   exact ⟨keep p.1 p.2 ne nf nch e n,free p.1 p.2 nch e n,ne,nf,d⟩
theorem Inv.un {t':Nat} (I:Inv X pins σ H s) (u:Un X.fs [] H H' s.heap h') (hok:HOk X.prog X.w H' h'):Inv X pins σ H' { s with heap:=h',toks:=t' }:=by
 obtain ⟨m,⟨o,es,ep,ho,r⟩,_⟩:=id I.loc
 obtain ⟨sl,hL⟩:=u.any ho I.free (by simp)
 exact I.step (g':=s.gens) (d':=s.drawn) (ch:=[]) (fun _ z=>nomatch z) (fun b o _ hb _ e n=>u.keep b o e n hb (by simp)) (fun b o _ hb _ e n=>u.slot b o e n hb (by simp)) (fun b o _ e n=>u.free b o e n (by simp)) (fun b o _ e=>u.there b o e (by simp)) u.tups u.frzs u.tbls (fun m' hm=>by
  obtain ⟨o',es',ep',ho',r'⟩:=hm
  rw [ho] at ho';cases ho'
  exact ⟨_,es',ep',hL,r'⟩) hok I.bare
theorem Inv.call {g':Array GenState} {t':Nat} {d':Drawn} {ch:List Addr} (I:Inv X pins σ H s) (u:Un (frs X.stack) ch H H' s.heap h') (hok:HOk X.prog X.w H' h') (hg:AllBare g')
 (hch:∀b∈ch,(b∈X.ex\/X.s₀.heap.objs.size<=b)/\b≠X.env.locals/\(∀x c,X.env.cells.lookup x=some c->c≠b)/\∀p∈X.pn++pins,p.1≠b) :
 Inv X pins σ H' { s with heap:=h',gens:=g',drawn:=d',toks:=t' }:=by
 obtain ⟨m,⟨o,es,ep,ho,r⟩,_⟩:=id I.loc
 obtain ⟨sl,hL⟩:=u.any ho I.free fun z=>(hch _ z).2.1 rfl
 exact I.step (ch:=ch) hch (fun b o hL hb hc e n=>u.keep b o e n (fun z=>(List.mem_cons.mp (I.stkSub b z)).elim hL hb) hc) (fun b o _ _ hc e n=>u.any e n hc) (fun b o hc e n=>u.free b o e n hc) (fun b o hc e=>u.there b o e hc) u.tups u.frzs u.tbls (fun m' hm=>by
  obtain ⟨o',es',ep',ho',r'⟩:=hm
  rw [ho] at ho';cases ho'
  exact ⟨_,es',ep',hL,r'⟩) hok hg
theorem Inv.turned {t':Nat} {it:Addr} (I:Inv X pins σ H s) (k:∀b o,b≠it->s.heap.get? b=some o->h'.get? b=some o) (hn:H it=none) (hL:it≠X.env.locals)
 (h1:it∈X.ex\/X.s₀.heap.objs.size<=it) (h2:∀x c,X.env.cells.lookup x=some c->c≠it) (h3:∀p∈X.pn++pins,p.1≠it):Inv X pins σ H { s with heap:=h',toks:=t' }:=by
 have nit:∀b u,H b=some u->b≠it:=fun b u e z=>by rw [z,hn] at e;cases e
 refine I.step (g':=s.gens) (d':=s.drawn) (ch:=[it]) (fun b hb=>?_) (fun b o _ _ hc e _=>k b o (fun z=>hc (by simp [z])) e) (fun b o _ _ hc e _=>⟨o.slots,k b o (fun z=>hc (by simp [z])) e⟩) (fun _ _ _ _ n=>n)
  (fun b o hc e=>⟨o,k b o (fun z=>hc (by simp [z])) e⟩) (fun _ _ e=>e) (fun _ _ _ e=>e) (fun b ps e=>⟨#[],by rw [e];simp⟩) (fun m hm=>?_) (fun b u e=>?_) I.bare
 . have e:b=it:=by simpa using hb
   subst e
   exact ⟨h1,hL,h2,h3⟩
 . obtain ⟨o,es,ep,ho,r⟩:=hm
   exact ⟨o,es,ep,k _ o (Ne.symm hL) ho,r⟩
 . refine (I.hok b u e).stay (fun c v hc q=>k c v ?_ q) (fun _ q=>q) fun _ _ q=>q
   rcases hc with z | z
   . rw [z];exact nit b u e
   . exact nit c _ z
theorem Inv.tok (I:Inv X pins σ H s) (t:Nat):Inv X pins σ H { s with toks:=t }:=I.un (h':=s.heap) (t':=t) Un.refl I.hok
theorem Inv.kept {t':Nat} (I:Inv X pins σ H s) (k:∀b u,s.heap.get? b=some u->h'.get? b=some u):Inv X pins σ H { s with heap:=h',toks:=t' }:=I.un (Un.kept k) (I.hok.kept k)
theorem Inv.laid {a:Addr} {o:HO} {t':Nat} (I:Inv X pins σ H s) (k:∀b u,s.heap.get? b=some u->h'.get? b=some u) (hp:s.heap.objs.size<=a) (new:ObjOk X.prog X.w (upd H a o) h' a o) :
 Inv X pins σ (upd H a o) { s with heap:=h',toks:=t' }:=I.un (Un.laid k hp (I.hok.fresh hp)) (I.hok.laid k hp new)
theorem Inv.write {x e:Addr} {o:HO} {t':Nat} (I:Inv X pins σ H s) (mu:Mut (H x)) (he:e=x\/H e=some (.own x)) (k:∀b u,b≠e->s.heap.get? b=some u->h'.get? b=some u) (heo:∃u,h'.get? e=some u)
 (new:ObjOk X.prog X.w (upd H x o) h' x o):Inv X pins σ (upd H x o) { s with heap:=h',toks:=t' }:=I.un (Un.write mu he k heo) (I.hok.write mu he k heo new)
theorem Inv.weak {σ':List (Option V)} (I:Inv X pins σ H s) (hl:σ'.length=σ.length) (w:∀(i:Nat) v,σ'[i]?=some (some v)->σ[i]?=some (some v)):Inv X pins σ' H s:=
 ⟨I.ok,I.os,I.bare,I.base,let ⟨m,hn,hl'⟩:=I.loc;⟨m,hn,fun i x v e1 e2 e3=>hl' i x v e1 (w i v e2) e3⟩,I.cell,I.free,I.freeC,I.pin,I.hok,hl.trans I.len⟩
theorem Inv.pins_of {pins':List (Addr×Obj)} (I:Inv X pins σ H s) (h:∀p∈pins',s.heap.get? p.1=some p.2/\H p.1=none/\p.1≠X.env.locals/\p.1∉X.fs/\∀v,p.2.data≠.cell v):Inv X pins' σ H s:=
 ⟨I.ok,I.os,I.bare,I.base,I.loc,I.cell,I.free,I.freeC,fun p hp=>(List.mem_append.mp hp).elim (fun z=>I.pin p (List.mem_append_left _ z)) (h p),I.hok,I.len⟩
theorem jdZ {N:List Str} (hN:N.Nodup) {i j:Nat} {x:Str} (a:N[i]?=some x) (b:N[j]?=some x):i=j:=by
 obtain ⟨h1,e1⟩:=List.getElem?_eq_some_iff.mp a
 obtain ⟨h2,e2⟩:=List.getElem?_eq_some_iff.mp b
 exact (List.getElem_inj hN).mp (e1.trans e2.symm)
theorem jcI {M:Model} {A:Around} {E:Value->Shared->Prop} {i:Nat} {x:Str} {v:V} {u:Value} {Q:Unit->Shared->Prop} (I:Inv X pins σ H s) (hN:X.N.Nodup) (hi:X.N[i]?=some x) (hx:Loc X.env.scope x) (r:RelV v u)
 (h:∀s',Inv X pins (σ.set i (some v)) H s'->(∃a,Heap.SameBut a s.heap s'.heap/\(a=X.env.locals\/X.env.cells.lookup x=some a))->Q () s') (hf:autoParam (X.fn x=true\/X.env.scope.names.lookup x=some .local) QA.a0._auto_1):wpAny M A (storeName X.env x u) Q E s:=by
 obtain ⟨m,hn,hl⟩:=id I.loc
 have hcls:(X.env.scope.kind == .class || (X.env.scope.kind == .module && X.env.locals != X.env.globals))=false:=by rw [I.ok.kind];rfl
 have hiσ:i<σ.length:=by rw [I.len];exact (List.getElem?_eq_some_iff.mp hi).1
 have cne:=I.cne
 have tracked:∀{a:Addr} {h':Heap},(∃o,s.heap.get? a=some o/\H a=none)->Heap.SameBut a s.heap h'->HOk X.prog X.w H h':=fun {a h'} ha hs b ob e=>by
  obtain ⟨_,_,hfree⟩:=ha
  refine (I.hok b ob e).stay (fun c w' hc q=>(hs.2 c ?_).trans q) (fun _ q=>q) fun _ _ q=>q
  rintro rfl
  rcases hc with rfl | hc
  . rw [hfree] at e;cases e
  . rw [hfree] at hc;cases hc
 rcases hx with hk | hk
 . refine wpAny_storeName_local hk hn (fun h' hn' hs=>?_) hcls
   obtain ⟨oL,_,_,hoL,_⟩:=id hn
   refine h _ ⟨I.ok,I.os,I.bare,⟨fun b o e n hb hx=>?_,fun b o e n hb hx=>?_,I.base.free,fun b o e hx=>?_,I.base.tups,I.base.frzs,I.base.tbls⟩,⟨_,hn',fun j y v' e1 e2 e3=>?_⟩,fun y c e=>?_,I.free,I.freeC,fun p hp=>?_,tracked ⟨oL,hoL,I.free⟩ hs,by simpa using I.len⟩ ⟨_,hs,.inl rfl⟩
   . exact (hs.2 b (Nat.ne_of_lt (Nat.lt_of_lt_of_le (Heap.lt_size e) I.ok.above))).trans (I.base.keep b o e n hb hx)
   . obtain ⟨sl,e1⟩:=I.base.slot b o e n hb hx
     exact ⟨sl,(hs.2 b (Nat.ne_of_lt (Nat.lt_of_lt_of_le (Heap.lt_size e) I.ok.above))).trans e1⟩
   . obtain ⟨o',e1⟩:=I.base.there b o e hx
     exact ⟨o',(hs.2 b (Nat.ne_of_lt (Nat.lt_of_lt_of_le (Heap.lt_size e) I.ok.above))).trans e1⟩
   . by_cases hj:j=i
     . subst hj
       rw [hi] at e1;cases e1
       rw [List.getElem?_set_self hiσ] at e2
       cases e2
       exact ⟨u,r,.inl ⟨hk,by simp⟩⟩
     . rw [List.getElem?_set_ne (Ne.symm hj)] at e2
       obtain ⟨u',r',q⟩:=hl j y v' e1 e2 e3
       refine ⟨u',r',?_⟩
       rcases q with ⟨k,e⟩ | ⟨k,c,e,z⟩
       . refine .inl ⟨k,?_⟩
         have:y≠x:=fun e=>hj (jdZ hN e1 (e ▸ hi))
         simp [this,e]
       . exact .inr ⟨k,c,e,z.sameBut hs (cne y c e)⟩
   . obtain ⟨w',z⟩:=I.cell y c e
     exact ⟨w',z.sameBut hs (cne y c e)⟩
   . obtain ⟨e,n,ne,nf,d⟩:=I.pin p hp
     exact ⟨(hs.2 p.1 ne).trans e,n,ne,nf,d⟩
 . have hfn:X.fn x=true:=by
    rcases hf with z | z
    . exact z
    . rw [z] at hk;cases hk
   obtain ⟨c,hc⟩:=I.ok.has x (.inl hk)
   obtain ⟨w',z⟩:=I.cell x c hc
   refine wpAny_storeName_cell I.ok.kind hk hc z (fun h' hc' hs=>?_)
   obtain ⟨oc,hoc,hocd⟩:=id z
   refine h { s with heap:=h' } ⟨I.ok,I.os,I.bare,⟨fun b o e n hb hx=>?_,fun b o e n hb hx=>?_,I.base.free,fun b o e hx=>?_,I.base.tups,I.base.frzs,I.base.tbls⟩,⟨m,hn.sameBut hs (Ne.symm (cne x c hc)),fun j y v' e1 e2 e3=>?_⟩,fun y c' e=>?_,I.free,I.freeC,fun p hp=>?_,tracked ⟨oc,hoc,I.freeC x c hc⟩ hs,by simpa using I.len⟩ ⟨c,hs,.inr hc⟩
   . exact (hs.2 b (Nat.ne_of_lt (Nat.lt_of_lt_of_le (Heap.lt_size e) (I.ok.cab x c hfn hc)))).trans (I.base.keep b o e n hb hx)
   . obtain ⟨sl,e1⟩:=I.base.slot b o e n hb hx
     exact ⟨sl,(hs.2 b (Nat.ne_of_lt (Nat.lt_of_lt_of_le (Heap.lt_size e) (I.ok.cab x c hfn hc)))).trans e1⟩
   . obtain ⟨o',e1⟩:=I.base.there b o e hx
     exact ⟨o',(hs.2 b (Nat.ne_of_lt (Nat.lt_of_lt_of_le (Heap.lt_size e) (I.ok.cab x c hfn hc)))).trans e1⟩
   . by_cases hj:j=i
     . subst hj
       rw [hi] at e1;cases e1
       rw [List.getElem?_set_self hiσ] at e2
       cases e2
       exact ⟨u,r,.inr ⟨.inl hk,c,hc,hc'⟩⟩
     . rw [List.getElem?_set_ne (Ne.symm hj)] at e2
       obtain ⟨u',r',q⟩:=hl j y v' e1 e2 e3
       refine ⟨u',r',?_⟩
       rcases q with q | ⟨k,c',e,z'⟩
       . exact .inl q
       . refine .inr ⟨k,c',e,z'.sameBut hs ?_⟩
         rintro rfl
         exact hj (jdZ hN e1 (I.ok.inj _ _ _ e hc ▸ hi))
   . by_cases hcc:c'=c
     . subst hcc;exact ⟨_,hc'⟩
     . obtain ⟨w2,z2⟩:=I.cell y c' e
       exact ⟨w2,z2.sameBut hs hcc⟩
   . obtain ⟨e,n,ne,nf,d⟩:=I.pin p hp
     refine ⟨(hs.2 p.1 ?_).trans e,n,ne,nf,d⟩
     intro q
     rw [q,hoc] at e
     have q':oc=p.2:=Option.some.inj e
     exact d w' (by rw [<-q'];exact hocd)
theorem jen {M:Model} {A:Around} {E:Value->Shared->Prop} {i:Nat} {x:Str} {v:V} {u:Value} {Q:Unit->Shared->Prop} (I:Inv X pins σ H s) (hN:X.N.Nodup) (hi:X.N[i]?=some x) (hx:Loc X.env.scope x) (r:RelV v u)
 (h:∀s',Inv X pins (σ.set i (some v)) H s'->Q () s') (hf:autoParam (X.fn x=true\/X.env.scope.names.lookup x=some .local) QA.a0._auto_1):wpAny M A (storeName X.env x u) Q E s:=
 jcI I hN hi hx r (fun s' I' _=>h s' I') hf
theorem Inv.call' {s':Shared} {ch:List Addr} (I:Inv X pins σ H s) (ho:s'.os=s.os) (u:Un (frs X.stack) ch H H' s.heap s'.heap) (hok:HOk X.prog X.w H' s'.heap) (hg:AllBare s'.gens)
 (hch:∀b∈ch,(b∈X.ex\/X.s₀.heap.objs.size<=b)/\b≠X.env.locals/\(∀x c,X.env.cells.lookup x=some c->c≠b)/\∀p∈X.pn++pins,p.1≠b):Inv X pins σ H' s':=by
 obtain ⟨h',g',d',t',o'⟩:=s'
 have e:o'=s.os:=ho
 subst e
 exact I.call (g':=g') (t':=t') (d':=d') u hok hg hch
end
noncomputable abbrev XK:=Value->Option Addr->Hp->Prop
noncomputable abbrev St:=List (Option V)
noncomputable abbrev VK:=V->Hp->Prop
noncomputable abbrev TE:=St->Hp->VK->Prop
noncomputable abbrev TT:=St->Hp->(Bool->Hp->Prop)->Prop
noncomputable abbrev TA:=St->Hp->(List V->Hp->Prop)->Prop
structure Ends where
 nx:St->Hp->Prop
 rt:VK
 bk:St->Hp->Prop:=fun _ _=>False
 ct:St->Hp->Prop:=fun _ _=>False
noncomputable abbrev TS:=Ends->St->Hp->Prop
noncomputable def EP (X:Cx) (pins:List (Addr×Obj)) (σ:St) (Q:VK) (u:Value) (s':Shared):Prop:=∃v H',Inv X pins σ H' s'/\RelV v u/\Q v H'
noncomputable def TP (X:Cx) (pins:List (Addr×Obj)) (σ:St) (Q:Bool->Hp->Prop) (b:Bool) (s':Shared):Prop:=∃H',Inv X pins σ H' s'/\Q b H'
noncomputable def AP (X:Cx) (pins:List (Addr×Obj)) (σ:St) (Q:List V->Hp->Prop) (us:List Value) (s':Shared):Prop:=∃vs H',Inv X pins σ H' s'/\Vals vs us/\Q vs H'
noncomputable def SP (X:Cx) (pins:List (Addr×Obj)) (D:Ends) (f:Flow) (s':Shared):Prop:=
 match f with
 | .next=>∃σ' H',Inv X pins σ' H' s'/\D.nx σ' H'
 | .brk=>∃σ' H',Inv X pins σ' H' s'/\D.bk σ' H'
 | .cont=>∃σ' H',Inv X pins σ' H' s'/\D.ct σ' H'
 | .ret u=>∃v σ' H',Inv X pins σ' H' s'/\RelV v u/\D.rt v H'
noncomputable def PE (X:Cx) (e:Expr) (t:TE):Prop:=
 ∀(pins:List (Addr×Obj)) (s:Shared) (σ:St) (H:Hp) (Q:VK),Inv X pins σ H s->t σ H Q->wpAny (model X.prog X.w) X.A (eval e X.env) (EP X pins σ Q) X.xe s
noncomputable def PT (X:Cx) (e:Expr) (t:TT):Prop:=
 ∀(pins:List (Addr×Obj)) (s:Shared) (σ:St) (H:Hp) (Q:Bool->Hp->Prop),Inv X pins σ H s->t σ H Q->wpAny (model X.prog X.w) X.A (isTrue e X.env (eval e X.env)) (TP X pins σ Q) X.xe s
noncomputable def PW (X:Cx) (e:Expr) (t:TT):Prop:=
 ∀(whole:Sem Value) (pins:List (Addr×Obj)) (s:Shared) (σ:St) (H:Hp) (Q:Bool->Hp->Prop),Inv X pins σ H s->t σ H Q->wpAny (model X.prog X.w) X.A (isTrue e X.env whole) (TP X pins σ Q) X.xe s
theorem PW.pt {X:Cx} {e:Expr} {t:TT} (h:PW X e t):PT X e t:=h _
noncomputable def PA (X:Cx) (es:List Expr) (t:TA):Prop:=
 ∀(pos:Pos) (pins:List (Addr×Obj)) (s:Shared) (σ:St) (H:Hp) (Q:List V->Hp->Prop),Inv X pins σ H s->t σ H Q->wpAny (model X.prog X.w) X.A (spliced (backTo pos (starEach es X.env))) (AP X pins σ Q) X.xe s
noncomputable def PS (X:Cx) (st:Stmt) (t:TS):Prop:=
 ∀(pins:List (Addr×Obj)) (s:Shared) (σ:St) (H:Hp) (D:Ends),Inv X pins σ H s->t D σ H->wpAny (model X.prog X.w) X.A (exec st X.env) (SP X pins D) X.xe s
noncomputable def PSs (X:Cx) (st:List Stmt) (t:TS):Prop:=
 ∀(pins:List (Addr×Obj)) (s:Shared) (σ:St) (H:Hp) (D:Ends),Inv X pins σ H s->t D σ H->wpAny (model X.prog X.w) X.A (execs st X.env) (SP X pins D) X.xe s
theorem qr {α:Type} {t:Sem α} {Q Q':α->Shared->Prop} {M:Model} {A:Around} {E:Value->Shared->Prop} {s:Shared} (h:wpAny M A t Q E s) (hQ:∀a s,Q a s->Q' a s):wpAny M A t Q' E s:=wpAny_mono h hQ fun _ _ x=>x
end L2
namespace L2
open PySem PySem.Spec PyProof.Rows
section
variable {X:Cx}
theorem bin {a b:Expr} {ta tb:TE} (ha:PE X a ta) (hb:PE X b tb) {pins:List (Addr×Obj)} {s:Shared} {σ:St} {H:Hp} {R:V->V->Hp->Prop} (I:Inv X pins σ H s) (h:ta σ H fun x H1=>tb σ H1 fun y H2=>R x y H2)
 {α:Type} {Q:α->Shared->Prop} {f:Value->Value->Sem α}
 (hf:∀v u s2 x y H2,Inv X pins σ H2 s2->RelV x v->RelV y u->R x y H2->wpAny (model X.prog X.w) X.A (f v u) Q X.xe s2) :
 wpAny (model X.prog X.w) X.A (eval a X.env) (fun v s₁=>wpAny (model X.prog X.w) X.A (eval b X.env) (fun u s₂=>wpAny (model X.prog X.w) X.A (f v u) Q X.xe s₂) X.xe s₁) X.xe s:=by
 refine qr (ha pins s σ H _ I h) fun v s1 ⟨x,H1,I1,r1,q1⟩=>?_
 refine qr (hb pins s1 σ H1 _ I1 q1) fun u s2 ⟨y,H2,I2,r2,q2⟩=>?_
 exact hf v u s2 x y H2 I2 r1 r2 q2
noncomputable def jev (i:Nat):TE:=fun σ H Q=>∃v,σ[i]?=some (some v)/\Q v H
noncomputable def tC (v:V):TE:=fun _ H Q=>Q v H
theorem jae {i:Nat} {x:Str} {pos:Pos} (hN:X.N[i]?=some x) (hv:Vis X.env.scope x) (hd:autoParam ((x == ("__debug__" : Str)) = false) QA.a1._auto_1) (hcd : autoParam ((x == ("__classdict__" : Str)) = false) QA.a1._auto_1) : PE X (.Name x pos) (jev i) := by
 intro pins s σ H Q I h
 obtain ⟨v,e,h⟩:=h
 obtain ⟨m,hn,hl⟩:=I.loc
 obtain ⟨u,r,l⟩:=hl i x v hN e hv
 have fin:EP X pins σ Q u s:=⟨v,H,I,r,h⟩
 rcases l with ⟨hk,hm⟩ | ⟨hk,c,hc,hcell⟩
 . exact wpAny_Name (wpAny_loadName_local I.ok.kind hk hn hm fin) hd
 . rcases hk with hk | hk
   . exact wpAny_Name (wpAny_loadName_cell I.ok.kind hk hc hcell fin) hd
   . exact wpAny_Name (wpAny_loadName_free I.ok.kind hk hc hcell fin hcd) hd
theorem jl0 {i j pos}:PE X (.Constant (.int i) j pos) (tC (.int i)):=fun _ _ _ H _ I h=>wpAny_Constant_int ⟨.int i,H,I.tok _,⟨_,rfl⟩,h⟩
theorem jnQ {b j pos}:PE X (.Constant (.bool b) j pos) (tC (.bl b)):=fun _ _ _ H _ I h=>Constant_bool ⟨.bl b,H,I,rfl,h⟩
noncomputable def Gl (X:Cx) (x:Str):Prop:=X.env.kindOf x=some .globalImplicit
theorem jfG {E:Value->Shared->Prop} {pins:List (Addr×Obj)} {s:Shared} {σ:St} {H:Hp} {x:Str} {u:Value} {pos:Pos} {Q:Value->Shared->Prop} (I:Inv X pins σ H s) (hg:Gl X x) (hm:X.mg x=some u) (h:Q u s)
 (hd:autoParam ((x == ("__debug__" : Str)) = false) QA.a1._auto_1) : wpAny (model X.prog X.w) X.A (eval (.Name x pos) X.env) Q E s :=
 Calls.Name_function_global I.ok.kind hg (Calls.loadGlobal_global (by rw [I.ok.glob];exact I.mod.glob.keeps I.bk) hm h) hd
theorem JD {E:Value->Shared->Prop} {pins:List (Addr×Obj)} {s:Shared} {σ:St} {H:Hp} {x:Str} {u:Value} {pos:Pos} {Q:Value->Shared->Prop} (I:Inv X pins σ H s) (hg:Gl X x) (hm:X.mg x=none) (hv:bootBuiltins x=some u) (h:Q u s)
 (hn:autoParam (x ≠ "__name__") QA.a1._auto_1) (hd : autoParam ((x == ("__debug__" : Str)) = false) QA.a1._auto_1) : wpAny (model X.prog X.w) X.A (eval (.Name x pos) X.env) Q E s := by
 obtain ⟨mb,h1,h2⟩:=I.mod.blt
 exact Calls.Name_function_global I.ok.kind hg (Calls.loadGlobal_builtin (by rw [I.ok.glob];exact I.mod.glob.keeps I.bk) hm (by rw [I.ok.blt];exact h1.keeps I.bk) ((h2 x hn).trans hv) h) hd
theorem jjg {x:Str} {v:V} {u:Value} {pos:Pos} (hg:Gl X x) (hm:X.mg x=some u) (r:RelV v u) (hd:autoParam ((x == ("__debug__" : Str)) = false) QA.a1._auto_1) : PE X (.Name x pos) (tC v) :=
 fun _ _ _ H _ I h=>jfG I hg hm ⟨v,H,I,r,h⟩ hd
theorem jjt {x:Str} {v:V} {u:Value} {pos:Pos} (hg:Gl X x) (hm:X.mg x=none) (hv:bootBuiltins x=some u) (r:RelV v u) (hn:autoParam (x ≠ "__name__") QA.a1._auto_1) (hd : autoParam ((x == ("__debug__" : Str)) = false) QA.a1._auto_1) : PE X (.Name x pos) (tC v) :=
 fun _ _ _ H _ I h=>JD I hg hm hv ⟨v,H,I,r,h⟩ hn hd
variable {a b:Expr} {ta tb:TE} {pos:Pos}
noncomputable def PC (X:Cx) (op:CmpOp) (a b:Expr) (t:TE):Prop:=
 ∀(pins:List (Addr×Obj)) (s:Shared) (σ:St) (H:Hp) (Q:VK),Inv X pins σ H s->t σ H Q->
   wpAny (model X.prog X.w) X.A (eval a X.env) (fun v s₁=>wpAny (model X.prog X.w) X.A (eval b X.env) (fun u s₂=>wpAny (model X.prog X.w) X.A (compareOp op v u) (EP X pins σ Q) X.xe s₂) X.xe s₁) X.xe s
theorem nobehind (b:Expr) {op:CmpOp} (h:op≠.In) (h2:op≠.NotIn):behindInMarks op b=false:=by
 have e1:(op == CmpOp.In)=false:=by cases op <;> first | rfl | exact absurd rfl h
 have e2:(op == CmpOp.NotIn)=false:=by cases op <;> first | rfl | exact absurd rfl h2
 cases b <;> simp [behindInMarks,e1,e2]
noncomputable def tB (t:TE):TT:=fun σ H Q=>t σ H fun x H1=>∃c,x=.bl c/\Q c H1
theorem joi {op:CmpOp} {t:TE} (h:PC X op a b t) (h1:autoParam (behindInMarks op b=false) QA.a2._auto_1):PT X (.Compare a [op] [b] pos) (tB t):=by
 intro pins s σ H Q I hw
 refine wpAny_isTrue_Compare1 (qr (h pins s σ H _ I hw) fun v s1 h1=>qr h1 fun u s2 h2=>qr h2 fun c s3 ⟨x,H1,I1,r1,q1⟩=>?_) h1
 obtain ⟨d,rfl,q⟩:=q1
 cases r1
 exact wpAny_truthy_bool ⟨H1,I1,q⟩
theorem jlp {e:Expr} {t:TE} (h:PE X e t) (he:autoParam (∀whole,isTrue e X.env whole=(do let v <- whole;standAt e.pos;holding [v] (truthy v))) QA.a3._auto_1):PT X e (tB t):=by
 intro pins s σ H Q I hw
 refine isTrue_plain (qr (h pins s σ H _ I hw) fun v s1 ⟨x,H1,I1,r1,q1⟩=>?_) (he _)
 obtain ⟨d,rfl,q⟩:=q1
 cases r1
 exact wpAny_truthy_bool ⟨H1,I1,q⟩
variable {tA tB':TT} {rest:List Expr}
noncomputable def jnT (t u:TT):TT:=fun σ H Q=>t σ H fun c H1=>if c=true then u σ H1 Q else Q false H1
noncomputable def tOr (t u:TT):TT:=fun σ H Q=>t σ H fun c H1=>if c=true then Q true H1 else u σ H1 Q
noncomputable def jnh (t:TT):TT:=fun σ H Q=>t σ H fun c H1=>Q (!c) H1
theorem jjG (ha:PT X a tA):PW X (.BoolOp .And [a] pos) tA:=by
 intro wh pins s σ H Q I h
 refine isTrue_and (qr (ha pins s σ H Q I h) fun c s1 e=>?_)
 cases c with
 | true=>exact isTrue_and_nil e
 | false=>exact e
theorem jl9 (ha:PT X a tA):PW X (.BoolOp .Or [a] pos) tA:=by
 intro wh pins s σ H Q I h
 refine isTrue_or (qr (ha pins s σ H Q I h) fun c s1 e=>?_)
 cases c with
 | false=>exact isTrue_or_nil e
 | true=>exact e
theorem jmg (ha:PT X a tA) (hb:PW X (.BoolOp .And (b::rest) pos) tB'):PW X (.BoolOp .And (a::b::rest) pos) (jnT tA tB'):=by
 intro wh pins s σ H Q I h
 refine isTrue_and (qr (ha pins s σ H _ I h) fun c s1 ⟨H1,I1,q1⟩=>?_)
 cases c with
 | true=>exact hb wh pins s1 σ H1 Q I1 q1
 | false=>exact ⟨H1,I1,q1⟩
theorem jn2 (ha:PT X a tA) (hb:PW X (.BoolOp .Or (b::rest) pos) tB'):PW X (.BoolOp .Or (a::b::rest) pos) (tOr tA tB'):=by
 intro wh pins s σ H Q I h
 refine isTrue_or (qr (ha pins s σ H _ I h) fun c s1 ⟨H1,I1,q1⟩=>?_)
 cases c with
 | true=>exact ⟨H1,I1,q1⟩
 | false=>exact hb wh pins s1 σ H1 Q I1 q1
theorem jl6 (ha:PT X a tA):PT X (.UnaryOp .Not a pos) (jnh tA):=by
 intro pins s σ H Q I h
 exact isTrue_not (ha pins s σ H (fun c H1=>Q (!c) H1) I h)
noncomputable def jkH (ta tb:TE):TE:=fun σ H Q=>ta σ H fun x H1=>∃c,x=.bl c/\if c=true then tb σ H1 Q else Q (.bl false) H1
noncomputable def jkp (ta:TE):TE:=fun σ H Q=>ta σ H fun x H1=>∃c,x=.bl c/\Q (.bl (!c)) H1
theorem jlz {op} {t:TE} (h:PE X a t):PE X (.BoolOp op [a] pos) t:=fun pins s σ H Q I hw=>BoolOp_one (h pins s σ H Q I hw)
theorem jkV (ha:PE X a ta) (hb:PE X (.BoolOp .And (b::rest) pos) tb):PE X (.BoolOp .And (a::b::rest) pos) (jkH ta tb):=by
 intro pins s σ H Q I h
 refine BoolOp_and (qr (ha pins s σ H _ I h) fun v s1 ⟨x,H1,I1,r1,q1⟩=>?_)
 obtain ⟨c,rfl,q1⟩:=q1
 cases r1
 refine wpAny_truthy_bool ?_
 cases c with
 | true=>exact hb pins s1 σ H1 Q I1 q1
 | false=>exact ⟨.bl false,H1,I1,rfl,q1⟩
theorem jk6 (ha:PE X a ta):PE X (.UnaryOp .Not a pos) (jkp ta):=by
 intro pins s σ H Q I h
 refine UnaryOp_ (qr (ha pins s σ H _ I h) fun v s1 ⟨x,H1,I1,r1,q1⟩=>?_)
 obtain ⟨c,rfl,q1⟩:=q1
 cases r1
 exact not_of (wpAny_truthy_bool ⟨.bl (!c),H1,I1,rfl,q1⟩)
noncomputable def tIf (t:TT) (ta tb:TE):TE:=fun σ H Q=>t σ H fun c H1=>if c=true then ta σ H1 Q else tb σ H1 Q
theorem jiD {c:Expr} (hc:PT X c tA) (ha:PE X a ta) (hb:PE X b tb):PE X (.IfExp c a b pos) (tIf tA ta tb):=by
 intro pins s σ H Q I h
 refine wpAny_IfExp (qr (hc pins s σ H _ I h) fun d s1 ⟨H1,I1,q1⟩=>?_)
 cases d with
 | true=>exact ha pins s1 σ H1 Q I1 q1
 | false=>exact hb pins s1 σ H1 Q I1 q1
end
end L2
namespace L2
open PySem PySem.Spec PyProof.Rows
noncomputable def zB (K:PySem.W.Frag) (H:Hp) (a:Addr) (xs:List V):Prop:=
 Rd H a (.lst xs) \/
   ∃(o:Obj) (its:Array Value) (n:Nat),K.lookup a=some o ∧ o.cls=.type "list" ∧ o.dict = none ∧ o.data = .seq its n ∧ its.size ≤ sizeLine ∧ Vals xs its.toList
noncomputable def SqT (K:PySem.W.Frag) (H:Hp) (a:Addr) (xs:List V):Prop:=
 Rd H a (.tup xs) \/
   ∃(o:Obj) (its:Array Value) (n:Nat),K.lookup a=some o ∧ o.cls=.type "tuple" ∧ o.data = .seq its n ∧ its.size ≤ sizeLine ∧ Vals xs its.toList
noncomputable def joj:Value->Option V
 | .none=>some .non
 | .bool b=>some (.bl b)
 | .int i _=>some (.int i)
 | .str x _=>some (.str x)
 | .bytes b _=>some (.byt b)
 | .float b _=>some (.flt b)
 | .ref a=>some (.ref a)
 | .type n=>some (.ty n)
 | _=>none
theorem RelV.abs {x:V} {u:Value} (r:RelV x u):joj u=some x:=by
 cases x with
 | non=>cases r;rfl
 | bl _=>cases r;rfl
 | int _=>obtain ⟨t,rfl⟩:=r;rfl
 | str _=>obtain ⟨t,rfl⟩:=r;rfl
 | byt _=>obtain ⟨t,rfl⟩:=r;rfl
 | flt _=>obtain ⟨t,rfl⟩:=r;rfl
 | ref _=>cases r;rfl
 | ty _=>cases r;rfl
theorem RelV.inj {x y:V} {u:Value} (r:RelV x u) (q:RelV y u):x=y:=Option.some.inj (r.abs.symm.trans q.abs)
theorem Vals.inj:∀{xs ys:List V} {us:List Value},Vals xs us->Vals ys us->xs=ys
 | _,_,_,.nil,.nil=>rfl
 | _,_,_,.cons r t,.cons r' t'=>by rw [r.inj r',Vals.inj t t']
section
variable {X:Cx} {pins:List (Addr×Obj)} {σ:St} {H:Hp} {s:Shared} {a:Addr} {xs ys:List V}
theorem SqT.of {K:PySem.W.Frag} (h:H a=some (.tup xs)):SqT K H a xs:=.inl (.inl h)
theorem Inv.list (I:Inv X pins σ H s) (h:zB X.K H a xs):∃its:List Value,Vals xs its/\PlainL s.heap a its.toArray/\xs.length<=sizeLine:=by
 rcases h with h | ⟨o,its,n,hk,hc,hd,hs,hz,r⟩
 . obtain ⟨z,its,n,r,e⟩:=h.ok I.hok
   exact ⟨its,r,⟨_,n,e,rfl,rfl,rfl⟩,z⟩
 . refine ⟨its.toList,r,⟨o,n,I.kIn a o hk,hc,hd,by simpa using hs⟩,?_⟩
   have e:=r.length
   simp only [Array.length_toList] at e
   omega
theorem Inv.tuple (I:Inv X pins σ H s) (h:SqT X.K H a xs):∃its:List Value,Vals xs its/\IsTup s.heap a its.toArray/\xs.length<=sizeLine:=by
 rcases h with h | ⟨o,its,n,hk,hc,hs,hz,r⟩
 . obtain ⟨z,its,r,p⟩:=h.ok I.hok
   exact ⟨its,r,p,z⟩
 . refine ⟨its.toList,r,⟨o,I.kIn a o hk,hc,n,by simpa using hs⟩,?_⟩
   have e:=r.length
   simp only [Array.length_toList] at e
   omega
theorem Inv.list_inj (I:Inv X pins σ H s) (h:zB X.K H a xs) (h':zB X.K H a ys):xs=ys:=by
 obtain ⟨its,r,⟨o,n,e,_,_,d⟩,_⟩:=I.list h
 obtain ⟨its',r',⟨o',n',e',_,_,d'⟩,_⟩:=I.list h'
 rw [e] at e';cases e'
 rw [d] at d'
 injection d' with d1 _
 have:its=its':=by simpa using congrArg Array.toList d1
 subst this
 exact r.inj r'
theorem Inv.tuple_inj (I:Inv X pins σ H s) (h:SqT X.K H a xs) (h':SqT X.K H a ys):xs=ys:=by
 obtain ⟨its,r,⟨o,e,_,n,d⟩,_⟩:=I.tuple h
 obtain ⟨its',r',⟨o',e',_,n',d'⟩,_⟩:=I.tuple h'
 rw [e] at e';cases e'
 rw [d] at d'
 injection d' with d1 _
 have:its=its':=by simpa using congrArg Array.toList d1
 subst this
 exact r.inj r'
end
noncomputable abbrev Cx.wish (X:Cx) (E:Value->Shared->Prop):Cx:={ X with xe:=E }
noncomputable abbrev Cx.nox (X:Cx):Cx:=X.wish fun _ _=>False
theorem Cx.Ok.wish {X:Cx} (ok:X.Ok) (E:Value->Shared->Prop):(X.wish E).Ok:=
 ⟨ok.mod,ok.kind,ok.glob,ok.blt,ok.above,ok.inj,ok.has,ok.cab,ok.hd,ok.frames,ok.stk,ok.exf,ok.bs,ok.bsz,ok.noex,ok.exfs,ok.funs,ok.frf⟩
theorem Cx.Ok.unwish {X:Cx} {E:Value->Shared->Prop} (ok:(X.wish E).Ok):X.Ok:=
 ⟨ok.mod,ok.kind,ok.glob,ok.blt,ok.above,ok.inj,ok.has,ok.cab,ok.hd,ok.frames,ok.stk,ok.exf,ok.bs,ok.bsz,ok.noex,ok.exfs,ok.funs,ok.frf⟩
section
variable {X:Cx} {pins:List (Addr×Obj)} {σ:St} {H:Hp} {s:Shared} {E:Value->Shared->Prop}
theorem Inv.wish (I:Inv X pins σ H s) (E:Value->Shared->Prop):Inv (X.wish E) pins σ H s:=⟨I.ok.wish E,I.os,I.bare,I.base,I.loc,I.cell,I.free,I.freeC,I.pin,I.hok,I.len⟩
theorem Inv.unwish (I:Inv (X.wish E) pins σ H s):Inv X pins σ H s:=⟨I.ok.unwish,I.os,I.bare,I.base,I.loc,I.cell,I.free,I.freeC,I.pin,I.hok,I.len⟩
theorem SP.unwish {D:Ends} {f:Flow} {s':Shared} (h:SP (X.wish E) pins D f s'):SP X pins D f s':=by
 cases f with
 | next=>obtain ⟨σ',H',I,q⟩:=h;exact ⟨σ',H',I.unwish,q⟩
 | brk=>obtain ⟨σ',H',I,q⟩:=h;exact ⟨σ',H',I.unwish,q⟩
 | cont=>obtain ⟨σ',H',I,q⟩:=h;exact ⟨σ',H',I.unwish,q⟩
 | ret u=>obtain ⟨v,σ',H',I,r,q⟩:=h;exact ⟨v,σ',H',I.unwish,r,q⟩
theorem PSs.nox {st:List Stmt} {t:TS} (h:PSs X.nox st t):PSs X st t:=fun pins s σ H D I hw=>
 wpAny_mono (h pins s σ H D (I.wish _) hw) (fun _ _ q=>q.unwish) fun _ _ z=>False.elim z
end
section
variable {X:Cx} {st:Stmt} {rest:List Stmt} {t u:TS} {e:Expr} {te:TE} {pos:Pos}
noncomputable def jky:TS:=fun D σ H=>D.nx σ H
noncomputable def jny (t u:TS):TS:=fun D σ H=>t { D with nx:=u D } σ H
theorem jj7:PSs X [] jky:=fun _ _ σ H _ I h=>wpAny_execs_nil ⟨σ,H,I,h⟩
theorem jhE (h1:PS X st t) (h2:PSs X rest u):PSs X (st::rest) (jny t u):=by
 intro pins s σ H D I h
 refine wpAny_execs_cons (qr (h1 pins s σ H { D with nx:=u D } I h) fun f s1 q=>?_)
 cases f with
 | next=>
   obtain ⟨σ',H',I',q⟩:=q
   exact h2 pins s1 σ' H' D I' q
 | ret v=>exact q
 | brk=>exact q
 | cont=>exact q
theorem jjn (h1:PS X st t):PSs X [st] t:=by
 intro pins s σ H D I h
 refine wpAny_execs_cons (qr (h1 pins s σ H D I h) fun f s1 q=>?_)
 cases f with
 | next=>exact wpAny_execs_nil q
 | ret v=>exact q
 | brk=>exact q
 | cont=>exact q
theorem Inv.quiet {pins:List (Addr×Obj)} {σ:St} {H:Hp} {s:Shared} (I:Inv X pins σ H s):interactive X.env=false:=by simp [interactive,I.ok.kind]
noncomputable def jhT (te:TE):TS:=fun D σ H=>te σ H fun _ H1=>D.nx σ H1
theorem jgg (he:PE X e te) (hs:autoParam (swapsWith e none pos.line X.env=pure false) QA.a4._auto_1):PS X (.Expr e pos) (jhT te):=by
 intro pins s σ H D I h
 exact wpAny_Expr_any (qr (he pins s σ H _ I h) fun v s1 ⟨x,H1,I1,r1,q1⟩=>⟨σ,H1,I1,q1⟩) I.quiet hs
noncomputable def jjO (te:TE):TS:=fun D σ H=>te σ H D.rt
theorem jfg (he:PE X e te):PS X (.Return (some e) pos) (jjO te):=by
 intro pins s σ H D I h
 exact wpAny_Return_some (qr (he pins s σ H _ I h) fun v s1 ⟨x,H1,I1,r1,q1⟩=>⟨x,σ,H1,I1,r1,q1⟩)
noncomputable def jnk (c:TT) (t u:TS):TS:=fun D σ H=>c σ H fun b H1=>if b=true then t D σ H1 else u D σ H1
theorem jnK {c:Expr} {a b:List Stmt} {tc:TT} (hc:PT X c tc) (ha:PSs X a t) (hb:PSs X b u):PS X (.If c a b pos) (jnk tc t u):=by
 intro pins s σ H D I h
 refine wpAny_If (qr (hc pins s σ H _ I h) fun d s1 ⟨H1,I1,q1⟩=>?_)
 cases d with
 | true=>exact ha pins s1 σ H1 D I1 q1
 | false=>exact hb pins s1 σ H1 D I1 q1
end
noncomputable abbrev TG:=V->St->Hp->(St->Hp->Prop)->Prop
noncomputable abbrev TGs:=List V->St->Hp->(St->Hp->Prop)->Prop
noncomputable def PG (X:Cx) (target:Expr) (t:TG):Prop:=
 ∀(pins:List (Addr×Obj)) (s:Shared) (σ:St) (H:Hp) (v:V) (u:Value) (Q:St->Hp->Prop),Inv X pins σ H s->RelV v u->t v σ H Q->
   wpAny (model X.prog X.w) X.A (assign target X.env u) (fun _ s'=>∃σ' H',Inv X pins σ' H' s'/\Q σ' H') X.xe s
noncomputable def PGs (X:Cx) (ts:List Expr) (t:TGs):Prop:=
 ∀(pins:List (Addr×Obj)) (s:Shared) (σ:St) (H:Hp) (vs:List V) (us:List Value) (Q:St->Hp->Prop),Inv X pins σ H s->Vals vs us->t vs σ H Q->
   wpAny (model X.prog X.w) X.A (assignInOrder ((assignEach ts X.env).map (·.2)) us) (fun _ s'=>∃σ' H',Inv X pins σ' H' s'/\Q σ' H') X.xe s
noncomputable abbrev jmk:=V->V->V->Hp->(Hp->Prop)->Prop
noncomputable def jnJ (X:Cx) (t:jmk):Prop:=
 ∀(pins:List (Addr×Obj)) (s:Shared) (σ:St) (H:Hp) (o i v:V) (ov iv u:Value) (Q:Hp->Prop),Inv X pins σ H s->RelV o ov->RelV i iv->RelV v u->t o i v H Q->
   wpAny (model X.prog X.w) X.A (setItem ov iv u) (fun _ s'=>∃H',Inv X pins σ H' s'/\Q H') X.xe s
section
variable {X:Cx} {pos:Pos}
noncomputable def ZI (i:Nat):TG:=fun v σ H Q=>Q (σ.set i (some v)) H
theorem jdm {i:Nat} {x:Str} (hN:X.N.Nodup) (hi:X.N[i]?=some x) (hx:Loc X.env.scope x) (hf:autoParam (X.fn x=true\/X.env.scope.names.lookup x=some .local) QA.a0._auto_1):PG X (.Name x pos) (ZI i):=by
 intro pins s σ H v u Q I r h
 exact wpAny_assign_Name (jen I hN hi hx r (fun s' I'=>⟨_,H,I',h⟩) hf)
noncomputable def jmo:TGs:=fun vs σ H Q=>vs=[]/\Q σ H
noncomputable def jko (t:TG) (u:TGs):TGs:=fun vs σ H Q=>∃v r,vs=v::r/\t v σ H fun σ' H'=>u r σ' H' Q
theorem jf4:PGs X [] jmo:=by
 intro pins s σ H vs us Q I r h
 obtain ⟨e,h⟩:=h
 subst e
 cases r
 exact assignInOrder_nil ⟨σ,H,I,h⟩
theorem jem {e:Expr} {es:List Expr} {t:TG} {u:TGs} (h1:PG X e t) (h2:PGs X es u)
 (hs:autoParam ((assignEach (e::es) X.env).map (·.2)=assign e X.env::(assignEach es X.env).map (·.2)) QA.a4._auto_1):PGs X (e::es) (jko t u):=by
 intro pins s σ H vs us Q I r h
 obtain ⟨v,vr,e1,h⟩:=h
 subst e1
 cases r with
 | cons r rr=>
   rw [hs]
   refine assignInOrder_cons (qr (h1 pins s σ H _ _ _ I r h) fun _ s1 ⟨σ1,H1,I1,q1⟩=>?_)
   exact h2 pins s1 σ1 H1 _ _ Q I1 rr q1
noncomputable def jjE (K:PySem.W.Frag) (n:Nat) (t:TGs):TG:=fun v σ H Q=>∃a xs,v=.ref a/\SqT K H a xs/\xs.length=n/\t xs σ H Q
theorem ji8 {es:List Expr} {k:Nat} {t:TGs} {n:Nat} (hc:X.calm=true) (h:PGs X es t)
 (hn:autoParam ((assignEach es X.env).length=n) QA.a4._auto_1) (hst:autoParam ((assignEach es X.env).findIdx? (·.1)=none) QA.a4._auto_1):PG X (.Tuple es k pos) (jjE X.K n t):=by
 intro pins s σ H v u Q I r hw
 obtain ⟨a,xs,e1,hq,hl,hw⟩:=hw
 subst e1
 cases r
 obtain ⟨its,rv,ht,hz⟩:=I.tuple hq
 refine assign_Tuple_tuple (I.ok.hd hc) ht (by simp [hn,<- hl,rv.length]) hst fun h' hx=>?_
 have I1:Inv X pins σ H { s with heap:=h' }:=I.kept (t':=s.toks) fun b o e=>hx b o (Nat.ne_of_lt (Heap.lt_size e)) e
 exact h pins _ σ H xs _ Q I1 (by simpa using rv) hw
noncomputable def jm0 (to ti:TE) (t:jmk):TG:=fun v σ H Q=>to σ H fun o H1=>ti σ H1 fun i H2=>t o i v H2 fun H3=>Q σ H3
theorem jlH {o i:Expr} {to ti:TE} {t:jmk} (ho:PE X o to) (hi:PE X i ti) (hs:jnJ X t)
 (ha:autoParam (∀v,assign (.Subscript o i pos) X.env v=(do
  let ov <- holding [v] (eval o X.env)
  let iv <- holding [v,ov] (eval i X.env)
  standAt pos
  holding [v,ov,iv] (setItem ov iv v)
  release [v,ov,iv] [])) QA.a3._auto_1):PG X (.Subscript o i pos) (jm0 to ti t):=by
 intro pins s σ H v u Q I r h
 rw [ha]
 refine wpAny_bind (wpAny_holding (qr (ho pins s σ H _ I h) fun ov s1 ⟨x,H1,I1,r1,q1⟩=>?_))
 refine wpAny_bind (wpAny_holding (qr (hi pins s1 σ H1 _ I1 q1) fun iv s2 ⟨y,H2,I2,r2,q2⟩=>?_))
 refine wpAny_bind (wpAny_standAt (wpAny_bind (wpAny_holding (qr (hs pins s2 σ H2 x y v ov iv u _ I2 r1 r2 r q2) fun _ s3 ⟨H3,I3,q3⟩=>?_))))
 exact wpAny_release ⟨σ,H3,I3,q3⟩
noncomputable def jc3 (te:TE) (g:TG):TS:=fun D σ H=>te σ H fun x H1=>g x σ H1 D.nx
theorem ji2 {tg e:Expr} {te:TE} {g:TG} (he:PE X e te) (hg:PG X tg g) (hs:autoParam (swapsWithSole [tg] e pos.line X.env=pure false) QA.a4._auto_1) (hw:autoParam (swappedStores [tg] e X.env=pure none) QA.a4._auto_1)
 (h1:autoParam ((assignEach [tg] X.env).map (·.2)=[assign tg X.env]) QA.a4._auto_1):PS X (.Assign [tg] e pos) (jc3 te g):=by
 intro pins s σ H D I h
 refine wpAny_Assign_stores (qr (he pins s σ H _ I h) fun v s1 ⟨x,H1,I1,r1,q1⟩=>?_) hs hw
 rw [h1]
 exact qr (hg pins s1 σ H1 x v _ I1 r1 q1) fun _ s2 q=>q
theorem je3 {i:Nat} {x:Str} {e:Expr} {te:TE} {pos':Pos} (hN:X.N.Nodup) (hi:X.N[i]?=some x) (hx:Loc X.env.scope x) (he:PE X e te) (hs:autoParam (swapsWith e (some (.Name x pos')) pos.line X.env=pure false) QA.a4._auto_1) (hf:autoParam (X.fn x=true\/X.env.scope.names.lookup x=some .local) QA.a0._auto_1) :
 PS X (.Assign [.Name x pos'] e pos) (jc3 te (ZI i)):=by
 intro pins s σ H D I h
 refine wpAny_Assign_Name (qr (he pins s σ H _ I h) fun v s1 ⟨y,H1,I1,r1,q1⟩=>?_) hs
 exact jen I1 hN hi hx r1 (fun s2 I2=>⟨_,H1,I2,q1⟩) hf
end
section
variable {X:Cx} {pos:Pos}
end
structure It where
 go:Nat->Hp->Prop
 yld:Nat->Hp->V->Hp->Prop
 stop:Nat->Hp->Prop
noncomputable def jby (X:Cx) (pins:List (Addr×Obj)) (H:Hp) (b:Addr):Prop:=
 H b=none/\b≠X.env.locals/\b∉X.fs/\(b∈X.ex\/X.s₀.heap.objs.size<=b)/\(∀x c,X.env.cells.lookup x=some c->c≠b)/\∀p∈X.pn++pins,p.1≠b
theorem Inv.fpOk {X:Cx} {pins:List (Addr×Obj)} {σ:St} {H H':Hp} {s:Shared} {b:Addr} (I:Inv X pins σ H s) (hb:s.heap.objs.size<=b) (hn:H' b=none):jby X pins H' b:=by
 refine ⟨hn,Nat.ne_of_gt (Nat.lt_of_lt_of_le I.lt hb),I.nofs hb,.inr (Nat.le_trans I.sz hb),fun x c e z=>?_,fun p hp z=>?_⟩
 . obtain ⟨v,q⟩:=I.cell x c e
   exact absurd (Nat.lt_of_lt_of_le q.lt (by rw [z];exact hb)) (Nat.lt_irrefl _)
 . exact absurd (Nat.lt_of_lt_of_le (Heap.lt_size (I.pin p hp).1) (by rw [z];exact hb)) (Nat.lt_irrefl _)
structure Turn (P:Program) (w:World) (K:PySem.W.Frag) (tg:Expr) (J:It) (fp:List Addr) (it:Addr) (tn:Nat->Heap->Prop):Prop where
 mem:it∈fp
 obj:∀i h,tn i h->∀b∈fp,∃o,h.get? b=some o/\∀v,o.data≠.cell v
 keep:∀i h h',tn i h->(∀b∈fp,∀o,h.get? b=some o->h'.get? b=some o)->tn i h'
 item:∀(X:Cx),X.prog=P->X.w=w->X.K=K->X.calm=true->∀(i:Nat) (pins:List (Addr×Obj)) (s:Shared) (σ:St) (H:Hp) (E:Value->Shared->Prop),Inv X pins σ H s->(∀b∈fp,jby X pins H b)->tn i s.heap->J.go i H->
  wpAny (model P w) X.A (pyNext (.ref it)) (fun r s1=>∃u,r=some u /\
   wpAny (model P w) X.A (letOwnedTupleGo tg (.ref it) u) (fun _ s2=>∃x H',Inv X pins σ H' s2/\RelV x u/\J.yld i H x H'/\tn (i+1) s2.heap/\∀b∈fp,H' b=none) E s1) E s
 done:∀(X:Cx),X.prog=P->X.w=w->X.K=K->X.calm=true->∀(i:Nat) (pins:List (Addr×Obj)) (s:Shared) (σ:St) (H:Hp) (E:Value->Shared->Prop),Inv X pins σ H s->(∀b∈fp,jby X pins H b)->tn i s.heap->J.stop i H->
  wpAny (model P w) X.A (pyNext (.ref it)) (fun r s1=>r=none/\Inv X pins σ H s1) E s
 self:∀(A:Around) (i:Nat) (s:Shared) (Q:Value->Shared->Prop) (E:Value->Shared->Prop),tn i s.heap->Q (.ref it) s->wpAny (model P w) A (pyIter (.ref it)) Q E s
noncomputable abbrev TI:=St->Hp->(It->Hp->Prop)->Prop
noncomputable def PIE (X:Cx) (pins:List (Addr×Obj)) (σ:St) (tg:Expr) (R:It->Hp->Prop) (itv:Value) (s2:Shared):Prop:=
 ∃(it:Addr) (fp:List Addr) (tn:Nat->Heap->Prop) (J:It) (H':Hp),itv=.ref it/\Inv X pins σ H' s2/\Turn X.prog X.w X.K tg J fp it tn/\tn 0 s2.heap/\(∀b∈fp,jby X pins H' b)/\R J H'
noncomputable def PI (X:Cx) (tg iter:Expr) (wi:TI):Prop:=
 ∀(pins:List (Addr×Obj)) (s:Shared) (σ:St) (H:Hp) (R:It->Hp->Prop),Inv X pins σ H s->wi σ H R->
   wpAny (model X.prog X.w) X.A (eval iter X.env) (fun v s1=>wpAny (model X.prog X.w) X.A (pyIter v) (PIE X pins σ tg R) X.xe s1) X.xe s
theorem ji1 {M:Model} {A:Around} {E:Value->Shared->Prop} {s:Shared} {tg:Expr} {it:Addr} {u:Value} {o:Obj} {n:String} {vs:Array Value} {Q:Unit->Shared->Prop} (ho:s.heap.get? it=some o) (hc:o.cls=.type n) (hd:o.data=.fields vs)
 (hn:["enumerate", "zip", "dict_itemiterator", "dict_reverseitemiterator", "odict_iterator", "itertools.zip_longest", "itertools.pairwise"].contains n = false) (hQ : Q () s) : wpAny M A (letOwnedTupleGo tg (.ref it) u) Q E s := by
 unfold letOwnedTupleGo
 cases tg <;> first
  | exact wpAny_pure hQ
  | (cases u <;> first
      | exact wpAny_pure hQ
      | (refine wpAny_bind (wpAny_load ho ?_)
         rw [hc,hd]
         show wpAny M A (if (["enumerate", "zip", "dict_itemiterator", "dict_reverseitemiterator", "odict_iterator", "itertools.zip_longest", "itertools.pairwise"].contains n && vs[0]? == some (rawInt _)) = true then _ else _) Q E s
         rw [if_neg (by intro h;rw [hn,Bool.false_and] at h;cases h)]
         exact wpAny_pure hQ))
noncomputable def Itl (K:PySem.W.Frag) (a:Addr):It:=
 ⟨fun i H=>∃xs x,zB K H a xs/\xs[i]?=some x,fun i H x H'=>H'=H/\∀xs,zB K H a xs->xs[i]?=some x,fun i H=>∃xs,zB K H a xs/\xs.length<=i⟩
noncomputable def Itt (K:PySem.W.Frag) (a:Addr):It:=
 ⟨fun i H=>∃xs x,SqT K H a xs/\xs[i]?=some x,fun i H x H'=>H'=H/\∀xs,SqT K H a xs->xs[i]?=some x,fun i H=>∃xs,SqT K H a xs/\xs.length<=i⟩
noncomputable def Itr (lo:Int) (n:Nat):It:=⟨fun i _=>i<n,fun i H x H'=>H'=H/\x=.int (lo+i),fun i _=>n<=i⟩
theorem jgy {P:Program} {w:World} {K:PySem.W.Frag} {tg:Expr} (a it:Addr):Turn P w K tg (Itl K a) [it] it (fun i h=>h.IsListIter it a i) where
 mem:=by simp
 obj:=fun i h st b hb=>by
  have e:b=it:=by simpa using hb
  subst e
  obtain ⟨o,e,c,d⟩:=st
  exact ⟨o,e,fun v z=>by rw [d] at z;cases z⟩
 keep:=fun i h h' st k=>st.at fun o e=>k it (by simp) o e
 item:=by
  intro X hP hw hK hc i pins s σ H E I hf st hg
  subst hP hw hK
  obtain ⟨xs,x,hq,hx⟩:=hg
  obtain ⟨its,rv,p,hz⟩:=I.list hq
  obtain ⟨u,hu,ru⟩:=rv.get hx
  obtain ⟨f0,f1,f2,f3,f4,f5⟩:=hf it (by simp)
  refine wpAny_pyNext_list_item st p.isList (x:=u) (by simpa using hu) fun h' st' sb=>?_
  have I1:Inv X pins σ H { s with heap:=h' }:=I.turned (t':=s.toks) (fun b o hb e=>(sb.2 b hb).trans e) f0 f1 f3 f4 f5
  obtain ⟨o,e,c,d⟩:=id st'
  exact ⟨u,rfl,ji1 (s:={ s with heap:=h' }) e c d (by decide) ⟨x,H,I1,ru,⟨rfl,fun ys hy=>by rw [I.list_inj hy hq];exact hx⟩,st',fun b hb=>(hf b hb).1⟩⟩
 done:=by
  intro X hP hw hK hc i pins s σ H E I hf st hg
  subst hP hw hK
  obtain ⟨xs,hq,hx⟩:=hg
  obtain ⟨its,rv,p,hz⟩:=I.list hq
  obtain ⟨f0,f1,f2,f3,f4,f5⟩:=hf it (by simp)
  have hl:=rv.length
  exact wpAny_pyNext_list_end (I.ok.hd hc) st p.isList (by simp;omega) fun h' eb=>⟨rfl,I.turned (t':=s.toks) (fun b o hb e=>eb b o hb e) f0 f1 f3 f4 f5⟩
 self:=fun _ _ _ _ _ st h=>wpAny_pyIter_listiter st h
theorem jfn {P:Program} {w:World} {K:PySem.W.Frag} {tg:Expr} (a it:Addr):Turn P w K tg (Itt K a) [it] it (fun i h=>h.IsTupleIter it a i) where
 mem:=by simp
 obj:=fun i h st b hb=>by
  have e:b=it:=by simpa using hb
  subst e
  obtain ⟨o,e,c,d⟩:=st
  exact ⟨o,e,fun v z=>by rw [d] at z;cases z⟩
 keep:=fun i h h' st k=>st.at fun o e=>k it (by simp) o e
 item:=by
  intro X hP hw hK hc i pins s σ H E I hf st hg
  subst hP hw hK
  obtain ⟨xs,x,hq,hx⟩:=hg
  obtain ⟨its,rv,p,hz⟩:=I.tuple hq
  obtain ⟨u,hu,ru⟩:=rv.get hx
  obtain ⟨f0,f1,f2,f3,f4,f5⟩:=hf it (by simp)
  refine wpAny_pyNext_tuple_item st (show s.heap.IsTuple a its.toArray from p) (x:=u) (by simpa using hu) fun h' st' sb=>?_
  have I1:Inv X pins σ H { s with heap:=h' }:=I.turned (t':=s.toks) (fun b o hb e=>(sb.2 b hb).trans e) f0 f1 f3 f4 f5
  obtain ⟨o,e,c,d⟩:=id st'
  exact ⟨u,rfl,ji1 (s:={ s with heap:=h' }) e c d (by decide) ⟨x,H,I1,ru,⟨rfl,fun ys hy=>by rw [I.tuple_inj hy hq];exact hx⟩,st',fun b hb=>(hf b hb).1⟩⟩
 done:=by
  intro X hP hw hK hc i pins s σ H E I hf st hg
  subst hP hw hK
  obtain ⟨xs,hq,hx⟩:=hg
  obtain ⟨its,rv,p,hz⟩:=I.tuple hq
  obtain ⟨f0,f1,f2,f3,f4,f5⟩:=hf it (by simp)
  have hl:=rv.length
  exact wpAny_pyNext_tuple_end (I.ok.hd hc) st (show s.heap.IsTuple a its.toArray from p) (by simp;omega) fun h' eb=>⟨rfl,I.turned (t':=s.toks) (fun b o hb e=>eb b o hb e) f0 f1 f3 f4 f5⟩
 self:=fun _ _ _ _ _ st h=>wpAny_pyIter_tupleiter st h
theorem jfh {P:Program} {w:World} {K:PySem.W.Frag} {tg:Expr} (it:Addr) (lo:Int) (n:Nat):Turn P w K tg (Itr lo n) [it] it (fun i h=>IsRangeIter h it (lo+(i:Nat)*1) ((n:Int)-(i:Nat)) 1) where
 mem:=by simp
 obj:=fun i h st b hb=>by
  have e:b=it:=by simpa using hb
  subst e
  exact ⟨_,st,fun v z=>by
    have z':Data.fields _=Data.cell v:=z
    cases z'⟩
 keep:=fun i h h' st k=>k it (by simp) _ st
 item:=by
  intro X hP hw hK hc i pins s σ H E I hf st hg
  subst hP hw hK
  obtain ⟨f0,f1,f2,f3,f4,f5⟩:=hf it (by simp)
  have W:=Walks.range (prog:=X.prog) (w:=X.w) (I.ok.hd hc) it lo 1 n
  refine W.item i s _ _ hg st fun v h' tk hv st' kk=>?_
  obtain ⟨t,rfl⟩:=hv
  have I1:Inv X pins σ H { s with heap:=h',toks:=tk }:=I.turned (fun b o hb e=>kk b o (by simpa using hb) e) f0 f1 f3 f4 f5
  refine ⟨_,rfl,ji1 (s:={ s with heap:=h',toks:=tk }) (n := "range_iterator") st' rfl rfl (by decide) ⟨.int (lo + i), H, I1, ⟨t, ?_⟩, ⟨rfl, rfl⟩, st', fun b hb => (hf b hb).1⟩⟩
  rw [Int.mul_one]
 done:=by
  intro X hP hw hK hc i pins s σ H E I hf st hg
  subst hP hw hK
  obtain ⟨f0,f1,f2,f3,f4,f5⟩:=hf it (by simp)
  exact wpAny_pyNext_range_end (I.ok.hd hc) st (by have:n<=i:=hg;omega) fun h' eb=>⟨rfl,I.turned (t':=s.toks) (fun b o hb e=>eb b o hb e) f0 f1 f3 f4 f5⟩
 self:=fun _ _ _ _ _ st h=>wpAny_pyIter_rangeiter st h
end L2
namespace L2
open PySem PySem.Spec PyProof.Rows
section
variable {X:Cx} {tg:Expr}
noncomputable def jej (K:PySem.W.Frag) (tl:TE):TI:=fun σ H R=>tl σ H fun x H1=>∃a,x=.ref a/\(∃xs,zB K H1 a xs)/\R (Itl K a) H1
noncomputable def jmc (K:PySem.W.Frag) (tl:TE):TI:=fun σ H R=>tl σ H fun x H1=>∃a,x=.ref a/\(∃xs,SqT K H1 a xs)/\R (Itt K a) H1
theorem jfY {l:Expr} {tl:TE} (hl:PE X l tl):PI X tg l (jej X.K tl):=by
 intro pins s σ H R I h
 refine qr (hl pins s σ H _ I h) fun v s1 ⟨x,H1,I1,r1,q1⟩=>?_
 obtain ⟨a,e,⟨xs,hq⟩,q⟩:=q1
 subst e
 cases r1
 obtain ⟨its,rv,p,hz⟩:=I1.list hq
 refine wpAny_pyIter_list p.isList ?_
 refine ⟨s1.heap.objs.size,[s1.heap.objs.size],_,_,H1,rfl,I1.kept (t':=s1.toks) fun b o e=>Heap.get?_push_of_some _ e,jgy a _,⟨_,Heap.get?_push_size _ rfl,rfl,rfl⟩,fun b hb=>?_,q⟩
 have e:b=s1.heap.objs.size:=by simpa using hb
 subst e
 exact I1.fpOk (Nat.le_refl _) (I1.hok.fresh (Nat.le_refl _))
theorem jlr {l:Expr} {tl:TE} (hl:PE X l tl):PI X tg l (jmc X.K tl):=by
 intro pins s σ H R I h
 refine qr (hl pins s σ H _ I h) fun v s1 ⟨x,H1,I1,r1,q1⟩=>?_
 obtain ⟨a,e,⟨xs,hq⟩,q⟩:=q1
 subst e
 cases r1
 obtain ⟨its,rv,p,hz⟩:=I1.tuple hq
 refine wpAny_pyIter_tuple (show s1.heap.IsTuple a its.toArray from p) ?_
 refine ⟨s1.heap.objs.size,[s1.heap.objs.size],_,_,H1,rfl,I1.kept (t':=s1.toks) fun b o e=>Heap.get?_push_of_some _ e,jfn a _,⟨_,Heap.get?_push_size _ rfl,rfl,rfl⟩,fun b hb=>?_,q⟩
 have e:b=s1.heap.objs.size:=by simpa using hb
 subst e
 exact I1.fpOk (Nat.le_refl _) (I1.hok.fresh (Nat.le_refl _))
theorem jdY {pins:List (Addr×Obj)} {σ:St} {H:Hp} {s:Shared} {R:It->Hp->Prop} {E:Value->Shared->Prop} {lo hi:Int} {t u v:Tok} {tk:Nat} (I:Inv X pins σ H s) (h1:-(2 ^ 62)<=lo) (h2:lo<2 ^ 62) (h3:-(2 ^ 62)<=hi) (h4:hi<2 ^ 62)
 (q:R (Itr lo (hi-lo).toNat) H):wpAny (model X.prog X.w) X.A (pyIter (.ref s.heap.objs.size)) (PIE X pins σ tg R) E { s with heap:=s.heap.push { cls:=.type "range", data := .fields #[.int lo t, .int hi u, .int 1 v] }, toks := tk } := by
 refine wpAny_pyIter_range (IsRange.new ..) (small_one h1 h2 h3 h4) ?_
 have I1:Inv X pins σ H { s with heap:=s.heap.push { cls:=.type "range", data := .fields #[.int lo t, .int hi u, .int 1 v] }, toks := tk } := I.kept fun b o e => Heap.get?_push_of_some _ e
 refine ⟨(s.heap.push { cls:=.type "range", data := .fields #[.int lo t, .int hi u, .int 1 v] }).objs.size, [(s.heap.push { cls := .type "range", data := .fields #[.int lo t, .int hi u, .int 1 v] }).objs.size], _, _, H, rfl,
  I1.kept (t':=tk) fun b o e=>Heap.get?_push_of_some _ e,jfh _ lo (hi-lo).toNat,?_,fun b hb=>?_,q⟩
 . have e1:lo+((0:Nat):Int)*1=lo:=by simp
   have e2:(((hi-lo).toNat:Nat):Int)-((0:Nat):Int)=Builtin.Range.rangeSize lo hi 1:=by rw [rangeSize_one];split <;> omega
   show IsRangeIter _ _ (lo+((0:Nat):Int)*1) ((((hi-lo).toNat:Nat):Int)-((0:Nat):Int)) 1
   rw [e1,e2]
   exact Heap.get?_push_size _ rfl
 . have e:b=(s.heap.push { cls:=.type "range", data := .fields #[.int lo t, .int hi u, .int 1 v] }).objs.size := by simpa using hb
   subst e
   exact I1.fpOk (Nat.le_refl _) (I1.hok.fresh (Nat.le_refl _))
noncomputable def jkQ (ta:TA):TI:=fun σ H R=>ta σ H fun vs H1=>∃j:Int,vs=[.int j] /\ -(2 ^ 62)<=j/\j<2 ^ 62/\R (Itr 0 j.toNat) H1
noncomputable def jkr (ta:TA):TI:=fun σ H R=>ta σ H fun vs H1=>∃i j:Int,vs=[.int i,.int j]/\(-(2 ^ 62)<=i/\i<2 ^ 62 /\ -(2 ^ 62)<=j/\j<2 ^ 62)/\R (Itr i (j-i).toNat) H1
theorem jgD {a:Expr} {ta:TA} {p pos:Pos} (hg:Gl X "range") (hm : X.mg "range" = none) (ha : PA X [a] ta) (hs : autoParam (starEach [a] X.env = [(false, eval a X.env)]) QA.a4._auto_1) : PI X tg (.Call (.Name "range" p) [a] [] pos) (jkQ ta) := by
 intro pins s σ H R I h
 refine Call_ (JD I hg hm boot_range (PyProof.Rows.callWith_type1 (qr (ha pos pins s σ H _ I h) fun us s1 ⟨vs,H1,I1,r1,q1⟩=>?_) hs rfl))
 obtain ⟨j,e,q1,q2,q⟩:=q1
 subst e
 cases r1 with
 | cons r rr=>
   cases rr
   obtain ⟨t,rfl⟩:=r
   exact call_range_1 (jdY I1 (by omega) (by omega) q1 q2 (by simpa using q))
theorem jgX {a b:Expr} {ta:TA} {p pos:Pos} (hg:Gl X "range") (hm : X.mg "range" = none) (ha : PA X [a, b] ta) (hs : autoParam (starEach [a, b] X.env = [(false, eval a X.env), (false, eval b X.env)]) QA.a4._auto_1) (hs2 : autoParam (starEach [b] X.env = [(false, eval b X.env)]) QA.a4._auto_1) :
 PI X tg (.Call (.Name "range" p) [a, b] [] pos) (jkr ta) := by
 intro pins s σ H R I h
 refine Call_ (JD I hg hm boot_range (PyProof.Rows.callWith_type1 (qr (ha pos pins s σ H _ I h) fun us s1 ⟨vs,H1,I1,r1,q1⟩=>?_) (by rw [hs,hs2]) (by rw [hs2];rfl)))
 obtain ⟨i,j,e,⟨q1,q2,q3,q4⟩,q⟩:=q1
 subst e
 cases r1 with
 | cons r rr=>
   cases rr with
   | cons r' rr=>
     cases rr
     obtain ⟨t,rfl⟩:=r
     obtain ⟨t',rfl⟩:=r'
     exact call_range_2 (jdY I1 q1 q2 q3 q4 q)
noncomputable def jnx (wi:TI) (g:TG) (tb:TS):TS:=fun D σ H=>wi σ H fun J H1=>∃W:Nat->Nat->St->Hp->Prop,(∃m,W 0 m σ H1)/\∀i m σ H,W i m σ H->
 (J.stop i H/\D.nx σ H)\/(J.go i H/\∃N:St->Hp->Prop,(∀σ' H',N σ' H'->∃m',m'<m/\W (i+1) m' σ' H')/\∀x H',J.yld i H x H'->g x σ H' fun σ2 H2=>tb { D with nx:=N,ct:=N,bk:=D.nx } σ2 H2)
noncomputable def jb1 (fp:List Addr) (h:Heap):List (Addr×Obj):=fp.filterMap fun b=>(h.get? b).map fun o=>(b,o)
theorem JU {fp:List Addr} {h:Heap} {b:Addr} {o:Obj} (hb:b∈fp) (e:h.get? b=some o):(b,o)∈jb1 fp h:=List.mem_filterMap.mpr ⟨b,hb,by rw [e];rfl⟩
theorem jgJ {fp:List Addr} {h:Heap} {p:Addr×Obj} (hp:p∈jb1 fp h):p.1∈fp/\h.get? p.1=some p.2:=by
 obtain ⟨b,hb,e⟩:=List.mem_filterMap.mp hp
 cases q:h.get? b with
 | none=>rw [q] at e;cases e
 | some o=>
   rw [q] at e
   have e':(b,o)=p:=Option.some.inj e
   subst e'
   exact ⟨hb,q⟩
theorem Inv.pinned {pins:List (Addr×Obj)} {σ:St} {H:Hp} {s:Shared} {fp:List Addr} (I:Inv X pins σ H s) (hf:∀b∈fp,jby X pins H b) (ho:∀b∈fp,∃o,s.heap.get? b=some o/\∀v,o.data≠.cell v):Inv X (pins++jb1 fp s.heap) σ H s:=
 I.pins_of fun p hp=>(List.mem_append.mp hp).elim (fun z=>I.pin p (List.mem_append_right _ z)) fun z=>by
  obtain ⟨hb,e⟩:=jgJ z
  obtain ⟨f0,f1,f2,_⟩:=hf p.1 hb
  obtain ⟨o,e',d⟩:=ho p.1 hb
  rw [e] at e';cases e'
  exact ⟨e,f0,f1,f2,d⟩
theorem Inv.unpinned {pins pl:List (Addr×Obj)} {σ:St} {H:Hp} {s:Shared} (I:Inv X (pins++pl) σ H s):Inv X pins σ H s:=I.pins_of fun p hp=>I.pin p (List.mem_append_right _ (List.mem_append_left _ hp))
theorem jkY {iter:Expr} {body:List Stmt} {wi:TI} {g:TG} {tb:TS} {pos:Pos} (hp:PassesOwn (model X.prog X.w) X.A X.env X.xe) (hc:X.calm=true) (hi:PI X tg iter wi) (hg:PG X tg g) (hb:PSs X body tb)
 (hs:autoParam (∀x,foldedSetIterable iter X.env x=pure x) QA.a3._auto_1):PS X (.For tg iter body [] pos) (jnx wi g tb):=by
 intro pins s σ H D I h
 refine wpAny_For (qr (hi pins s σ H _ I h) fun v s1 h1=>qr h1 fun itv s2 h2=>?_) hs
 obtain ⟨it,fp,tn,J,H2,e,I2,T,st2,f2,W,⟨m0,w0⟩,turn⟩:=h2
 subst e
 -- what stays true of the iterator's objects through the loop
 have stat:∀{H':Hp},(∀b∈fp,H' b=none)->∀b∈fp,jby X pins H' b:=fun hn b hb=>⟨hn b hb,(f2 b hb).2⟩
 refine codeAny_forLoop_any (fun n s'=>∃i σ' H',Inv X pins σ' H' s'/\tn i s'.heap/\(∀b∈fp,H' b=none)/\W i n σ' H') ?_ m0 ⟨0,σ,H2,I2,st2,fun b hb=>(f2 b hb).1,w0⟩
 rintro n s3 ⟨i,σ3,H3,I3,st3,fr3,w3⟩
 rcases turn i n σ3 H3 w3 with ⟨stop,qn⟩ | ⟨go,N,hN,step⟩
 . refine wpAny_passesOwn hp (qr (T.done X rfl rfl rfl hc i pins s3 σ3 H3 X.xe I3 (stat fr3) st3 stop) fun r s4 ⟨hr,I4⟩=>?_)
   subst hr
   exact wpAny_execs_nil ⟨σ3,H3,I4,qn⟩
 . refine wpAny_passesOwn hp (qr (T.item X rfl rfl rfl hc i pins s3 σ3 H3 X.xe I3 (stat fr3) st3 go) fun r s4 ⟨u,hr,h4⟩=>?_)
   subst hr
   refine wpAny_passesOwn hp (qr h4 fun _ s5 ⟨x,H5,I5,r5,y5,st5,fr5⟩=>?_)
   have I5':=I5.pinned (stat fr5) (T.obj _ _ st5)
   refine wpAny_passesOwn hp (qr (hg _ s5 σ3 H5 x u _ I5' r5 (step x H5 y5)) fun _ s6 ⟨σ6,H6,I6,q6⟩=>?_)
   refine wpAny_passesOwn hp (qr (hb _ s6 σ6 H6 _ I6 q6) fun f s7 q7=>?_)
   have again:∀{σ7:St} {H7:Hp},Inv X (pins++jb1 fp s5.heap) σ7 H7 s7->N σ7 H7->∃m,m<n/\∃i σ' H',Inv X pins σ' H' s7/\tn i s7.heap/\(∀b∈fp,H' b=none)/\W i m σ' H':=fun {σ7 H7} I7 n7=>by
    obtain ⟨m',hm,w7⟩:=hN σ7 H7 n7
    refine ⟨m',hm,i+1,σ7,H7,I7.unpinned,T.keep _ _ _ st5 fun b hb o e=>(I7.pin (b,o) (List.mem_append_right _ (List.mem_append_right _ (JU hb e)))).1,fun b hb=>?_,w7⟩
    obtain ⟨o,e,d⟩:=T.obj _ _ st5 b hb
    exact (I7.pin (b,o) (List.mem_append_right _ (List.mem_append_right _ (JU hb e)))).2.1
   cases f with
   | next=>obtain ⟨σ7,H7,I7,n7⟩:=q7;exact again I7 n7
   | cont=>obtain ⟨σ7,H7,I7,n7⟩:=q7;exact again I7 n7
   | brk=>obtain ⟨σ7,H7,I7,q7⟩:=q7;exact ⟨σ7,H7,I7.unpinned,q7⟩
   | ret v=>obtain ⟨x7,σ7,H7,I7,r7,q7⟩:=q7;exact ⟨x7,σ7,H7,I7.unpinned,r7,q7⟩
end
end L2
namespace L2
open PySem PySem.Spec PyProof.Rows
noncomputable abbrev R2:=V->V->Hp->VK->Prop
noncomputable def OpR (X:Cx) (f:Value->Value->Sem Value) (r:R2):Prop:=
 ∀(pins:List (Addr×Obj)) (s:Shared) (σ:St) (H:Hp) (x y:V) (v u:Value) (Q:VK),Inv X pins σ H s->RelV x v->RelV y u->r x y H Q->
   wpAny (model X.prog X.w) X.A (f v u) (EP X pins σ Q) X.xe s
noncomputable def UnR (X:Cx) (f:Value->Sem Value) (r:V->Hp->VK->Prop):Prop:=
 ∀(pins:List (Addr×Obj)) (s:Shared) (σ:St) (H:Hp) (x:V) (v:Value) (Q:VK),Inv X pins σ H s->RelV x v->r x H Q->
   wpAny (model X.prog X.w) X.A (f v) (EP X pins σ Q) X.xe s
noncomputable def CallR (X:Cx) (f:Value) (r:List V->Hp->VK->Prop):Prop:=
 ∀(pins:List (Addr×Obj)) (s:Shared) (σ:St) (H:Hp) (xs:List V) (us:List Value) (Q:VK),Inv X pins σ H s->Vals xs us->r xs H Q->
   wpAny (model X.prog X.w) X.A (call f us) (EP X pins σ Q) X.xe s
noncomputable def tOp (r:R2) (ta tb:TE):TE:=fun σ H Q=>ta σ H fun x H1=>tb σ H1 fun y H2=>r x y H2 Q
noncomputable def tUn (r:V->Hp->VK->Prop) (ta:TE):TE:=fun σ H Q=>ta σ H fun x H1=>r x H1 Q
noncomputable def rI (C:Int->Int->Prop) (g:Int->Int->V):R2:=fun x y H Q=>∃i j,x=.int i/\y=.int j/\C i j/\Q (g i j) H
noncomputable def rI0 (g:Int->Int->V):R2:=fun x y H Q=>∃i j,x=.int i/\y=.int j/\Q (g i j) H
noncomputable def rU (g:Int->V):V->Hp->VK->Prop:=fun x H Q=>∃i,x=.int i/\Q (g i) H
section
variable {X:Cx} {a b c:Expr} {ta tb tc:TE} {pos:Pos}
theorem jlw (ha:PE X a ta) (hb:PE X b tb) {pins:List (Addr×Obj)} {s:Shared} {σ:St} {H:Hp} {R:V->V->Hp->Prop} (I:Inv X pins σ H s)
 (h:ta σ H fun x H1=>tb σ H1 fun y H2=>R x y H2) {Q:Value->Shared->Prop} {f:Value->Value->Sem Value}
 (hf:∀v u s2 x y H2,Inv X pins σ H2 s2->RelV x v->RelV y u->R x y H2->wpAny (model X.prog X.w) X.A (f v u) Q X.xe s2) :
 wpAny (model X.prog X.w) X.A (eval a X.env) (fun v s₁=>wpAny (model X.prog X.w) X.A (eval b X.env) (fun u s₂=>wpAny (model X.prog X.w) X.A (f v u) Q X.xe s₂) X.xe s₁) X.xe s:=by
 refine qr (ha pins s σ H _ I h) fun v s1 ⟨x,H1,I1,r1,q1⟩=>?_
 refine qr (hb pins s1 σ H1 _ I1 q1) fun u s2 ⟨y,H2,I2,r2,q2⟩=>?_
 exact hf v u s2 x y H2 I2 r1 r2 q2
theorem jkm {op:Operator} {r:R2} (ho:OpR X (binaryOp op) r) (ha:PE X a ta) (hb:PE X b tb):PE X (.BinOp a op b pos) (tOp r ta tb):=by
 intro pins s σ H Q I h
 exact wpAny_BinOp (jlw ha hb I h fun v u s2 x y H2 I2 rx ry q=>ho pins s2 σ H2 x y v u Q I2 rx ry q)
theorem jmG {op:UnaryOp} {r:V->Hp->VK->Prop} (ho:UnR X (unaryOp op) r) (ha:PE X a ta):PE X (.UnaryOp op a pos) (tUn r ta):=by
 intro pins s σ H Q I h
 exact UnaryOp_ (qr (ha pins s σ H _ I h) fun v s1 ⟨x,H1,I1,r1,q1⟩=>ho pins s1 σ H1 x v Q I1 r1 q1)
theorem opI {f:Value->Value->Sem Value} {C:Int->Int->Prop} {g:Int->Int->Int}
 (rule:∀(i j:Int) (t u:Tok) (s:Shared) (Q:Value->Shared->Prop) (E:Value->Shared->Prop),C i j->Q (.int (g i j) s.toks) { s with toks:=s.toks+1 }->wpAny (model X.prog X.w) X.A (f (.int i t) (.int j u)) Q E s) :
 OpR X f (rI C fun i j=>.int (g i j)):=by
 intro pins s σ H x y v u Q I rx ry h
 obtain ⟨i,j,rfl,rfl,hc,q⟩:=h
 obtain ⟨t,rfl⟩:=rx
 obtain ⟨t',rfl⟩:=ry
 exact rule i j t t' s _ _ hc ⟨.int (g i j),H,I.tok _,⟨_,rfl⟩,q⟩
theorem jnz {f:Value->Value->Sem Value} {g:Int->Int->Int}
 (rule:∀(i j:Int) (t u:Tok) (s:Shared) (Q:Value->Shared->Prop) (E:Value->Shared->Prop),Q (.int (g i j) s.toks) { s with toks:=s.toks+1 }->wpAny (model X.prog X.w) X.A (f (.int i t) (.int j u)) Q E s) :
 OpR X f (rI0 fun i j=>.int (g i j)):=by
 intro pins s σ H x y v u Q I rx ry h
 obtain ⟨i,j,rfl,rfl,q⟩:=h
 obtain ⟨t,rfl⟩:=rx
 obtain ⟨t',rfl⟩:=ry
 exact rule i j t t' s _ _ ⟨.int (g i j),H,I.tok _,⟨_,rfl⟩,q⟩
theorem jjw {f:Value->Value->Sem Value} {g:Int->Int->Bool}
 (rule:∀(i j:Int) (t u:Tok) (s:Shared) (Q:Value->Shared->Prop) (E:Value->Shared->Prop),Q (.bool (g i j)) s->wpAny (model X.prog X.w) X.A (f (.int i t) (.int j u)) Q E s) :
 OpR X f (rI0 fun i j=>.bl (g i j)):=by
 intro pins s σ H x y v u Q I rx ry h
 obtain ⟨i,j,rfl,rfl,q⟩:=h
 obtain ⟨t,rfl⟩:=rx
 obtain ⟨t',rfl⟩:=ry
 exact rule i j t t' s _ _ ⟨.bl (g i j),H,I,rfl,q⟩
noncomputable def jaN (i j:Int):Prop:=0<=j/\j<=1000000/\i.natAbs<2 ^ 64
noncomputable def CMul (i j:Int):Prop:=(-(2 ^ 64)<i/\i<2 ^ 64)\/(-(2 ^ 64)<j/\j<2 ^ 64)
theorem CMul.ok {i j:Int} (h:CMul i j):IntMulOk i j:=by
 rcases h with ⟨h1,h2⟩ | ⟨h1,h2⟩
 . exact .of_left (intBits_le_64 h1 h2)
 . exact .of_right (intBits_le_64 h1 h2)
theorem jlK:OpR X (binaryOp .Add) (rI0 fun i j=>.int (i+j)):=jnz fun _ _ _ _ _ _ _ q=>add_int q
theorem jlM:OpR X (binaryOp .Sub) (rI0 fun i j=>.int (i-j)):=jnz fun _ _ _ _ _ _ _ q=>sub_int q
theorem jod:OpR X (binaryOp .Mult) (rI CMul fun i j=>.int (i*j)):=opI fun _ _ _ _ _ _ _ hc q=>mul_int q hc.ok
theorem jmj:OpR X (binaryOp .Mod) (rI (fun _ j=>0<j) fun i j=>.int (i%j)):=opI fun i j _ _ _ _ _ hc q=>by
 have h1:(0:Int)<j:=hc
 exact mod_int' (by omega) (by rw [Int.fmod_eq_emod_of_nonneg i (by omega)];exact q)
theorem jlk:OpR X (binaryOp .Pow) (rI jaN fun i j=>.int (i ^ j.toNat)):=opI fun _ _ _ _ _ _ _ hc q=>pow_int_small hc.1 hc.2.1 hc.2.2 q
theorem unI {f:Value->Sem Value} {g:Int->Int}
 (rule:∀(i:Int) (t:Tok) (s:Shared) (Q:Value->Shared->Prop) (E:Value->Shared->Prop),Q (.int (g i) s.toks) { s with toks:=s.toks+1 }->wpAny (model X.prog X.w) X.A (f (.int i t)) Q E s) :
 UnR X f (rU fun i=>.int (g i)):=by
 intro pins s σ H x v Q I rx h
 obtain ⟨i,rfl,q⟩:=h
 obtain ⟨t,rfl⟩:=rx
 exact rule i t s _ _ ⟨.int (g i),H,I.tok _,⟨_,rfl⟩,q⟩
theorem jle:UnR X (unaryOp .USub) (rU fun i=>.int (-i)):=unI fun _ _ _ _ _ q=>neg_int q
end
noncomputable def jlg:V->V->Bool
 | .non,.non=>true | .non,.int _=>true | .int _,.non=>true | .non,.bl _=>true | .bl _,.non=>true | .non,.str _=>true | .str _,.non=>true
 | .int _,.int _=>true | .bl _,.bl _=>true | .str _,.str _=>true | .byt _,.byt _=>true
 | .int _,.str _=>true | .str _,.int _=>true | .bl _,.str _=>true | .str _,.bl _=>true
 | _,_=>false
noncomputable def rEq:R2:=fun x y H Q=>jlg x y=true/\Q (.bl (decide (x=y))) H
noncomputable def rNe:R2:=fun x y H Q=>jlg x y=true/\Q (.bl (!decide (x=y))) H
theorem jft {i j:Int}:decide (V.int i=V.int j)=(i == j):=by
 rw [Bool.eq_iff_iff]
 simp
theorem jhK {i j:Bool}:decide (V.bl i=V.bl j)=(i == j):=by
 rw [Bool.eq_iff_iff]
 simp
theorem jfQ {i j:Str}:decide (V.str i=V.str j)=(i == j):=by
 rw [Bool.eq_iff_iff]
 simp
theorem jfP {i j:Array UInt8}:decide (V.byt i=V.byt j)=(i.toList == j.toList):=by
 rw [Bool.eq_iff_iff]
 cases i
 cases j
 simp
section
variable {X:Cx} {a b c:Expr} {ta tb tc:TE} {pos:Pos}
theorem jR {pins:List (Addr×Obj)} {σ:St} {H:Hp} {s:Shared} {Q:VK} {k k':Bool} (I:Inv X pins σ H s) (q:Q (.bl k) H) (e:k=k'):EP X pins σ Q (.bool k') s:=by
 subst e
 exact ⟨.bl k,H,I,rfl,q⟩
theorem jmW:OpR X (compareOp .Eq) rEq:=by
 intro pins s σ H x y v u Q I rx ry h
 obtain ⟨hs,q⟩:=h
 cases x with
 | non=>
   cases rx
   cases y with
   | non=>cases ry;exact PySem.EqNone.eq_none_none (jR I q (by simp))
   | bl j=>cases ry;exact PySem.EqNone.eq_none_bool (jR I q (by simp))
   | int j=>obtain ⟨t',rfl⟩:=ry;exact PySem.EqNone.eq_none_int (jR I q (by simp))
   | str j=>obtain ⟨t',rfl⟩:=ry;exact PySem.EqNone.eq_none_str (jR I q (by simp))
   | _=>exact absurd (show false=true from hs) Bool.false_ne_true
 | bl i=>
   cases rx
   cases y with
   | non=>cases ry;exact PySem.EqNone.eq_bool_none (jR I q (by simp))
   | bl j=>cases ry;exact eq_bool (jR I q jhK)
   | str j=>obtain ⟨t',rfl⟩:=ry;exact PySem.EqMixed.eq_bool_str (jR I q (by simp))
   | _=>exact absurd (show false=true from hs) Bool.false_ne_true
 | int i=>
   obtain ⟨t,rfl⟩:=rx
   cases y with
   | non=>cases ry;exact PySem.EqNone.eq_int_none (jR I q (by simp))
   | int j=>obtain ⟨t',rfl⟩:=ry;exact eq_int (jR I q jft)
   | str j=>obtain ⟨t',rfl⟩:=ry;exact PySem.EqMixed.eq_int_str (jR I q (by simp))
   | _=>exact absurd (show false=true from hs) Bool.false_ne_true
 | str i=>
   obtain ⟨t,rfl⟩:=rx
   cases y with
   | non=>cases ry;exact PySem.EqNone.eq_str_none (jR I q (by simp))
   | bl j=>cases ry;exact PySem.EqMixed.eq_str_bool (jR I q (by simp))
   | int j=>obtain ⟨t',rfl⟩:=ry;exact PySem.EqMixed.eq_str_int (jR I q (by simp))
   | str j=>obtain ⟨t',rfl⟩:=ry;exact eq_str (jR I q jfQ)
   | _=>exact absurd (show false=true from hs) Bool.false_ne_true
 | byt i=>
   obtain ⟨t,rfl⟩:=rx
   cases y with
   | byt j=>obtain ⟨t',rfl⟩:=ry;exact PySem.W.eq_bytes (jR I q jfP)
   | _=>exact absurd (show false=true from hs) Bool.false_ne_true
 | _=>cases y <;> exact absurd (show false=true from hs) Bool.false_ne_true
theorem jnp:OpR X (compareOp .NotEq) rNe:=by
 intro pins s σ H x y v u Q I rx ry h
 obtain ⟨hs,q⟩:=h
 cases x with
 | non=>
   cases rx
   cases y with
   | non=>cases ry;exact PySem.EqNone.ne_none_none (jR I q (by simp))
   | bl j=>cases ry;exact PySem.EqNone.ne_none_bool (jR I q (by simp))
   | int j=>obtain ⟨t',rfl⟩:=ry;exact PySem.EqNone.ne_none_int (jR I q (by simp))
   | str j=>obtain ⟨t',rfl⟩:=ry;exact PySem.EqNone.ne_none_str (jR I q (by simp))
   | _=>exact absurd (show false=true from hs) Bool.false_ne_true
 | bl i=>
   cases rx
   cases y with
   | non=>cases ry;exact PySem.EqNone.ne_bool_none (jR I q (by simp))
   | bl j=>cases ry;exact ne_bool (jR I q (congrArg not jhK))
   | str j=>obtain ⟨t',rfl⟩:=ry;exact PySem.EqMixed.ne_bool_str (jR I q (by simp))
   | _=>exact absurd (show false=true from hs) Bool.false_ne_true
 | int i=>
   obtain ⟨t,rfl⟩:=rx
   cases y with
   | non=>cases ry;exact PySem.EqNone.ne_int_none (jR I q (by simp))
   | int j=>obtain ⟨t',rfl⟩:=ry;exact ne_int (jR I q (congrArg not jft))
   | str j=>obtain ⟨t',rfl⟩:=ry;exact PySem.EqMixed.ne_int_str (jR I q (by simp))
   | _=>exact absurd (show false=true from hs) Bool.false_ne_true
 | str i=>
   obtain ⟨t,rfl⟩:=rx
   cases y with
   | non=>cases ry;exact PySem.EqNone.ne_str_none (jR I q (by simp))
   | bl j=>cases ry;exact PySem.EqMixed.ne_str_bool (jR I q (by simp))
   | int j=>obtain ⟨t',rfl⟩:=ry;exact PySem.EqMixed.ne_str_int (jR I q (by simp))
   | str j=>obtain ⟨t',rfl⟩:=ry;exact ne_str (jR I q (congrArg not jfQ))
   | _=>exact absurd (show false=true from hs) Bool.false_ne_true
 | byt i=>
   obtain ⟨t,rfl⟩:=rx
   cases y with
   | byt j=>obtain ⟨t',rfl⟩:=ry;exact PySem.W.ne_bytes (jR I q (congrArg not jfP))
   | _=>exact absurd (show false=true from hs) Bool.false_ne_true
 | _=>cases y <;> exact absurd (show false=true from hs) Bool.false_ne_true
theorem jnC:OpR X (compareOp .Lt) (rI0 fun i j=>.bl (decide (i<j))):=jjw fun _ _ _ _ _ _ _ q=>lt_int q
theorem jnH:OpR X (compareOp .LtE) (rI0 fun i j=>.bl (decide (i<=j))):=jjw fun _ _ _ _ _ _ _ q=>le_int q
theorem jnm:OpR X (compareOp .Gt) (rI0 fun i j=>.bl (decide (j<i))):=jjw fun _ _ _ _ _ _ _ q=>gt_int q
theorem jmI:OpR X (compareOp .GtE) (rI0 fun i j=>.bl (decide (j<=i))):=jjw fun _ _ _ _ _ _ _ q=>ge_int q
theorem nomark (b:Expr) {op:CmpOp} (h:autoParam (op≠.In) QA.a1._auto_1) (h2:autoParam (op≠.NotIn) QA.a1._auto_1):behindInMarks op b=false:=by
 have e1:(op == CmpOp.In)=false:=by cases op <;> first | rfl | exact absurd rfl h
 have e2:(op == CmpOp.NotIn)=false:=by cases op <;> first | rfl | exact absurd rfl h2
 cases b <;> simp [behindInMarks,e1,e2]
theorem jjJ {op:CmpOp} {r:R2} (ho:OpR X (compareOp op) r) (ha:PE X a ta) (hb:PE X b tb) (hm:behindInMarks op b=false):PE X (.Compare a [op] [b] pos) (tOp r ta tb):=by
 intro pins s σ H Q I h
 exact wpAny_Compare1 (jlw ha hb I h fun v u s2 x y H2 I2 rx ry q=>ho pins s2 σ H2 x y v u Q I2 rx ry q) hm
noncomputable def jku (t:TE):TT:=fun σ H Q=>t σ H fun x H'=>∃k,x=.bl k/\Q k H'
theorem jjN {op:CmpOp} {r:R2} (ho:OpR X (compareOp op) r) (ha:PE X a ta) (hb:PE X b tb) (hm:behindInMarks op b=false):PT X (.Compare a [op] [b] pos) (jku (tOp r ta tb)):=by
 intro pins s σ H Q I h
 refine wpAny_isTrue_Compare1 (qr (ha pins s σ H _ I h) fun v s1 ⟨x,H1,I1,r1,q1⟩=>qr (hb pins s1 σ H1 _ I1 q1) fun u s2 ⟨y,H2,I2,r2,q2⟩=>
  qr (ho pins s2 σ H2 x y v u _ I2 r1 r2 q2) fun c s3 ⟨z,H3,I3,r3,k,e,q3⟩=>?_) hm
 subst e
 cases r3
 exact wpAny_truthy_bool ⟨H3,I3,q3⟩
noncomputable def jhz (r r':R2) (ta tb tc:TE):TE:=fun σ H Q=>ta σ H fun x H1=>tb σ H1 fun y H2=>r x y H2 fun z H3=>∃k,z=.bl k /\
 (if k=true then tc σ H3 fun w' H4=>r' y w' H4 Q else Q (.bl false) H3)
theorem jh2 {op op':CmpOp} {r r':R2} (ho:OpR X (compareOp op) r) (ho':OpR X (compareOp op') r') (ha:PE X a ta) (hb:PE X b tb) (hc:PE X c tc)
 (hm:autoParam (lastMarks [op,op'] [b,c]=false) QA.a5._auto_1):PE X (.Compare a [op,op'] [b,c] pos) (jhz r r' ta tb tc):=by
 intro pins s σ H Q I h
 refine Compare_chain (qr (ha pins s σ H _ I h) fun v s1 ⟨x,H1,I1,r1,q1⟩=>chain_link (qr (hb pins s1 σ H1 _ I1 q1) fun u s2 ⟨y,H2,I2,r2,q2⟩=>
  qr (ho pins s2 σ H2 x y v u _ I2 r1 r2 q2) fun d s3 ⟨z,H3,I3,r3,k,e,q3⟩=>?_)) hm
 subst e
 cases r3
 refine wpAny_truthy_bool ?_
 cases k with
 | false=>exact ite_ff ⟨.bl false,H3,I3,rfl,q3⟩
 | true=>exact ite_tt (chain_last (qr (hc pins s3 σ H3 _ I3 q3) fun w' s4 ⟨z',H4,I4,r4,q4⟩=>ho' pins s4 σ H4 y z' u w' Q I4 r2 r4 q4))
theorem Z8:(sizeLine:Nat)<2 ^ 63:=by rw [sizeLine_eq];decide
theorem jcm {x:V} {us:List Value} (r:Vals [x] us):∃u,us=[u]/\RelV x u:=by
 cases r with
 | cons r1 r2=>cases r2;exact ⟨_,rfl,r1⟩
theorem jh1 {x y:V} {us:List Value} (r:Vals [x,y] us):∃u w',us=[u,w']/\RelV x u/\RelV y w':=by
 cases r with
 | cons r1 r2=>
   cases r2 with
   | cons r3 r4=>cases r4;exact ⟨_,_,rfl,r1,r3⟩
theorem jhe (hc:X.calm=true):CallR X (.builtin "max") (fun xs H Q => ∃ i j, xs = [.int i, .int j] ∧ Q (.int (if j > i then j else i)) H) := by
 intro pins s σ H xs us Q I r h
 obtain ⟨i,j,rfl,q⟩:=h
 obtain ⟨u,w',rfl,⟨t,rfl⟩,⟨t',rfl⟩⟩:=jh1 r
 refine max_two_ints (I.ok.hd hc) fun h' tk k=>⟨_,H,I.kept k,?_,q⟩
 by_cases hj:j>i
 . rw [if_pos hj,if_pos hj];exact ⟨_,rfl⟩
 . rw [if_neg hj,if_neg hj];exact ⟨_,rfl⟩
theorem jg8 (hc:X.calm=true):CallR X (.builtin "min") (fun xs H Q => ∃ i j, xs = [.int i, .int j] ∧ Q (.int (if j < i then j else i)) H) := by
 intro pins s σ H xs us Q I r h
 obtain ⟨i,j,rfl,q⟩:=h
 obtain ⟨u,w',rfl,⟨t,rfl⟩,⟨t',rfl⟩⟩:=jh1 r
 refine min_two_ints (I.ok.hd hc) fun h' tk k=>⟨_,H,I.kept k,?_,q⟩
 by_cases hj:j<i
 . rw [if_pos hj,if_pos hj];exact ⟨_,rfl⟩
 . rw [if_neg hj,if_neg hj];exact ⟨_,rfl⟩
theorem jgz:CallR X (.type "int") (fun xs H Q => (∃ i, xs = [.int i] ∧ Q (.int i) H) ∨ ∃ k, xs = [.bl k] ∧ Q (.int (if k then 1 else 0)) H) := by
 intro pins s σ H xs us Q I r h
 rcases h with ⟨i,rfl,q⟩ | ⟨k,rfl,q⟩
 . obtain ⟨u,rfl,t,rfl⟩:=jcm r
   exact call_int_int ⟨.int i,H,I,⟨_,rfl⟩,q⟩
 . obtain ⟨u,rfl,r1⟩:=jcm r
   cases r1
   exact call_int_bool ⟨.int (if k then 1 else 0),H,I.tok _,⟨_,rfl⟩,q⟩
end
end L2
namespace L2
open PySem PySem.Spec PyProof.Rows
structure ObjM (h:Heap) (x dx C:Addr) (mA:Str->Option Value):Prop where
 obj:h.get? x=some (PySem.W.instObj C dx)
 ns:h.Ns1 dx mA
 ne:dx≠x
theorem jgF {h:Heap} {dx:Addr} {mA:Str->Option Value} (n:h.Ns1 dx mA):∃od,h.get? dx=some od/\∀name,PySem.W.lookIn name od=some (mA name):=by
 obtain ⟨o,es,ep,ho,hd,hk,_,hm⟩:=n
 refine ⟨o,ho,fun name=>?_⟩
 have e:=hm name
 unfold nsFind findBy at e
 rw [<-Array.find?_toList] at e
 unfold PySem.W.lookIn
 rw [hd]
 dsimp only
 split
 . rename_i y q
   rw [q] at e
   exact congrArg some e
 . rename_i q
   rw [q] at e
   have a:es.toList.any (·.refKey)=false:=by
    rw [List.any_eq_false]
    intro y hy
    obtain ⟨z,t,hkey⟩:=hk y (Array.mem_toList_iff.mp hy)
    simp [DictEntry.refKey,hkey]
   have a':¬es.toList.any (·.refKey)=true:=by rw [a];exact Bool.false_ne_true
   rw [if_neg a']
   exact congrArg some e
theorem ObjM.look {h:Heap} {x dx C:Addr} {mA:Str->Option Value} (I:ObjM h x dx C mA):∃od,PySem.W.InstAt h x (PySem.W.instObj C dx) C (some od)/\∀name,PySem.W.lookIn name od=some (mA name):=
 let ⟨od,ho,hl⟩:=jgF I.ns
 ⟨od,⟨I.obj,rfl,rfl,ho⟩,hl⟩
section
variable {prog:Program} {w:World} {A:Around} {E:Value->Shared->Prop} {s:Shared} {K:PySem.W.Frag} {x dx C f:Addr} {mA:Str->Option Value} {name:Str} {v:Value}
end
section
variable {P:Program} {w:World} {H H':Hp} {h h':Heap} {a C dx:Addr} {fs fs':List (Str×V)}
theorem jkc (hok:HOk P w H h) (e:H a=some (.ins C dx fs)):∃mA,ObjM h a dx C mA/\(∀f,RelO (fs.lookup f) (mA f))/\PySem.Within mA (fs.map (·.1))/\fs.length<=1000/\H dx=some (.own a):=by
 obtain ⟨d,z,ne,ob,mA,n,r,q⟩:=(show ObjOk P w H h a (.ins C dx fs) from hok a _ e)
 exact ⟨mA,⟨ob,n,ne⟩,r,q,z,d⟩
end
structure Cls (K:PySem.W.Frag) (C:Addr):Prop where
 pg:PySem.W.plainGet K C Str.empty=true
 hd:PySem.W.hasDictIn K C=true
 po:PySem.W.plainOver K C=true
 sa:PySem.W.findIn K (.ref C) "__setattr__" = some (some (.builtin "object.__setattr__"))
theorem Cls.get {K:PySem.W.Frag} {C:Addr} (c:Cls K C) (f:Str):PySem.W.plainGet K C f=true:=c.pg
section
variable {X:Cx} {pins:List (Addr×Obj)} {σ:St} {H:Hp} {s:Shared} {a C dx:Addr} {fs:List (Str×V)} {f:Str} {v:V} {A:Around} {E:Value->Shared->Prop}
end
section
variable {X:Cx} {o e value:Expr} {f:Str} {pos pos' tpos:Pos} {ta tv:TE}
end
section
variable {X:Cx} {pins:List (Addr×Obj)} {σ:St} {H:Hp} {s:Shared} {A:Around} {E:Value->Shared->Prop} {Q:Value->Shared->Prop} {c:Value} {b:Bool}
inductive TyOf (K:PySem.W.Frag) (H:Hp):V->Value->Prop where
 | non:TyOf K H .non (.type "NoneType")
 | bl (x:Bool):TyOf K H (.bl x) (.type "bool")
 | int (i:Int):TyOf K H (.int i) (.type "int")
 | str (x:Str):TyOf K H (.str x) (.type "str")
 | flt (x:UInt64):TyOf K H (.flt x) (.type "float")
 | lst {a:Addr} {xs:List V} (e:H a=some (.lst xs)):TyOf K H (.ref a) (.type "list")
 | frz {a:Addr} {o:Obj} {xs:List V} (e:H a=some (.frz o (.lst xs))):TyOf K H (.ref a) (.type "list")
 | tup {a:Addr} {xs:List V} (e:H a=some (.tup xs)):TyOf K H (.ref a) (.type "tuple")
 | dK {a:Addr} {kvs:List (zi×V)} (e:H a=some (.dK kvs)):TyOf K H (.ref a) (.type "dict")
 | dT {a:Addr} {kvs:List (List zi×V)} (e:H a=some (.dT kvs)):TyOf K H (.ref a) (.type "dict")
 | ins {a C dx:Addr} {fs:List (Str×V)} (e:H a=some (.ins C dx fs)) (cl:Cls K C) (ha:PySem.W.findIn K (.ref C) "__class__" = some (some (.builtin "object.__class__")))
  (hn:PySem.W.specialIn K (.builtin "object.__class__") "__get__" = some (some (.builtin "getset_descriptor.__get__"))) (htk : PySem.W.takesIn K (.builtin "object.__class__") = some true)
  (hm:PySem.W.mroIn K C (.type "object") = some true) : TyOf K H (.ref a) (.ref C)
theorem jhh {x:V} {u t:Value} (I:Inv X pins σ H s) (rx:RelV x u) (ty:TyOf X.K H x t) (e:PySem.W.kitOne X.K t c=some b) (h:∀tk,Q (.bool b) { s with toks:=tk }) :
 wpAny (model X.prog X.w) A (call (.builtin "isinstance") [u, c]) Q E s := by
 cases ty with
 | non=>cases (show u=Value.none from rx);exact PySem.W.kia_one PySem.W.kitx_none I.kIn True.intro e (fun z=>nomatch z) h
 | bl y=>cases (show u=Value.bool y from rx);exact PySem.W.kia_one PySem.W.kitx_bool I.kIn True.intro e (fun z=>nomatch z) h
 | int i=>obtain ⟨t,q⟩:=(show ∃t,u=Value.int i t from rx);cases q;exact PySem.W.kia_one PySem.W.kitx_int I.kIn True.intro e (fun z=>nomatch z) h
 | str y=>obtain ⟨t,q⟩:=(show ∃t,u=Value.str y t from rx);cases q;exact PySem.W.kia_one PySem.W.kitx_str I.kIn True.intro e (fun z=>nomatch z) h
 | flt y=>obtain ⟨t,q⟩:=(show ∃t,u=Value.float y t from rx);cases q;exact PySem.W.kia_one PySem.W.kitx_float I.kIn True.intro e (fun z=>nomatch z) h
 | @lst a xs ea=>
   cases (show u=Value.ref a from rx)
   obtain ⟨_,_,n,_,h1⟩:=(show ObjOk X.prog X.w H s.heap a (.lst xs) from I.hok a _ ea)
   exact PySem.W.kia_one PySem.W.kitx_list I.kIn ⟨_,h1,rfl⟩ e (fun z=>nomatch z) h
 | @frz a ob xs ea=>
   cases (show u=Value.ref a from rx)
   obtain ⟨_,_,_,n,_,h1⟩:=(show ObjOk X.prog X.w H s.heap a (.frz ob (.lst xs)) from I.hok a _ ea)
   exact PySem.W.kia_one PySem.W.kitx_list I.kIn ⟨_,h1,rfl⟩ e (fun z=>nomatch z) h
 | @tup a xs ea=>
   cases (show u=Value.ref a from rx)
   obtain ⟨_,_,_,p⟩:=(show ObjOk X.prog X.w H s.heap a (.tup xs) from I.hok a _ ea)
   obtain ⟨o,h1,h2,_⟩:=p
   exact PySem.W.kia_one PySem.W.kitx_tuple I.kIn ⟨o,h1,h2⟩ e (fun z=>nomatch z) h
 | @dK a kvs ea=>
   cases (show u=Value.ref a from rx)
   obtain ⟨_,_,vs,_,p⟩:=(show ObjOk X.prog X.w H s.heap a (.dK kvs) from I.hok a _ ea)
   obtain ⟨o,es,ep,h1,h2,_⟩:=p
   exact PySem.W.kia_one PySem.W.kitx_dict I.kIn ⟨o,h1,h2.1⟩ e (fun z=>nomatch z) h
 | @dT a kvs ea=>
   cases (show u=Value.ref a from rx)
   obtain ⟨_,_,xs,_,o,es,ep,h1,h2,_⟩:=(show ObjOk X.prog X.w H s.heap a (.dT kvs) from I.hok a _ ea)
   exact PySem.W.kia_one PySem.W.kitx_dict I.kIn ⟨o,h1,h2.1⟩ e (fun z=>nomatch z) h
 | @ins a C dx fs ea cl ha hn htk hm=>
   cases (show u=Value.ref a from rx)
   obtain ⟨mA,O,_⟩:=jkc I.hok ea
   obtain ⟨od,J,_⟩:=O.look
   exact PySem.W.kia_one (PySem.W.kitx_own (cl.get _) cl.hd ha hn htk hm) I.kIn J e (fun z=>nomatch z) h
end
end L2
namespace L2
open PySem PySem.Spec PyProof.Rows
structure Room (k:Nat) (A:Around):Prop where
 hd:A.handled=none
 dp:A.depth+3*k+5<recursionLimit
 un:A.units+16*k+200<cLine
theorem Room.mono {j k:Nat} {A:Around} (r:Room k A) (h:j<=k):Room j A:=⟨r.hd,by have:=r.dp;omega,by have:=r.un;omega⟩
theorem Room.deeper {k:Nat} {A:Around} (r:Room (k+1) A) (env:Env):Room k (A.deeper env):=
 ⟨r.hd,by have:=r.dp;show A.depth+1+3*k+5<_;omega,by have:=r.un;show A.units+3+16*k+200<_;omega⟩
theorem Room.depth {k:Nat} {A:Around} (r:Room k A):A.depth<recursionLimit:=by have:=r.dp;omega
theorem Room.units {k:Nat} {A:Around} (r:Room k A):A.units+64<cLine:=by have:=r.un;omega
noncomputable def jg9:TA:=fun _ H Q=>Q [] H
noncomputable def jbq (ta:TE) (tr:TA):TA:=fun σ H Q=>ta σ H fun x H1=>tr σ H1 fun xs H2=>Q (x::xs) H2
section
variable {X:Cx} {e:Expr} {es:List Expr} {te:TE} {t:TA} {pos:Pos}
theorem jbH:PA X [] jg9:=fun _ _ _ _ H Q I h=>Calls.spliced_nil ⟨[],H,I,.nil,h⟩
theorem QC (ha:PE X e te) (hr:PA X es t) (hs:autoParam (starEach (e::es) X.env=(false,eval e X.env)::starEach es X.env) QA.a4._auto_1):PA X (e::es) (jbq te t):=by
 intro pos pins s σ H Q I h
 rw [hs]
 show wpAny _ _ (spliced ((false,eval e X.env)::backTo pos (starEach es X.env))) _ _ s
 refine Calls.spliced_cons (qr (ha pins s σ H _ I h) fun u s1 ⟨x,H1,I1,r1,q1⟩=>?_)
 exact qr (hr pos pins s1 σ H1 _ I1 q1) fun us s2 ⟨xs,H2,I2,r2,q2⟩=>⟨x::xs,H2,I2,.cons r1 r2,q2⟩
noncomputable def jnj (t:TA):TE:=fun σ H Q=>t σ H fun xs H1=>xs.length<=sizeLine/\∀p,H1 p=none->Q (.ref p) (upd H1 p (.tup xs))
noncomputable def jm1 (t:TA):TE:=fun σ H Q=>t σ H fun xs H1=>xs.length<=sizeLine/\∀p,H1 p=none->Q (.ref p) (upd H1 p (.lst xs))
theorem jlm {x1} (h:PA X es t):PE X (.Tuple es x1 pos) (jnj t):=by
 intro pins s σ H Q I hq
 refine wpAny_Tuple_spliced (qr (h pos pins s σ H _ I hq) fun us s1 ⟨xs,H1,I1,r,z,q⟩=>⟨by rw [<-r.length];exact z,?_⟩)
 have hf:H1 s1.heap.objs.size=none:=I1.hok.fresh (Nat.le_refl _)
 refine ⟨.ref s1.heap.objs.size,upd H1 s1.heap.objs.size (.tup xs),I1.laid (t':=s1.toks) (fun b u e=>Heap.get?_push_of_some _ e) (Nat.le_refl _) ?_,rfl,q _ hf⟩
 exact ⟨z,us,r,⟨_,Heap.get?_push_size _ rfl,rfl,_,rfl⟩⟩
theorem jlT (h:PA X es t):PE X (.List es pos) (jm1 t):=by
 intro pins s σ H Q I hq
 refine wpAny_List_spliced (qr (h pos pins s σ H _ I hq) fun us s1 ⟨xs,H1,I1,r,z,q⟩=>⟨by rw [<-r.length];exact z,?_⟩)
 have hf:H1 s1.heap.objs.size=none:=I1.hok.fresh (Nat.le_refl _)
 refine ⟨.ref s1.heap.objs.size,upd H1 s1.heap.objs.size (.lst xs),I1.laid (t':=s1.toks) (fun b u e=>Heap.get?_push_of_some _ e) (Nat.le_refl _) ?_,rfl,q _ hf⟩
 exact ⟨z,us,0,r,Heap.get?_push_size _ rfl⟩
end
noncomputable abbrev Sp:=List V->Hp->VK->XK->Prop
noncomputable abbrev CXT:=List Env->Hp->Shared->XK->Value->Shared->Prop
structure Env0 (P:Program) (w:World) (K:PySem.W.Frag) (mg:Str->Option Value) (base:Heap) (A:Around) (outer:List Env) (s:Shared) (H:Hp):Prop where
 frames:A.frames=some outer
 mod:Mod K mg base
 bs:∀b o,base.get? b=some o->s.heap.get? b=some o/\H b=none
 bsz:base.objs.size<=s.heap.objs.size
 funs:s.heap.FunFrames base outer
 frf:∀b∈frs outer,H b=none
 hok:HOk P w H s.heap
 bare:AllBare s.gens
noncomputable def CE (outer:List Env) (P:Program) (w:World) (H:Hp) (s:Shared) (Q:VK) (u:Value) (s':Shared):Prop:=
 ∃v H',s'.os=s.os/\AllBare s'.gens/\Un (frs outer) [] H H' s.heap s'.heap/\HOk P w H' s'.heap/\RelV v u/\Q v H'
noncomputable def CR (CX:CXT) (outer:List Env) (P:Program) (w:World) (H:Hp) (s:Shared) (Q:VK) (E:XK) (r:Result) (s':Shared):Prop:=
 match r with
 | .ok (.ret u)=>CE outer P w H s Q u s'
 | .ok _=>False
 | .error e=>CX outer H s E e s'
structure FnOk (P:Program) (w:World) (K:PySem.W.Frag) (mg:Str->Option Value) (base:Heap) (CX:CXT) (k:Nat) (f:Addr) (fd:FuncData) (ps:List Str) (sp:Sp):Prop where
 len:∀vs H Q E,sp vs H Q E->vs.length=ps.length
 run:∀(A:Around) (outer:List Env) (s:Shared) (H:Hp) (args:Args) (us:List Value) (vs:List V) (Q:VK) (E:XK),Room k A->Env0 P w K mg base A outer s H->BindsTo s fd args (ps.zip us)->Vals vs us->sp vs H Q E->
  codeAny (model P w) A (.call (.ref f) args) (CR CX outer P w H s Q E) s
theorem FnOk.mono {P:Program} {w:World} {K:PySem.W.Frag} {mg:Str->Option Value} {base:Heap} {CX:CXT} {j k:Nat} {f:Addr} {fd:FuncData} {ps:List Str} {sp:Sp} (F:FnOk P w K mg base CX j f fd ps sp) (h:j<=k) :
 FnOk P w K mg base CX k f fd ps sp:=⟨F.len,fun A outer s H args us vs Q E hr=>F.run A outer s H args us vs Q E (hr.mono h)⟩
theorem FnOk.imp {P:Program} {w:World} {K:PySem.W.Frag} {mg:Str->Option Value} {base:Heap} {CX:CXT} {k:Nat} {f:Addr} {fd:FuncData} {ps:List Str} {sp sp':Sp} (F:FnOk P w K mg base CX k f fd ps sp)
 (h:∀vs H Q E,sp' vs H Q E->sp vs H Q E):FnOk P w K mg base CX k f fd ps sp':=
 ⟨fun vs H Q E q=>F.len vs H Q E (h _ _ _ _ q),fun A outer s H args us vs Q E hr he hb hv hs=>F.run A outer s H args us vs Q E hr he hb hv (h _ _ _ _ hs)⟩
section
variable {X:Cx} {pins:List (Addr×Obj)} {σ:St} {H:Hp} {s s':Shared}
theorem Inv.env0 (I:Inv X pins σ H s):Env0 X.prog X.w X.K X.mg X.base X.A X.stack s H:=
 ⟨I.ok.frames,I.ok.mod,I.bs,Nat.le_trans I.ok.bsz I.sz,I.stack,I.stkFree,I.hok,I.bare⟩
theorem Inv.after {Q:VK} {u:Value} (I:Inv X pins σ H s) (h:CE X.stack X.prog X.w H s Q u s'):EP X pins σ Q u s':=by
 obtain ⟨v,H',os,bare,un,hok,r,q⟩:=h
 obtain ⟨hh,g,d,t,os'⟩:=s'
 obtain rfl:os'=s.os:=os
 exact ⟨v,H',I.call (h':=hh) (g':=g) (d':=d) (t':=t) (ch:=[]) un hok bare (fun b z=>absurd z (by simp)),r,q⟩
end
noncomputable def jih (sp:Sp) (dvs:List V) (E:XK) (t:TA):TE:=fun σ H Q=>t σ H fun vs H1=>sp (vs++dvs) H1 Q E
noncomputable def Binds (K:PySem.W.Frag) (fd:FuncData) (ps:List Str) (ds:List Value):Prop:=
 ∀(s:Shared) (us:List Value),K.In s.heap->(us++ds).length=ps.length->BindsTo s fd ⟨us,[]⟩ (ps.zip (us++ds))
theorem Binds.all {K:PySem.W.Frag} {fd:FuncData} {ps:List Str} (h:∀us:List Value,us.length=ps.length->bindArgs fd ⟨us,[]⟩=pure (ps.zip us)):Binds K fd ps []:=fun s us _ hl=>by
 rw [List.append_nil] at hl ⊢
 exact .of_eq (h us hl)
noncomputable def jeu (CX:CXT) (X:Cx) (E:XK):Prop:=∀(pins:List (Addr×Obj)) (σ:St) (H:Hp) (s:Shared) (e:Value) (s':Shared),Inv X pins σ H s->CX X.stack H s E e s'->X.xe e s'
section
variable {X:Cx} {CX:CXT} {k:Nat} {f C:Addr} {fd:FuncData} {ps:List Str} {sp:Sp} {dvs:List V} {ds:List Value} {E:XK} {x m:Str} {p pos apos:Pos} {e o:Expr} {es:List Expr} {ta:TE} {t:TA}
theorem jk4 {pins:List (Addr×Obj)} {σ:St} {H:Hp} {s:Shared} {Q:VK} {us:List Value} {vs:List V} (F:FnOk X.prog X.w X.K X.mg X.base CX k f fd ps sp) (hr:Room k X.A) (hb:Binds X.K fd ps ds) (hd:Vals dvs ds) (hx:jeu CX X E)
 (I:Inv X pins σ H s) (r:Vals vs us) (h:sp (vs++dvs) H Q E):wpAny (model X.prog X.w) X.A (call (.ref f) us) (EP X pins σ Q) X.xe s:=by
 have r2:Vals (vs++dvs) (us++ds):=r.append hd
 have hl:(us++ds).length=ps.length:=by rw [<-r2.length];exact F.len _ _ _ _ h
 refine wpAny_call (codeAny_mono (F.run X.A X.stack s H ⟨us,[]⟩ (us++ds) (vs++dvs) Q E hr I.env0 (hb s us I.kIn hl) r2 h) fun r s' hq=>?_)
 cases r with
 | error e=>exact hx pins σ H s e s' I hq
 | ok fl=>
   cases fl with
   | ret u=>exact I.after hq
   | next=>exact False.elim hq
   | brk=>exact False.elim hq
   | cont=>exact False.elim hq
theorem jfB (F:FnOk X.prog X.w X.K X.mg X.base CX k f fd ps sp) (hr:Room k X.A) (hg:Gl X x) (hm:X.mg x=some (.ref f)) (hk:PySem.W.keepIn X.K (.ref f)=true) (hb:Binds X.K fd ps ds) (hd:Vals dvs ds) (hx:jeu CX X E)
 (ha:PA X (e::es) t) (hdb:autoParam ((x == ("__debug__" : Str)) = false) QA.a1._auto_1) (he : autoParam (starEach (e :: es) X.env = (false, eval e X.env) :: starEach es X.env) QA.a4._auto_1) (hpl : autoParam ((backTo pos (starEach es X.env)).any (·.1) = false) QA.a4._auto_1) :
 PE X (.Call (.Name x p) (e::es) [] pos) (jih sp dvs E t):=by
 intro pins s σ H Q I h
 refine wpAny_Call_Name_kw (jfG I hg hm ?_ hdb)
 refine PySem.W.callWith_K (h₀:=X.base) I.ok.mod.kin hk (qr (ha pos pins s σ H _ I h) fun us s1 ⟨vs,H1,I1,r,q⟩=>⟨I1.kIn,?_⟩) he hpl
 exact jk4 F hr hb hd hx I1 r q
end
section
variable {X:Cx} {CX:CXT} {k:Nat} {f C:Addr} {fd:FuncData} {ps ks:List Str} {sp:Sp} {E:XK} {x m:Str} {p pos apos kpos:Pos} {e o:Expr} {es:List Expr} {kws:List Keyword} {te ta:TE} {t tk:TA} {nm:Option Str}
variable {g:List Value->List Value->List Value} {gV:List V->List V->List V}
end
structure FnScope (N P:List Str) (sc:Scope):Prop where
 kind:sc.kind=.function
 co:sc.isCoroutine=false
 gen:sc.isGenerator=false
 nd:N.Nodup
 pre:N.take P.length=P
 par:∀x∈P,sc.names.lookup x=some .local\/sc.names.lookup x=some .cell
 nofree:∀y∈sc.names,y.2≠.free
theorem jcq {kindOf:Str->Option NameKind} {x:Str}:∀{binds:List (Str×Value)} {m:Str->Option Value},(∀v,(x,v)∉binds)->bindL kindOf binds m x=m x
 | [],_,_=>rfl
 | (n,v)::r,m,h=>by
   unfold bindL
   rw [jcq fun w hw=>h w (List.mem_cons_of_mem _ hw)]
   split
   . have:x≠n:=by rintro rfl;exact h v List.mem_cons_self
     simp [this]
   . rfl
theorem jcF {kindOf:Str->Option NameKind} {x:Str}:∀{binds:List (Str×Value)} {m:Str->Option Value},(∀v,(x,v)∉binds)->bindC kindOf binds m x=m x
 | [],_,_=>rfl
 | (n,v)::r,m,h=>by
   unfold bindC
   rw [jcF fun w hw=>h w (List.mem_cons_of_mem _ hw)]
   split
   . rfl
   . have:x≠n:=by rintro rfl;exact h v List.mem_cons_self
     simp [this]
theorem jcj {kindOf:Str->Option NameKind} {x:Str} {v:Value}:∀{P:List Str} {vs:List Value} {i:Nat} {m:Str->Option Value},P.Nodup->P[i]?=some x->vs[i]?=some v->kindOf x=some .local->
 bindL kindOf (P.zip vs) m x=some v
 | [],_,_,_,_,h,_,_=>by simp at h
 | _::_,[],_,_,_,_,h,_=>by simp at h
 | p::P,w::vs,0,m,nd,h1,h2,hk=>by
   simp at h1 h2;subst h1;subst h2
   show bindL kindOf ((p,w)::P.zip vs) m p=_
   unfold bindL
   rw [jcq fun v hv=>(List.nodup_cons.mp nd).1 (List.of_mem_zip hv).1,if_pos hk]
   simp
 | p::P,w::vs,i+1,m,nd,h1,h2,hk=>by
   show bindL kindOf ((p,w)::P.zip vs) m x=_
   unfold bindL
   exact jcj (i:=i) (List.nodup_cons.mp nd).2 (by simpa using h1) (by simpa using h2) hk
theorem jcN {kindOf:Str->Option NameKind} {x:Str} {v:Value}:∀{P:List Str} {vs:List Value} {i:Nat} {m:Str->Option Value},P.Nodup->P[i]?=some x->vs[i]?=some v->kindOf x≠some .local->
 bindC kindOf (P.zip vs) m x=some v
 | [],_,_,_,_,h,_,_=>by simp at h
 | _::_,[],_,_,_,_,h,_=>by simp at h
 | p::P,w::vs,0,m,nd,h1,h2,hk=>by
   simp at h1 h2;subst h1;subst h2
   show bindC kindOf ((p,w)::P.zip vs) m p=_
   unfold bindC
   rw [jcF fun v hv=>(List.nodup_cons.mp nd).1 (List.of_mem_zip hv).1,if_neg hk]
   simp
 | p::P,w::vs,i+1,m,nd,h1,h2,hk=>by
   show bindC kindOf ((p,w)::P.zip vs) m x=_
   unfold bindC
   exact jcN (i:=i) (List.nodup_cons.mp nd).2 (by simpa using h1) (by simpa using h2) hk
noncomputable def QQ (N:List Str) (vs:List V):St:=vs.map some++List.replicate (N.length-vs.length) none
noncomputable def jeP (CX:CXT) (P:Program) (w:World) (K:PySem.W.Frag) (mg:Str->Option Value) (base:Heap) (N:List Str) (qual:Str) (scope:Scope) (f:Addr) (cd:Value) (A:Around) (outer:List Env) (s:Shared) (H:Hp) (E:XK):Cx where
 prog:=P
 w:=w
 K:=K
 mg:=mg
 base:=base
 A:=A.deeper (envOfC qual scope s.heap.objs.size f cd)
 N:=N
 s₀:=s
 H₀:=H
 env:=envOfC qual scope s.heap.objs.size f cd
 outer:=outer
 stack:=envOfC qual scope s.heap.objs.size f cd::outer
 ex:=[]
 calm:=true
 fn:=fun _=>true
 pn:=[]
 xe:=fun e s'=>wpAny (model P w) (A.deeper (envOfC qual scope s.heap.objs.size f cd)) (leaving (envOfC qual scope s.heap.objs.size f cd) e) (fun _ s''=>CX outer H s E e s'') (fun e' s''=>CX outer H s E e' s'') s'
theorem jef {sc:Scope} {n:Nat} {x:Str} (h:sc.names.lookup x=some .cell):∃c,(cellsFrom n sc.names []).lookup x=some c:=by
 have q:=PySem.W.cellsFrom_some sc.names n [] (.inl h)
 exact Option.isSome_iff_exists.mp q
theorem jhf {CX:CXT} {P:Program} {w:World} {K:PySem.W.Frag} {mg:Str->Option Value} {base:Heap} {N ps:List Str} {qual:Str} {scope:Scope} {f:Addr} {cd:Value} {A:Around} {outer:List Env} {s s1:Shared} {H:Hp} {E:XK} {us:List Value} {vs:List V}
 (S:FnScope N ps scope) (hd:A.handled=none) (e0:Env0 P w K mg base A outer s H) (hl:vs.length=ps.length) (r:Vals vs us)
 (x:InCallC s s.heap.objs.size (bindL (envOfC qual scope s.heap.objs.size f cd).kindOf (ps.zip us) fun _=>none) (cellsFrom (s.heap.objs.size+1) scope.names []) (bindC (envOfC qual scope s.heap.objs.size f cd).kindOf (ps.zip us) fun _=>none) s1) :
 Inv (jeP CX P w K mg base N qual scope f cd A outer s H E) [] (QQ N vs) H s1:=by
 have hpl:ps.length<=N.length:=by have:=congrArg List.length S.pre;rw [List.length_take] at this;omega
 obtain ⟨h1,tk,rfl,hk⟩:=x.done
 have noA:∀b:Addr,b∉(jeP CX P w K mg base N qual scope f cd A outer s H E).ex:=fun b z=>absurd (show b∈([]:List Addr) from z) (by simp)
 refine ⟨⟨e0.mod,S.kind,rfl,rfl,Nat.le_refl _,fun y z c h1 h2=>?_,fun y hy=>?_,fun y c _ h=>?_,fun _=>hd,Around.frames_deeper e0.frames,.inr ⟨rfl,rfl⟩,fun b z=>absurd z (noA b),e0.bs,e0.bsz,fun b _ _=>noA b,fun b z=>absurd z (noA b),e0.funs,e0.frf⟩,
  rfl,e0.bare,Un.kept hk,⟨_,x.toInCall.ns,fun i y v h1 h2 h3=>?_⟩,fun y c h=>⟨_,x.cell y c h⟩,e0.hok.fresh (Nat.le_refl _),fun y c h=>?_,fun p hp=>absurd (show p∈([]:List (Addr×Obj)) from hp) (by simp),e0.hok.kept hk,?_⟩
 . exact name_of_addr x.apart (PySem.mem_of_lookup h1) (PySem.mem_of_lookup h2)
 . have hy:scope.names.lookup y=some .cell\/scope.names.lookup y=some .free:=hy
   rcases hy with hy | hy
   . exact jef hy
   . exact absurd rfl (S.nofree _ (PySem.mem_of_lookup hy))
 . exact Nat.le_of_lt (x.above y c (PySem.mem_of_lookup h))
 . have hi:i<vs.length:=by
    unfold QQ at h2
    by_cases hi:i<vs.length
    . exact hi
    . rw [List.getElem?_append_right (by simpa using hi)] at h2
      rw [List.getElem?_replicate] at h2
      split at h2 <;> cases h2
   have ha:vs[i]?=some v:=by
    unfold QQ at h2
    rw [List.getElem?_append_left (by simpa using hi),List.getElem?_map] at h2
    cases e:vs[i]? with
    | none=>rw [e] at h2;cases h2
    | some a=>rw [e] at h2;cases h2;rfl
   obtain ⟨u,hu,rv⟩:=r.get ha
   have hp:ps[i]?=some y:=by
    rw [<-S.pre,List.getElem?_take_of_lt (by omega)];exact h1
   have ndP:ps.Nodup:=by rw [<-S.pre];exact S.nd.sublist (List.take_sublist _ _)
   refine ⟨u,rv,?_⟩
   rcases S.par y (List.mem_of_getElem? hp) with k | k
   . exact .inl ⟨k,jcj ndP hp hu k⟩
   . obtain ⟨c,e⟩:=jef (n:=s.heap.objs.size+1) k
     refine .inr ⟨.inl k,c,e,?_⟩
     have q:=x.cell y c e
     rw [jcN ndP hp hu (by show scope.names.lookup y≠_;rw [k];decide)] at q
     exact q
 . exact e0.hok.fresh (Nat.le_of_lt (x.above y c (PySem.mem_of_lookup h)))
 . unfold QQ
   show _=N.length
   rw [List.length_append,List.length_map,List.length_replicate]
   omega
theorem jnV {CX:CXT} {P:Program} {w:World} {K:PySem.W.Frag} {mg:Str->Option Value} {base:Heap} {k:Nat} {f:Addr} {name qual:Str} {params:Arguments} {body:List Stmt} {scope:Scope} {dV kV doc pm cdv ct oc:Value} {an od:Option Addr}
 {osl:Array (Option Value)} {N ps:List Str} {sp:Sp} (lk:K.lookup f=some ⟨oc,od,.func (PySem.W.fnOf name qual params body scope dV kV doc pm an cdv ct),osl⟩) (hcd:PySem.W.codeIn K cdv qual=true) (S:FnScope N ps scope)
 (len:∀vs H Q E,sp vs H Q E->vs.length=ps.length)
 (hbody:∀(A:Around) (outer:List Env) (s:Shared) (H:Hp) (vs:List V) (Q:VK) (E:XK),Room k (A.deeper (envOfC qual scope s.heap.objs.size f cdv))->sp vs H Q E->
  ∃t,PSs (jeP CX P w K mg base N qual scope f cdv A outer s H E) body t/\t { nx:=fun _ H'=>Q .non H',rt:=Q } (QQ N vs) H) :
 FnOk P w K mg base CX (k+1) f (PySem.W.fnOf name qual params body scope dV kV doc pm an cdv ct) ps sp:=by
 refine ⟨len,fun A outer s H args us vs Q E hr e0 hb r hsp=>?_⟩
 have hl:=len _ _ _ _ hsp
 have KX:K.In s.heap:=e0.mod.kin.keeps fun b o e=>(e0.bs b o e).1
 have lim:s.heap.NoLimit:=e0.mod.nolimit.keeps fun b o e=>(e0.bs b o e).1
 have hkind:∀y∈ps.zip us,scope.names.lookup y.1=some .local\/(scope.names.lookup y.1=some .cell/\((cellsFrom (s.heap.objs.size+1) scope.names []).lookup y.1).isSome=true):=fun ⟨n,v⟩ hy=>by
  rcases S.par n (List.of_mem_zip hy).1 with q | q
  . exact .inl q
  . exact .inr ⟨q,PySem.W.cellsFrom_some _ _ _ (.inl q)⟩
 refine codeAny_call_function hr.depth (KX _ _ lk) rfl S.co S.gen rfl (PySem.W.codeRec_of KX hcd) (hb _ _ _ _ ?_)
 refine wpAny_newFunctionEnv_cells S.kind hkind fun env he s1 x=>?_
 subst he
 refine ⟨lim.keeps x.toInCall.keep,codeAny_func ?_⟩
 obtain ⟨t,ht,hq⟩:=hbody A outer s H vs Q E (hr.deeper _) hsp
 have I:Inv (jeP CX P w K mg base N qual scope f cdv A outer s H E) [] (QQ N vs) H s1:=jhf S hr.hd e0 hl r x
 refine wpAny_mono (ht [] s1 (QQ N vs) H _ I hq) (fun fl s' hs=>?_) fun e s' hs=>hs
 have fin:∀{σ':St} {H':Hp} {v:V} {u:Value},Inv (jeP CX P w K mg base N qual scope f cdv A outer s H E) [] σ' H' s'->RelV v u->Q v H'->CE outer P w H s Q u s':=
  fun {σ' H' v u} J rv q=>⟨v,H',J.os,J.bare,J.base,J.hok,rv,q⟩
 cases fl with
 | ret u=>
   obtain ⟨v,σ',H',J,rv,q⟩:=hs
   exact fin J rv q
 | next=>
   obtain ⟨σ',H',J,q⟩:=hs
   exact fin (v:=V.non) (u:=Value.none) J rfl q
 | brk=>
   obtain ⟨_,_,_,q⟩:=hs
   exact False.elim q
 | cont=>
   obtain ⟨_,_,_,q⟩:=hs
   exact False.elim q
end L2
namespace L2
open PySem PySem.Spec PyProof.Rows
section
variable {X:Cx} {x:Str} {p pos:Pos} {e:Expr} {es:List Expr} {t:TA} {id T:String} {r:List V->Hp->VK->Prop}
noncomputable def tCB (r:List V->Hp->VK->Prop) (t:TA):TE:=fun σ H Q=>t σ H fun vs H1=>r vs H1 Q
theorem Zn (hc:CallR X (.builtin id) r) (hg:Gl X x) (hm:X.mg x=none) (hv:bootBuiltins x=some (.builtin id)) (ha:PA X (e::es) t) (hn:autoParam (x ≠ "__name__") QA.a1._auto_1) (hdb : autoParam ((x == ("__debug__" : Str)) = false) QA.a1._auto_1)
 (he:autoParam (starEach (e::es) X.env=(false,eval e X.env)::starEach es X.env) QA.a4._auto_1) (hpl:autoParam ((backTo pos (starEach es X.env)).any (·.1)=false) QA.a4._auto_1):PE X (.Call (.Name x p) (e::es) [] pos) (tCB r t):=by
 intro pins s σ H Q I h
 refine wpAny_Call_Name_kw (JD I hg hm hv ?_ hn hdb)
 exact PyProof.Rows.callWith_builtin1 (qr (ha pos pins s σ H _ I h) fun us s1 ⟨vs,H1,I1,r1,q1⟩=>hc pins s1 σ H1 vs us Q I1 r1 q1) he hpl
theorem jcs (hc:CallR X (.type T) r) (hg:Gl X x) (hm:X.mg x=none) (hv:bootBuiltins x=some (.type T)) (ha:PA X (e::es) t) (hn:autoParam (x ≠ "__name__") QA.a1._auto_1) (hdb : autoParam ((x == ("__debug__" : Str)) = false) QA.a1._auto_1)
 (he:autoParam (starEach (e::es) X.env=(false,eval e X.env)::starEach es X.env) QA.a4._auto_1) (hpl:autoParam ((backTo pos (starEach es X.env)).any (·.1)=false) QA.a4._auto_1):PE X (.Call (.Name x p) (e::es) [] pos) (tCB r t):=by
 intro pins s σ H Q I h
 refine wpAny_Call_Name_kw (JD I hg hm hv ?_ hn hdb)
 exact PyProof.Rows.callWith_type1 (qr (ha pos pins s σ H _ I h) fun us s1 ⟨vs,H1,I1,r1,q1⟩=>hc pins s1 σ H1 vs us Q I1 r1 q1) he hpl
end
end L2
namespace HT
open PySem PyProof.Rows
section
open PySem.SeqAt
open PySem.AutoSeq1 (wpAny_loadPart')
open PySem.MeetsSeq PySem.MeetsSeq2 PySem.MeetsSeq3
end
section
variable {prog:Program} {w:World} {A:Around} {E:Value->Shared->Prop} {s:Shared}
noncomputable def sIx (n d:Nat):Option Int->Nat
 | none=>d
 | some v=>if v<0 then (v+(n:Int)).toNat else min v.toNat n
theorem sIx_none (n d:Nat):sIx n d none=d:=rfl
theorem sIx_nat (n d k:Nat):sIx n d (some (k:Int))=min k n:=by
 show (if (k:Int)<0 then ((k:Int)+(n:Int)).toNat else min (k:Int).toNat n)=min k n
 rw [if_neg (by omega),Int.toNat_natCast]
end
end HT
namespace L2
open PySem PySem.Spec PyProof.Rows
noncomputable abbrev TO:=St->Hp->(Option Int->Hp->Prop)->Prop
noncomputable def PO (X:Cx) (e:Option Expr) (t:TO):Prop:=
 ∀(pins:List (Addr×Obj)) (s:Shared) (σ:St) (H:Hp) (Q:Option Int->Hp->Prop),Inv X pins σ H s->t σ H Q->
   wpAny (model X.prog X.w) X.A (evalPart e X.env) (fun u s'=>∃o H',Inv X pins σ H' s'/\IsPart u o/\Q o H') X.xe s
noncomputable def jgf:TO:=fun _ H Q=>Q none H
noncomputable def jkL (t:TE):TO:=fun σ H Q=>t σ H fun x H1=>∃i,x=.int i/\Q (some i) H1
theorem Za {ns:List Int}:∀{us:List Value},Vals (ns.map V.int) us->IntsAre us ns:=by
 induction ns with
 | nil=>intro us r;rw [List.map_nil] at r;cases r;exact .nil
 | cons n ns ih=>
   intro us r
   rw [List.map_cons] at r
   cases r with
   | cons r1 r2=>
     obtain ⟨t,e⟩:=r1
     subst e
     exact .cons n t (ih r2)
section
variable {X:Cx} {e:Expr} {te:TE} {lo hi:Option Expr} {tl th:TO} {pos p2:Pos}
theorem jkd:PO X none jgf:=by
 intro pins s σ H Q I h
 rw [evalPart_none]
 exact wpAny_pure ⟨none,H,I,.none,h⟩
theorem jkk (h:PE X e te):PO X (some e) (jkL te):=by
 intro pins s σ H Q I hw
 rw [evalPart_some]
 refine qr (h pins s σ H _ I hw) fun u s1 ⟨x,H1,I1,r1,q1⟩=>?_
 obtain ⟨i,rfl,q⟩:=q1
 obtain ⟨t,rfl⟩:=r1
 exact ⟨some i,H1,I1,.int i t,q⟩
noncomputable def SlR (X:Cx) (r:V->Option Int->Option Int->Hp->VK->Prop):Prop:=
 ∀(pins:List (Addr×Obj)) (s:Shared) (σ:St) (H:Hp) (x:V) (v vl vu:Value) (lo hi:Option Int) (sl:Addr) (Q:VK),Inv X pins σ H s->RelV x v->s.heap.IsSliceOf sl vl vu .none->IsPart vl lo->IsPart vu hi->r x lo hi H Q->
   ∃T id,typeLookup (.type T) "__getitem__" = pure (some (.builtin id)) ∧ s.TypeIs v T ∧ wpAny (model X.prog X.w) X.A (getItem v (.ref sl)) (EP X pins σ Q) X.xe s
noncomputable def tSl (r:V->Option Int->Option Int->Hp->VK->Prop) (te:TE) (tl th:TO):TE:=fun σ H Q=>te σ H fun x H1=>tl σ H1 fun l H2=>th σ H2 fun u H3=>r x l u H3 Q
theorem jh4 {r:V->Option Int->Option Int->Hp->VK->Prop} (hr:SlR X r) (he:PE X e te) (hl:PO X lo tl) (hu:PO X hi th):PE X (.Subscript e (.Slice lo hi none p2) pos) (tSl r te tl th):=by
 intro pins s σ H Q I h
 refine Subscript_ (qr (he pins s σ H _ I h) fun v s1 ⟨x,H1,I1,r1,q1⟩=>?_)
 refine wpAny_Slice (qr (hl pins s1 σ H1 _ I1 q1) fun vl s2 ⟨l,H2,I2,pl,q2⟩=>qr (hu pins s2 σ H2 _ I2 q2) fun vu s3 ⟨u,H3,I3,pu,q3⟩=>?_)
 rw [evalPart_none]
 refine wpAny_pure ?_
 have I4:Inv X pins σ H3 { s3 with heap:=s3.heap.push { cls:=.type "slice", data := .fields #[vl, vu, .none] } } := I3.kept (t' := s3.toks) fun b ob q => Heap.get?_push_of_some _ q
 obtain ⟨T,id,hT,ht,hg⟩:=hr pins { s3 with heap:=s3.heap.push { cls:=.type "slice", data := .fields #[vl, vu, .none] } } σ H3 x v vl vu l u s3.heap.objs.size Q I4 r1 (Heap.IsSliceOf.new ..) pl pu q3
 show wpAny (model X.prog X.w) X.A (subscriptTail e (.Slice lo hi none p2) v (.ref s3.heap.objs.size)) (EP X pins σ Q) X.xe { s3 with heap:=s3.heap.push { cls:=.type "slice", data := .fields #[vl, vu, .none] } }
 exact tail_any (ops:=[.ref s3.heap.objs.size,v]) ht hT hg (by with_unfolding_all rfl)
noncomputable def jgU (xs:List V) (lo hi:Option Int):List V:=(xs.drop (HT.sIx xs.length 0 lo)).take (HT.sIx xs.length xs.length hi-HT.sIx xs.length 0 lo)
theorem jee (xs:List V) (lo hi:Option Int):(jgU xs lo hi).length<=xs.length:=by
 unfold jgU
 rw [List.length_take,List.length_drop]
 omega
end
end L2
namespace L2
open PySem PySem.Spec PyProof.Rows
noncomputable def ixN (n:Nat) (i:Int):Option Nat:=if 0<=i then (if i<n then some i.toNat else none) else if -(n:Int)<=i then some (i+n).toNat else none
noncomputable def atI {α:Type} (xs:List α) (i:Int):Option α:=(ixN xs.length i).bind fun j=>xs[j]?
theorem jfE {n:Nat} {i:Int} {j:Nat} (h:ixN n i=some j):seqIndex? i n=some j/\j<n /\ -(n:Int)<=i/\i<n:=by
 unfold ixN at h
 by_cases h0:0<=i
 . rw [if_pos h0] at h
   by_cases h1:i<n
   . rw [if_pos h1] at h
     have e:i.toNat=j:=Option.some.inj h
     exact ⟨by rw [seqIndex_of h0 h1,e],by omega,by omega,h1⟩
   . rw [if_neg h1] at h;cases h
 . rw [if_neg h0] at h
   by_cases h1:-(n:Int)<=i
   . rw [if_pos h1] at h
     have e:(i+n).toNat=j:=Option.some.inj h
     exact ⟨by rw [seqIndex_neg (by omega) h1,e],by omega,h1,by omega⟩
   . rw [if_neg h1] at h;cases h
theorem jdf {α:Type} {xs:List α} {i:Int} {v:α} (h:atI xs i=some v):∃j,seqIndex? i xs.length=some j/\xs[j]?=some v/\j<xs.length /\ -(xs.length:Int)<=i/\i<xs.length:=by
 unfold atI at h
 cases e:ixN xs.length i with
 | none=>rw [e] at h;cases h
 | some j=>
   rw [e] at h
   obtain ⟨h1,h2,h3,h4⟩:=jfE e
   exact ⟨j,h1,h,h2,h3,h4⟩
noncomputable def jfI (b:Expr):Prop:=∀o i,subscripted b false o i=operate [o,i] (getItem o i)
noncomputable def IxR (X:Cx) (r:R2):Prop:=
 ∀(value slice:Expr) (pins:List (Addr×Obj)) (s:Shared) (σ:St) (H:Hp) (x y:V) (v u:Value) (Q:VK),Inv X pins σ H s->RelV x v->RelV y u->r x y H Q->
   subscripted slice false v u=operate [v,u] (getItem v u)->wpAny (model X.prog X.w) X.A (subscriptTail value slice v u) (EP X pins σ Q) X.xe s
noncomputable def MtR (X:Cx) (id:String) (r:V->List V->Hp->VK->Prop):Prop:=
 ∀(pins:List (Addr×Obj)) (s:Shared) (σ:St) (H:Hp) (x:V) (xs:List V) (v:Value) (us:List Value) (Q:VK),Inv X pins σ H s->RelV x v->Vals xs us->r x xs H Q->
   wpAny (model X.prog X.w) X.A (call (.builtin id) (v::us)) (EP X pins σ Q) X.xe s
section
variable {X:Cx} {a b:Expr} {ta tb:TE} {pos:Pos}
theorem IxR.or {r r':R2} (h:IxR X r) (h':IxR X r'):IxR X (fun x y H Q=>r x y H Q\/r' x y H Q):=by
 intro value slice pins s σ H x y v u Q I rx ry q hs
 rcases q with q | q
 . exact h value slice pins s σ H x y v u Q I rx ry q hs
 . exact h' value slice pins s σ H x y v u Q I rx ry q hs
theorem jnY {r:R2} (hr:IxR X r) (ha:PE X a ta) (hb:PE X b tb) (hs:jfI b):PE X (.Subscript a b pos) (tOp r ta tb):=by
 intro pins s σ H Q I h
 exact Subscript_ (jlw ha hb I h fun v u s2 x y H2 I2 rx ry q=>hr a b pins s2 σ H2 x y v u Q I2 rx ry q (hs _ _))
noncomputable def jnZ (K:PySem.W.Frag):R2:=fun x y H Q=>∃p xs i v,x=.ref p/\y=.int i/\zB K H p xs/\atI xs i=some v/\Q v H
noncomputable def jmT (K:PySem.W.Frag):R2:=fun x y H Q=>∃p xs i v,x=.ref p/\y=.int i/\SqT K H p xs/\atI xs i=some v/\Q v H
noncomputable def jnv:R2:=fun x y H Q=>∃z i c,x=.str z/\y=.int i/\z.length<=sizeLine/\atI z.cps.toList i=some c/\Q (.str ⟨#[c]⟩) H
theorem ix_list:IxR X (jnZ X.K):=by
 intro value slice pins s σ H x y v u Q I rx ry h hs
 obtain ⟨p,xs,i,z,rfl,rfl,hq,he,q⟩:=h
 cases rx
 obtain ⟨t,rfl⟩:=ry
 obtain ⟨its,r,pl,hz⟩:=I.list hq
 obtain ⟨j,h1,h2,h3,h4,h5⟩:=jdf he
 obtain ⟨w,ew,rw'⟩:=r.get h2
 have hl:=r.length
 have hn:=Z8
 have fin:EP X pins σ Q w s:=⟨z,H,I,rw',q⟩
 by_cases h0:0<=i
 . have hj:i.toNat=j:=by
    rw [seqIndex_of h0 h5] at h1
    exact Option.some.inj h1
   exact item_listR pl.isList h0 (by omega) (by rw [hj];simpa using ew) fin hs
 . have hj:(i+(its.toArray.size:Int)).toNat=j:=by
    rw [seqIndex_neg (by omega) h4] at h1
    rw [List.size_toArray,<- hl]
    exact Option.some.inj h1
   exact subscriptTail_builtinR (x:=w) pl.isList.typeIs slot_list_getitem.lookup
    (wpAny_getItem_list_neg (Q:=fun r s'=>r=w/\EP X pins σ Q r s') pl.isList (by omega) (by rw [List.size_toArray] <;> omega) (by omega) (by rw [hj];simpa using ew) ⟨rfl,fin⟩) hs
theorem ix_tup:IxR X (jmT X.K):=by
 intro value slice pins s σ H x y v u Q I rx ry h hs
 obtain ⟨p,xs,i,z,rfl,rfl,hq,he,q⟩:=h
 cases rx
 obtain ⟨t,rfl⟩:=ry
 obtain ⟨its,r,pl,hz⟩:=I.tuple hq
 obtain ⟨j,h1,h2,h3,h4,h5⟩:=jdf he
 obtain ⟨w,ew,rw'⟩:=r.get h2
 have hl:=r.length
 have hn:=Z8
 have fin:EP X pins σ Q w s:=⟨z,H,I,rw',q⟩
 exact subscriptTail_builtinR (x:=w) pl.typeIs slot_tuple_getitem.lookup
  (getItem_tuple (j:=j) (Q:=fun r s'=>r=w/\EP X pins σ Q r s') pl (by omega) (by omega) (by rw [List.size_toArray,<- hl];exact h1) (by simpa using ew) ⟨rfl,fin⟩) hs
theorem jmb:IxR X jnv:=by
 intro value slice pins s σ H x y v u Q I rx ry h hs
 obtain ⟨z,i,c,rfl,rfl,hz,he,q⟩:=h
 obtain ⟨t,rfl⟩:=rx
 obtain ⟨t',rfl⟩:=ry
 obtain ⟨j,h1,h2,h3,h4,h5⟩:=jdf he
 have hl:z.cps.toList.length=z.length:=by simp [Str.length]
 rw [hl] at h1 h4 h5
 have hn:=Z8
 exact tail_any (typeIs_str s z t) slot_str_getitem.lookup (getItem_str (c:=c) (by
  have e1:decide (i < -(2 ^ 63:Int))=false:=decide_eq_false (by omega)
  have e2:decide (i>=2 ^ 63)=false:=decide_eq_false (by omega)
  rw [e1,e2,Bool.or_false]) (by rw [h1];simpa using h2) ⟨.str ⟨#[c]⟩,H,I.tok _,⟨_,rfl⟩,q⟩) hs
noncomputable def rIx (K:PySem.W.Frag):R2:=fun x y H Q=>jnZ K x y H Q\/jmT K x y H Q\/jnv x y H Q
theorem jmr:IxR X (rIx X.K):=ix_list.or (ix_tup.or jmb)
theorem je8 (its:List Value) (n j:Nat) (u:Value):Obj.mapSeq (·.setIfInBounds j u) { cls:=.type "list", data := .seq its.toArray n } = { cls := .type "list", data := .seq (its.set j u).toArray n } := by
 simp [Obj.mapSeq]
theorem Inv.lst {pins:List (Addr×Obj)} {σ:St} {H:Hp} {s:Shared} {p:Addr} {xs:List V} (I:Inv X pins σ H s) (h:H p=some (.lst xs)) :
 ∃(its:List Value) (n:Nat),Vals xs its ∧ s.heap.get? p=some { cls:=.type "list", data := .seq its.toArray n } ∧ xs.length ≤ sizeLine := by
 obtain ⟨z,its,n,r,e⟩:=I.hok p _ h
 exact ⟨its,n,r,e,z⟩
theorem Inv.lstUpd {pins:List (Addr×Obj)} {σ:St} {H:Hp} {s:Shared} {p:Addr} {xs ys:List V} {its its':List Value} {n n':Nat} {f:Obj->Obj} (I:Inv X pins σ H s) (h:H p=some (.lst xs))
 (ho:s.heap.get? p=some { cls:=.type "list", data := .seq its.toArray n }) (hf : f { cls := .type "list", data := .seq its.toArray n } = { cls := .type "list", data := .seq its'.toArray n' }) (r : Vals ys its') (hz : ys.length ≤ sizeLine) (t : Nat) :
 Inv X pins σ (upd H p (.lst ys)) { s with heap:=s.heap.update p f,toks:=t }:=by
 have e:(s.heap.update p f).get? p=some { cls:=.type "list", data := .seq its'.toArray n' } := by
  rw [Heap.get?_update_self f ho (by rw [hf] <;> rfl),hf]
 refine I.write (x:=p) (e:=p) (by rw [h];trivial) (.inl rfl) (fun b u hb q=>(Heap.get?_update_other _ _ (Ne.symm hb)).trans q) ⟨_,e⟩ ?_
 exact ⟨hz,its',n',r,e⟩
noncomputable def jkI:V->V->V->Hp->(Hp->Prop)->Prop:=fun o i v H Q=>∃p xs k j,o=.ref p/\i=.int k/\H p=some (.lst xs)/\ixN xs.length k=some j/\Q (upd H p (.lst (xs.set j v)))
theorem jin:jnJ X jkI:=by
 intro pins s σ H o i v ov iv u Q I ro ri rv h
 obtain ⟨p,xs,k,j,rfl,rfl,hp,hj,q⟩:=h
 cases ro
 obtain ⟨t,rfl⟩:=ri
 obtain ⟨its,n,r,ho,hz⟩:=I.lst hp
 obtain ⟨h1,h2,h3,h4⟩:=jfE hj
 have hl:=r.length
 have hn:=Z8
 have I':Inv X pins σ (upd H p (.lst (xs.set j v))) { s with heap:=s.heap.update p (Obj.mapSeq (·.setIfInBounds j u)) }:=
  I.lstUpd hp ho (je8 its n j u) (r.set rv j) (by rw [List.length_set];exact hz) s.toks
 by_cases h0:0<=k
 . have hk:k.toNat=j:=by
    rw [seqIndex_of h0 h4] at h1
    exact Option.some.inj h1
   exact PySem.W.ki_setAt ho h0 (by omega) (by rw [List.size_toArray,<- hl];exact h4) (by rw [hk];exact ⟨_,I',q⟩)
 . have hk:(k+(its.toArray.size:Int)).toNat=j:=by
    rw [seqIndex_neg (by omega) h3] at h1
    rw [List.size_toArray,<- hl]
    exact Option.some.inj h1
   exact PySem.W.ki_setBack ho (by omega) (by rw [List.size_toArray,<- hl];exact h3) (by omega) (by rw [hk];exact ⟨_,I',q⟩)
theorem jcX (lo hi:Option Int) (n:Nat):(sliceBounds lo hi none n).1=((HT.sIx n 0 lo:Nat):Int)/\(sliceBounds lo hi none n).2.1=((HT.sIx n n hi:Nat):Int)/\(sliceBounds lo hi none n).2.2=1:=by
 refine ⟨?_,?_,rfl⟩
 . cases lo with
   | none=>simp [sliceBounds,HT.sIx]
   | some i=>
     simp only [sliceBounds,HT.sIx,Option.getD_none,show (1:Int)>0 by decide,if_true]
     by_cases h:i<0
     . simp only [h,if_true] <;> omega
     . simp only [h,if_false] <;> omega
 . cases hi with
   | none=>simp [sliceBounds,HT.sIx]
   | some i=>
     simp only [sliceBounds,HT.sIx,Option.getD_none,show (1:Int)>0 by decide,if_true]
     by_cases h:i<0
     . simp only [h,if_true] <;> omega
     . simp only [h,if_false] <;> omega
theorem jcd (its:List Value) (lo hi:Option Int):slicePick its.toArray lo hi none=((its.drop (HT.sIx its.length 0 lo)).take (HT.sIx its.length its.length hi-HT.sIx its.length 0 lo)).toArray:=by
 obtain ⟨h1,h2,h3⟩:=jcX lo hi its.toArray.size
 unfold slicePick
 rw [h1,h2,h3]
 simp only [sliceRange_one,pick_run,List.size_toArray] <;> rfl
noncomputable def jln (K:PySem.W.Frag):V->Option Int->Option Int->Hp->VK->Prop:=fun x lo hi H Q=>∃a xs,x=.ref a/\zB K H a xs/\∀p,H p=none->Q (.ref p) (upd H p (.lst (jgU xs lo hi)))
theorem jjY:SlR X (jln X.K):=by
 intro pins s σ H x v vl vu lo hi sl Q I rx hs pl pu h
 obtain ⟨a,xs,rfl,hx,q⟩:=h
 cases rx
 obtain ⟨its,r,ht,hz⟩:=I.list hx
 have hlen:=r.length
 refine ⟨"list", _, slot_list_getitem.lookup, ht.isList.typeIs, ?_⟩
 refine wpAny_getItem_list_slice ht.isList hs pl pu .none (by simp) ?_ (by rw [List.size_toArray] <;> omega)
 rw [jcd,<- hlen]
 refine ⟨.ref s.heap.objs.size,_,I.laid (t':=s.toks) (o:=.lst (jgU xs lo hi)) (fun b ob q=>Heap.get?_push_of_some _ q) (Nat.le_refl _) ?_,rfl,q _ (I.hok.fresh (Nat.le_refl _))⟩
 exact ⟨Nat.le_trans (jee xs lo hi) hz,_,0,(r.drop (HT.sIx xs.length 0 lo)).take (HT.sIx xs.length xs.length hi-HT.sIx xs.length 0 lo),Heap.get?_push_size _ rfl⟩
noncomputable def jcG:V->Bool
 | .non=>true
 | .bl _=>true
 | .int _=>true
 | .str _=>true
 | _=>false
noncomputable def eqV:V->V->Bool
 | .non,.non=>true
 | .bl a,.bl b=>a == b
 | .bl a,.int b=>(if a then 1 else 0) == b
 | .int a,.bl b=>a == (if b then 1 else 0)
 | .int a,.int b=>a == b
 | .str a,.str b=>a == b
 | _,_=>false
theorem jhZ {A:Around} {s:Shared} {y x:V} {u v:Value} (ry:RelV y u) (rx:RelV x v) (fy:jcG y=true) (fx:jcG x=true):SeqAt.EqAt A s u v (eqV y x):=by
 cases y with
 | non=>
   cases ry
   cases x with
   | non=>cases rx;exact SeqAt.EqAt.same _
   | bl b=>cases rx;exact SeqAt.EqAt.none_bool b
   | int b=>obtain ⟨t,rfl⟩:=rx;exact SeqAt.EqAt.none_int b t
   | str b=>obtain ⟨t,rfl⟩:=rx;exact SeqAt.EqAt.none_str b t
   | _=>exact absurd (show false=true from fx) Bool.false_ne_true
 | bl a=>
   cases ry
   cases x with
   | non=>cases rx;exact SeqAt.EqAt.bool_none a
   | bl b=>cases rx;exact SeqAt.EqAt.bool_bool a b
   | int b=>obtain ⟨t,rfl⟩:=rx;exact SeqAt.EqAt.bool_int a b t
   | str b=>obtain ⟨t,rfl⟩:=rx;exact SeqAt.EqAt.bool_str a b t
   | _=>exact absurd (show false=true from fx) Bool.false_ne_true
 | int a=>
   obtain ⟨t',rfl⟩:=ry
   cases x with
   | non=>cases rx;exact SeqAt.EqAt.int_none a t'
   | bl b=>cases rx;exact SeqAt.EqAt.int_bool a t' b
   | int b=>obtain ⟨t,rfl⟩:=rx;exact SeqAt.EqAt.int_int a t' b t
   | str b=>obtain ⟨t,rfl⟩:=rx;exact SeqAt.EqAt.int_str a t' b t
   | _=>exact absurd (show false=true from fx) Bool.false_ne_true
 | str a=>
   obtain ⟨t',rfl⟩:=ry
   cases x with
   | non=>cases rx;exact SeqAt.EqAt.str_none a t'
   | bl b=>cases rx;exact SeqAt.EqAt.str_bool a t' b
   | int b=>obtain ⟨t,rfl⟩:=rx;exact SeqAt.EqAt.str_int a t' b t
   | str b=>obtain ⟨t,rfl⟩:=rx;exact SeqAt.EqAt.str_str a t' b t
   | _=>exact absurd (show false=true from fx) Bool.false_ne_true
 | _=>exact absurd (show false=true from fy) Bool.false_ne_true
theorem call_len_seq:CallR X (.builtin "len") (fun xs H Q => ∃ p ys, xs = [.ref p] ∧ (zB X.K H p ys ∨ SqT X.K H p ys) ∧ Q (.int ys.length) H) := by
 intro pins s σ H xs us Q I r h
 obtain ⟨p,ys,rfl,hq,q⟩:=h
 obtain ⟨u,rfl,rx⟩:=jcm r
 cases rx
 have hn:=Z8
 rcases hq with hq | hq
 . obtain ⟨its,r',pl,hz⟩:=I.list hq
   have hlen:=r'.length
   exact Calls.call_len_list pl.isList (by simp only [List.size_toArray] <;> omega) ⟨.int ys.length,H,I.tok _,⟨s.toks+1,by rw [List.size_toArray,hlen]⟩,q⟩
 . obtain ⟨its,r',pl,hz⟩:=I.tuple hq
   have hlen:=r'.length
   exact len_tuple pl (by simp only [List.size_toArray] <;> omega) ⟨.int ys.length,H,I.tok _,⟨s.toks+1,by rw [List.size_toArray,hlen]⟩,q⟩
theorem jc2:CallR X (.builtin "len") (fun xs H Q => ∃ z, xs = [.str z] ∧ z.length ≤ sizeLine ∧ Q (.int z.length) H) := by
 intro pins s σ H xs us Q I r h
 obtain ⟨z,rfl,hz,q⟩:=h
 obtain ⟨u,rfl,t,rfl⟩:=jcm r
 have hn:=Z8
 exact len_str (by omega) ⟨.int z.length,H,I.tok _,⟨_,rfl⟩,q⟩
theorem CallR.or {f:Value} {r r':List V->Hp->VK->Prop} (h:CallR X f r) (h':CallR X f r'):CallR X f (fun xs H Q=>r xs H Q\/r' xs H Q):=by
 intro pins s σ H xs us Q I rs q
 rcases q with q | q
 . exact h pins s σ H xs us Q I rs q
 . exact h' pins s σ H xs us Q I rs q
theorem jdh:CallR X (.type "list") (fun xs H Q => ∃ p ys, xs = [.ref p] ∧ (zB X.K H p ys ∨ SqT X.K H p ys) ∧ ∀ l, H l = none → Q (.ref l) (upd H l (.lst ys))) := by
 intro pins s σ H xs us Q I r h
 obtain ⟨p,ys,rfl,hq,q⟩:=h
 obtain ⟨u,rfl,rx⟩:=jcm r
 cases rx
 have fin:∀(its:List Value),Vals ys its->ys.length<=sizeLine->∀(h':Heap) (c':Nat),(∀b o',s.heap.get? b=some o'->h'.get? b=some o')->
  h'.get? s.heap.objs.size=some { cls:=.type "list", dict := none, data := .seq its.toArray c', slots := #[] } → EP X pins σ Q (.ref s.heap.objs.size) { s with heap := h' } := fun its r' hz h' c' kp e =>
  ⟨.ref s.heap.objs.size,_,I.laid (t':=s.toks) kp (Nat.le_refl _) (show ObjOk X.prog X.w _ h' _ (.lst ys) from ⟨hz,its,c',r',e⟩),rfl,q _ (I.hok.fresh (Nat.le_refl _))⟩
 rcases hq with hq | hq
 . obtain ⟨its,r',pl,hz⟩:=I.list hq
   have hlen:=r'.length
   obtain ⟨o,ho,hc,n,hd⟩:=pl.isList
   exact call_list_seq p (.inl rfl) ho hc hd (fun h' c' kp e=>fin its r' hz h' c' kp e) (by simp only [List.size_toArray] <;> omega)
 . obtain ⟨its,r',pl,hz⟩:=I.tuple hq
   have hlen:=r'.length
   obtain ⟨o,ho,hc,n,hd⟩:=pl
   exact call_list_seq p (.inr rfl) ho hc hd (fun h' c' kp e=>fin its r' hz h' c' kp e) (by simp only [List.size_toArray] <;> omega)
noncomputable def tyV (K:PySem.W.Frag) (T:String) (x:V) (H:Hp):Prop:=match x with
 | .str _=>T = "str"
 | .int _=>T = "int"
 | .ref p=>(T = "list" ∧ ∃ xs, zB K H p xs) ∨ (T = "tuple" ∧ ∃ o, K.lookup p = some o ∧ o.cls = .type "tuple" ∧ o.dict = none) ∨
  (T = "dict" ∧ ((∃ kvs, H p = some (.dK kvs)) ∨ ∃ kvs, H p = some (.dT kvs))) ∨ (T = "set" ∧ ∃ S n, H p = some (.set S n))
 | _=>False
theorem jlG {pins:List (Addr×Obj)} {σ:St} {H:Hp} {s:Shared} {T:String} {x:V} {v:Value} (I:Inv X pins σ H s) (r:RelV x v) (ty:tyV X.K T x H) :
 s.TypeIs v T/\∀a,v=.ref a->∃ob,s.heap.get? a=some ob/\ob.dict=none:=by
 cases x with
 | str z=>
   obtain ⟨t,rfl⟩:=r
   cases (show T = "str" from ty)
   exact ⟨typeIs_str s z t,fun _ e=>nomatch e⟩
 | int i=>
   obtain ⟨t,rfl⟩:=r
   cases (show T = "int" from ty)
   exact ⟨typeIs_int s i t,fun _ e=>nomatch e⟩
 | ref p=>
   cases r
   rcases ty with ⟨rfl,xs,hq⟩ | ⟨rfl,o,hk,hc,hd⟩ | ⟨rfl,hk⟩ | ⟨rfl,S,n,hk⟩
   . obtain ⟨its,_,pl,_⟩:=I.list hq
     refine ⟨pl.isList.typeIs,fun a e=>?_⟩
     cases e
     obtain ⟨o,n,e,c,hd,_⟩:=pl
     exact ⟨o,e,hd⟩
   . refine ⟨⟨o,I.kIn p o hk,hc⟩,fun a e=>?_⟩
     cases e
     exact ⟨o,I.kIn _ o hk,hd⟩
   . have z:∃o,s.heap.get? p=some o/\o.ExactDict:=by
       rcases hk with ⟨kvs,hk⟩ | ⟨kvs,hk⟩
       . obtain ⟨_,_,_,_,o,_,_,e,ex,_⟩:=I.hok p _ hk
         exact ⟨o,e,ex⟩
       . obtain ⟨_,_,_,_,o,_,_,e,ex,_⟩:=I.hok p _ hk
         exact ⟨o,e,ex⟩
     obtain ⟨o,e,ex⟩:=z
     refine ⟨⟨o,e,ex.1⟩,fun a e2=>?_⟩
     cases e2
     exact ⟨o,e,ex.2.1⟩
   . obtain ⟨o,_,_,_,e,ex,_⟩:=I.hok p _ hk
     refine ⟨⟨o,e,ex.1⟩,fun a e2=>?_⟩
     cases e2
     exact ⟨o,e,ex.2.1⟩
 | _=>exact False.elim ty
noncomputable def tBM (K:PySem.W.Frag) (T:String) (r:V->List V->Hp->VK->Prop) (to:TE) (t:TA):TE:=fun σ H Q=>to σ H fun x H1=>tyV K T x H1/\t σ H1 fun xs H2=>r x xs H2 Q
variable {o e:Expr} {es:List Expr} {to:TE} {t:TA} {name:Str} {apos cpos:Pos} {T id:String} {r:V->List V->Hp->VK->Prop}
theorem jnS (pa:PlainAttrs T) (slot:Slot T name id) (hty:typeOf (.builtin id)=pure (.type "method_descriptor")) (hm : MtR X id r) (ho : PE X o to) (ha : PA X (e :: es) t)
 (hbase:autoParam (attributeBase o name X.env (eval o X.env)=eval o X.env) QA.a4._auto_1)
 (hfew:autoParam (((backTo cpos (starEach (e::es) X.env)).all (fun x=>!x.1) && (backToKw cpos (keywordEach [] X.env)).all (fun x=>x.1.isSome)
  && decide ((e::es).length+([]:List Keyword).length+(if ([]:List Keyword).isEmpty then 0 else 1)<30))=true) QA.a4._auto_1)
 (hline:autoParam ((apos.endLine == cpos.line)=true) QA.a4._auto_1) (hs:autoParam (starEach (e::es) X.env=(false,eval e X.env)::starEach es X.env) QA.a4._auto_1) (hplain:autoParam ((backTo cpos (starEach es X.env)).any (·.1)=false) QA.a4._auto_1) :
 PE X (.Call (.Attribute o name apos) (e::es) [] cpos) (tBM X.K T r to t):=by
 intro pins s σ H Q I h
 refine wpAny_Call_method_late hbase hfew hline rfl (qr (ho pins s σ H _ I h) fun v s1 ⟨x,H1,I1,r1,ty,q1⟩=>?_)
 obtain ⟨h1,h2⟩:=jlG I1 r1 ty
 refine ⟨T,id,pa,slot,hty,h1,h2,?_⟩
 have hA:=ha cpos pins s1 σ H1 _ I1 q1
 rw [hs] at hA ⊢
 refine Calls.callWith_builtin (by show (false || (backTo cpos (starEach es X.env)).any (·.1))=false;rw [hplain] <;> rfl) (Calls.evalArgs_plain ?_)
 exact qr hA fun us s2 ⟨vs,H2,I2,r2,q2⟩=>hm pins s2 σ H2 x vs v us Q I2 r1 r2 q2
end
end L2
namespace L2
open PySem PySem.Spec PyProof.Rows
noncomputable def MtM (X:Cx) (id:String) (r:V->List V->Hp->VK->Prop):Prop:=
 ∀(pins:List (Addr×Obj)) (s:Shared) (σ:St) (H:Hp) (x:V) (xs:List V) (v:Value) (us:List Value) (Q:VK),Inv X pins σ H s->RelV x v->Vals xs us->r x xs H Q->
   wpAny (model X.prog X.w) X.A (call (.builtin id) (v::us)) (EP X pins σ Q) X.xe s
theorem Vals.one:∀{x:V} {us:List Value},Vals [x] us->∃u,us=[u]/\RelV x u:=fun h=>jcm h
theorem Vals.two:∀{x y:V} {us:List Value},Vals [x,y] us->∃u v,us=[u,v]/\RelV x u/\RelV y v:=fun h=>jh1 h
section
variable {X:Cx} {pins:List (Addr×Obj)} {σ:St} {H:Hp} {s:Shared} {l b:Addr} {xs ys zs:List V}
theorem Inv.lset {its its':List Value} {n:Nat} {f:Array Value->Array Value} {t':Nat} (I:Inv X pins σ H s) (hH:H l=some (.lst xs))
 (e:s.heap.get? l=some { cls:=.type "list", data := .seq its.toArray n }) (hf : f its.toArray = its'.toArray) (hv : Vals ys its') (hz : ys.length ≤ sizeLine) :
 Inv X pins σ (upd H l (.lst ys)) { s with heap:=s.heap.update l (Obj.mapSeq f),toks:=t' }:=by
 have q:=PySem.IsL.update e f
 rw [hf] at q
 refine I.write (x:=l) (e:=l) (by rw [hH];exact trivial) (.inl rfl) (fun b' u hb hu=>(Heap.get?_update_other s.heap (Obj.mapSeq f) (Ne.symm hb)).trans hu) ⟨_,q⟩ ?_
 exact ⟨hz,its',_,hv,q⟩
theorem Inv.lnew {its:List Value} {t':Nat} (I:Inv X pins σ H s) (hv:Vals ys its) (hz:ys.length<=sizeLine) :
 Inv X pins σ (upd H s.heap.objs.size (.lst ys)) { s with heap:=s.heap.push { cls:=.type "list", data := .seq its.toArray }, toks := t' } :=
 I.laid (fun _ _ q=>Heap.get?_push_of_some _ q) (Nat.le_refl _) ⟨hz,its,0,hv,Heap.get?_push_size _ rfl⟩
theorem Inv.fresh (I:Inv X pins σ H s):H s.heap.objs.size=none:=I.hok.fresh (Nat.le_refl _)
theorem Inv.lstM (I:Inv X pins σ H s) (hH:H l=some (.lst xs)):xs.length ≤ sizeLine ∧ ∃(its:List Value) (n:Nat),Vals xs its ∧ xs.length=its.length ∧ s.heap.get? l=some { cls:=.type "list", data := .seq its.toArray n } := by
 obtain ⟨z,its,n,r,e⟩:=I.hok l _ hH
 exact ⟨z,its,n,r,r.length,e⟩
end
section
variable {X:Cx}
noncomputable def jdd:V->List V->Hp->VK->Prop:=fun x vs H Q=>∃l xs y,x=.ref l/\vs=[y]/\H l=some (.lst xs)/\xs.length<sizeLine/\Q .non (upd H l (.lst (xs++[y])))
theorem jhb:MtM X "list.append" jdd := by
 intro pins s σ H x vs v us Q I rx rv h
 obtain ⟨l,xs,y,rfl,rfl,hH,hz,q⟩:=h
 cases rx
 obtain ⟨u,rfl,ru⟩:=rv.one
 obtain ⟨z,its,n,r,hl,e⟩:=I.lstM hH
 refine call_meets F.slot_list_append ⟨_,e,rfl⟩ F.entry_list_append (F.args_list_append_2 _ _) (PySem.list_append l its.toArray n u (by rw [List.size_toArray];omega)) ⟨e,?_⟩
 refine ⟨.non,_,I.lset (its':=its++[u]) hH e (by simp) (r.append (.cons ru .nil)) ?_,rfl,q⟩
 rw [List.length_append,List.length_singleton]
 omega
end
section
variable {prog:Program} {w:World} {A:Around} {E:Value->Shared->Prop} {s:Shared}
end
section
variable {X:Cx}
end
end L2
namespace Att
open PySem PySem.W PySem.Calls PyProof.Rows
theorem jaT {P:Params} {h:Heap}:∀(ns:List Int) (vs:List Value),WellAll P h vs (ns.map WData.int)->IntsAre vs ns:=by
 intro ns
 induction ns with
 | nil=>
   intro vs w
   rw [List.map_nil] at w
   cases w
   exact .nil
 | cons n ns ih=>
   intro vs w
   rw [List.map_cons] at w
   cases w with
   | cons a b=>
     cases a
     exact .cons _ _ (ih _ b)
theorem jgB {l:OpenLaw} {n:Nat} (hn:l.most=some n) {P:Params} {h:Heap} {args:List WData} {vals:List Value}
 (hpre:l.row.toRowW.claim.pre args=true) (hwl:WellAll P h vals args) :
 ∃a vs ns,vals=[Value.ref a] ∧ args=[WData.list (ns.map WData.int)] ∧ h.get? a=some { cls:=.type "list", data := .seq vs.toArray } ∧ IntsAre vs ns ∧ ns.length ≤ n := by
 have hsh:WShape.hasAll [] args [.list .int]=true:=(pre_splitW hpre).1
 have hc:l.pre.holds [] { args:=args }=true:=(pre_splitW hpre).2
 obtain ⟨d,r,rfl,h1,h2⟩:=hasAllW_cons hsh
 obtain rfl:=hasAllW_nil h2
 obtain ⟨xs,rfl,h3⟩:=hasW_list h1
 obtain ⟨ns,rfl⟩:=items_int h3
 have hlen:ns.length<=n:=by
  unfold OpenLaw.pre at hc
  have h4:(WTm.not (.lt (.lit (.int (n:Int))) (.len (.arg 0)))).holds [] { args:=[.list (ns.map .int)] }=true:=by
   have h4:=(holds_andW hc).1
   rw [hn] at h4
   exact h4
  have h5:=condW_of h4 (w_not (w_lt w_lit (w_len_list (w_arg rfl))))
  rw [List.length_map] at h5
  refine Nat.le_of_not_lt fun q=>?_
  have q':(n:Int)<((ns.length:Nat):Int):=by omega
  first
   | (rw [decide_eq_true q'] at h5;exact absurd h5 (by decide))
   | (simp at h5;omega)
 cases hwl with
 | cons w1 w2=>
   cases w2
   cases w1 with
   | list ho hall=>exact ⟨_,_,ns,rfl,rfl,ho,jaT ns _ hall,hlen⟩
theorem jg7 (l:OpenLaw) (args:List WData):l.row.toRowW.claim.post args (.bool true) args=true:=
 postW_of (r:=l.row.toRowW) (X:=(true == true))
  (show WShape.has [] (.bool true) .bool=true by first | rfl | decide | simp [WShape.has,WShape.arms,WShape.armsAll])
  (show (WTm.eq .res (.lit (.bool true))).value [] { args:=args,res:=some (.bool true),after:=args }=some (.bool (true == true)) from w_eq_bool (w_res rfl) w_lit) rfl
theorem attach_call {l:OpenLaw} {n:Nat} {q:Program} {loose:List Str} {XP:(Str->Option Value)->Heap->Prop} {YP:World->Heap->Prop} {d:DefRec}
 (hn:l.most=some n) (hdf:d.params.defaults=[])
 (call:∀(w:World) (s₀ s₁:Shared) (mg mb:Str->Option Value) (fa:Addr) (o:Obj) (pm cd doc:Value) (a:Addr) (vs:List Value) (ns:List Int),
  Ground q loose [] XP w s₀ mg mb s₁.heap->YP w s₁.heap->
  s₁.heap.get? fa=some o->o.data=.func (docDef d.name d.params d.body d.scope pm cd doc)->s₁.heap.CodeRec cd d.name->mg d.name=some (.ref fa)->
  s₁.heap.get? a=some { cls:=.type "list", data := .seq vs.toArray } → IntsAre vs ns → ns.length ≤ n → s₁.gens = #[] →
  codeAny (model l.prog w) callerA (.call (.ref fa) ⟨[.ref a],[]⟩) (fun r s'=>r=.ok (.ret (.bool true))/\OldK s₁.heap s'.heap/\s'.os=s₁.os/\AllBare s'.gens) s₁) :
 WalkO q loose XP YP l.row.toRowW d [] (fun f vs=>PySem.call f vs):=by
 intro w s₀ s₁ mg mb G Y fa o pm cd doc dV kV ho hd hcd hD hmg hg args vals as hpre hlay hrd hwl hlo
 obtain rfl:dV=.none:=Dflts.none hD hdf
 obtain rfl:kV=.none:=Dflts.noKw hD
 obtain ⟨a,vs,ns,rfl,rfl,hobj,hints,hlen⟩:=jgB hn hpre hwl
 refine enter_call (codeAny_mono (call w s₀ s₁ mg mb fa o pm cd doc a vs ns G Y ho (fd_plain hd) hcd hmg hobj hints hlen hg) fun r s' hq=>?_)
 obtain ⟨rfl,h2,h3,h4⟩:=hq
 exact ⟨.inl ⟨.bool true,.bool true,[],rfl,fun _=>rfl,.bool true,jg7 l _,fun _=>⟨List.Pairwise.nil,fun _ hm=>(nomatch hm)⟩⟩,h2,h3,h4⟩
section
variable {prog:Program} {w:World} {A:Around} {E:Value->Shared->Prop} {s:Shared} {K:Frag}
end
end Att
namespace L2
open PySem PySem.Spec PyProof.Rows
theorem QD:∀{vs:List Value} {ns:List Int},IntsAre vs ns->Vals (ns.map V.int) vs
 | _,_,.nil=>.nil
 | _,_,.cons n t h=>.cons ⟨t,rfl⟩ (QD h)
noncomputable def jlC (H:Hp):Prop:=∀b,H b=none\/∃o xs,H b=some (.frz o (.lst xs))
theorem jhs {P:Program} {w:World} {K:PySem.W.Frag} {mg mb:Str->Option Value} {CX:CXT} {k:Nat} {fa a:Addr} {fd:FuncData} {x:Str} {sp:Sp} {s₁:Shared} {vs:List Value} {ns:List Int}
 (KX:K.In s₁.heap) (hns:s₁.heap.Ns mainGlobals mg) (hb:s₁.heap.Ns builtinsNs mb) (hbb:∀x:Str,x ≠ "__name__" → mb x = bootBuiltins x) (hlim : s₁.heap.NoLimit) (hg : s₁.gens = #[])
 (ha:s₁.heap.get? a=some { cls:=.type "list", data := .seq vs.toArray }) (hi : IntsAre vs ns) (hl : ns.length ≤ sizeLine) (hr : Room k callerA)
 (F:∀base:Heap,K.In base->base.Ns mainGlobals mg->FnOk P w K mg base CX k fa fd [x] sp) (hbind:∀(s:Shared) (u:Value),BindsTo s fd ⟨[u],[]⟩ [(x,u)])
 (hsp:∀H:Hp,jlC H->zB K H a (ns.map V.int)->sp [.ref a] H (fun v _=>v=.bl true) fun _ _ _=>False)
 (hCX:∀H e s',CX [] H s₁ (fun _ _ _=>False) e s'->False) :
 codeAny (model P w) callerA (.call (.ref fa) ⟨[.ref a],[]⟩) (fun r s'=>r=.ok (.ret (.bool true))/\OldK s₁.heap s'.heap/\s'.os=s₁.os/\AllBare s'.gens) s₁:=by
 have rv:=QD hi
 have lenV:=hi.length
 -- from an abstract heap in which nothing but the script may be tracked
 have core:∀H:Hp,jlC H->zB K H a (ns.map V.int)->HOk P w H s₁.heap->(∀b,H b≠none->b=a)->(H a≠none->K.lookup a=none)->
  codeAny (model P w) callerA (.call (.ref fa) ⟨[.ref a],[]⟩) (fun r s'=>r=.ok (.ret (.bool true))/\OldK s₁.heap s'.heap/\s'.os=s₁.os/\AllBare s'.gens) s₁:=by
  intro H hO hS hok hA hK
  have base_of:∀{b:Addr} {o:Obj},s₁.heap.get? b=some o->H b=none->(jdb s₁.heap H).get? b=some o:=fun e n=>jhq e n
  have noA:∀{b:Addr} {o:Obj} {es:Array DictEntry} {ep:Nat},s₁.heap.get? b=some o->o.data=.dict es ep->H b=none:=fun {b o es ep} e d=>by
   cases q:H b with
   | none=>rfl
   | some u=>
     have e':b=a:=hA b (by rw [q];simp)
     subst e'
     rw [ha] at e;cases e
     have d':Data.seq vs.toArray _=Data.dict es ep:=d
     cases d'
  have nsK:∀{b:Addr} {m:Str->Option Value},s₁.heap.Ns b m->(jdb s₁.heap H).Ns b m:=fun {b m} ⟨o,es,ep,e,d,r⟩=>⟨o,es,ep,base_of e (noA e d),d,r⟩
  have hKb:K.In (jdb s₁.heap H):=fun b o e=>base_of (KX b o e) (by
   cases q:H b with
   | none=>rfl
   | some u=>
     have e':b=a:=hA b (by rw [q];simp)
     subst e'
     rw [hK (by rw [q];simp)] at e;cases e)
  have hM:Mod K mg (jdb s₁.heap H):=⟨hKb,nsK hns,⟨mb,nsK hb,hbb⟩,let ⟨mc,h1,h2⟩:=hlim;⟨mc,nsK h1,h2⟩⟩
  have e0:Env0 P w K mg (jdb s₁.heap H) callerA [] s₁ H:=⟨rfl,hM,fun b o e=>jjq e,Nat.le_of_eq (jgp _ _),trivial,fun b hb=>absurd (show b∈([]:List Addr) from hb) (by simp),hok,.of_eq hg⟩
  refine codeAny_mono ((F _ hKb (nsK hns)).run callerA [] s₁ H ⟨[.ref a],[]⟩ [.ref a] [.ref a] _ _ hr e0 (hbind s₁ (.ref a)) (.cons rfl .nil) (hsp H hO hS)) fun r s' h=>?_
  cases r with
  | error e=>exact (hCX H e s' h).elim
  | ok fl=>
    cases fl with
    | next=>exact False.elim h
    | brk=>exact False.elim h
    | cont=>exact False.elim h
    | ret u=>
      obtain ⟨v,H',os,bare,un,hok',r',q⟩:=h
      have q':v=.bl true:=q
      subst q'
      obtain rfl:u=Value.bool true:=r'
      refine ⟨rfl,OldK.of_keep fun b o e=>?_,os,bare⟩
      cases q:H b with
      | none=>exact un.keep b o e q (by intro z;exact absurd (show b∈([]:List Addr) from z) (by simp)) (by simp)
      | some u=>
        rcases hO b with z | ⟨ob,xs,z⟩
        . rw [q] at z;cases z
        . have z2:=un.frzs b ob _ z
          obtain ⟨e1,_⟩:=hok b _ z
          obtain ⟨e2,_⟩:=hok' b _ z2
          rw [e] at e1;cases e1
          exact e2
 cases hk:K.lookup a with
 | some o=>
   -- the script is one of the module's own objects
   have e:=KX a o hk
   rw [ha] at e
   cases e
   refine core (fun _=>none) (fun _=>.inl rfl) (.inr ⟨_,vs.toArray,_,hk,rfl,rfl,rfl,by rw [List.size_toArray,lenV];exact hl,by simpa using rv⟩) (fun b u z=>by have z':(none:Option HO)=some u:=z;cases z') (fun b z=>absurd rfl z) fun z=>absurd rfl z
 | none=>
   refine core (fun b=>if b=a then some (.frz { cls:=.type "list", data := .seq vs.toArray } (.lst (ns.map V.int))) else none) (fun b => ?_) (.inl (.inr ⟨{ cls := .type "list", data := .seq vs.toArray }, if_pos rfl⟩)) (fun b u z => ?_) (fun b z => ?_) fun _ => hk
   . by_cases hb:b=a
     . exact .inr ⟨_,_,if_pos hb⟩
     . exact .inl (if_neg hb)
   . by_cases hb:b=a
     . have z':=(if_pos hb).symm.trans z
       cases z'
       subst hb
       exact ⟨ha,by rw [List.length_map];exact hl,vs,_,rv,ha⟩
     . have z':=(if_neg hb).symm.trans z
       cases z'
   . by_cases hb:b=a
     . exact hb
     . exact absurd (if_neg hb) z
end L2
namespace L2
open PySem PySem.Spec PyProof.Rows
theorem jje {l:PySem.W.OpenLaw} {n k:Nat} {q:Program} {loose:List Str} {XP:(Str->Option Value)->Heap->Prop} {YP:World->Heap->Prop} {d:DefRec} {K:Params->PySem.W.Frag} {CX:World->CXT} {sp:World->Sp} {x:Str}
 (hn:l.most=some n) (hn2:n<=sizeLine) (hdf:d.params.defaults=[]) (hr:Room k callerA)
 (hY:∀(w:World) (h:Heap),YP w h->(K w.params).In h)
 (F:∀(w:World) (mg:Str->Option Value) (fa:Addr) (h:Heap),(K w.params).In h->h.Ns mainGlobals mg->mg d.name=some (.ref fa)->
  ∃fd:FuncData,(∀(s:Shared) (u:Value),BindsTo s fd ⟨[u],[]⟩ [(x,u)]) /\
    ∀base:Heap,(K w.params).In base->base.Ns mainGlobals mg->FnOk l.prog w (K w.params) mg base (CX w) k fa fd [x] (sp w))
 (hsp:∀(w:World) (H:Hp) (a:Addr) (ns:List Int),ns.length<=n->jlC H->zB (K w.params) H a (ns.map V.int)->sp w [.ref a] H (fun v _=>v=.bl true) fun _ _ _=>False)
 (hCX:∀(w:World) (H:Hp) (s:Shared) (e:Value) (s':Shared),CX w [] H s (fun _ _ _=>False) e s'->False) :
 PySem.W.WalkO q loose XP YP l.row.toRowW d [] (fun f vs=>PySem.call f vs):=by
 refine Att.attach_call hn hdf fun w s₀ s₁ mg mb fa o pm cd doc a vs ns G Y ho hd hcd hmg hobj hints hlen hg=>?_
 have KX:=hY w _ Y
 obtain ⟨fd,hb,hF⟩:=F w mg fa _ KX G.T.g hmg
 exact jhs KX G.T.g G.T.b G.T.builtins G.T.nolimit hg hobj hints (Nat.le_trans hlen hn2) hr hF hb (fun H hO hS=>hsp w H a ns hlen hO hS) fun H e s'=>hCX w H s₁ e s'
end L2
namespace L2
open PySem PySem.Spec PyProof.Rows
noncomputable def jJ (s:Stmt):Arguments:=match s with
 | .FunctionDef _ a _ _ _ _ _ _ _ _=>a
 | _=>{ posonlyargs:=[],args:=[],vararg:=none,kwonlyargs:=[],kw_defaults:=[],kwarg:=none,defaults:=[] }
noncomputable def jH (s:Stmt):List Stmt:=match s with
 | .FunctionDef _ _ b _ _ _ _ _ _ _=>b
 | _=>[]
noncomputable def jd (s:Stmt):Scope:=match s with
 | .FunctionDef _ _ _ _ _ _ sc _ _ _=>sc
 | _=>{ kind:=.function,names:=[],isGenerator:=false,isCoroutine:=false }
noncomputable abbrev Qc:CXT:=fun _ _ _ _ _ _=>False
noncomputable abbrev E0:XK:=fun _ _ _=>False
theorem jkq {X:Cx}:jeu Qc X E0:=fun _ _ _ _ _ _ _ h=>h.elim
structure Fun (K:PySem.W.Frag) (x qual:Str) (st:Stmt) (f:Addr) (fd:FuncData):Prop where
 ex:∃(oc:Value) (od:Option Addr) (kV doc pm:Value) (an:Option Addr) (cdv ct:Value) (osl:Array (Option Value)),
  fd=PySem.W.fnOf x qual (jJ st) (jH st) (jd st) .none kV doc pm an cdv ct/\K.lookup f=some ⟨oc,od,.func fd,osl⟩/\PySem.W.codeIn K cdv qual=true
 kp:PySem.W.keepIn K (.ref f)=true
section
variable {P:Program} {w:World} {K:PySem.W.Frag} {mg:Str->Option Value} {base:Heap}
theorem Fun.ok {x qual:Str} {st:Stmt} {f:Addr} {fd:FuncData} {N ps:List Str} {k:Nat} {sp:Sp} (F:Fun K x qual st f fd) (S:FnScope N ps (jd st)) (len:∀vs H Q E,sp vs H Q E->vs.length=ps.length)
 (hbody:∀(cdv:Value) (A:Around) (outer:List Env) (s:Shared) (H:Hp) (vs:List V) (Q:VK) (E:XK),Room k (A.deeper (envOfC qual (jd st) s.heap.objs.size f cdv))->sp vs H Q E->
  ∃t,PSs (jeP Qc P w K mg base N qual (jd st) f cdv A outer s H E).nox (jH st) t/\t { nx:=fun _ H'=>Q .non H',rt:=Q } (QQ N vs) H):FnOk P w K mg base Qc (k+1) f fd ps sp:=by
 obtain ⟨oc,od,kV,doc,pm,an,cdv,ct,osl,rfl,lk,hcd⟩:=F.ex
 refine jnV lk hcd S len fun A outer s H vs Q E hr hsp=>?_
 obtain ⟨t,h,q⟩:=hbody cdv A outer s H vs Q E hr hsp
 exact ⟨t,h.nox,q⟩
theorem Fun.binds {x qual:Str} {st:Stmt} {f:Addr} {fd:FuncData} {ps:List Str} (F:Fun K x qual st f fd)
 (h:∀(kV doc pm:Value) (an:Option Addr) (cdv ct:Value) (us:List Value),us.length=ps.length->bindArgs (PySem.W.fnOf x qual (jJ st) (jH st) (jd st) .none kV doc pm an cdv ct) ⟨us,[]⟩=pure (ps.zip us)):Binds K fd ps []:=by
 obtain ⟨oc,od,kV,doc,pm,an,cdv,ct,osl,rfl,lk,hcd⟩:=F.ex
 exact .all (h kV doc pm an cdv ct)
theorem jZ {x qual:Str} {st:Stmt} {f:Addr} {oc:Value} {od an:Option Addr} {osl:Array (Option Value)} {kV doc pm cdv ct:Value} (l:K.lookup f=some ⟨oc,od,.func (PySem.W.fnOf x qual (jJ st) (jH st) (jd st) .none kV doc pm an cdv ct),osl⟩)
 (c:PySem.W.codeIn K cdv qual=true) (k:PySem.W.keepIn K (.ref f)=true):Fun K x qual st f (PySem.W.fnOf x qual (jJ st) (jH st) (jd st) .none kV doc pm an cdv ct):=⟨⟨oc,od,kV,doc,pm,an,cdv,ct,osl,rfl,l,c⟩,k⟩
end
section
variable {X:Cx}
end
noncomputable def Same (H H':Hp):Prop:=∀b o,H b=some o->H' b=some o
theorem Same.refl (H:Hp):Same H H:=fun _ _ h=>h
theorem Same.trans {H H1 H2:Hp} (a:Same H H1) (b:Same H1 H2):Same H H2:=fun c o h=>b c o (a c o h)
theorem Same.free {H H':Hp} (e:Same H H') {l:Addr} (h:H' l=Option.none):H l=Option.none:=by
 cases q:H l with
 | none=>rfl
 | some o=>
   rw [e l o q] at h
   cases h
theorem Same.seq {K:PySem.W.Frag} {H H':Hp} {a:Addr} {xs:List V} (e:Same H H') (h:zB K H a xs):zB K H' a xs:=by
 rcases h with (h | ⟨o,h⟩) | h
 . exact .inl (.inl (e _ _ h))
 . exact .inl (.inr ⟨o,e _ _ h⟩)
 . exact .inr h
end L2
namespace L2
open PySem PySem.Spec PyProof.Rows
section
variable {κ:Type} [DecidableEq κ]
noncomputable def jaQ (kvs:List (κ×V)) (k:κ):Option V:=(kvs.find? fun kv=>decide (kv.1=k)).map (·.2)
noncomputable def QL (kvs:List (κ×V)) (k:κ) (v:V):List (κ×V):=
 if (kvs.any fun kv=>decide (kv.1=k))=true then kvs.map (fun kv=>if kv.1=k then (kv.1,v) else kv) else kvs++[(k,v)]
noncomputable def jkJ (kvs:List (κ×V)) (k:κ):List (κ×V):=kvs.filter fun kv=>decide (kv.1≠k)
theorem Zj {p:κ×V} {r:List (κ×V)} {k:κ} (e:p.1=k):jaQ (p::r) k=some p.2:=by simp [jaQ,List.find?_cons,e]
theorem Zu {p:κ×V} {r:List (κ×V)} {k:κ} (e:¬p.1=k):jaQ (p::r) k=jaQ r k:=by simp [jaQ,List.find?_cons,e]
theorem jdt (k:κ):∀kvs:List (κ×V),(kvs.any fun kv=>decide (kv.1=k))=(jaQ kvs k).isSome
 | []=>rfl
 | p::r=>by
   rw [List.any_cons]
   by_cases e:p.1=k
   . simp only [Zj e,decide_eq_true e,Bool.true_or,Option.isSome_some]
   . rw [Zu e,decide_eq_false e,Bool.false_or];exact jdt k r
theorem Qk (kvs:List (κ×V)) (k:κ) (v:V):(QL kvs k v).length<=kvs.length+1:=by
 unfold QL
 split
 . rw [List.length_map];omega
 . rw [List.length_append,List.length_cons,List.length_nil];omega
theorem RelO.isSome_eq {o:Option V} {u:Option Value} (r:RelO o u):o.isSome=u.isSome:=by
 cases o with
 | none=>cases u with
   | none=>rfl
   | some _=>exact (show False from r).elim
 | some _=>cases u with
   | none=>exact (show False from r).elim
   | some _=>rfl
theorem RelO.getD {o:Option V} {u:Option Value} {d:V} {d':Value} (r:RelO o u) (rd:RelV d d'):RelV (o.getD d) (u.getD d'):=by
 cases o with
 | none=>cases u with
   | none=>exact rd
   | some _=>exact (show False from r).elim
 | some _=>cases u with
   | none=>exact (show False from r).elim
   | some _=>exact r
theorem KV.val {kvs:List (κ×V)} {vs:List (κ×Value)} (r:KV kvs vs) (k:κ):RelO (jaQ kvs k) (valueAt vs k):=by
 unfold KV at r
 induction r with
 | nil=>exact True.intro
 | @cons p q ps qs h t ih=>
   obtain ⟨h1,h2⟩:=h
   by_cases e:p.1=k
   . have e':q.1=k:=h1.symm.trans e
     have b:valueAt (q::qs) k=some q.2:=by simp [valueAt,List.find?_cons,e']
     rw [Zj e,b];exact h2
   . have e':¬q.1=k:=fun z=>e (h1.trans z)
     have b:valueAt (q::qs) k=valueAt qs k:=by simp [valueAt,List.find?_cons,e']
     rw [Zu e,b];exact ih
theorem KV.any {kvs:List (κ×V)} {vs:List (κ×Value)} (r:KV kvs vs) (k:κ):(kvs.any fun kv=>decide (kv.1=k))=vs.any fun kv=>decide (kv.1=k):=by
 unfold KV at r
 induction r with
 | nil=>rfl
 | cons h t ih=>rw [List.any_cons,List.any_cons,ih,h.1]
theorem KV.repl {kvs:List (κ×V)} {vs:List (κ×Value)} (r:KV kvs vs) (k:κ) {y:V} {u:Value} (ry:RelV y u) :
 KV (kvs.map fun kv=>if kv.1=k then (kv.1,y) else kv) (vs.map fun kv=>if kv.1=k then (kv.1,u) else kv):=by
 unfold KV at r ⊢
 induction r with
 | nil=>exact .nil
 | @cons p q ps qs h t ih=>
   rw [List.map_cons,List.map_cons]
   refine .cons ?_ ih
   obtain ⟨h1,h2⟩:=h
   by_cases e:p.1=k
   . rw [if_pos e,if_pos (h1.symm.trans e)];exact ⟨h1,ry⟩
   . rw [if_neg e,if_neg (fun z=>e (h1.trans z))];exact ⟨h1,h2⟩
theorem KV.put {kvs:List (κ×V)} {vs:List (κ×Value)} (r:KV kvs vs) (k:κ) {y:V} {u:Value} (ry:RelV y u):KV (QL kvs k y) (stored vs k u):=by
 unfold QL stored
 rw [r.any k]
 by_cases e:(vs.any fun kv=>decide (kv.1=k))=true
 . rw [if_pos e,if_pos e];exact r.repl k ry
 . rw [if_neg e,if_neg e];exact Paired.snoc r ⟨rfl,ry⟩
theorem KV.drop {kvs:List (κ×V)} {vs:List (κ×Value)} (r:KV kvs vs) (k:κ):KV (jkJ kvs k) (without vs k):=by
 unfold KV at r ⊢
 unfold jkJ without
 induction r with
 | nil=>exact .nil
 | @cons p q ps qs h t ih=>
   obtain ⟨h1,h2⟩:=h
   rw [List.filter_cons,List.filter_cons]
   by_cases e:p.1=k
   . have a:¬decide (p.1≠k)=true:=by simp [e]
     have b:¬decide (q.1≠k)=true:=by simp [h1.symm.trans e]
     rw [if_neg a,if_neg b];exact ih
   . have e':¬q.1=k:=fun z=>e (h1.trans z)
     have a:decide (p.1≠k)=true:=by simp [e]
     have b:decide (q.1≠k)=true:=by simp [e']
     rw [if_pos a,if_pos b];exact .cons ⟨h1,h2⟩ ih
theorem KV.length {kvs:List (κ×V)} {vs:List (κ×Value)} (r:KV kvs vs):kvs.length=vs.length:=Paired.length r
end
theorem jfV {P:Program} {w:World} {k:zi} {u:Value} (r:RelV (kV k) u):(j1 P w).is k u=true:=by
 cases k with
 | inl i=>obtain ⟨t,e⟩:=(show ∃t,u=Value.int i t from r);subst e;exact jdr P w i t
 | inr x=>obtain ⟨t,e⟩:=(show ∃t,u=Value.str x t from r);subst e;exact jdv P w x t
theorem jcK {P:Program} {w:World}:∀{ks:List zi} {us:List Value},Vals (ks.map kV) us->ItemsAre (j1 P w) ks us
 | [],_,r=>by rw [List.map_nil] at r;cases r;exact .nil
 | k::ks,_,r=>by
   rw [List.map_cons] at r
   cases r with
   | cons h t=>exact .cons (jfV h) (jcK t)
noncomputable abbrev KT (H:Hp):List (List zi×V)->List (List zi×Addr×Value)->Prop:=Paired fun p q=>p.1=q.1/\H q.2.1=some (.tup (p.1.map kV))/\RelV p.2 q.2.2
theorem KT.val {H:Hp} {kvs:List (List zi×V)} {xs:List (List zi×Addr×Value)} (r:KT H kvs xs) (k:List zi):RelO (jaQ kvs k) ((atKey xs k).map (·.2)):=by
 induction r with
 | nil=>exact True.intro
 | @cons p q ps qs h t ih=>
   obtain ⟨h1,_,h2⟩:=h
   by_cases e:p.1=k
   . have e':q.1=k:=h1.symm.trans e
     have b:atKey (q::qs) k=some q.2:=by simp [atKey,List.find?_cons,e']
     rw [Zj e,b];exact h2
   . have e':¬q.1=k:=fun z=>e (h1.trans z)
     have b:atKey (q::qs) k=atKey qs k:=by simp [atKey,List.find?_cons,e']
     rw [Zu e,b];exact ih
theorem KT.repl {H:Hp} {kvs:List (List zi×V)} {xs:List (List zi×Addr×Value)} (r:KT H kvs xs) (k:List zi) {y:V} {u:Value} (ry:RelV y u) :
 KT H (kvs.map fun kv=>if kv.1=k then (kv.1,y) else kv) (xs.map (putAt k u)):=by
 induction r with
 | nil=>exact .nil
 | @cons p q ps qs h t ih=>
   rw [List.map_cons,List.map_cons]
   refine .cons ?_ ih
   obtain ⟨h1,h2,h3⟩:=h
   unfold putAt
   by_cases e:p.1=k
   . rw [if_pos e,if_pos (h1.symm.trans e)];exact ⟨h1,h2,ry⟩
   . rw [if_neg e,if_neg (fun z=>e (h1.trans z))];exact ⟨h1,h2,h3⟩
theorem KT.put {H:Hp} {kvs:List (List zi×V)} {xs:List (List zi×Addr×Value)} (r:KT H kvs xs) (k:List zi) {b:Addr} {y:V} {u:Value} (hb:H b=some (.tup (k.map kV))) (ry:RelV y u) :
 KT H (QL kvs k y) (storedH xs k b u):=by
 have e:(kvs.any fun kv=>decide (kv.1=k))=(atKey xs k).isSome:=by
  rw [jdt,(r.val k).isSome_eq,Option.isSome_map]
 unfold QL storedH
 rw [e]
 by_cases q:(atKey xs k).isSome=true
 . rw [if_pos q,if_pos q];exact r.repl k ry
 . rw [if_neg q,if_neg q];exact Paired.snoc r ⟨rfl,hb,ry⟩
theorem KT.keeps {H H':Hp} {kvs:List (List zi×V)} {xs:List (List zi×Addr×Value)} (r:KT H kvs xs) (ht:∀b ys,H b=some (.tup ys)->H' b=some (.tup ys)):KT H' kvs xs:=
 Paired.mapP r fun _ _ z=>⟨z.1,ht _ _ z.2.1,z.2.2⟩
section
variable {P:Program} {w:World} {H:Hp} {h:Heap} {a:Addr}
theorem jkR {u:HO} (ok:HOk P w H h) (e:Rd H a u):ObjOk P w H h a u:=e.ok ok
theorem jf6 {kvs:List (zi×V)} (ok:HOk P w H h) (e:Rd H a (.dK kvs)):kvs.length<=sizeLine/\(a == sysModules)=false/\∃vs,KV kvs vs/\h.DictOf (j1 P w) a vs:=
 show ObjOk P w H h a (.dK kvs) from jkR ok e
theorem jkF {kvs:List (zi×V)} (ok:HOk P w H h) (e:H a=some (.dK kvs)):kvs.length<=sizeLine/\(a == sysModules)=false/\∃vs,KV kvs vs/\h.DictOf (j1 P w) a vs:=jf6 ok (.inl e)
theorem J6 {ks:List zi} (ok:HOk P w H h) (e:H a=some (.tup (ks.map kV))):(tupleKind (j1 P w)).is h ks a:=by
 obtain ⟨_,its,r,o,h1,h2,n,h3⟩:=(show ObjOk P w H h a (.tup (ks.map kV)) from ok a _ e)
 exact ⟨o,its.toArray,n,h1,h2,h3,by simpa using jcK r⟩
theorem jhv {kvs:List (List zi×V)} (ok:HOk P w H h) (e:Rd H a (.dT kvs)):kvs.length<=sizeLine/\(a == sysModules)=false /\
 ∃xs,KT H kvs xs/\h.DictOfH (tupleKind (j1 P w)) a xs:=by
 obtain ⟨z,y,xs,r,o,es,ep,h1,h2,h3,h4,h5⟩:=(show ObjOk P w H h a (.dT kvs) from jkR ok e)
 refine ⟨z,y,xs,r,o,es,ep,h1,h2,h3,h4,fun x hx=>?_,h5⟩
 have all:∀{l:List (List zi×V)} {m:List (List zi×Addr×Value)},KT H l m->∀x∈m,(tupleKind (j1 P w)).is h x.1 x.2.1:=by
  intro l m q
  induction q with
  | nil=>intro x hx;exact nomatch hx
  | @cons p q ps qs hq t ih=>
    intro x hx
    rcases List.mem_cons.mp hx with e | hx
    . subst e
      exact J6 ok (by rw [<-hq.1];exact hq.2.1)
    . exact ih x hx
 exact all r x hx
theorem jnr {kvs:List (List zi×V)} (ok:HOk P w H h) (e:H a=some (.dT kvs)):kvs.length<=sizeLine/\(a == sysModules)=false /\
 ∃xs,KT H kvs xs/\h.DictOfH (tupleKind (j1 P w)) a xs:=jhv ok (.inl e)
end
noncomputable def jne (H:Hp) (a:Addr) (y:V) (r:Option V):Prop:=
 (∃kvs k,Rd H a (.dK kvs)/\y=kV k/\r=jaQ kvs k)\/∃kvs k b,Rd H a (.dT kvs)/\y=.ref b/\H b=some (.tup (k.map kV))/\r=jaQ kvs k
noncomputable def jmx (H:Hp) (a:Addr) (y v:V) (H':Hp):Prop:=
 (∃kvs k,H a=some (.dK kvs)/\y=kV k/\kvs.length<sizeLine/\H'=upd H a (.dK (QL kvs k v))) \/
 ∃kvs k b,H a=some (.dT kvs)/\y=.ref b/\H b=some (.tup (k.map kV))/\kvs.length<sizeLine/\H'=upd H a (.dT (QL kvs k v))
section
variable {X:Cx} {pins:List (Addr×Obj)} {σ:St} {H:Hp} {s:Shared} {a:Addr} {y v:V} {u r:Value} {o:Option V} {A:Around} {E:Value->Shared->Prop}
theorem Inv.big (I:Inv X pins σ H s):sysModules<s.heap.objs.size:=by
 have h:mainGlobals<s.heap.objs.size:=(I.mod.glob.keeps I.bk).lt
 exact Nat.lt_trans (by decide) h
theorem jcR {h':Heap} {t':Nat} {ob:HO} (I:Inv X pins σ H s) (mu:Mut (H a)) (hs:Heap.SameBut a s.heap h') (he:∃q,h'.get? a=some q) (new:ObjOk X.prog X.w (upd H a ob) h' a ob) :
 Inv X pins σ (upd H a ob) { s with heap:=h',toks:=t' }:=
 I.write (x:=a) (e:=a) mu (.inl rfl) (fun b q hb z=>(hs.2 b hb).trans z) he new
theorem jie {P:Program} {w:World} {H':Hp} {h':Heap} {kvs:List (zi×V)} {vs:List (zi×Value)} (z:kvs.length<=sizeLine) (hd:(a == sysModules)=false) (rel:KV kvs vs) (dd:h'.DictOf (j1 P w) a vs) :
 ObjOk P w H' h' a (.dK kvs):=⟨z,hd,vs,rel,dd⟩
theorem jg0 {H':Hp} {Q:Unit->Shared->Prop} (hu:A.units+1<cLine) (I:Inv X pins σ H s) (g:jmx H a y v H') (ry:RelV y u) (rv:RelV v r) (h:∀s',Inv X pins σ H' s'->Q () s') :
 wpAny (model X.prog X.w) A (setItem (.ref a) u r) Q E s:=by
 rcases g with ⟨kvs,k,e,ey,l,eH⟩ | ⟨kvs,k,b,e,ey,eb,l,eH⟩
 . subst ey eH
   obtain ⟨z,hd,vs,rel,dd⟩:=jkF I.hok e
   have hz:vs.length<=sizeLine:=by rw [<-rel.length];exact z
   have hl:(QL kvs k v).length<=sizeLine:=by have:=Qk kvs k v;omega
   refine wpAny_setItem_pairs (hsz:=hz) (jfV ry) dd fun h' dd' hs=>h _ ?_
   have he:∃q,h'.get? a=some q:=let ⟨q,_,_,hq,_⟩:=dd';⟨q,hq⟩
   exact jcR I (by rw [e];exact True.intro) hs he (jie hl hd (rel.put k rv) dd')
 . subst ey eH
   cases (show u=Value.ref b from ry)
   obtain ⟨z,hd,xs,rel,dd⟩:=jnr I.hok e
   have hz:xs.length<=sizeLine:=by rw [<-Paired.length rel];exact z
   have hl:(QL kvs k v).length<=sizeLine:=by have:=Qk kvs k v;omega
   refine wpAny_setItem_heap (hsz:=hz) (tupleKind_room_in1 hu) (J6 I.hok eb) dd fun h' dd' hs=>h _ ?_
   obtain ⟨q,es,ep,hq,h2,h3,h4,_,h5⟩:=dd'
   refine jcR I (by rw [e];exact True.intro) hs ⟨q,hq⟩ ⟨hl,hd,_,(rel.put k eb rv).keeps fun c ys ec=>?_,q,es,ep,hq,h2,h3,h4,h5⟩
   rw [jw (jm2 ec e (fun z=>nomatch z))]
   exact ec
end
section
variable {X:Cx} {pins:List (Addr×Obj)} {σ:St} {H:Hp} {s:Shared} {a:Addr} {kvs:List (zi×V)} {k:zi} {u:Value} {A:Around} {E:Value->Shared->Prop}
end
noncomputable def jkv (td ty tv:TE):TS:=fun D σ H=>tv σ H fun v H1=>td σ H1 fun x H2=>ty σ H2 fun y H3=>∃a H4,x=.ref a/\jmx H3 a y v H4/\D.nx σ H4
section
variable {X:Cx} {o i e value:Expr} {pos pos' tpos:Pos} {td ty tv:TE}
theorem jke (hu:X.A.units+1<cLine) (ho:PE X o td) (hi:PE X i ty) (hv:PE X value tv) (hs:swapsWith value (some (.Subscript o i pos')) pos.line X.env=pure false) :
 PS X (.Assign [.Subscript o i pos'] value pos) (jkv td ty tv):=by
 intro pins s σ H D I h
 refine wpAny_Assign_Subscript (qr (hv pins s σ H _ I h) fun r s1 ⟨v,H1,I1,rv,q1⟩=>qr (ho pins s1 σ H1 _ I1 q1) fun u s2 ⟨x,H2,I2,rx,q2⟩=>qr (hi pins s2 σ H2 _ I2 q2) fun iv s3 ⟨y,H3,I3,ry,a,H4,ex,g,q3⟩=>?_) hs
 subst ex
 obtain rfl:u=Value.ref a:=rx
 exact jg0 hu I3 g ry rv fun s4 I4=>⟨σ,H4,I4,q3⟩
end
theorem jdB {P:Program} {w:World} {H:Hp} (h:Heap) (hb:sysModules<h.objs.size):ObjOk P w H (h.push { cls:=.type "dict", data := .dict #[] }) h.objs.size (.dK []) :=
 ⟨Nat.zero_le _,beq_eq_false_iff_ne.mpr (Ne.symm (Nat.ne_of_lt hb)),[],.nil,Heap.DictOf.new h⟩
noncomputable def jiH:TE:=fun _ H Q=>∀p,H p=none->Q (.ref p) (upd H p (.dK []))
section
variable {X:Cx} {pos:Pos}
theorem jiQ:PE X (.Dict [] [] pos) jiH:=fun pins s σ H Q I h=>
 wpAny_Dict_empty ⟨.ref s.heap.objs.size,_,I.laid (a:=s.heap.objs.size) (o:=.dK []) (t':=s.toks) (fun _ _ q=>Heap.get?_push_of_some _ q) (Nat.le_refl _) (jdB s.heap I.big),rfl,h _ (I.hok.fresh (Nat.le_refl _))⟩
end
noncomputable def jeY:List (TE×TE)->St->Hp->(List (V×V)->Hp->Prop)->Prop
 | [],_,H,Q=>Q [] H
 | (tk,tv)::r,σ,H,Q=>tk σ H fun x H1=>tv σ H1 fun y H2=>jeY r σ H2 fun ps H3=>Q ((x,y)::ps) H3
noncomputable abbrev VV:List (V×V)->List (Value×Value)->Prop:=Paired fun p q=>RelV p.1 q.1/\RelV p.2 q.2
noncomputable def PPs (X:Cx) (pos:Pos) (keys:List (Option Expr)) (values:List Expr) (trs:List (TE×TE)):Prop:=
 ∀(pins:List (Addr×Obj)) (s:Shared) (σ:St) (H:Hp) (Q:List (V×V)->Hp->Prop),Inv X pins σ H s->jeY trs σ H Q->
   wpAny (model X.prog X.w) X.A (evalPairs (pairTrees keys values X.env pos)) (fun vs s'=>∃ps H',Inv X pins σ H' s'/\VV ps vs/\Q ps H') X.xe s
theorem jjo {X:Cx} {pos:Pos}:PPs X pos [] [] []:=fun pins s σ H Q I h=>pairTrees_nil_walk ⟨[],H,I,.nil,h⟩
theorem jio {X:Cx} {pos:Pos} {k v:Expr} {ks:List (Option Expr)} {vs:List Expr} {tk tv:TE} {trs:List (TE×TE)} (hk:PE X k tk) (hv:PE X v tv) (hr:PPs X pos ks vs trs) :
 PPs X pos (some k::ks) (v::vs) ((tk,tv)::trs):=fun pins s σ H Q I h=>
 pairTrees_cons_walk (qr (hk pins s σ H _ I h) fun u s1 ⟨x,H1,I1,rx,q1⟩=>qr (hv pins s1 σ H1 _ I1 q1) fun w2 s2 ⟨y,H2,I2,ry,q2⟩=>
  qr (hr pins s2 σ H2 _ I2 q2) fun ws s3 ⟨ps,H3,I3,rel,q3⟩=>⟨(x,y)::ps,H3,I3,.cons ⟨rx,ry⟩ rel,q3⟩)
noncomputable def jbT (kvs more:List (zi×V)):List (zi×V):=more.foldl (fun acc kv=>QL acc kv.1 kv.2) kvs
theorem KV.merge:∀{more:List (zi×V)} {rs:List (zi×Value)} {kvs:List (zi×V)} {vs:List (zi×Value)},KV more rs->KV kvs vs->KV (jbT kvs more) (merged vs rs):=by
 intro more rs kvs vs r
 unfold KV at r
 induction r generalizing kvs vs with
 | nil=>intro q;exact q
 | @cons p q ps qs h t ih=>
   intro r0
   have e:KV (QL kvs p.1 p.2) (stored vs q.1 q.2):=by
    have:=r0.put p.1 h.2
    rw [<-h.1];exact this
   exact ih e
theorem Q2:∀(more kvs:List (zi×V)),(jbT kvs more).length<=kvs.length+more.length
 | [],kvs=>by show kvs.length<=kvs.length+0;omega
 | p::r,kvs=>by
   have h1:=Q2 r (QL kvs p.1 p.2)
   have h2:=Qk kvs p.1 p.2
   show (jbT (QL kvs p.1 p.2) r).length<=_
   rw [List.length_cons];omega
theorem jbb {P:Program} {w:World}:∀{kvs:List (zi×V)} {ws:List (Value×Value)},VV (kvs.map fun kv=>(kV kv.1,kv.2)) ws->∃rs,Carries (j1 P w) ws rs/\KV kvs rs
 | [],_,r=>by rw [List.map_nil] at r;cases r;exact ⟨[],True.intro,.nil⟩
 | p::kvs,_,r=>by
   rw [List.map_cons] at r
   cases r with
   | @cons a b as bs h t=>
     obtain ⟨rs,c,q⟩:=jbb (P:=P) (w:=w) t
     obtain ⟨b1,b2⟩:=b
     exact ⟨(p.1,b2)::rs,⟨jfV h.1,rfl,c⟩,.cons ⟨rfl,h.2⟩ q⟩
noncomputable def jkA (trs:List (TE×TE)):TE:=fun σ H Q=>∀p,H p=none->jeY trs σ (upd H p (.dK [])) fun ps H2=>H2 p=some (.dK [])/\∃kvs:List (zi×V),ps=kvs.map (fun kv=>(kV kv.1,kv.2))/\kvs.length<=15/\Q (.ref p) (upd H2 p (.dK (jbT [] kvs)))
theorem jjc {X:Cx} {pos:Pos} {keys:List (Option Expr)} {values:List Expr} {trs:List (TE×TE)} (h:PPs X pos keys values trs) (hall:keys.all (·.isSome)=true) (hl:keys.length=values.length) (h0:keys≠[])
 (h15:keys.length<=15):PE X (.Dict keys values pos) (jkA trs):=by
 intro pins s σ H Q I q
 have hn:=I.hok.fresh (Nat.le_refl s.heap.objs.size)
 have I1:=I.laid (a:=s.heap.objs.size) (o:=.dK []) (h':=s.heap.push { cls:=.type "dict", data := .dict #[] }) (t' := s.toks) (fun _ _ q => Heap.get?_push_of_some _ q) (Nat.le_refl _) (jdB s.heap I.big)
 refine wpAny_Dict_walk (knd:=j1 X.prog X.w) hall hl h0 h15 (qr (h pins _ σ _ _ I1 (q _ hn)) fun ws s2 ⟨ps,H2,I2,rel,e,kvs,ep,lk,q2⟩=>?_)
 subst ep
 obtain ⟨rs,c,rk⟩:=jbb (P:=X.prog) (w:=X.w) rel
 obtain ⟨z,hd,vs0,r0,dd⟩:=jkF I2.hok e
 cases r0
 refine ⟨rs,c,dd,fun h' dd' hs=>⟨.ref s.heap.objs.size,_,?_,rfl,q2⟩⟩
 have hz:(jbT [] kvs).length<=sizeLine:=by
  have h1:=Q2 kvs []
  rw [List.length_nil] at h1
  rw [sizeLine_eq];omega
 have he:∃q,h'.get? s.heap.objs.size=some q:=let ⟨q,_,_,hq,_⟩:=dd';⟨q,hq⟩
 exact jcR I2 (by rw [e];exact True.intro) hs he (jie hz hd (rk.merge .nil) dd')
structure M2 (X:Cx) (o:Expr) (m:Str) (apos:Pos) (e f:Expr) (cpos:Pos):Prop where
 base:attributeBase o m X.env (eval o X.env)=eval o X.env
 few:((backTo cpos (starEach [e,f] X.env)).all (fun x=>!x.1) && (backToKw cpos (keywordEach [] X.env)).all (fun x=>x.1.isSome)
  && decide (([e,f]:List Expr).length+([]:List Keyword).length+(if ([]:List Keyword).isEmpty then 0 else 1)<30))=true
 line:(apos.endLine == cpos.line)=true
 trees:backTo cpos (starEach [e,f] X.env)=[(false,eval e X.env),(false,eval f X.env)]
noncomputable def IsD (H:Hp) (a:Addr):Prop:=(∃kvs,Rd H a (.dK kvs))\/∃kvs,Rd H a (.dT kvs)
theorem jiU {X:Cx} {pins:List (Addr×Obj)} {σ:St} {H:Hp} {s:Shared} {a:Addr} (I:Inv X pins σ H s) (d:IsD H a) :
 s.TypeIs (.ref a) "dict" ∧ (∀ b, Value.ref a = .ref b → ∃ ob, s.heap.get? b = some ob ∧ ob.dict = none) ∧ (a == sysModules) = false := by
 rcases d with ⟨kvs,e⟩ | ⟨kvs,e⟩
 . obtain ⟨_,hd,vs,_,dd⟩:=jf6 I.hok e
   refine ⟨dd.typeIs,fun b q=>?_,hd⟩
   cases q
   obtain ⟨ob,_,_,h1,h2,_⟩:=dd
   exact ⟨ob,h1,h2.2.1⟩
 . obtain ⟨_,hd,xs,_,dd⟩:=jhv I.hok e
   refine ⟨dd.typeIs,fun b q=>?_,hd⟩
   cases q
   obtain ⟨ob,_,_,h1,h2,_⟩:=dd
   exact ⟨ob,h1,h2.2.1⟩
section
variable {X:Cx} {pins:List (Addr×Obj)} {σ:St} {H:Hp} {s:Shared} {a:Addr} {y d:V} {u r:Value} {o:Option V} {A:Around} {E:Value->Shared->Prop}
theorem jlc {Q:Value->Shared->Prop} (hu:A.units+1<cLine) (I:Inv X pins σ H s) (g:jne H a y o) (ry:RelV y u) (rd:RelV d r) (h:∀w' s',Inv X pins σ H s'->RelV (o.getD d) w'->Q w' s') :
 wpAny (model X.prog X.w) A (call (.builtin "dict.get") [.ref a, u, r]) Q E s := by
 rcases g with ⟨kvs,k,e,ey,l⟩ | ⟨kvs,k,b,e,ey,eb,l⟩
 . subst ey
   obtain ⟨z,hd,vs,rel,dd⟩:=jf6 I.hok e
   refine call_meetsIn PySem.F.slot_dict_get dd.typeIs PySem.F.entry_dict_get (PySem.F.args_dict_get_3 _ _ _) (meets_dict_get_default (j1 X.prog X.w) a (jfV ry) hd r) ⟨_,dd.mapOf,h _ _ (I.tok _) ?_⟩
   rw [l]
   exact (rel.val k).getD rd
 . subst ey
   cases (show u=Value.ref b from ry)
   obtain ⟨z,hd,xs,rel,dd⟩:=jhv I.hok e
   refine call_meetsIn PySem.F.slot_dict_get dd.typeIs PySem.F.entry_dict_get (PySem.F.args_dict_get_3 _ _ _) (meetsH_dict_get_default (tupleKind (j1 X.prog X.w)) a b hd r) ⟨tupleKind_room_in1 hu,k,xs,J6 I.hok eb,dd,h _ _ (I.tok _) ?_⟩
   rw [l]
   exact (rel.val k).getD rd
end
noncomputable def jiG (td ty tx:TE):TE:=fun σ H Q=>td σ H fun x H1=>∃a,x=.ref a/\IsD H1 a/\ty σ H1 fun y H2=>tx σ H2 fun z H3=>∃o,jne H3 a y o/\Q (o.getD z) H3
section
variable {X:Cx} {o e f:Expr} {apos cpos:Pos} {td ty tx:TE}
theorem jiq (hu:X.A.units+1<cLine) (ho:PE X o td) (he:PE X e ty) (hf:PE X f tx) (m:M2 X o "get" apos e f cpos) : PE X (.Call (.Attribute o "get" apos) [e, f] [] cpos) (jiG td ty tx) := by
 intro pins s σ H Q I h
 refine wpAny_Call_method m.base m.few m.line PySem.F.plainAttrs_dict PySem.F.slot_dict_get PySem.F.type_dict_get (qr (ho pins s σ H _ I h) fun u s1 ⟨x,H1,I1,rx,a,ex,d,q1⟩=>?_)
 subst ex
 obtain rfl:u=Value.ref a:=rx
 obtain ⟨t1,t2,_⟩:=jiU I1 d
 refine ⟨t1,t2,?_⟩
 rw [m.trees]
 refine Calls.callWith_builtin rfl (Calls.evalArgs_plain (Calls.spliced_cons (qr (he pins s1 σ H1 _ I1 q1) fun iv s2 ⟨y,H2,I2,ry,q2⟩=>
  Calls.spliced_cons (qr (hf pins s2 σ H2 _ I2 q2) fun fv s3 ⟨z,H3,I3,rz,ov,g,q3⟩=>Calls.spliced_nil ?_))))
 exact jlc hu I3 g ry rz fun w' s4 I4 rw'=>⟨_,H3,I4,rw',q3⟩
end
section
variable {X:Cx} {pins:List (Addr×Obj)} {σ:St} {H:Hp} {s:Shared} {a:Addr} {kvs:List (zi×V)} {A:Around} {E:Value->Shared->Prop}
end
section
variable {X:Cx} {pins:List (Addr×Obj)} {σ:St} {H:Hp} {s:Shared} {a:Addr} {y:V} {u:Value} {A:Around} {E:Value->Shared->Prop}
end
end L2
set_option linter.all false
namespace L2S
open PySem
noncomputable def Ris (xs:Array Nat):Prop:=∀i j,i<j->j<xs.size->xs.getD i 0<xs.getD j 0
theorem ja5 {xs:Array Nat} {j:Nat} (R:Ris xs):∀(fuel lo hi:Nat),lo<=hi->hi<=xs.size->hi-lo<=fuel->(∀i,i<lo->xs.getD i 0<j)->(∀i,hi<=i->i<xs.size->j<=xs.getD i 0)->
 (SetTable.below.go xs j fuel lo hi<=xs.size)/\(∀i,i<SetTable.below.go xs j fuel lo hi->xs.getD i 0<j)/\(∀i,SetTable.below.go xs j fuel lo hi<=i->i<xs.size->j<=xs.getD i 0)
 | 0,lo,hi,h1,h2,h3,h4,h5=>by
   have:lo=hi:=by omega
   subst this
   exact ⟨h2,h4,h5⟩
 | fuel+1,lo,hi,h1,h2,h3,h4,h5=>by
   unfold SetTable.below.go
   by_cases hlt:lo<hi
   . rw [if_pos hlt]
     dsimp only
     have hm:(lo+hi)/2<xs.size:=by omega
     have e:xs.getD ((lo+hi)/2) j=xs.getD ((lo+hi)/2) 0:=by simp [Array.getD,hm]
     rw [e]
     by_cases hc:xs.getD ((lo+hi)/2) 0<j
     . rw [if_pos hc]
       refine ja5 R fuel _ _ (by omega) h2 (by omega) (fun i hi'=>?_) h5
       rcases Nat.lt_or_ge i ((lo+hi)/2) with q | q
       . exact Nat.lt_trans (R i _ q hm) hc
       . have:i=(lo+hi)/2:=by omega
         subst this
         exact hc
     . rw [if_neg hc]
       refine ja5 R fuel _ _ (by omega) (by omega) (by omega) h4 (fun i hi' hs=>?_)
       rcases Nat.lt_or_ge ((lo+hi)/2) i with q | q
       . exact Nat.le_trans (Nat.le_of_not_lt hc) (Nat.le_of_lt (R _ i q hs))
       . have:i=(lo+hi)/2:=by omega
         subst this
         exact Nat.le_of_not_lt hc
   . rw [if_neg hlt]
     have:lo=hi:=by omega
     subst this
     exact ⟨h2,h4,h5⟩
theorem jbt {xs:Array Nat} {j:Nat} (R:Ris xs):SetTable.below xs j<=xs.size/\(∀i,i<SetTable.below xs j->xs.getD i 0<j)/\(∀i,SetTable.below xs j<=i->i<xs.size->j<=xs.getD i 0):=
 ja5 R xs.size 0 xs.size (Nat.zero_le _) (Nat.le_refl _) (by omega) (fun i h=>absurd h (Nat.not_lt_zero _)) fun i h1 h2=>absurd h2 (Nat.not_lt.mpr h1)
theorem jeU {xs:Array Nat} {i:Nat} (R:Ris xs) (hi:i<xs.size):SetTable.below xs (xs.getD i 0+1)=i+1:=by
 obtain ⟨b1,b2,b3⟩:=jbt (j:=xs.getD i 0+1) R
 rcases Nat.lt_trichotomy (SetTable.below xs (xs.getD i 0+1)) (i+1) with q | q | q
 . have:=b3 i (by omega) hi
   omega
 . exact q
 . have:=b2 (i+1) q
   have h2:i+1<xs.size:=by omega
   have:=R i (i+1) (by omega) h2
   omega
theorem jez {xs:Array Nat} (R:Ris xs):SetTable.below xs 0=0:=by
 obtain ⟨b1,b2,b3⟩:=jbt (j:=0) R
 rcases Nat.eq_zero_or_pos (SetTable.below xs 0) with q | q
 . exact q
 . have:=b2 0 q
   omega
theorem jce {α:Type} (xs:Array α) (p:Nat) (x:α) (hp:p<=xs.size):(SetTable.insertAt xs p x).size=xs.size+1:=by
 unfold SetTable.insertAt
 simp only [Array.size_append,Array.size_push,Array.size_extract]
 omega
theorem jaH {α:Type} (xs:Array α) (p:Nat) (x:α):(SetTable.insertAt xs p x).toList=xs.toList.take p++[x]++xs.toList.drop p:=by
 unfold SetTable.insertAt
 simp [Array.toList_extract,List.extract]
 rw [List.take_of_length_le (by simp)]
theorem QO (xs:Array Nat) (p x i:Nat) (hp:p<=xs.size):(SetTable.insertAt xs p x).getD i 0=if i<p then xs.getD i 0 else if i=p then x else xs.getD (i-1) 0:=by
 have e:=jaH xs p x
 have g:∀(ys:Array Nat) (k:Nat),ys.getD k 0=ys.toList.getD k 0:=fun ys k=>by
  simp [Array.getD_eq_getD_getElem?,List.getD_eq_getElem?_getD]
 rw [g,e,g,g]
 simp only [List.getD_eq_getElem?_getD]
 have hl:(xs.toList.take p).length=p:=by simp;omega
 split
 . rename_i h
   rw [List.append_assoc,List.getElem?_append_left (by omega),List.getElem?_take_of_lt h]
 . split
   . rename_i h1 h2
     subst h2
     rw [List.append_assoc,List.getElem?_append_right (by omega)]
     simp [hl]
   . rename_i h1 h2
     rw [List.getElem?_append_right (by simp;omega),List.getElem?_drop]
     simp only [List.length_append,hl,List.length_cons,List.length_nil]
     rw [show p+(i-(p+(0+1)))=i-1 by omega]
theorem jfd {xs:Array Nat} {j:Nat} (R:Ris xs) (hn:xs[SetTable.below xs j]?≠some j):Ris (SetTable.insertAt xs (SetTable.below xs j) j):=by
 obtain ⟨b1,b2,b3⟩:=jbt (j:=j) R
 generalize SetTable.below xs j=p at *
 intro a b hab hb
 rw [jce _ _ _ b1] at hb
 rw [QO _ _ _ _ b1,QO _ _ _ _ b1]
 have hp:p<xs.size->j<xs.getD p 0:=fun h=>by
  have h1:=b3 p (Nat.le_refl _) h
  have h2:xs.getD p 0≠j:=fun z=>hn (by
   rw [Array.getElem?_eq_getElem h]
   simp [Array.getD,h] at z
   rw [z])
  omega
 have mono:∀c,p<=c->c<xs.size->j<xs.getD c 0:=fun c h1 h2=>by
  rcases Nat.lt_or_ge p c with q | q
  . have:=R p c q h2
    have:=hp (by omega)
    omega
  . have:c=p:=by omega
    subst this
    exact hp h2
 split <;> split <;> (try split) <;> (try split)
 all_goals first
  | (rename_i h1 h2;exact R a b hab (by omega))
  | skip
 all_goals first
  | omega
  | (apply R;omega;omega)
  | (rename_i h1 h2 h3;exact b2 a h1)
  | skip
 all_goals first
  | (exact b2 _ (by omega))
  | (exact mono _ (by omega) (by omega))
  | (exact Nat.lt_trans (b2 _ (by omega)) (mono _ (by omega) (by omega)))
  | skip
theorem QH (n:Nat):Ris (Array.range n):=by
 intro i j h1 h2
 rw [Array.size_range] at h2
 simp [Array.getD,h2,show i<n by omega]
 exact h1
theorem jab (f:Nat->Option Nat):∀(l:List Nat),((l.filterMap fun j=>(f j).map (j,·)).map (·.1)).Sublist l
 | []=>by simp
 | a::l=>by
   rw [List.filterMap_cons]
   cases e:f a with
   | none=>exact (jab f l).cons a
   | some b=>exact (jab f l).cons₂ a
theorem jaI {l:List Nat} (h:l.Pairwise (· < ·)):Ris l.toArray:=by
 intro i j h1 h2
 have h2':j<l.length:=by simpa using h2
 have:=(List.pairwise_iff_getElem.mp h) i j (by omega) h2' h1
 simp [Array.getD,h2',show i<l.length by omega]
 exact this
theorem jiu {mask finger moves:Nat} {led plain:Bool} {hs:Array Int} {t:SetTable} {o:Array Nat} (h:SetTable.laid mask finger moves led plain hs=some (t,o)):Ris t.place/\t.led=led/\t.plain=plain:=by
 unfold SetTable.laid at h
 cases e:SetTable.layClean mask hs with
 | none=>rw [e] at h;cases h
 | some ow=>
   rw [e] at h
   have h':=Option.some.inj h
   have h1:=congrArg (·.1) h'
   dsimp only at h1
   subst h1
   refine ⟨?_,rfl,rfl⟩
   dsimp only
   refine jaI ?_
   exact (List.pairwise_lt_range).sublist (jab (fun j=>ow.getD j none) (List.range (mask+1)))
end L2S
set_option Elab.async false
set_option linter.all false
set_option maxRecDepth 100000
set_option maxHeartbeats 1000000
namespace L2
open PySem PySem.Spec PyProof.Rows
noncomputable abbrev zR (h:Heap) (z TI TO a:Addr) (f:Bool):Prop:=
 h.get? z=some { cls:=.type "zip", dict := none, data := .fields #[rawInt a, .bool f, .bool false, .ref TI, .ref TO], slots := #[] }
section
variable {prog:Program} {w:World} {A:Around} {E:Value->Shared->Prop} {s:Shared}
theorem Z7 {h:Heap} {b:Addr} {o:Obj} (e:h.get? b=some o):@LT.lt Nat instLTNat b h.objs.size:=Heap.lt_size e
theorem jiy {a:Addr} {o:Obj} {Q:Option Obj->Shared->Prop} (ho:s.heap.get? a=some o) (h:Q (some o) s):wpAny (model prog w) A (loadIfAlive a) Q E s:=by
 have q:Q (s.heap.get? a) s:=by rw [ho];exact h
 exact fun _ _ _=>q
theorem jbV {z TI TO a:Addr} {f:Bool} {oa:Obj} {Q:Bool->Shared->Prop} (hz:zR s.heap z TI TO a f) (ha:s.heap.get? a=some oa)
 (hQ:∀h',zR h' z TI TO a true->Heap.SameBut z s.heap h'->Q false { s with heap:=h' }):wpAny (model prog w) A (Builtin.SmallTypes.ownedTupleIsFree (.ref z)) Q E s:=by
 unfold Builtin.SmallTypes.ownedTupleIsFree
 refine wpAny_bind (wpAny_field hz rfl (x:=rawInt a) rfl ?_)
 show wpAny _ _ (loadIfAlive ((a:Int).toNat) >>= _) _ _ _
 rw [Int.toNat_natCast]
 refine wpAny_bind (jiy ha ?_)
 simp only [Option.isNone_some,Bool.false_eq_true,if_false]
 refine wpAny_bind (wpAny_field hz rfl (x:=.bool f) rfl ?_)
 cases f with
 | true=>
   rw [if_neg (show ¬((Value.bool true != Value.bool true)=true) from Bool.false_ne_true)]
   exact wpAny_pure (hQ s.heap hz (Heap.SameBut.refl _ _))
 | false=>
   rw [if_pos (show (Value.bool false != Value.bool true)=true from rfl)]
   refine wpAny_bind (wpAny_setField_rec hz (by simp) fun h' hz' hs'=>?_)
   exact wpAny_pure (hQ h' hz' hs')
theorem jb6 {z TI TO i1 i2 l1 l2 a:Addr} {f:Bool} {oa:Obj} {k1 k2:Nat} {xs ys:Array Value} {x y:Value} {Q:Option Value->Shared->Prop} (D:ZipApart z TI TO i1 i2 l1 l2)
 (hz:zR s.heap z TI TO a f) (ha:s.heap.get? a=some oa) (hTI:IsPair s.heap TI (.ref i1) (.ref i2))
 (h1:s.heap.IsListIter i1 l1 k1) (h2:s.heap.IsListIter i2 l2 k2) (hl1:s.heap.IsList l1 xs) (hl2:s.heap.IsList l2 ys) (hx:xs[k1]?=some x) (hy:ys[k2]?=some y)
 (hQ:∀h',zR h' z TI TO a true->h'.IsListIter i1 l1 (k1+1)->h'.IsListIter i2 l2 (k2+1)->IsPair h' s.heap.objs.size x y->h'.objs.size=s.heap.objs.size+1->
  (∀c o,c≠z->c≠i1->c≠i2->s.heap.get? c=some o->h'.get? c=some o)->Q (some (.ref s.heap.objs.size)) { s with heap:=h' }) :
 wpAny (model prog w) A (pyNext (.ref z)) Q E s:=by
 have hT:s.TypeIs (.ref z) "zip" := ⟨_, hz, rfl⟩
 unfold pyNext
 refine wpAny_bind (wpAny_attempt (wpAny_callSpecial?_slot (name:=Str.ofString "__next__") hT F.slot_zip_next (wpAny_call_entry F.slot_zip_next hT F.entry_zip_next ?_ (F.args_zip_next_1 _))))
 show wpAny _ _ (field (.ref z) 2 >>= _) _ _ _
 refine wpAny_bind (wpAny_field hz rfl (x:=.bool false) rfl ?_)
 show wpAny _ _ (field (.ref z) 3 >>= _) _ _ _
 refine wpAny_bind (wpAny_field hz rfl (x:=.ref TI) rfl ?_)
 refine wpAny_bind (wpAny_seqItems hTI rfl ?_)
 show wpAny _ _ (Builtin.SmallTypes.ownedTupleIsFree (.ref z) >>= _) _ _ _
 refine wpAny_bind (jbV hz ha fun g1 hz1 s1=>?_)
 simp only [Bool.false_eq_true,if_false]
 rw [<-Array.forIn_toList]
 simp only [List.forIn_cons,List.forIn_nil]
 refine wpAny_bind (wpAny_bind (wpAny_bind (wpAny_holding ?_)))
 show wpAny _ _ (Builtin.SmallTypes.nextOf (.ref i1) >>= _) _ _ _
 refine wpAny_bind (wpAny_nextOf_list_item (h1.extBut s1.extBut D.i1z) (hl1.extBut s1.extBut D.l1z) hx fun g2 p2 s2=>wpAny_pure (wpAny_pure ?_))
 refine wpAny_bind (wpAny_bind (wpAny_holding ?_))
 show wpAny _ _ (Builtin.SmallTypes.nextOf (.ref i2) >>= _) _ _ _
 refine wpAny_bind (wpAny_nextOf_list_item ((h2.extBut s1.extBut D.i2z).extBut s2.extBut D.i12.symm) ((hl2.extBut s1.extBut D.l2z).extBut s2.extBut D.l2i1) hy fun g3 p3 s3=>wpAny_pure (wpAny_pure (wpAny_pure ?_)))
 dsimp only
 refine wpAny_bind (wpAny_newTuple (hsz:=by show 2<=sizeLine;decide) ?_)
 have hsz:g3.objs.size=s.heap.objs.size:=by rw [s3.1,s2.1,s1.1]
 have hz3:zR g3 z TI TO a true:=s3.extBut _ _ D.i2z.symm (s2.extBut _ _ D.i1z.symm hz1)
 refine wpAny_pure ⟨_,rfl,wpAny_pure ?_⟩
 show Q (some (.ref g3.objs.size)) _
 rw [hsz]
 refine hQ _ (Heap.get?_push_of_some _ hz3) ((p2.extBut s3.extBut D.i12).at fun o e=>Heap.get?_push_of_some _ e) (p3.at fun o e=>Heap.get?_push_of_some _ e) ?_ (by rw [Heap.size_push,hsz]) fun c o c1 c2 c3 e=>Heap.get?_push_of_some _ (s3.extBut _ _ c3 (s2.extBut _ _ c2 (s1.extBut _ _ c1 e)))
 rw [<-hsz]
 exact Heap.get?_push_size _ rfl
theorem jc0 {z TI TO i1 i2 l1 l2 a:Addr} {f:Bool} {oa:Obj} {k1 k2:Nat} {xs ys:Array Value} {Q:Option Value->Shared->Prop} (hh:A.handled=none) (D:ZipApart z TI TO i1 i2 l1 l2)
 (hz:zR s.heap z TI TO a f) (ha:s.heap.get? a=some oa) (hTI:IsPair s.heap TI (.ref i1) (.ref i2))
 (h1:s.heap.IsListIter i1 l1 k1) (h2:s.heap.IsListIter i2 l2 k2) (hl1:s.heap.IsList l1 xs) (hl2:s.heap.IsList l2 ys) (hend:xs[k1]?=none\/ys[k2]?=none)
 (hQ:∀h',(∀c o,c≠z->c≠i1->c≠i2->s.heap.get? c=some o->h'.get? c=some o)->Q none { s with heap:=h' }):wpAny (model prog w) A (pyNext (.ref z)) Q E s:=by
 have hT:s.TypeIs (.ref z) "zip" := ⟨_, hz, rfl⟩
 have stop:∀(h':Heap) (e:Addr),(∀c o,c≠z → c≠i1 → c≠i2 → s.heap.get? c=some o → h'.get? c=some o) → (∃o,h'.get? e=some o ∧ o.cls=.type "StopIteration") →
  wpAny (model prog w) A (do let b ← isInstance (.ref e) (.type "StopIteration"); if b = true then pure none else throw (.ref e)) Q E { s with heap := h' } := by
  rintro h' e hk ⟨o,ho,hc⟩
  refine wpAny_bind (wpAny_isInstance (T := "StopIteration") (b := true) ⟨o, ho, hc⟩ isSubtype_stop ?_)
  exact wpAny_pure (hQ _ hk)
 unfold pyNext
 refine wpAny_bind (wpAny_attempt (wpAny_callSpecial?_slot (name:=Str.ofString "__next__") hT F.slot_zip_next (wpAny_call_entry F.slot_zip_next hT F.entry_zip_next ?_ (F.args_zip_next_1 _))))
 show wpAny _ _ (field (.ref z) 2 >>= _) _ _ _
 refine wpAny_bind (wpAny_field hz rfl (x:=.bool false) rfl ?_)
 show wpAny _ _ (field (.ref z) 3 >>= _) _ _ _
 refine wpAny_bind (wpAny_field hz rfl (x:=.ref TI) rfl ?_)
 refine wpAny_bind (wpAny_seqItems hTI rfl ?_)
 show wpAny _ _ (Builtin.SmallTypes.ownedTupleIsFree (.ref z) >>= _) _ _ _
 refine wpAny_bind (jbV hz ha fun g1 hz1 s1=>?_)
 simp only [Bool.false_eq_true,if_false]
 rw [<-Array.forIn_toList]
 simp only [List.forIn_cons,List.forIn_nil]
 refine wpAny_bind (wpAny_bind (wpAny_bind (wpAny_holding ?_)))
 show wpAny _ _ (Builtin.SmallTypes.nextOf (.ref i1) >>= _) _ _ _
 cases hx:xs[k1]? with
 | none=>exact wpAny_bind (wpAny_nextOf_list_end hh (h1.extBut s1.extBut D.i1z) (hl1.extBut s1.extBut D.l1z) hx fun g2 e s2 he=>stop g2 e (fun c o c1 c2 c3 q=>s2 _ _ c2 (s1.extBut _ _ c1 q)) he)
 | some x=>
   have hy:ys[k2]?=none:=by
    rcases hend with q | q
    . rw [hx] at q;cases q
    . exact q
   refine wpAny_bind (wpAny_nextOf_list_item (h1.extBut s1.extBut D.i1z) (hl1.extBut s1.extBut D.l1z) hx fun g2 p2 s2=>wpAny_pure (wpAny_pure ?_))
   refine wpAny_bind (wpAny_bind (wpAny_holding ?_))
   show wpAny _ _ (Builtin.SmallTypes.nextOf (.ref i2) >>= _) _ _ _
   exact wpAny_bind (wpAny_nextOf_list_end hh ((h2.extBut s1.extBut D.i2z).extBut s2.extBut D.i12.symm) ((hl2.extBut s1.extBut D.l2z).extBut s2.extBut D.l2i1) hy fun g3 e s3 he=>stop g3 e (fun c o c1 c2 c3 q=>s3 _ _ c3 (s2.extBut _ _ c2 (s1.extBut _ _ c1 q))) he)
theorem jao {R:Result->Shared->Prop} {S I:Addr} {res:Value} (St:Nat->Array Value->Shared->Prop)
 (turn:∀n acc s,St n acc s->acc.size<sizeLine/\wpAny (model prog w) A.in1 (pyNext (.ref I)) (fun r s'=>match r with
  | none=>R (.ok (.ret res)) s'
  | some v=>(∃c,s'.heap.get? S=some { cls:=.type "list", data := .seq acc c }) ∧
      ∀h' c',h'.get? S=some { cls:=.type "list", data := .seq (acc.push v) c' } → Heap.SameBut S s'.heap h' → ∃ m, m < n ∧ St m (acc.push v) { s' with heap := h' }) (fun e s' => R (.error e) s') s) :
 ∀n acc s,St n acc s → codeAny (model prog w) A (.builtin "list.extend.loop" ⟨[.ref S, .ref I, res], []⟩) R s := by
 intro n
 induction n using Nat.strongRecOn with
 | ind n ih=>
   intro acc s hs
   obtain ⟨hz,t⟩:=turn n acc s hs
   refine codeAny_builtin F.entry_extend_loop ?_
   rw [Around.under_plainId F.plain_extend_loop _]
   show wpAny _ A.in1 (pyNext (.ref I) >>= _) _ _ s
   refine wpAny_bind (wpAny_mono t (fun r s' q=>?_) fun _ _ q=>q)
   cases r with
   | none=>exact wpAny_pure q
   | some v=>
     obtain ⟨⟨c,e⟩,q⟩:=q
     show wpAny _ A.in1 (updateSeq S (·.push v) >>= _) _ _ _
     refine wpAny_bind ?_
     refine wpAny_updateSeq e rfl (wpAny_pure ⟨plainId_quiet F.plain_extend_loop _,?_⟩) (by omega) (by show (acc.push v).size<=sizeLine+1;rw [Array.size_push];omega)
     have e2:=Heap.get?_update_self (Obj.mapSeq (·.push v)) e rfl
     obtain ⟨m,hm,hs'⟩:=q _ _ e2 (Heap.SameBut.update ..)
     exact ih m hm _ _ hs'
theorem jeT:typeLookup (.type "zip") "__len__" = pure none := by rw [typeLookup_type, builtinLookup_eq_fast]; kernel_rfl
theorem jdx:typeLookup (.type "zip") "__length_hint__" = pure none := by rw [typeLookup_type, builtinLookup_eq_fast]; kernel_rfl
theorem jim {z TI TO:Addr} {f0:Value} {Q:Bool->Shared->Prop} (hz:IsZip s.heap z TI TO f0) (h:Q true s):wpAny (model prog w) A (Builtin.List.listLengthHint (.ref z)) Q E s:=by
 have hT:s.TypeIs (.ref z) "zip" := ⟨_, hz, rfl⟩
 unfold Builtin.List.listLengthHint
 refine wpAny_bind (wpAny_specialOf hT jeT ?_)
 show wpAny _ _ (specialOf (Value.ref z) (Str.ofString "__length_hint__") >>= _) _ _ s
 refine wpAny_bind (wpAny_specialOf hT jdx ?_)
 exact wpAny_pure h
structure ZipMade (h₀ h:Heap) (S z TO i1 i2:Addr) (xs ys acc:Array Value) (i:Nat):Prop where
 size:acc.size=i
 pair:∀j,j<i->∃T x y,acc[j]?=some (.ref T)/\xs[j]?=some x/\ys[j]?=some y/\IsPair h T x y/\h₀.objs.size<=T/\T≠S/\(T≠z/\T≠TO/\T≠i1/\T≠i2)/\∀k,k<j->acc[k]?≠some (.ref T)
 keep:∀b o,h₀.get? b=some o->h.get? b=some o
theorem jig {z TI TO i1 i2 l1 l2:Addr} {xs ys:Array Value} {h₀:Heap} {Q:Value->Shared->Prop} (hh:A.handled=none) (D:ZipApart z TI TO i1 i2 l1 l2)
 (hz:IsZip s.heap z TI TO .none) (hTI:IsPair s.heap TI (.ref i1) (.ref i2)) (hTO:∃a b,IsPair s.heap TO a b) (h1:s.heap.IsListIter i1 l1 0) (h2:s.heap.IsListIter i2 l2 0) (hl1:h₀.IsList l1 xs) (hl2:h₀.IsList l2 ys)
 (hk:∀b o,h₀.get? b=some o->s.heap.get? b=some o) (hge:h₀.objs.size<=z/\h₀.objs.size<=TO/\h₀.objs.size<=i1/\h₀.objs.size<=i2) (hle:h₀.objs.size<=s.heap.objs.size) (hn:xs.size<sizeLine)
 (hQ:∀S h' acc c,h₀.objs.size ≤ S → h'.get? S=some { cls:=.type "list", data := .seq acc c } → ZipMade h₀ h' S z TO i1 i2 xs ys acc (min xs.size ys.size) → Q (.ref S) { s with heap := h' }) :
 wpAny (model prog w) A (call (.type "list") [.ref z]) Q E s := by
 refine callType_codes (Q₁:=fun obj s₁=>obj=.ref s.heap.objs.size ∧ s₁={ s with heap:=s.heap.push { cls:=.type "list", data := .seq #[] } }) F.called_list (F.typeCall_list_1 _) F.entry_list_init (code_list_new _ ⟨rfl, rfl⟩) fun obj s₁ e₁ => ?_
 obtain ⟨rfl,rfl⟩:=e₁
 generalize hSd:s.heap.objs.size=S at *
 have hS:(s.heap.push { cls:=.type "list", data := .seq #[] }).get? S = some { cls := .type "list", data := .seq #[] } := by rw [← hSd]; exact Heap.get?_push_size _ rfl
 refine ⟨⟨_,hS,rfl⟩,F.args_list_init_2 _ _,?_⟩
 generalize hG:s.heap.push { cls:=.type "list", data := .seq #[] } = G at *
 have up:∀b o,s.heap.get? b=some o->G.get? b=some o:=fun b o e=>by rw [<-hG];exact Heap.get?_push_of_some _ e
 have nS:∀b o,s.heap.get? b=some o->b≠S:=fun b o e=>by rw [<-hSd];exact Nat.ne_of_lt (Heap.lt_size e)
 obtain ⟨ta,tb,hTO⟩:=hTO
 obtain ⟨oi1,ei1,_⟩:=id h1
 obtain ⟨oi2,ei2,_⟩:=id h2
 have zS:=nS _ _ hz
 have i1S:=nS _ _ ei1
 have i2S:=nS _ _ ei2
 have TIS:=nS _ _ hTI
 have TOS:=nS _ _ hTO
 have zl:z<S:=by have q:=Z7 hz;rw [hSd] at q;exact q
 have TOl:TO<S:=by have q:=Z7 hTO;rw [hSd] at q;exact q
 have i1l:i1<S:=by have q:=Z7 ei1;rw [hSd] at q;exact q
 have i2l:i2<S:=by have q:=Z7 ei2;rw [hSd] at q;exact q
 -- the list is emptied, then filled
 show wpAny _ _ (do let old <- Builtin.List.listItems (.ref S);Builtin.List.listUpdate (.ref S) (fun _=>#[]);letGo old.toList.reverse;Builtin.List.listExtendWith (.ref S) (.ref z) .none) _ _ _
 refine wpAny_bind ?_
 unfold Builtin.List.listItems
 refine wpAny_bind (wpAny_seqItems hS rfl (wpAny_pure ?_))
 show wpAny _ _ (updateSeq S (fun _=>#[]) >>= fun _=>letGo (#[]:Array Value).toList.reverse >>= fun _=>Builtin.List.listExtendWith (.ref S) (.ref z) .none) _ _ _
 refine wpAny_bind (wpAny_updateSeq hS rfl ?_)
 have hS2:=Heap.get?_update_self (Obj.mapSeq (fun _=>(#[]:Array Value))) hS rfl
 refine wpAny_bind (wpAny_letGo ?_)
 have sb1:Heap.SameBut S G (G.update S (Obj.mapSeq fun _=>(#[]:Array Value))):=Heap.SameBut.update ..
 generalize G.update S (Obj.mapSeq fun _=>(#[]:Array Value))=G1 at hS2 sb1 ⊢
 have up1:∀b o,s.heap.get? b=some o->G1.get? b=some o:=fun b o e=>sb1.extBut b o (nS b o e) (up b o e)
 unfold Builtin.List.listExtendWith
 refine wpAny_bind (wpAny_typeOf (T := "zip") ⟨_, up1 _ _ hz, rfl⟩ ?_)
 have hsr:Builtin.List.listSameRef (.ref S) (.ref z)=false:=by simp [Builtin.List.listSameRef,Ne.symm zS]
 have t1:(Value.type "zip" == Value.type "list") = false := by decide
 have t2:(Value.type "zip" == Value.type "tuple") = false := by decide
 simp only [hsr,t1,t2,Bool.or_false,Bool.false_eq_true,if_false]
 refine wpAny_bind (wpAny_pyIter_zip (up1 _ _ hz) ?_)
 refine wpAny_bind (wpAny_holding (jim (up1 _ _ hz) ?_))
 simp only [Bool.true_or,if_true]
 refine wpAny_bind (wpAny_rule ?_)
 refine wpAny_bind ?_
 show wpAny _ _ (updateSeq S (·.push .none) >>= fun _=>updateSeq S (·.pop)) _ _ _
 refine wpAny_bind (wpAny_updateSeq hS2 rfl ?_)
 have hS3:=Heap.get?_update_self (Obj.mapSeq (·.push Value.none)) hS2 rfl
 have sb2:Heap.SameBut S G1 (G1.update S (Obj.mapSeq (·.push Value.none))):=Heap.SameBut.update ..
 generalize G1.update S (Obj.mapSeq (·.push Value.none))=G2 at hS3 sb2 ⊢
 refine wpAny_updateSeq (hz:=by seq_fits) hS3 rfl ?_
 have hS4:=Heap.get?_update_self (Obj.mapSeq (·.pop)) hS3 rfl
 have sb3:Heap.SameBut S G2 (G2.update S (Obj.mapSeq (·.pop))):=Heap.SameBut.update ..
 generalize G2.update S (Obj.mapSeq (·.pop))=G3 at hS4 sb3 ⊢
 have up3:∀b o,s.heap.get? b=some o->G3.get? b=some o:=fun b o e=>sb3.extBut b o (nS b o e) (sb2.extBut b o (nS b o e) (up1 b o e))
 refine wpAny_pure ⟨plainId_quiet F.plain_extend_loop _,?_⟩
 refine jao (fun n acc s'=>∃(i c:Nat) (h:Heap),s'={ s with heap:=h } ∧ n=xs.size+1-i ∧ i ≤ xs.size ∧ i ≤ ys.size ∧ ZipMade h₀ h S z TO i1 i2 xs ys acc i ∧ h.get? S=some { cls:=.type "list", data := .seq acc c } ∧ IsPair h TI (.ref i1) (.ref i2) ∧
  h.IsListIter i1 l1 i/\h.IsListIter i2 l2 i/\h₀.objs.size<=h.objs.size/\((IsZip h z TI TO .none/\∃a b,IsPair h TO a b)\/∃a f oa,zR h z TI TO a f/\h.get? a=some oa/\a≠z/\a≠i1/\a≠i2/\a≠S)) ?_ (xs.size+1) #[] _
  ⟨0,_,G3,rfl,by omega,Nat.zero_le _,Nat.zero_le _,⟨rfl,fun j hj=>absurd hj (Nat.not_lt_zero _),fun b o e=>up3 b o (hk b o e)⟩,hS4,up3 _ _ hTI,h1.at fun o e=>up3 _ o e,h2.at fun o e=>up3 _ o e,
   by rw [sb3.1,sb2.1,sb1.1,<- hG,Heap.size_push];omega,.inl ⟨up3 _ _ hz,_,_,up3 _ _ hTO⟩⟩
 rintro n acc s' ⟨i,c,h,rfl,rfl,hix,hiy,M,hSl,pTI,p1,p2,hsz,zs⟩
 have hb0:∀{b:Addr} {o:Obj},h₀.get? b=some o->b≠z/\b≠TO/\b≠i1/\b≠i2/\b≠S:=fun {b o} e=>by
  have q:=Z7 e
  exact ⟨Nat.ne_of_lt (Nat.lt_of_lt_of_le q hge.1),Nat.ne_of_lt (Nat.lt_of_lt_of_le q hge.2.1),Nat.ne_of_lt (Nat.lt_of_lt_of_le q hge.2.2.1),Nat.ne_of_lt (Nat.lt_of_lt_of_le q hge.2.2.2),Nat.ne_of_lt (Nat.lt_of_lt_of_le q hle)⟩
 have hl1':h.IsList l1 xs:=hl1.at fun o e=>M.keep _ o e
 have hl2':h.IsList l2 ys:=hl2.at fun o e=>M.keep _ o e
 obtain ⟨ol1,el1,_⟩:=id hl1
 obtain ⟨ol2,el2,_⟩:=id hl2
 refine ⟨by rw [M.size];omega,?_⟩
 have ltS:S<h.objs.size:=Z7 hSl
 -- behind a pair
 have next:∀(h':Heap) (x y:Value) (a:Addr) (f:Bool) (oa:Obj),xs[i]?=some x->ys[i]?=some y->IsPair h' h.objs.size x y->h'.objs.size=h.objs.size+1->zR h' z TI TO a f->h'.get? a=some oa->a≠z->a≠i1->a≠i2->a≠S->
  h'.IsListIter i1 l1 (i+1)->h'.IsListIter i2 l2 (i+1)->(∀c o,c≠z->c≠TO->c≠i1->c≠i2->h.get? c=some o->h'.get? c=some o)->
  (∃c,h'.get? S=some { cls:=.type "list", data := .seq acc c }) ∧
  ∀h'' c',h''.get? S=some { cls:=.type "list", data := .seq (acc.push (.ref h.objs.size)) c' } → Heap.SameBut S h' h'' → ∃ m, m < xs.size + 1 - i ∧ ∃ (i' c : Nat) (g : Heap), ({ s with heap := h'' } : Shared) = { s with heap := g } ∧ m = xs.size + 1 - i' ∧ i' ≤ xs.size ∧ i' ≤ ys.size ∧ ZipMade h₀ g S z TO i1 i2 xs ys (acc.push (.ref h.objs.size)) i' ∧
    g.get? S=some { cls:=.type "list", data := .seq (acc.push (.ref h.objs.size)) c } ∧ IsPair g TI (.ref i1) (.ref i2) ∧ g.IsListIter i1 l1 i' ∧ g.IsListIter i2 l2 i' ∧ h₀.objs.size ≤ g.objs.size ∧
    ((IsZip g z TI TO .none/\∃a b,IsPair g TO a b)\/∃a f oa,zR g z TI TO a f/\g.get? a=some oa/\a≠z/\a≠i1/\a≠i2/\a≠S):=by
  intro h' x y a f oa hx hy pT hs' zh ea az a1 a2 aS q1 q2 kk
  have hxl:i<xs.size:=by
   rcases Nat.lt_or_ge i xs.size with q | q
   . exact q
   . rw [Array.getElem?_eq_none q] at hx;cases hx
  have hyl:i<ys.size:=by
   rcases Nat.lt_or_ge i ys.size with q | q
   . exact q
   . rw [Array.getElem?_eq_none q] at hy;cases hy
  have TS:h.objs.size≠S:=Nat.ne_of_gt ltS
  refine ⟨⟨c,kk _ _ (Ne.symm zS) (Ne.symm TOS) (Ne.symm i1S) (Ne.symm i2S) hSl⟩,fun h'' c' eS sb=>⟨xs.size+1-(i+1),by omega,i+1,c',h'',rfl,rfl,hxl,hyl,⟨by rw [Array.size_push,M.size],fun j hj=>?_,fun b o e=>?_⟩,eS,sb.extBut _ _ TIS (kk _ _ D.TIz D.TITO D.TIi1 D.TIi2 pTI),q1.extBut sb.extBut i1S,q2.extBut sb.extBut i2S,by rw [sb.1];omega,
   .inr ⟨a,f,oa,sb.extBut _ _ zS zh,sb.extBut _ _ aS ea,az,a1,a2,aS⟩⟩⟩
  . rcases Nat.lt_or_ge j i with q | q
    . obtain ⟨T',x',y',e1,e2,e3,e4,e5,e6,e8,e7⟩:=M.pair j q
      have hT':=Z7 e4
      refine ⟨T',x',y',by rw [Array.getElem?_push,if_neg (by rw [M.size];omega)];exact e1,e2,e3,?_,e5,e6,e8,fun k hk'=>by rw [Array.getElem?_push,if_neg (by rw [M.size];omega)];exact e7 k hk'⟩
      obtain ⟨t1',t2',t3',t4'⟩:=e8
      exact sb.extBut _ _ e6 (kk _ _ t1' t2' t3' t4' e4)
    . have e:j=i:=by omega
      subst e
      refine ⟨h.objs.size,x,y,by rw [Array.getElem?_push,if_pos M.size.symm],hx,hy,sb.extBut _ _ TS pT,hsz,TS,⟨Nat.ne_of_gt (Nat.lt_trans zl ltS),Nat.ne_of_gt (Nat.lt_trans TOl ltS),Nat.ne_of_gt (Nat.lt_trans i1l ltS),Nat.ne_of_gt (Nat.lt_trans i2l ltS)⟩,fun k hk'=>?_⟩
      obtain ⟨T',x',y',e1,e2,e3,e4,e5,e6,e8,e7⟩:=M.pair k hk'
      have hT':=Z7 e4
      rw [Array.getElem?_push,if_neg (by rw [M.size];omega),e1]
      intro z'
      have:T'=h.objs.size:=by injection z' with z';injection z'
      exact absurd this (Nat.ne_of_lt hT')
  . obtain ⟨b1,b2,b3,b4,b5⟩:=hb0 e
    exact sb.extBut _ _ b5 (kk _ _ b1 b2 b3 b4 (M.keep b o e))
 have none_of:¬(i<xs.size/\i<ys.size)->(xs[i]?=none\/ys[i]?=none)/\i=min xs.size ys.size:=fun q=>by
  refine ⟨?_,by omega⟩
  rcases Nat.lt_or_ge i xs.size with q1 | q1
  . exact .inr (Array.getElem?_eq_none (by omega))
  . exact .inl (Array.getElem?_eq_none q1)
 by_cases hij:i<xs.size/\i<ys.size
 . have hx:=Array.getElem?_eq_getElem hij.1
   have hy:=Array.getElem?_eq_getElem hij.2
   rcases zs with ⟨zf,ta',tb',pTO⟩ | ⟨a,f,oa,zh,ea,az,a1,a2,aS⟩
   . refine wpAny_pyNext_zip_item D zf pTI pTO p1 p2 hl1' hl2' hx hy fun h' r1 r2 r3 r4 r5 r6 r7=>?_
     exact next h' _ _ _ false _ hx hy r5 r6 r1 r5 (Nat.ne_of_gt (Nat.lt_trans zl ltS)) (Nat.ne_of_gt (Nat.lt_trans i1l ltS)) (Nat.ne_of_gt (Nat.lt_trans i2l ltS)) (Nat.ne_of_gt ltS) r3 r4 r7
   . refine jb6 D zh ea pTI p1 p2 hl1' hl2' hx hy fun h' r1 r3 r4 r5 r6 r7=>?_
     exact next h' _ _ a true oa hx hy r5 r6 r1 (r7 _ _ az a1 a2 ea) az a1 a2 aS r3 r4 fun c o c1 _ c3 c4 e=>r7 c o c1 c3 c4 e
 . obtain ⟨he,hm⟩:=none_of hij
   have fin:∀h':Heap,(∀c o,c≠z->c≠TO->c≠i1->c≠i2->h.get? c=some o->h'.get? c=some o)->wants (fun r s₂=>r=Value.none/\Q (.ref S) s₂) E (.ok (.ret .none)) { s with heap:=h' }:=fun h' kk=>by
    refine ⟨rfl,hQ S h' acc c hle (kk _ _ (Ne.symm zS) (Ne.symm TOS) (Ne.symm i1S) (Ne.symm i2S) hSl) ⟨by rw [M.size,hm],fun j hj=>?_,fun b o e=>?_⟩⟩
    . obtain ⟨T',x',y',e1,e2,e3,e4,e5,e6,e8,e7⟩:=M.pair j (by omega)
      exact ⟨T',x',y',e1,e2,e3,kk _ _ e8.1 e8.2.1 e8.2.2.1 e8.2.2.2 e4,e5,e6,e8,e7⟩
    . obtain ⟨b1,b2,b3,b4,b5⟩:=hb0 e
      exact kk _ _ b1 b2 b3 b4 (M.keep b o e)
   rcases zs with ⟨zf,ta',tb',pTO⟩ | ⟨a,f,oa,zh,ea,az,a1,a2,aS⟩
   . exact wpAny_pyNext_zip_end hh D zf pTI pTO p1 p2 hl1' hl2' he fun h' kk=>fin h' kk
   . exact jc0 hh D zh ea pTI p1 p2 hl1' hl2' he fun h' kk=>fin h' fun c o c1 _ c3 c4 e=>kk c o c1 c3 c4 e
end
end L2
set_option Elab.async false
set_option linter.all false
set_option maxRecDepth 100000
set_option maxHeartbeats 1000000
namespace L2S
open PySem PySem.Spec PyProof.Rows
noncomputable def Zr (t:SetTable) (j:Nat):Prop:=t.place[SetTable.below t.place j]?≠some j
theorem jbQ {t:SetTable} {j:Nat} (h:∀i,t.slot j≠.live i):Zr t j:=by
 intro q
 refine h (SetTable.below t.place j) ?_
 unfold SetTable.slot
 simp [q]
theorem Zc {t:SetTable} {f:Nat->Int} {h:Int}:∀(fuel:Nat) (p:SetTable.Probe) (j:Nat) (d:Option Nat),(∀x,p.dummy=some x->Zr t x)->SetTable.probe.go t f h fuel p=some (.empty j d)->Zr t j/\∀x,d=some x->Zr t x
 | 0,p,j,d,_,e=>by unfold SetTable.probe.go at e;cases e
 | fuel+1,p,j,d,hp,e=>by
   unfold SetTable.probe.go at e
   have adv:∀q:SetTable.Probe,(t.advance q).dummy=q.dummy:=fun q=>by unfold SetTable.advance;split <;> rfl
   cases hs:t.slot p.j with
   | empty=>
     rw [hs] at e
     have e':=Option.some.inj e
     injection e' with e1 e2
     subst e1 e2
     exact ⟨jbQ (fun i z=>by rw [hs] at z;cases z),hp⟩
   | dummy=>
     rw [hs] at e
     refine Zc fuel _ j d (fun x hx=>?_) e
     rw [adv] at hx
     have hx':p.j=x:=Option.some.inj hx
     subst hx'
     exact jbQ fun i z=>by rw [hs] at z;cases z
   | live i=>
     rw [hs] at e
     dsimp only at e
     split at e
     . cases e
     . exact Zc fuel _ j d (fun x hx=>by rw [adv] at hx;exact hp x hx) e
theorem jeh {t:SetTable} {h:Int} {j:Nat} {b:Bool} (e:t.freeSlot h=some (j,b)):Zr t j:=by
 unfold SetTable.freeSlot at e
 split at e
 . rename_i j' d hp
   have q:=Zc _ _ _ _ (fun x hx=>by cases hx) hp
   have e':=congrArg Prod.fst (Option.some.inj e)
   dsimp only at e'
   subst e'
   cases d with
   | none=>exact q.1
   | some x=>exact q.2 x rfl
 . cases e
theorem jet {t:SetTable} (es:Array (Int×Value)) (h:Int) (x:Value) (R:Ris t.place):Ris (layNew t es h x).2.1.place/\(layNew t es h x).2.1.led=t.led:=by
 unfold layNew
 split
 . rename_i j wd e
   dsimp only
   unfold SetTable.orStandIn
   split
   . exact ⟨jfd R (jeh e),rfl⟩
   . exact ⟨QH _,rfl⟩
 . exact ⟨QH _,rfl⟩
theorem jdg {t:SetTable} (es:Array (Int×Value)) (n:Nat):Ris (relayAll t es n).2.1.place/\(relayAll t es n).2.1.led=t.led:=by
 unfold relayAll
 split
 . rename_i t' o e
   dsimp only
   split
   . have q:=jiu e
     exact ⟨q.1,q.2.1⟩
   . exact ⟨QH _,rfl⟩
 . exact ⟨QH _,rfl⟩
theorem Q4 {α:Type}:∀{l:List α} {i:Nat} (h:i<l.length),(l[i]::l.eraseIdx i).Perm l
 | a::l,0,_=>.rfl
 | a::l,i+1,h=>by
   have ih:=Q4 (l:=l) (i:=i) (by simpa using h)
   rw [List.eraseIdx_cons_succ,List.getElem_cons_succ]
   exact (List.Perm.swap _ _ _).trans (ih.cons a)
theorem jfK {α:Type} (next:Nat->Nat):∀(fuel k:Nat) (left:List α) (out:Array α),left.length<=fuel->(pickOrder.go next fuel k left out).toList.Perm (out.toList++left)
 | 0,k,left,out,h=>by
   have:left=[]:=List.length_eq_zero_iff.mp (by omega)
   subst this
   unfold pickOrder.go
   simp
 | fuel+1,k,left,out,h=>by
   unfold pickOrder.go
   cases left with
   | nil=>simp
   | cons a l=>
     have hlt:next k%(a::l).length<(a::l).length:=Nat.mod_lt _ (by simp)
     rw [List.getElem?_eq_getElem hlt]
     dsimp only
     refine (jfK next fuel (k+1) _ _ ?_).trans ?_
     . rw [List.length_eraseIdx_of_lt hlt];simp at h ⊢;omega
     . rw [Array.toList_push,List.append_assoc]
       refine List.Perm.append_left _ ?_
       exact (Q4 hlt)
theorem jhg {α:Type} (next:Nat->Nat) (xs:Array α):(pickOrder next xs).toList.Perm xs.toList:=by
 have:=jfK next xs.size 0 xs.toList #[] (by simp)
 simpa [pickOrder] using this
section
variable {prog:Program} {w:World} {A:Around} {E:Value->Shared->Prop} {s:Shared}
theorem jgA {src:Source} {n:Nat} {Q:Nat->Shared->Prop} (hn:n≠0) (h:∀i d,i<n->Q i { s with drawn:=d }):wpAny (model prog w) A (choose src n) Q E s:=fun _ _ _=>
 ⟨hn,h _ _ (Nat.mod_lt _ (Nat.pos_of_ne_zero hn))⟩
theorem jf8 {α:Type}:∀(n:Nat) (xs:List α) (s:Shared) {Q:List α->Shared->Prop},n=xs.length->(∀ys d,ys.Perm xs->Q ys { s with drawn:=d })->wpAny (model prog w) A (drawOrder n xs) Q E s
 | 0,xs,s,Q,hn,h=>by
   have:xs=[]:=List.length_eq_zero_iff.mp hn.symm
   subst this
   unfold drawOrder
   exact wpAny_pure (h [] s.drawn .rfl)
 | n+1,[],s,Q,hn,h=>by simp at hn
 | n+1,x::xs,s,Q,hn,h=>by
   unfold drawOrder
   refine wpAny_bind (jgA (by simp) fun i d hi=>?_)
   rw [List.getElem?_eq_getElem hi]
   dsimp only
   refine wpAny_bind (jf8 n ((x::xs).eraseIdx i) _ (by rw [List.length_eraseIdx_of_lt hi];omega) fun ys d' hp=>wpAny_pure ?_)
   exact h _ d' (((List.Perm.cons _ hp)).trans (Q4 hi))
noncomputable def jcT:Value->Int
 | .int k _=>k
 | _=>0
noncomputable def QM (prog:Program) (w:World) (h:Heap) (a:Addr) (ns:List Int):Prop:=
 ∃o es ep t,h.get? a=some o/\o.ExactSet/\o.data=.set es ep t/\ElemsOf (intKind prog w) es.toList/\(∀k,k∈ns ↔ ∃e∈es.toList,(intKind prog w).is k e.2=true)/\t.fits es.size=true/\es.size<=ns.length /\
   (es.toList.map fun e=>jcT e.2).Nodup ∧ Ris t.place ∧ (w.params.followText "set-order" = false → t.led = true)
theorem ZN {es:List (Int×Value)} (h:ElemsOf (intKind prog w) es) {e:Int×Value} (he:e∈es):∃k t,e.2=.int k t:=by
 obtain ⟨⟨k,hk,_⟩,_⟩:=h e he
 obtain ⟨t,q⟩:=Value.isInt_shape (k:=k) (v:=e.2) hk
 exact ⟨k,t,q⟩
theorem is_int {k j:Int} {t:Tok}:(intKind prog w).is k (.int j t)=true ↔ k=j:=by
 constructor
 . intro h
   obtain ⟨t',e⟩:=Value.isInt_shape (k:=k) (v:=.int j t) h
   injection e with e1 _
   exact e1.symm
 . rintro rfl
   exact intKind_is _ _ _ _
theorem jgm {b:Bool} {Q:Unit → Shared → Prop} (h:Q () s):wpAny (model prog w) A (match b with | true=>rule "set.scan.the-table-gave-way" | false => pure ()) Q E s := by
 cases b
 . exact wpAny_pure h
 . exact wpAny_rule h
theorem stored {a:Addr} {o:Obj} {es es':Array (Int×Value)} {ep:Nat} {t t':SetTable} {ns:List Int} {h:Heap} (ho:h.get? a=some o) (hex:o.ExactSet) (hd:o.data=.set es ep t) (h1:ElemsOf (intKind prog w) es'.toList)
 (h2:∀k,k∈ns ↔ ∃e∈es'.toList,(intKind prog w).is k e.2=true) (h3:t'.fits es'.size=true) (h4:es'.size ≤ ns.length) (h5:(es'.toList.map fun e=>jcT e.2).Nodup) (h6:Ris t'.place) (h7:w.params.followText "set-order" = false → t'.led = true) :
 (h.update a (Obj.putSet es' t')).get? a=some { o with data:=.set es' (ep+1) t' }/\QM prog w (h.update a (Obj.putSet es' t')) a ns:=by
 have e:(h.update a (Obj.putSet es' t')).get? a=some { o with data:=.set es' (ep+1) t' }:=by
  have q:=Heap.get?_update_self (Obj.putSet es' t') ho (by rw [putSet_of es' t' hd];rfl)
  rwa [putSet_of es' t' hd] at q
 exact ⟨e,_,es',ep+1,t',e,hex,rfl,h1,h2,h3,h4,h5,h6,h7⟩
theorem jng {a:Addr} {ns:List Int} {k:Int} {tk:Tok} {Q:Bool->Shared->Prop} (hS:QM prog w s.heap a ns) (hroom:ns.length+1<scanBound)
 (h:∀h' b,Heap.SameBut a s.heap h'->QM prog w h' a (ns++[k])->Q b { s with heap:=h' }):wpAny (model prog w) A (setAddHashed a (.int k tk) ((intKind prog w).hash k)) Q E s:=by
 obtain ⟨o,es,ep,t,ho,hex,hd,hel,hmem,hf,hle,hnd,hris,hled⟩:=hS
 have hb:es.size<scanBound:=by omega
 have hkey:(intKind prog w).is k (.int k tk)=true:=intKind_is _ _ _ _
 have hsc:(Value.int k tk).scannable=true:=rfl
 unfold setAddHashed setAddHashedIn
 refine wpAny_holding (wpAny_bind (wpAny_setState_of ho hd hf ?_))
 dsimp only
 rw [byScan_of hsc hb hel,if_pos rfl]
 unfold setAddByScan
 refine wpAny_bind (wpAny_bind (wpAny_rule (wpAny_bind (wpAny_setScan_of hkey ho hd hf hel ?_))))
 cases hr:List.findIdx? (fun e=>(intKind prog w).is k e.2) es.toList with
 | some j=>
   dsimp only
   obtain ⟨hj,hpj,_⟩:=List.findIdx?_eq_some_iff_getElem.mp hr
   have hk:k∈ns:=(hmem k).mpr ⟨es.toList[j],List.getElem_mem hj,hpj⟩
   refine wpAny_pure (wpAny_pure ?_)
   have:=h s.heap false (Heap.SameBut.refl a s.heap) ⟨o,es,ep,t,ho,hex,hd,hel,fun k'=>by
    rw [List.mem_append,List.mem_singleton,<- hmem k']
    exact ⟨fun z=>z.elim id fun e=>e ▸ hk,.inl⟩,hf,by rw [List.length_append];omega,hnd,hris,hled⟩
   exact this
 | none=>
   dsimp only
   have hno:∀e∈es.toList,(intKind prog w).is k e.2=false:=fun e he=>by
    have:=List.findIdx?_eq_none_iff.mp hr e he
    simpa using this
   have hp:=layNew_perm t es ((intKind prog w).hash k) (.int k tk)
   have hfits:=layNew_fits t es ((intKind prog w).hash k) (.int k tk)
   have hR:=jet es ((intKind prog w).hash k) (.int k tk) hris
   generalize layNew t es ((intKind prog w).hash k) (.int k tk)=L at hp hfits hR ⊢
   obtain ⟨es1,t1,wd,gave⟩:=L
   dsimp only at hp hfits hR ⊢
   rw [Array.toList_push] at hp
   have hel1:ElemsOf (intKind prog w) es1.toList:=(hel.push hkey hsc).perm hp
   have hmem1:∀k',k'∈ns++[k] ↔ ∃e∈es1.toList,(intKind prog w).is k' e.2=true:=fun k'=>by
    rw [List.mem_append,List.mem_singleton,hmem k']
    constructor
    . rintro (⟨e,he,q⟩ | rfl)
      . exact ⟨e,hp.mem_iff.mpr (List.mem_append_left _ he),q⟩
      . exact ⟨_,hp.mem_iff.mpr (List.mem_append_right _ (List.mem_singleton.mpr rfl)),hkey⟩
    . rintro ⟨e,he,q⟩
      rcases List.mem_append.mp (hp.mem_iff.mp he) with he | he
      . exact .inl ⟨e,he,q⟩
      . rw [List.mem_singleton] at he;subst he
        exact .inr (is_int.mp q)
   have hsz1:es1.size=es.size+1:=by rw [<-Array.length_toList,hp.length_eq,List.length_append,Array.length_toList];rfl
   have hnd1:(es1.toList.map fun e=>jcT e.2).Nodup:=by
    refine ((hp.map _).nodup_iff).mpr ?_
    rw [List.map_append,List.nodup_append]
    refine ⟨hnd,by simp,fun x hx y hy=>?_⟩
    rw [List.map_singleton,List.mem_singleton] at hy
    rw [hy]
    obtain ⟨e,he,rfl⟩:=List.mem_map.mp hx
    obtain ⟨j,tj,q⟩:=ZN hel he
    have:=hno e he
    rw [q] at this ⊢
    intro z
    have z':j=k:=z
    rw [z',intKind_is] at this
    cases this
   refine wpAny_bind (jgm ?_)
   have tail:∀t2:SetTable,t2.fits es1.size=true->Ris t2.place->t2.led=t.led->wpAny (model prog w) A (do
       storeSet a es1 t2
       if (!wd && t2.tooFull)=true then do
           (match (relayAll t2 es1 (SetTable.grown es1.size)).2.2 with | true=>rule "set.scan.the-table-gave-way" | false => pure ())
           storeSet a (relayAll t2 es1 (SetTable.grown es1.size)).1 (relayAll t2 es1 (SetTable.grown es1.size)).2.1
           pure (some true)
        else pure (some true)) (fun (x:Option Bool) s'=>∃h',x=some true/\s'={ s with heap:=h' }/\Heap.SameBut a s.heap h'/\QM prog w h' a (ns++[k])) E s:=by
    intro t2 hf2 hr2 hl2
    have hz1:es1.size<scanBound:=by omega
    refine wpAny_bind (wpAny_storeSet_of ho hd ?_ (fits_of_scanBound hz1))
    obtain ⟨ho1,hS1⟩:=stored (prog:=prog) (w:=w) (ns:=ns++[k]) ho hex hd hel1 hmem1 hf2 (by rw [List.length_append,hsz1];simp;omega) hnd1 hr2 (fun q=>hl2.trans (hled q))
    have sb:=Heap.SameBut.update s.heap a (Obj.putSet es1 t2)
    split
    . have hp2:=relayAll_perm t2 es1 (SetTable.grown es1.size)
      have hf3:=relayAll_fits t2 es1 (SetTable.grown es1.size)
      have hR2:=jdg (t:=t2) es1 (SetTable.grown es1.size)
      generalize relayAll t2 es1 (SetTable.grown es1.size)=L2 at hp2 hf3 hR2 ⊢
      obtain ⟨es2,t3,g2⟩:=L2
      dsimp only at hp2 hf3 hR2 ⊢
      have hsz2:es2.size=es1.size:=by rw [<-Array.length_toList,hp2.length_eq,Array.length_toList]
      refine wpAny_bind (jgm ?_)
      refine wpAny_bind (wpAny_storeSet_of ho1 rfl ?_ (fits_of_scanBound (by rw [hsz2];exact hz1)))
      obtain ⟨_,hS2⟩:=stored (prog:=prog) (w:=w) (ns:=ns++[k]) ho1 hex rfl (hel1.perm hp2) (fun k'=>(hmem1 k').trans ⟨fun ⟨e,he,q⟩=>⟨e,hp2.mem_iff.mpr he,q⟩,fun ⟨e,he,q⟩=>⟨e,hp2.mem_iff.mp he,q⟩⟩) hf3
       (by rw [List.length_append,hsz2,hsz1];simp;omega) (((hp2.map _).nodup_iff).mpr hnd1) hR2.1 (fun q=>(hR2.2.trans hl2).trans (hled q))
      exact wpAny_pure ⟨_,rfl,rfl,sb.trans (Heap.SameBut.update _ a _),hS2⟩
    . exact wpAny_pure ⟨_,rfl,rfl,sb,hS1⟩
   have fin:∀(x:Option Bool) (s':Shared),(∃h',x=some true/\s'={ s with heap:=h' }/\Heap.SameBut a s.heap h'/\QM prog w h' a (ns++[k]))->
       wpAny (model prog w) A (match x with | some added=>pure added | none=>setAddHashedIn a (.int k tk) ((intKind prog w).hash k) 99999) Q E s':=by
    rintro _ _ ⟨h',rfl,rfl,sb,hS'⟩
    exact wpAny_pure (h h' true sb hS')
   split
   . rw [hashByValue_scannable 8 hsc]
     refine wpAny_bind (wpAny_pure ?_)
     exact wpAny_mono (tail t1 hfits hR.1 hR.2) fin fun _ _ q=>q
   . refine wpAny_bind (wpAny_pure ?_)
     exact wpAny_mono (tail t1 hfits hR.1 hR.2) fin fun _ _ q=>q
theorem jcf {R:Result->Shared->Prop} {S l I:Addr} {items:Array Value} {ns:List Int} (hh:A.handled=none) (hi:IntsAre items.toList ns) (hlI:l≠I) (hSl:S≠l) (hSI:S≠I) (hb:ns.length+1<scanBound) :
 ∀(k i:Nat) (s:Shared),ns.length-i=k->i<=ns.length->s.heap.IsListIter I l i->s.heap.IsList l items->QM prog w s.heap S (ns.take i)->
   (∀h' tk,(∀b o,b≠S->b≠I->s.heap.get? b=some o->h'.get? b=some o)->QM prog w h' S ns->R (.ok (.ret .none)) { s with heap:=h',toks:=tk })->
   codeAny (model prog w) A (.builtin "set.update.loop" ⟨[.ref S, .ref I], []⟩) R s := by
 have hlen:items.size=ns.length:=by have:=hi.length;simpa using this
 have moveS:∀{h h':Heap} {m:List Int},QM prog w h S m->(∀o,h.get? S=some o->h'.get? S=some o)->QM prog w h' S m:=by
  rintro h h' m ⟨o,es,ep,t,ho,r⟩ hk
  exact ⟨o,es,ep,t,hk o ho,r⟩
 intro k
 induction k with
 | zero=>
   intro i s hk hi' st hl hS hR
   have e:i=ns.length:=by omega
   subst e
   refine codeAny_builtin PyProof.Rows.F.entry_set_update_loop ?_
   rw [Around.under_plainId PyProof.Rows.F.plain_set_update_loop _]
   show wpAny _ A.in1 (pyNext (.ref I) >>= _) _ _ s
   refine wpAny_bind (wpAny_pyNext_list_end hh st hl (Array.getElem?_eq_none (by omega)) fun h' he=>?_)
   show wpAny _ A.in1 (ret Value.none) _ _ _
   refine wpAny_pure (hR h' s.toks (fun b o _ b2 q=>he b o b2 q) (moveS (by rw [List.take_length] at hS;exact hS) fun o q=>he S o hSI q))
 | succ k ih=>
   intro i s hk hi' st hl hS hR
   have hlt:i<ns.length:=by omega
   have hlt':i<items.size:=by omega
   obtain ⟨tk,hv⟩:=IntsAre.int_at hi i items[i] (by rw [Array.getElem?_toList];exact Array.getElem?_eq_getElem hlt')
   refine codeAny_builtin PyProof.Rows.F.entry_set_update_loop ?_
   rw [Around.under_plainId PyProof.Rows.F.plain_set_update_loop _]
   show wpAny _ A.in1 (pyNext (.ref I) >>= _) _ _ s
   refine wpAny_bind (wpAny_pyNext_list_item st hl (x:=items[i]) (Array.getElem?_eq_getElem hlt') fun h1 st1 sb1=>?_)
   rw [hv]
   generalize hval:ns.getD i 0=v
   show wpAny _ A.in1 (holding [Value.int v tk] (setAdd S (.int v tk)) >>= _) _ _ _
   refine wpAny_bind (wpAny_holding ?_)
   unfold setAdd
   refine wpAny_holding (wpAny_bind ((intKind prog w).pyHash (k:=v) (intKind_is _ _ _ _) ?_))
   have hS1:QM prog w h1 S (ns.take i):=moveS hS fun o q=>sb1.extBut S o hSI q
   refine jng (s:={ s with heap:=h1,toks:=s.toks+1 }) hS1 (by rw [List.length_take];omega) fun h2 b sb2 hS2=>?_
   have e2:ns.take i++[v]=ns.take (i+1):=by
    rw [List.take_succ,List.getElem?_eq_getElem hlt,<- hval,List.getD_eq_getElem?_getD,List.getElem?_eq_getElem hlt]
    rfl
   rw [e2] at hS2
   refine wpAny_pure ⟨plainId_quiet PyProof.Rows.F.plain_set_update_loop _,ih (i+1) _ (by omega) hlt (st1.extBut sb2.extBut (Ne.symm hSI)) ((hl.extBut sb1.extBut hlI).extBut sb2.extBut (Ne.symm hSl)) hS2 fun h' tk' kk hS'=>?_⟩
   exact hR h' tk' (fun b o b1 b2 q=>kk b o b1 b2 (sb2.extBut b o b1 (sb1.extBut b o b2 q))) hS'
theorem jgO (a:Value) {Q₁:Value->Shared->Prop}
 (h:∀led:Bool,led=!w.params.followText "set-order" → Q₁ (.ref s.heap.objs.size) { s with heap := s.heap.push { cls := .type "set", dict := none, data := .set #[] 0 (.fresh 0 0 led) } }) :
 codeAny (model prog w) A (.call (.builtin "set.__new__") ⟨[.type "set", a], []⟩) (wants Q₁ E) s := by
 refine codeAny_of_tree ?_
 show wpAny _ A.in1 (do checkBuiltinCall "set.__new__" ⟨[.type "set", a], []⟩; again (.builtin "set.__new__" ⟨[.type "set", a], []⟩)) _ _ s
 refine wpAny_bind (wpAny_of_eq (PySem.F.newCall_set_1 a) (wpAny_pure ⟨plainId_quiet PySem.F.plain_set_new _,codeAny_builtin PySem.F.entry_set_new ?_⟩))
 rw [Around.under_plainId PySem.F.plain_set_new _]
 unfold Builtin.«set.__new__» Builtin.Frozenset.newClass
 have hsub:=sub_set_self
 obtain ⟨hp,g,d,tk,os⟩:=s
 dsimp only
 wp_walk
 refine wpAny_askSetting (wpAny_pure ?_)
 dsimp only
 simp only [newObj]
 refine wpAny_bind (wpAny_alloc (wpAny_pure ?_))
 exact wpAny_pure (h _ rfl)
set_option maxHeartbeats 4000000 in
theorem jeJ {l:Addr} {items:Array Value} {ns:List Int} {Q:Value->Shared->Prop} (hh:A.handled=none) (hl:s.heap.IsList l items) (hi:IntsAre items.toList ns) (hb:ns.length+1<scanBound)
 (h:∀(h':Heap) (tk:Nat),QM prog w h' s.heap.objs.size ns->(∀b o,s.heap.get? b=some o->h'.get? b=some o)->Q (.ref s.heap.objs.size) { s with heap:=h',toks:=tk }) :
 wpAny (model prog w) A (call (.type "set") [.ref l]) Q E s := by
 obtain ⟨c,tl,hmro⟩:=PySem.F.called_set.mro
 have hmade:=PySem.F.called_set.made
 have hsub:=PySem.F.called_set.sub
 refine wpAny_call (codeAny_of_tree ?_)
 show wpAny _ _ (callAny (.type "set") _) _ _ _
 refine wpAny_pure ⟨Code.quiet_builtin _ (by decide +kernel),codeAny_builtin PySem.F.entry_type_call ?_⟩
 rw [Around.under_plain (weight_type_call_type "set" [.ref l] []) rfl]
 have h1:=PySem.F.called_set.notType
 have h2:=PySem.F.called_set.canCreate
 have hct:=PySem.F.typeCall_set_1 (.ref l)
 repeat (any_goals (first | assumption | wp_step))
 refine codeAny_mono (jgO (.ref l) (E:=E) (Q₁:=fun obj s₁=>∃led:Bool,led=(!w.params.followText "set-order") ∧ obj = .ref s.heap.objs.size ∧ s₁ = { s with heap := s.heap.push { cls := .type "set", dict := none, data := .set #[] 0 (.fresh 0 0 led) } }) fun led e => ⟨led, e, rfl, rfl⟩) fun r s₁ hr => ?_
 cases r with
 | error e=>exact hr
 | ok fl=>
   cases fl with
   | ret obj=>
     obtain ⟨led,hled,rfl,rfl⟩:=hr
     generalize hSd:s.heap.objs.size=S at *
     have hS:(s.heap.push { cls:=.type "set", dict := none, data := .set #[] 0 (.fresh 0 0 led) }).get? S = some { cls := .type "set", dict := none, data := .set #[] 0 (.fresh 0 0 led) } := by rw [← hSd]; exact Heap.get?_push_size _ rfl
     have hGs:(s.heap.push { cls:=.type "set", dict := none, data := .set #[] 0 (.fresh 0 0 led) }).objs.size = S + 1 := by rw [← hSd, Heap.size_push]
     have up:∀b o,s.heap.get? b=some o → (s.heap.push { cls:=.type "set", dict := none, data := .set #[] 0 (.fresh 0 0 led) }).get? b = some o := fun b o e => Heap.get?_push_of_some _ e
     generalize s.heap.push { cls:=.type "set", dict := none, data := .set #[] 0 (.fresh 0 0 led) } = G at *
     have hT:Shared.TypeIs { s with heap:=G } (.ref S) "set" := ⟨_, hS, rfl⟩
     have hli:=PySem.F.called_set.init.lookup
     have hbi:=PySem.F.called_set.init.bind (.ref S)
     repeat (any_goals (first | assumption | wp_step))
     refine codeAny_mono (codeAny_call_builtin (R:=wants (fun r s₂=>r=.none/\∃h' tk,s₂={ s with heap:=h',toks:=tk }/\QM prog w h' S ns/\(∀b o,s.heap.get? b=some o->h'.get? b=some o)) E) PySem.F.called_set.init.plain PySem.F.entry_set_init (check_set_init_1 hT ?_)) fun r₂ s₂ hr₂=>?_
     . obtain ⟨ol,hol,hcl,nl,hdl⟩:=hl
       obtain ⟨ocls,odict,odata,oslots⟩:=ol
       simp only at hcl hdl
       subst hcl;subst hdl
       have hol':=up _ _ hol
       have hsls:=PySem.F.sub_list_set
       have hslf:=PySem.F.sub_list_frozenset
       have hne:(Value.type "list" == Value.type "dict") = false := by decide
       have hl1:G.IsList l items:=⟨_,hol',rfl,nl,rfl⟩
       unfold Builtin.«set.__init__» noKeywords Builtin.Frozenset.updateFrom
       generalize hPI:pyIter=PI
       wp_walk
       subst hPI
       refine wpAny_pyIter_list hl1 ?_
       refine wpAny_bind (wpAny_runValue ?_)
       have hlS:@LT.lt Nat instLTNat l S:=by have q:=L2.Z7 hol;rwa [hSd] at q
       have hh3:A.in1.in1.in1.handled=none:=by simp [hh]
       refine jcf (A:=A.in1.in1) (S:=S) (l:=l) (items:=items) (ns:=ns) hh3 hi (I:=G.objs.size) ?_ (Nat.ne_of_gt hlS) ?_ hb (ns.length-0) 0 _ rfl (Nat.zero_le _) ⟨_,Heap.get?_push_size _ rfl,rfl,rfl⟩ (hl1.push _) ?_ ?_
       . rw [hGs];exact Nat.ne_of_lt (Nat.lt_succ_of_lt hlS)
       . rw [hGs];exact Nat.ne_of_lt (Nat.lt_succ_self _)
       . refine ⟨_,#[],0,.fresh 0 0 led,Heap.get?_push_of_some _ hS,⟨rfl,rfl,rfl⟩,rfl,fun e he=>by simp at he,fun k=>by simp,rfl,by simp,by simp,fun i j _ hj=>by simp [SetTable.fresh] at hj,fun q=>?_⟩
         show led=true
         rw [hled,q];rfl
       . intro h' tk kk hS'
         show wpAny _ _ _ _ _ _
         refine wpAny_pure ?_
         show wpAny _ _ (ret Value.none) _ _ _
         refine wpAny_pure ⟨rfl,h',tk,rfl,hS',fun b o e=>kk b o ?_ ?_ (Heap.get?_push_of_some _ (up b o e))⟩
         . have q:=L2.Z7 e;rw [hSd] at q;exact Nat.ne_of_lt q
         . have q:=L2.Z7 e;rw [hSd] at q;rw [hGs];exact Nat.ne_of_lt (Nat.lt_succ_of_lt q)
     . cases r₂ with
       | error e=>exact hr₂
       | ok fl₂=>
         cases fl₂ with
         | ret r=>
           obtain ⟨rfl,h',tk,rfl,hS',hk'⟩:=hr₂
           repeat (any_goals (first | assumption | wp_step))
           exact h _ _ hS' hk'
         | _=>exact hr₂.elim
   | _=>exact hr.elim
end
end L2S
set_option Elab.async false
set_option linter.all false
set_option maxRecDepth 100000
set_option maxHeartbeats 1000000
namespace L2S
open PySem PySem.Spec PyProof.Rows
theorem slot_setit_next:Slot "set_iterator" "__next__" "set_iterator.__next__" :=
 .of (owner := "set_iterator") (n := "__next__") (by rw [typeLookup_type, builtinLookup_eq_fast]; kernel_rfl) (by decide +kernel) (by decide +kernel) (by decide +kernel)
  (by first | exact .inl (by decide +kernel) | exact .inr (by decide +kernel)) (by rw [isSubtype_type];kernel_rfl)
theorem JP:entryFor table "set_iterator.__next__" = some Builtin.«set_iterator.__next__» := entryFor_of_tree (by kernel_rfl)
theorem Qb (a:Value):argsOk "set_iterator.__next__" ⟨[a], []⟩ := by unfold argsOk; kernel_rfl
theorem jbS:entryFor table "set.__iter__" = some Builtin.«frozenset.__iter__» :=
 entryFor_alias (id' := "frozenset.__iter__") (by kernel_rfl) rfl (by decide +kernel) (by kernel_rfl)
noncomputable abbrev SIt (h:Heap) (it:Addr) (first:Value) (i:Nat) (a:Addr) (n ep:Nat):Prop:=
 h.get? it=some { cls:=.type "set_iterator", dict := none, data := .fields #[first, rawInt i, .ref a, rawInt n, rawInt ep], slots := #[] }
inductive Mode (w:World) (h:Heap) (a:Addr) (es:Array (Int×Value)) (ep:Nat) (t:SetTable):Value->Nat->List Value->Prop where
 | text {sl i:Nat} (hb:w.params.followText "set-order" = true) : Mode w h a es ep t (rawInt sl) i ((pickOrder (w.params.setOrder a ep) es).toList.map (·.2))
 | plain {sl i:Nat} (hb:w.params.followText "set-order" = false) (hd : (!t.plain && decide (es.size > 1)) = false) (hs : SetTable.below t.place sl = i) : Mode w h a es ep t (rawInt sl) i (es.toList.map (·.2))
 | drawn {T:Addr} {i:Nat} {pl:List Nat} (hb:w.params.followText "set-order" = false) (hT : h.get? T = some { cls := .type "tuple", data := .seq (pl.map fun (j : Nat) => rawInt j).toArray }) (hp : pl.Perm (List.range es.size)) :
  Mode w h a es ep t (.ref T) i (pl.filterMap fun j=>(es[j]?).map (·.2))
theorem Mode.perm {w:World} {h:Heap} {a:Addr} {es:Array (Int×Value)} {ep:Nat} {t:SetTable} {f:Value} {i:Nat} {q:List Value} (M:Mode w h a es ep t f i q):q.Perm (es.toList.map (·.2)):=by
 cases M with
 | text hb=>exact (jhg _ es).map _
 | plain hb hd hs=>exact .rfl
 | drawn hb hT hp=>
   refine (hp.filterMap _).trans ?_
   have e:=filterMap_getElem?_range es
   rw [<-e,List.map_filterMap]
theorem Mode.at {w:World} {h h':Heap} {a:Addr} {es:Array (Int×Value)} {ep:Nat} {t:SetTable} {f:Value} {i:Nat} {q:List Value} (M:Mode w h a es ep t f i q) (k:∀T o,f=.ref T->h.get? T=some o->h'.get? T=some o):Mode w h' a es ep t f i q:=by
 cases M with
 | text hb=>exact .text hb
 | plain hb hd hs=>exact .plain hb hd hs
 | drawn hb hT hp=>exact .drawn hb (k _ _ rfl hT) hp
theorem jdE {es:Array (Int×Value)}:∀{pl:List Nat} {i j:Nat},(∀x∈pl,x<es.size)->pl[i]?=some j->(pl.filterMap fun j=>(es[j]?).map (·.2))[i]?=(es[j]?).map (·.2)
 | [],i,j,_,e=>by simp at e
 | a::l,i,j,h,e=>by
   have ha:a<es.size:=h a List.mem_cons_self
   rw [List.filterMap_cons,Array.getElem?_eq_getElem ha]
   dsimp only [Option.map]
   cases i with
   | zero=>
     have:a=j:=by simpa using e
     subst this
     rw [Array.getElem?_eq_getElem ha]
     rfl
   | succ i=>
     rw [List.getElem?_cons_succ]
     exact jdE (fun x hx=>h x (List.mem_cons_of_mem _ hx)) (by simpa using e)
section
variable {prog:Program} {w:World} {A:Around} {E:Value->Shared->Prop} {s:Shared}
theorem zE {Q:Bool → Shared → Prop} (h:Q (w.params.followText "set-order") s) : wpAny (model prog w) A setsByText Q E s := by
 unfold setsByText
 exact wpAny_bind (wpAny_askSetting (wpAny_pure h))
theorem Q8 {a:Addr} {o:Obj} {es:Array (Int×Value)} {ep:Nat} {t:SetTable} {Q:Array (Int×Value)->Shared->Prop} (ho:s.heap.get? a=some o) (hd:o.data=.set es ep t) (hf:t.fits es.size=true) (h:Q es s):wpAny (model prog w) A (setEntries a) Q E s:=by
 unfold setEntries
 exact wpAny_bind (wpAny_setState_of ho hd hf (wpAny_pure h))
structure SetL (w:World) (h:Heap) (a:Addr) (o:Obj) (es:Array (Int×Value)) (ep:Nat) (t:SetTable):Prop where
 ob:h.get? a=some o
 ex:o.ExactSet
 dt:o.data=.set es ep t
 fit:t.fits es.size=true
 ris:Ris t.place
 led:w.params.followText "set-order" = false → t.led = true
theorem SetL.psize {w:World} {h:Heap} {a:Addr} {o:Obj} {es:Array (Int×Value)} {ep:Nat} {t:SetTable} (L:SetL w h a o es ep t):t.place.size=es.size:=by
 have:=L.fit
 simp only [SetTable.fits,Bool.and_eq_true,beq_iff_eq] at this
 exact this.1
theorem jiz {it a:Addr} {o:Obj} {es:Array (Int×Value)} {ep:Nat} {t:SetTable} {f:Value} {i:Nat} {q:List Value} {v:Value} {Q:Option Value->Shared->Prop} (L:SetL w s.heap a o es ep t) (ha:a≠it) (hf:∀T,f=.ref T->T≠it)
 (hi:SIt s.heap it f i a es.size ep) (M:Mode w s.heap a es ep t f i q) (hx:q[i]?=some v)
 (hQ:∀h' f',SIt h' it f' (i+1) a es.size ep->Mode w h' a es ep t f' (i+1) q->(∀T,f'=.ref T->T≠it)->Heap.SameBut it s.heap h'->Q (some v) { s with heap:=h' }):wpAny (model prog w) A (pyNext (.ref it)) Q E s:=by
 have hT:s.TypeIs (.ref it) "set_iterator" := ⟨_, hi, rfl⟩
 unfold pyNext
 refine wpAny_bind (wpAny_attempt (wpAny_callSpecial?_slot (name:=Str.ofString "__next__") hT slot_setit_next (wpAny_call_entry slot_setit_next hT JP ?_ (Qb _))))
 show wpAny _ _ (fieldsOf (.ref it) >>= _) _ _ _
 refine wpAny_bind (wpAny_fieldsOf hi rfl ?_)
 show wpAny _ _ (setEntries a >>= _) _ _ _
 refine wpAny_bind (Q8 L.ob L.dt L.fit ?_)
 rw [if_neg (by simp)]
 dsimp only
 -- the two stores behind a place in the table or in the given order
 have two:∀(sl nx:Nat) (x:Value),SIt s.heap it (rawInt sl) i a es.size ep->x=v->(∀h',Mode w h' a es ep t (rawInt nx) (i+1) q)->wpAny (model prog w) A.in1 (do
       setField (.ref it) 0 (rawInt (nx:Int))
       setField (.ref it) 1 (rawInt ((i:Int)+1))
       ret x) (fun fin s'=>∃v,fin=.done (.ret v)/\wpAny (model prog w) A (pure (some v)) Q E s') (fun _ _=>False) s:=by
  intro sl nx x hi' hxv hm
  refine wpAny_bind (wpAny_setField_rec hi' (by simp) fun h1 e1 s1=>?_)
  replace e1:SIt h1 it (rawInt nx) i a es.size ep:=e1
  refine wpAny_bind (wpAny_setField_rec e1 (by simp) fun h2 e2 s2=>?_)
  have e3:SIt h2 it (rawInt nx) (i+1) a es.size ep:=by
   have c:((i+1:Nat):Int)=(i:Int)+1:=by omega
   unfold SIt;rw [c];exact e2
  refine wpAny_pure ⟨x,rfl,wpAny_pure ?_⟩
  rw [hxv]
  exact hQ h2 _ e3 (hm h2) (fun T z=>nomatch z) (s1.trans s2)
 cases M with
 | @text sl _ hb=>
   show wpAny _ _ (setNext a (sl:Int).toNat (i:Int).toNat (ep:Int).toNat >>= _) _ _ _
   rw [Int.toNat_natCast,Int.toNat_natCast,Int.toNat_natCast]
   refine wpAny_bind ?_
   unfold setNext
   refine wpAny_bind (wpAny_setState_of L.ob L.dt L.fit ?_)
   dsimp only
   refine wpAny_bind (zE ?_)
   rw [hb,if_pos rfl,if_neg (by simp)]
   refine wpAny_bind ?_
   unfold setWalk
   refine wpAny_bind (wpAny_setState_of L.ob L.dt L.fit ?_)
   dsimp only
   refine wpAny_bind (zE ?_)
   rw [hb,if_pos rfl]
   refine wpAny_bind (wpAny_askSetting (wpAny_pure (wpAny_pure ?_)))
   show wpAny _ _ (match ((pickOrder (w.params.setOrder a ep) es)[i]?).map fun e=>(e.2,sl) with | some (x,next)=>_ | none=>_) _ _ _
   have hx':((pickOrder (w.params.setOrder a ep) es)[i]?).map (·.2)=some v:=by
    rw [List.getElem?_map,Array.getElem?_toList] at hx;exact hx
   cases e:(pickOrder (w.params.setOrder a ep) es)[i]? with
   | none=>rw [e] at hx';cases hx'
   | some p=>
     rw [e] at hx'
     exact wpAny_mono (two sl sl p.2 hi (Option.some.inj hx') fun h'=>.text hb) (fun _ _ z=>z) fun _ _ z=>z.elim
 | @plain sl _ hb hd hs=>
   show wpAny _ _ (setNext a (sl:Int).toNat (i:Int).toNat (ep:Int).toNat >>= _) _ _ _
   rw [Int.toNat_natCast,Int.toNat_natCast,Int.toNat_natCast]
   refine wpAny_bind ?_
   unfold setNext
   refine wpAny_bind (wpAny_setState_of L.ob L.dt L.fit ?_)
   dsimp only
   refine wpAny_bind (zE ?_)
   rw [hb,if_neg Bool.false_ne_true]
   show wpAny _ _ (if (!t.plain && decide (es.size>1))=true then _ else _) _ _ _
   rw [if_neg (by rw [hd];exact Bool.false_ne_true)]
   show wpAny _ _ ((if (!t.led && !es.isEmpty)=true then _ else _) >>= _) _ _ _
   rw [if_neg (by rw [L.led hb];simp)]
   refine wpAny_bind (wpAny_pure ?_)
   have hil:i<es.size:=by
    rcases Nat.lt_or_ge i es.size with z | z
    . exact z
    . rw [List.getElem?_eq_none (by simpa using z)] at hx;cases hx
   have hip:i<t.place.size:=by rw [L.psize];exact hil
   have hx':es[i].2=v:=by
    rw [List.getElem?_map,Array.getElem?_toList,Array.getElem?_eq_getElem hil] at hx
    exact Option.some.inj hx
   rw [hs,Array.getElem?_eq_getElem hil,Array.getElem?_eq_getElem hip]
   refine wpAny_pure ?_
   have g:t.place.getD i 0=t.place[i]:=by simp [Array.getD,hip]
   have nxt:=jeU L.ris hip
   rw [g] at nxt
   exact wpAny_mono (two sl (t.place[i]+1) es[i].2 hi hx' fun h'=>.plain hb hd nxt) (fun _ _ z=>z) fun _ _ z=>z.elim
 | @drawn T _ pl hb hT' hp=>
   have hlen:pl.length=es.size:=by have:=hp.length_eq;simpa using this
   have hall:∀x∈pl,x<es.size:=fun x hx=>List.mem_range.mp (hp.mem_iff.mp hx)
   show wpAny _ _ (seqItems? (.ref T) >>= _) _ _ _
   refine wpAny_bind (wpAny_seqItems hT' rfl ?_)
   have hil:i<pl.length:=by
    rcases Nat.lt_or_ge i pl.length with z | z
    . exact z
    . have z':(pl.filterMap fun j=>(es[j]?).map (·.2)).length<=i:=Nat.le_trans (List.length_filterMap_le _ _) z
      rw [List.getElem?_eq_none z'] at hx;cases hx
   have hj:pl[i]<es.size:=hall _ (List.getElem_mem hil)
   have hx':es[pl[i]].2=v:=by
    rw [jdE hall (List.getElem?_eq_getElem hil),Array.getElem?_eq_getElem hj] at hx
    exact Option.some.inj hx
   have e:((pl.map fun (j:Nat)=>rawInt j).toArray)[(i:Int).toNat]?=some (Value.int (pl[i]:Nat) 0):=by
    rw [Int.toNat_natCast,List.getElem?_toArray,List.getElem?_map,List.getElem?_eq_getElem hil]
    rfl
   dsimp only
   rw [e]
   dsimp only
   refine wpAny_bind ?_
   unfold setNextDrawn
   refine wpAny_bind (wpAny_setState_of L.ob L.dt L.fit ?_)
   dsimp only
   rw [if_neg (by simp),Int.toNat_natCast,Array.getElem?_eq_getElem hj]
   refine wpAny_pure ?_
   refine wpAny_bind (wpAny_setField_rec hi (by simp) fun h2 e2 s2=>?_)
   have e3:SIt h2 it (.ref T) (i+1) a es.size ep:=by
    have c:((i+1:Nat):Int)=(i:Int)+1:=by omega
    unfold SIt;rw [c];exact e2
   refine wpAny_pure ⟨_,rfl,wpAny_pure ?_⟩
   show Q (some es[pl[i]].2) _
   rw [hx']
   exact hQ h2 _ e3 (.drawn hb (s2.extBut _ _ (hf T rfl) hT') hp) hf s2
end
end L2S
set_option Elab.async false
set_option linter.all false
set_option maxRecDepth 100000
set_option maxHeartbeats 1000000
namespace L2S
open PySem PySem.Spec PyProof.Rows
section
variable {prog:Program} {w:World} {A:Around} {E:Value->Shared->Prop} {s:Shared}
theorem jjh {α:Type} {Q:α → Shared → Prop} (hh:A.handled=none) (h:∀h' e,(∀b o,s.heap.get? b=some o → h'.get? b=some o) → (∃o,h'.get? e=some o ∧ o.cls=.type "StopIteration") → E (.ref e) { s with heap := h' }) :
 wpAny (model prog w) A (do let x ← newExc (.type "StopIteration") []; raiseNew x : Sem α) Q E s := by
 refine wpAny_bind ?_
 simp only [newExc,newTuple]
 refine wpAny_bind (wpAny_newObj_type ?_ (by size_fits))
 refine wpAny_bind (m:=firstArgMember _ _) (wpAny_of_eq (a:=Value.none) (by first | rfl | (simp only [firstArgMember];rfl)) ?_)
 refine wpAny_newObj_type ?_ (by size_fits)
 simp only [raiseNew]
 refine wpAny_bind (wpAny_handled ?_)
 rw [hh]
 refine wpAny_bind (wpAny_pure (wpAny_throw ?_))
 exact h _ _ (fun b o e=>Heap.get?_push_of_some _ (Heap.get?_push_of_some _ e)) ⟨_,Heap.get?_push_size _ rfl,rfl⟩
theorem jkg {it a:Addr} {o:Obj} {es:Array (Int×Value)} {ep:Nat} {t:SetTable} {f:Value} {i:Nat} {q:List Value} {Q:Option Value->Shared->Prop} (hh:A.handled=none) (L:SetL w s.heap a o es ep t)
 (hi:SIt s.heap it f i a es.size ep) (M:Mode w s.heap a es ep t f i q) (hx:i=q.length)
 (hQ:∀h',(∀b o,b≠it->s.heap.get? b=some o->h'.get? b=some o)->Q none { s with heap:=h' }):wpAny (model prog w) A (pyNext (.ref it)) Q E s:=by
 have hT:s.TypeIs (.ref it) "set_iterator" := ⟨_, hi, rfl⟩
 have hlen:q.length=es.size:=by have:=M.perm.length_eq;simpa using this
 unfold pyNext
 refine wpAny_bind (wpAny_attempt (wpAny_callSpecial?_slot (name:=Str.ofString "__next__") hT slot_setit_next (wpAny_call_entry slot_setit_next hT JP ?_ (Qb _))))
 show wpAny _ _ (fieldsOf (.ref it) >>= _) _ _ _
 refine wpAny_bind (wpAny_fieldsOf hi rfl ?_)
 show wpAny _ _ (setEntries a >>= _) _ _ _
 refine wpAny_bind (Q8 L.ob L.dt L.fit ?_)
 rw [if_neg (by simp)]
 dsimp only
 have stop:∀(h1:Heap),(∀b o,b≠it → s.heap.get? b=some o → h1.get? b=some o) → wpAny (model prog w) A.in1 (do let x ← newExc (.type "StopIteration") []; raiseNew x : Sem Fin) (fun fin s' => ∃ v, fin = .done (.ret v) ∧ wpAny (model prog w) A (pure (some v)) Q E s')
  (fun e s'=>wpAny (model prog w) A (do let b ← isInstance e (.type "StopIteration"); if b = true then pure none else throw e) Q E s') { s with heap := h1 } := fun h1 k1 => by
  refine jjh (s:={ s with heap:=h1 }) (by simpa using hh) fun h' e k ⟨oe,ho,hc⟩=>?_
  refine wpAny_bind (wpAny_isInstance (T := "StopIteration") (b := true) ⟨oe, ho, hc⟩ isSubtype_stop ?_)
  exact wpAny_pure (hQ h' fun b o hb e=>k b o (k1 b o hb e))
 cases M with
 | @text sl _ hb=>
   show wpAny _ _ (setNext a (sl:Int).toNat (i:Int).toNat (ep:Int).toNat >>= _) _ _ _
   rw [Int.toNat_natCast,Int.toNat_natCast,Int.toNat_natCast]
   refine wpAny_bind ?_
   unfold setNext
   refine wpAny_bind (wpAny_setState_of L.ob L.dt L.fit ?_)
   dsimp only
   refine wpAny_bind (zE ?_)
   rw [hb,if_pos rfl,if_neg (by simp)]
   refine wpAny_bind ?_
   unfold setWalk
   refine wpAny_bind (wpAny_setState_of L.ob L.dt L.fit ?_)
   dsimp only
   refine wpAny_bind (zE ?_)
   rw [hb,if_pos rfl]
   refine wpAny_bind (wpAny_askSetting (wpAny_pure (wpAny_pure ?_)))
   show wpAny _ _ (match ((pickOrder (w.params.setOrder a ep) es)[i]?).map fun e=>(e.2,sl) with | some (x,next)=>_ | none=>_) _ _ _
   rw [Array.getElem?_eq_none (by rw [hx,List.length_map,Array.length_toList];exact Nat.le_refl _)]
   refine wpAny_bind (wpAny_setField_rec hi (by simp) fun h1 e1 s1=>?_)
   exact stop h1 fun b o hb e=>s1.extBut b o hb e
 | @plain sl _ hb hd hs=>
   show wpAny _ _ (setNext a (sl:Int).toNat (i:Int).toNat (ep:Int).toNat >>= _) _ _ _
   rw [Int.toNat_natCast,Int.toNat_natCast,Int.toNat_natCast]
   refine wpAny_bind ?_
   unfold setNext
   refine wpAny_bind (wpAny_setState_of L.ob L.dt L.fit ?_)
   dsimp only
   refine wpAny_bind (zE ?_)
   rw [hb,if_neg Bool.false_ne_true]
   show wpAny _ _ (if (!t.plain && decide (es.size>1))=true then _ else _) _ _ _
   rw [if_neg (by rw [hd];exact Bool.false_ne_true)]
   show wpAny _ _ ((if (!t.led && !es.isEmpty)=true then _ else _) >>= _) _ _ _
   rw [if_neg (by rw [L.led hb];simp)]
   refine wpAny_bind (wpAny_pure ?_)
   rw [hs,Array.getElem?_eq_none (by omega)]
   refine wpAny_pure ?_
   dsimp only
   refine wpAny_bind (wpAny_setField_rec hi (by simp) fun h1 e1 s1=>?_)
   exact stop h1 fun b o hb e=>s1.extBut b o hb e
 | @drawn T _ pl hb hT' hp=>
   have hpl:pl.length=es.size:=by have:=hp.length_eq;simpa using this
   show wpAny _ _ (seqItems? (.ref T) >>= _) _ _ _
   refine wpAny_bind (wpAny_seqItems hT' rfl ?_)
   have e:((pl.map fun (j:Nat)=>rawInt j).toArray)[(i:Int).toNat]?=none:=by
    rw [Int.toNat_natCast,List.getElem?_toArray]
    exact List.getElem?_eq_none (by rw [List.length_map];omega)
   dsimp only
   rw [e]
   dsimp only
   refine wpAny_bind (wpAny_setField_rec hi (by simp) fun h1 e1 s1=>?_)
   refine wpAny_bind (wpAny_setField_rec e1 (by simp) fun h2 e2 s2=>?_)
   exact stop h2 fun b o hb e=>s2.extBut b o hb (s1.extBut b o hb e)
theorem jhp {a:Addr} {o:Obj} {es:Array (Int×Value)} {ep:Nat} {t:SetTable} {Q:Value->Shared->Prop} (L:SetL w s.heap a o es ep t) (hz:es.size<=sizeLine)
 (hQ:∀h' d it f q,SIt h' it f 0 a es.size ep->Mode w h' a es ep t f 0 q->(∀T,f=.ref T->T≠it)->s.heap.objs.size<=it->(∀b o,s.heap.get? b=some o->h'.get? b=some o)->Q (.ref it) { s with heap:=h',drawn:=d }) :
 wpAny (model prog w) A (pyIter (.ref a)) Q E s:=by
 have hT:s.TypeIs (.ref a) "set" := ⟨_, L.ob, L.ex.1⟩
 refine wpAny_pyIter_slot hT PySem.F.slot_set_iter (wpAny_call_entry PySem.F.slot_set_iter hT jbS ?_ (PySem.F.args_set_iter_1 _))
 show wpAny _ _ (Builtin.Frozenset.sizeOf a >>= _) _ _ _
 unfold Builtin.Frozenset.sizeOf
 refine wpAny_bind (wpAny_bind (Q8 L.ob L.dt L.fit (wpAny_pure ?_)))
 show wpAny _ _ (setDrawn a >>= _) _ _ _
 refine wpAny_bind ?_
 unfold setDrawn
 refine wpAny_bind (wpAny_setState_of L.ob L.dt L.fit ?_)
 dsimp only
 refine wpAny_bind (zE (wpAny_pure ?_))
 show wpAny _ _ (if (!w.params.followText "set-order" && (!t.plain && decide (es.size > 1))) = true then _ else _) _ _ _
 have fin:∀(g:Heap) (d:Drawn) (f:Value) (q:List Value),(∀b o,s.heap.get? b=some o->g.get? b=some o)->s.heap.objs.size<=g.objs.size->(∀h',(∀b o,g.get? b=some o->h'.get? b=some o)->Mode w h' a es ep t f 0 q)->(∀T,f=.ref T->@LT.lt Nat instLTNat T g.objs.size)->
  wpAny (model prog w) A.in1 (do ret (← newFields "set_iterator" [f, rawInt 0, .ref a, rawInt es.size, rawInt (← setEpoch a)])) (fun fin s' => ∃ v, fin = .done (.ret v) ∧ ∃ T' r, s'.TypeIs v T' ∧ typeLookup (.type T') "__next__" = pure (some r) ∧ Q v s') E { s with heap := g, drawn := d } := by
  intro g d f q k hle hm hf
  refine wpAny_bind (wpAny_setEpoch_of (s:={ s with heap:=g,drawn:=d }) (k _ _ L.ob) L.dt L.fit ?_)
  unfold newFields
  refine wpAny_bind (wpAny_newObj_type ?_ (by size_fits))
  refine wpAny_pure ⟨_,rfl, "set_iterator", _, ⟨_, Heap.get?_push_size _ rfl, rfl⟩, slot_setit_next.lookup, ?_⟩
  exact hQ _ d _ f q (Heap.get?_push_size _ rfl) (hm _ fun b o e=>Heap.get?_push_of_some _ e) (fun T z=>Nat.ne_of_lt (hf T z)) hle fun b o e=>Heap.get?_push_of_some _ (k b o e)
 cases hb:w.params.followText "set-order" with
 | true=>
   rw [if_neg (by simp)]
   exact fin s.heap s.drawn (rawInt (0:Nat)) _ (fun b o e=>e) (Nat.le_refl _) (fun h' _=>.text hb) fun T z=>nomatch z
 | false=>
   cases hd:(!t.plain && decide (es.size>1)) with
   | false=>
     rw [if_neg (by simp)]
     exact fin s.heap s.drawn (rawInt (0:Nat)) _ (fun b o e=>e) (Nat.le_refl _) (fun h' _=>.plain hb hd (jez L.ris)) fun T z=>nomatch z
   | true=>
     rw [if_pos (by simp)]
     refine wpAny_bind (jf8 es.size (List.range es.size) s (by simp) fun ys d hp=>?_)
     have hyl:ys.length=es.size:=by have:=hp.length_eq;simpa using this
     refine wpAny_bind (wpAny_newTuple (hsz:=by rw [List.length_map,hyl];exact hz) ?_)
     refine fin _ d (.ref s.heap.objs.size) _ (fun b o e=>Heap.get?_push_of_some _ e) (by rw [Heap.size_push];exact Nat.le_succ _) (fun h' k=>.drawn hb (k _ _ (Heap.get?_push_size _ rfl)) hp) fun T z=>?_
     injection z with z
     rw [<-z,Heap.size_push]
     exact Nat.lt_succ_self _
theorem jhC {a:Addr} {Q:Bool → Shared → Prop} (hT:s.TypeIs (.ref a) "set") (h : Q false s) : wpAny (model prog w) A (Builtin.List.listLengthHint (.ref a)) Q E s := by
 unfold Builtin.List.listLengthHint
 refine wpAny_bind (wpAny_specialOf hT PySem.F.slot_set_len.lookup ?_)
 generalize hid:("set.__len__" : String) = id0
 wp_delta
 rw [show splitId id0=some ("set", "__len__") from by subst hid; decide +kernel]
 subst hid
 refine wpAny_bind (wpAny_isInstance (T := "set") (b := true) hT (by rw [isSubtype_type]; kernel_rfl) ?_)
 refine wpAny_ite_split (fun hab=>absurd hab (by decide)) (fun _=>?_)
 refine wpAny_ite_split (fun _=>?_) (fun hab=>absurd (by decide +kernel) hab)
 refine wpAny_bind (wpAny_typeOf hT ?_)
 exact wpAny_pure h
theorem jdF {a:Addr} {o:Obj} {es:Array (Int×Value)} {ep:Nat} {t:SetTable} {Q:List Value->Shared->Prop} (hh:A.handled=none) (L:SetL w s.heap a o es ep t) (hz:es.size<sizeLine)
 (h:∀h' d tk (vs:List Value),(∀b o,s.heap.get? b=some o->h'.get? b=some o)->s.heap.objs.size<=h'.objs.size->vs.Perm (es.toList.map (·.2))->Q vs { s with heap:=h',drawn:=d,toks:=tk }):wpAny (model prog w) A (collect (.ref a)) Q E s:=by
 unfold collect
 refine wpAny_bind (wpAny_runValue (codeAny_builtin entry_proto_collect' ?_))
 rw [Around.under_plainId PySem.F.plain_proto_collect _]
 show wpAny _ A.in1 (newList [] >>= fun l=>again (.builtin "list.__iadd__" ⟨[l, .ref a], []⟩)) _ _ s
 refine wpAny_bind (wpAny_newObj_type ?_)
 refine wpAny_pure ⟨plainId_quiet PySem.F.plain_list_iadd _,codeAny_builtin entry_list_iadd' ?_⟩
 rw [Around.under_plainId PySem.F.plain_list_iadd _]
 generalize hSd:s.heap.objs.size=S at *
 have hS:(s.heap.push { cls:=.type "list", data := .seq ([] : List Value).toArray }).get? S = some { cls := .type "list", data := .seq #[] } := by rw [← hSd]; exact Heap.get?_push_size _ rfl
 have up:∀b o,s.heap.get? b=some o → (s.heap.push { cls:=.type "list", data := .seq ([] : List Value).toArray }).get? b = some o := fun b o e => Heap.get?_push_of_some _ e
 have hGs:(s.heap.push { cls:=.type "list", data := .seq ([] : List Value).toArray }).objs.size = S + 1 := by rw [← hSd, Heap.size_push]
 generalize s.heap.push { cls:=.type "list", data := .seq ([] : List Value).toArray } = G at *
 have nS:∀b o,s.heap.get? b=some o->b≠S:=fun b o e=>by have q:=L2.Z7 e;rw [hSd] at q;exact Nat.ne_of_lt q
 have aS:=nS _ _ L.ob
 have L1:SetL w G a o es ep t:=⟨up _ _ L.ob,L.ex,L.dt,L.fit,L.ris,L.led⟩
 have hT:Shared.TypeIs { s with heap:=G } (.ref a) "set" := ⟨_, L1.ob, L.ex.1⟩
 show wpAny _ A.in1 (Builtin.List.listExtendWith (.ref S) (.ref a) (.ref S)) _ _ _
 unfold Builtin.List.listExtendWith
 refine wpAny_bind (wpAny_typeOf (T := "set") hT ?_)
 have e1:Builtin.List.listSameRef (.ref S) (.ref a)=false:=by simp [Builtin.List.listSameRef,Ne.symm aS]
 have e2:(Value.type "set" == Value.type "list") = false := by decide
 have e3:(Value.type "set" == Value.type "tuple") = false := by decide
 simp only [e1,e2,e3,Bool.or_false,Bool.false_eq_true,if_false]
 refine wpAny_bind (jhp (s:={ s with heap:=G }) L1 (Nat.le_of_lt hz) fun G1 d it f q hit M hf hle k1=>?_)
 have itS:it≠S:=by
  have z:S+1<=it:=by have:=hle;show S+1<=it;rw [<-hGs];exact this
  exact Nat.ne_of_gt z
 have ait:a≠it:=by
  have z:S+1<=it:=by have:=hle;show S+1<=it;rw [<-hGs];exact this
  have z2:=L2.Z7 L.ob
  rw [hSd] at z2
  exact Nat.ne_of_lt (Nat.lt_of_lt_of_le (Nat.lt_succ_of_lt z2) z)
 have hT1:Shared.TypeIs { s with heap:=G1,drawn:=d } (.ref a) "set" := ⟨_, k1 _ _ L1.ob, L.ex.1⟩
 refine wpAny_bind (wpAny_holding (jhC hT1 ?_))
 have hlen:q.length=es.size:=by have:=M.perm.length_eq;simpa using this
 have key:∀(h1:Heap) (c:Nat),Heap.SameBut S G1 h1 → h1.get? S=some { cls:=.type "list", data := .seq #[] c } →
  codeAny (model prog w) A (.builtin "list.extend.loop" ⟨[.ref S, .ref it, .ref S], []⟩) (fun r s' => match r with
    | .ok (.ret v)=>wpAny (model prog w) A (match v with
     | .ref a=>do
       let o <- load a
       match o.data with
         | .seq xs _=>pure xs.toList
         | _=>unsupported "internal:collect"
     | _=>unsupported "internal:collect") Q E s'
    | .ok _=>False
    | .error e=>E e s') { s with heap:=h1,drawn:=d }:=by
  intro h1 c sb hS1
  have nT:∀(g:Heap) (acc:Array Value) (c:Nat),g.get? S=some { cls:=.type "list", data := .seq acc c } → ∀ (f : Value) (i : Nat) (q : List Value), Mode w g a es ep t f i q → ∀ T, f = .ref T → T ≠ S := by
   rintro g acc c e f i q Mg T rfl z
   cases Mg with
   | drawn hb hT hp=>
     rw [z,e] at hT
     have y:(Value.type "list") = Value.type "tuple" := congrArg Obj.cls (Option.some.inj hT)
     injection y with y
     exact absurd y (by decide)
  refine L2.jao (fun n acc s'=>∃(i c:Nat) (g:Heap) (f:Value),s'={ s with heap:=g,drawn:=d } ∧ n=es.size+1-i ∧ i ≤ es.size ∧ acc=(q.take i).toArray ∧ g.get? S=some { cls:=.type "list", data := .seq acc c } ∧ SIt g it f i a es.size ep ∧ Mode w g a es ep t f i q ∧ SetL w g a o es ep t ∧
      (∀T,f=.ref T->T≠it)/\∀b o,s.heap.get? b=some o->g.get? b=some o) ?_ (es.size+1) #[] _
   ⟨0,c,h1,f,rfl,rfl,Nat.zero_le _,rfl,hS1,sb.extBut _ _ itS hit,M.at fun T o z e=>sb.extBut _ _ (nT G1 #[] 0 (k1 _ _ hS) f 0 q M T z) e,⟨sb.extBut _ _ aS (k1 _ _ L1.ob),L.ex,L.dt,L.fit,L.ris,L.led⟩,hf,fun b o e=>sb.extBut _ _ (nS b o e) (k1 _ _ (up b o e))⟩
  rintro n acc s' ⟨i,c,g,f,rfl,rfl,hi,rfl,hSg,sit,Mg,Lg,hfg,kg⟩
  refine ⟨by simp;omega,?_⟩
  rcases Nat.lt_or_ge i es.size with hlt | hge
  . have hx:q[i]?=some q[i]:=List.getElem?_eq_getElem (by omega)
    refine jiz (s:={ s with heap:=g,drawn:=d }) Lg ait hfg sit Mg hx fun h' f' sit' M' hf' sb'=>?_
    have hS':=sb'.extBut _ _ (Ne.symm itS) hSg
    refine ⟨⟨c,hS'⟩,fun h'' c' e'' sb''=>⟨es.size+1-(i+1),by omega,i+1,c',h'',f',rfl,rfl,hlt,?_,e'',sb''.extBut _ _ itS sit',M'.at fun T o z e=>sb''.extBut _ _ (nT h' _ c hS' f' (i+1) q M' T z) e,⟨sb''.extBut _ _ aS (sb'.extBut _ _ ait Lg.ob),L.ex,L.dt,L.fit,L.ris,L.led⟩,hf',fun b o e=>sb''.extBut _ _ (nS b o e) (sb'.extBut _ _ ?_ (kg b o e))⟩⟩
    . rw [List.take_succ,hx];simp
    . have z:=L2.Z7 e
      rw [hSd] at z
      have z2:S+1<=it:=by have:=hle;show S+1<=it;rw [<-hGs];exact this
      exact Nat.ne_of_lt (Nat.lt_of_lt_of_le (Nat.lt_succ_of_lt z) z2)
  . have e:i=q.length:=by omega
    refine jkg (s:={ s with heap:=g,drawn:=d }) (by simpa using hh) Lg sit Mg e fun h' k'=>?_
    have hS':=k' _ _ (Ne.symm itS) hSg
    show wpAny _ A (load S >>= _) _ _ _
    refine wpAny_bind (wpAny_load hS' ?_)
    refine wpAny_pure ?_
    have e2:q.take i=q:=by rw [e,List.take_length]
    have:((q.take i).toArray).toList=q:=by rw [e2]
    rw [this]
    refine h h' d s.toks q (fun b o e=>k' _ _ ?_ (kg b o e)) (Nat.le_of_lt (L2.Z7 hS')) M.perm
    have z:=L2.Z7 e
    rw [hSd] at z
    have z2:S+1<=it:=by have:=hle;show S+1<=it;rw [<-hGs];exact this
    exact Nat.ne_of_lt (Nat.lt_of_lt_of_le (Nat.lt_succ_of_lt z) z2)
 have hS1:=k1 _ _ hS
 refine wpAny_ite_split (fun _=>?_) (fun _=>wpAny_pure ⟨plainId_quiet PySem.F.plain_extend_loop _,key G1 0 (Heap.SameBut.refl _ _) hS1⟩)
 refine wpAny_bind (wpAny_rule ?_)
 refine wpAny_bind ?_
 show wpAny _ _ (updateSeq S (·.push .none) >>= fun _=>updateSeq S (·.pop)) _ _ _
 refine wpAny_bind (wpAny_updateSeq hS1 rfl ?_)
 have hS2:=Heap.get?_update_self (Obj.mapSeq (·.push Value.none)) hS1 rfl
 refine wpAny_updateSeq (hz:=by seq_fits) hS2 rfl ?_
 have hS3:=Heap.get?_update_self (Obj.mapSeq (·.pop)) hS2 rfl
 exact wpAny_pure ⟨plainId_quiet PySem.F.plain_extend_loop _,key _ _ ((Heap.SameBut.update ..).trans (Heap.SameBut.update ..)) hS3⟩
theorem jeI {a:Addr} {ns:List Int} {Q:Value->Shared->Prop} (hh:A.handled=none) (hS:QM prog w s.heap a ns) (h64:ns.length<64)
 (h:∀h' d tk l out c ks,(∀b o,s.heap.get? b=some o → h'.get? b=some o) → s.heap.objs.size ≤ l → h'.get? l=some { cls:=.type "list", data := .seq out c } → IntsAre out.toList ks → ks.Pairwise (· < ·) → (∀ k, k ∈ ks ↔ k ∈ ns) → ks.length ≤ ns.length →
  Q (.ref l) { s with heap:=h',drawn:=d,toks:=tk }):wpAny (model prog w) A (call (.builtin "sorted") [.ref a]) Q E s := by
 obtain ⟨o,es,ep,t,ho,hex,hd,hel,hmem,hf,hle,hnd,hris,hled⟩:=hS
 have L:SetL w s.heap a o es ep t:=⟨ho,hex,hd,hf,hris,hled⟩
 refine Calls.call_function_entry kind_sorted plain_sorted entry_sorted (args_sorted1 _) ?_
 unfold Builtin.«sorted»
 refine wpAny_bind (m:=checkCount "sorted" 1 1 _) (wpAny_pure ?_)
 refine wpAny_bind (jdF (by simpa using hh) L (Nat.lt_of_lt_of_le (by omega:es.size<64) (by decide)) fun h1 d tk vs k1 sz1 hp=>?_)
 have hvl:vs.length=es.size:=by have:=hp.length_eq;simpa using this
 refine wpAny_bind (wpAny_newList (hsz:=Nat.le_trans (by omega:vs.length<=64) (by decide)) ?_)
 have allI:∀{us:List Value},(∀v∈us,∃k t,v=Value.int k t)->IntsAre us (us.map jcT):=by
  intro us
  induction us with
  | nil=>intro _;exact .nil
  | cons v us ih=>
    intro hv
    obtain ⟨k,t,rfl⟩:=hv v List.mem_cons_self
    exact .cons k t (ih fun x hx=>hv x (List.mem_cons_of_mem _ hx))
 have hI:IntsAre vs (vs.map jcT):=allI fun v hv=>by
  obtain ⟨e,he,rfl⟩:=List.mem_map.mp (hp.mem_iff.mp hv)
  exact ZN hel he
 have hkp:(vs.map jcT).Perm (es.toList.map fun e=>jcT e.2):=by
  have:=hp.map jcT
  rwa [List.map_map] at this
 have hoL:(h1.push (seqObj "list" vs.toArray 0)).get? h1.objs.size = some (seqObj "list" vs.toArray 0) := Heap.get?_push_size _ rfl
 refine wpAny_bind (wpAny_holding (wpAny_call_entry slot_list_sort ⟨_,hoL,rfl⟩ entry_list_sort (list_sort_tree (s:={ s with heap:=h1.push (seqObj "list" vs.toArray 0), drawn := d, toks := tk }) hoL hI (by omega) fun out ks q1 q2 q3 => ⟨_, rfl, ?_⟩) (args_list_sort _)))
 refine wpAny_pure ⟨_,rfl,?_⟩
 have hlt:h1.objs.size<(h1.push (seqObj "list" vs.toArray 0)).objs.size := by rw [size_push']; exact Nat.lt_succ_self _
 obtain ⟨c,hc⟩:=sortedHeap_at (out:=out) hoL
 have hk2:(vs.map jcT).Nodup:=(hkp.nodup_iff).mpr hnd
 have hk3:ks.Nodup:=(q2.nodup_iff).mpr hk2
 refine h _ d tk h1.objs.size out c ks (fun b o e=>?_) sz1 hc q1 ?_ (fun k=>?_) ?_
 . have hb:b≠h1.objs.size:=Nat.ne_of_lt (Heap.lt_size (k1 b o e))
   rw [sortedHeap_old hb (Nat.lt_trans (Heap.lt_size (k1 b o e)) hlt)]
   exact Heap.get?_push_of_some _ (k1 b o e)
 . refine List.Pairwise.imp₂ (fun a b (x:a<=b) (y:a≠b)=>?_) q3 hk3
   omega
 . rw [q2.mem_iff,hkp.mem_iff,List.mem_map,hmem k]
   constructor
   . rintro ⟨e,he,rfl⟩
     obtain ⟨j,tj,q⟩:=ZN hel he
     refine ⟨e,he,?_⟩
     rw [q]
     exact is_int.mpr rfl
   . rintro ⟨e,he,q⟩
     obtain ⟨j,tj,q'⟩:=ZN hel he
     refine ⟨e,he,?_⟩
     rw [q'] at q ⊢
     exact (is_int.mp q).symm
 . have:=q2.length_eq
   rw [List.length_map] at this
   omega
end
end L2S
set_option Elab.async false
set_option linter.all false
set_option maxRecDepth 100000
set_option maxHeartbeats 1000000
namespace L2
open PySem PySem.Spec PyProof.Rows
noncomputable def jbM (cells:List (Str×Addr)):List (Str×NameKind)->List (Str×Addr)->List (Str×Addr)
 | [],acc=>acc
 | (n,k)::r,acc=>jbM cells r (if (k == NameKind.free)=true then (match cells.lookup n with | some c=>(n,c)::acc | none=>acc) else acc)
theorem jbG {α β:Type} {f:α->β->Sem (ForInStep β)} {g:α->β->β}:∀(l:List α) (b:β),(∀x∈l,∀b,f x b=pure (.yield (g x b)))->forIn l b f=pure (l.foldl (fun b x=>g x b) b)
 | [],b,_=>rfl
 | x::l,b,h=>by
   rw [List.forIn_cons,h x List.mem_cons_self,pure_bind]
   exact jbG l _ fun y hy=>h y (List.mem_cons_of_mem _ hy)
theorem jbA (cells:List (Str×Addr)):∀(names:List (Str×NameKind)) (acc:List (Str×Addr)),
 names.foldl (fun b x=>if (x.2 == NameKind.free)=true then (match cells.lookup x.1 with | some c=>(x.1,c)::b | none=>b) else b) acc=jbM cells names acc
 | [],_=>rfl
 | (n,k)::r,acc=>by
   rw [List.foldl_cons,jbA cells r]
   rfl
theorem QY {scope:Scope} {env:Env} (h:∀n,(n,NameKind.free)∈scope.names->∃c,env.cells.lookup n=some c):closureFor scope env=pure (jbM env.cells scope.names []):=by
 unfold closureFor
 rw [<-jbA]
 have key:=jbG (f:=fun (x:Str×NameKind) (cs:List (Str×Addr))=>match x with
  | (name,kind)=>if (kind == NameKind.free)=true then (do let c <- cellOf env name;pure (ForInStep.yield ((name,c)::cs))) else pure (ForInStep.yield cs))
  (g:=fun x b=>if (x.2 == NameKind.free)=true then (match env.cells.lookup x.1 with | some c=>(x.1,c)::b | none=>b) else b) scope.names [] (by
   rintro ⟨n,k⟩ hx b
   dsimp only
   by_cases hk:(k == NameKind.free)=true
   . have e:k=NameKind.free:=by simpa using hk
     subst e
     obtain ⟨c,hc⟩:=h n hx
     rw [if_pos hk,if_pos hk]
     unfold cellOf
     rw [hc]
     rfl
   . rw [if_neg hk,if_neg hk])
 first
  | exact key
  | (refine Eq.trans ?_ key;rfl)
  | (simp only [key];rfl)
  | (show (forIn scope.names [] _ >>= fun cs=>pure cs)=_;rw [bind_pure];exact key)
theorem jd2 {cells:List (Str×Addr)}:∀{names:List (Str×NameKind)} {acc:List (Str×Addr)} {n:Str} {c:Addr},(∀n c,(n,c)∈acc->cells.lookup n=some c)->(n,c)∈jbM cells names acc->cells.lookup n=some c
 | [],acc,n,c,h,q=>h n c q
 | (m,k)::r,acc,n,c,h,q=>by
   refine jd2 (names:=r) ?_ q
   intro n' c' q'
   by_cases hk:(k == NameKind.free)=true
   . rw [if_pos hk] at q'
     cases e:cells.lookup m with
     | none=>rw [e] at q';exact h n' c' q'
     | some d=>
       rw [e] at q'
       rcases List.mem_cons.mp q' with z | z
       . cases z;exact e
       . exact h n' c' z
   . rw [if_neg hk] at q'
     exact h n' c' q'
theorem QF {α:Type}:∀{l:List (Str×α)} {n:Str} {c:α},l.lookup n=some c->(n,c)∈l
 | [],_,_,h=>by simp at h
 | (m,d)::r,n,c,h=>by
   rw [List.lookup_cons] at h
   cases e:n == m with
   | true=>
     rw [e] at h
     have e':n=m:=by simpa using e
     subst e'
     cases h
     exact List.mem_cons_self
   | false=>
     rw [e] at h
     exact List.mem_cons_of_mem _ (QF h)
theorem jcv {α:Type}:∀{l:List (Str×α)} {n:Str} {c:α},(n,c)∈l->∃d,l.lookup n=some d
 | (m,d)::r,n,c,h=>by
   rw [List.lookup_cons]
   cases e:n == m with
   | true=>exact ⟨d,rfl⟩
   | false=>
     rcases List.mem_cons.mp h with z | z
     . cases z
       simp at e
     . exact jcv z
theorem Ja {cells:List (Str×Addr)} {names:List (Str×NameKind)} {n:Str} {c:Addr} (q:(jbM cells names []).lookup n=some c):cells.lookup n=some c:=
 jd2 (acc:=[]) (fun _ _ z=>absurd z List.not_mem_nil) (QF q)
theorem jcC {cells:List (Str×Addr)}:∀{names:List (Str×NameKind)} {acc:List (Str×Addr)} {p:Str×Addr},p∈acc->p∈jbM cells names acc
 | [],acc,p,h=>h
 | (m,k)::r,acc,p,h=>by
   refine jcC (names:=r) ?_
   by_cases hk:(k == NameKind.free)=true
   . rw [if_pos hk]
     cases e:cells.lookup m with
     | none=>exact h
     | some d=>exact List.mem_cons_of_mem _ h
   . rw [if_neg hk]
     exact h
theorem jdA {cells:List (Str×Addr)}:∀{names:List (Str×NameKind)} {acc:List (Str×Addr)} {n:Str} {c:Addr},(n,NameKind.free)∈names->cells.lookup n=some c->(n,c)∈jbM cells names acc
 | (m,k)::r,acc,n,c,h,q=>by
   rcases List.mem_cons.mp h with z | z
   . have z1:n=m:=congrArg Prod.fst z
     have z2:NameKind.free=k:=congrArg Prod.snd z
     subst z1 z2
     show (n,c)∈jbM cells r (if (NameKind.free == NameKind.free)=true then _ else _)
     rw [if_pos (show (NameKind.free == NameKind.free)=true from rfl),q]
     exact jcC List.mem_cons_self
   . exact jdA (names:=r) z q
theorem jdK {cells:List (Str×Addr)} {names:List (Str×NameKind)} {n:Str} {c:Addr} (h:(n,NameKind.free)∈names) (q:cells.lookup n=some c):(jbM cells names []).lookup n=some c:=by
 obtain ⟨d,e⟩:=jcv (jdA (acc:=[]) h q)
 have:=Ja e
 rw [q] at this
 cases this
 exact e
theorem ZO {env:Env}:∀{names:List (Str×NameKind)} {x:Str},names.lookup x=some .free->
 ((names.map fun (n,k)=>if (k == NameKind.free && env.scope.kind == .function && env.kindOf n == some .cell) then (n,NameKind.cell) else (n,k)).lookup x=some .cell \/
  (names.map fun (n,k)=>if (k == NameKind.free && env.scope.kind == .function && env.kindOf n == some .cell) then (n,NameKind.cell) else (n,k)).lookup x=some .free)
 | [],_,h=>by simp at h
 | (n,k)::r,x,h=>by
   rw [List.map_cons]
   rw [List.lookup_cons] at h
   cases hx:x == n with
   | true=>
     rw [hx] at h
     have h:k=.free:=by simpa using h
     subst h
     by_cases hk:(NameKind.free == NameKind.free && env.scope.kind == .function && env.kindOf n == some .cell)=true
     . left;simp only [hk,if_true,List.lookup_cons,hx]
     . right;simp only [hk,Bool.false_eq_true,if_false,List.lookup_cons,hx]
   | false=>
     rw [hx] at h
     have ih:=ZO (env:=env) (names:=r) (x:=x) h
     by_cases hk:(k == NameKind.free && env.scope.kind == .function && env.kindOf n == some .cell)=true
     . simpa only [hk,if_true,List.lookup_cons,hx] using ih
     . simpa only [hk,Bool.false_eq_true,if_false,List.lookup_cons,hx] using ih
theorem jbc {x:Str}:∀(names:List (Str×NameKind)) (n:Nat) (acc:List (Str×Addr)) (c:Addr),acc.lookup x=some c->∃d,(cellsFrom n names acc).lookup x=some d
 | [],n,acc,c,h=>⟨c,h⟩
 | (m,k)::r,n,acc,c,h=>by
   unfold cellsFrom
   split
   . cases e:x == m with
     | true=>exact jbc r (n+1) _ n (by rw [List.lookup_cons,e])
     | false=>exact jbc r (n+1) _ c (by rw [List.lookup_cons,e];exact h)
   . exact jbc r n acc c h
theorem jc4 {x:Str}:∀(names:List (Str×NameKind)) (n:Nat) (acc:List (Str×Addr)),(x,NameKind.cell)∈names->∃d,(cellsFrom n names acc).lookup x=some d
 | (m,k)::r,n,acc,h=>by
   rcases List.mem_cons.mp h with z | z
   . have z1:x=m:=congrArg Prod.fst z
     have z2:NameKind.cell=k:=congrArg Prod.snd z
     subst z1 z2
     unfold cellsFrom
     rw [if_pos (show (NameKind.cell == NameKind.cell)=true from rfl)]
     exact jbc r (n+1) _ n (by rw [List.lookup_cons,beq_self_eq_true])
   . unfold cellsFrom
     split
     . exact jc4 r (n+1) _ z
     . exact jc4 r n acc z
theorem ja2 {x:Str}:∀(names:List (Str×NameKind)) (n:Nat) (acc:List (Str×Addr)),(x,NameKind.cell)∉names->(cellsFrom n names acc).lookup x=acc.lookup x
 | [],n,acc,h=>rfl
 | (m,k)::r,n,acc,h=>by
   have hr:(x,NameKind.cell)∉r:=fun z=>h (List.mem_cons_of_mem _ z)
   unfold cellsFrom
   split
   . rename_i hk
     have hk':k=.cell:=by simpa using hk
     rw [ja2 r (n+1) _ hr,List.lookup_cons]
     have:(x == m)=false:=by
       rw [beq_eq_false_iff_ne]
       intro e
       subst e hk'
       exact h List.mem_cons_self
     rw [this]
   . exact ja2 r n acc hr
theorem jc1 {x:Str} {c:Addr}:∀(names:List (Str×NameKind)) (n:Nat) (acc:List (Str×Addr)),(x,NameKind.cell)∈names->(cellsFrom n names acc).lookup x=some c->n<=c
 | (m,k)::r,n,acc,h,q=>by
   unfold cellsFrom at q
   by_cases hr:(x,NameKind.cell)∈r
   . split at q
     . exact Nat.le_of_succ_le (jc1 r (n+1) _ hr q)
     . exact jc1 r n acc hr q
   . rcases List.mem_cons.mp h with z | z
     . have z1:x=m:=congrArg Prod.fst z
       have z2:NameKind.cell=k:=congrArg Prod.snd z
       subst z1 z2
       rw [if_pos (show (NameKind.cell == NameKind.cell)=true from rfl),ja2 r (n+1) _ hr,List.lookup_cons,beq_self_eq_true] at q
       cases q
       exact Nat.le_refl _
     . exact absurd z hr
theorem jib {x:Str} {c:Addr}:∀(names:List (Str×NameKind)) (h:Heap) (acc:List (Str×Addr)),(cellsFrom h.objs.size names acc).lookup x=some c->acc.lookup x=some c\/((pushCells h names).IsCell c none/\h.objs.size<=c)
 | [],h,acc,q=>.inl q
 | (m,k)::r,h,acc,q=>by
   unfold cellsFrom at q
   unfold pushCells
   split at q
   . rename_i hk
     rw [if_pos hk]
     rw [← Heap.size_push h { cls:=.type "cell", data := .cell none }] at q
     rcases jib r _ _ q with z | ⟨z1,z2⟩
     . rw [List.lookup_cons] at z
       cases e:x == m with
       | true=>
         rw [e] at z
         cases z
         exact .inr ⟨(show (h.push { cls:=.type "cell", data := .cell none }).IsCell h.objs.size none from ⟨_, Heap.get?_push_size _ rfl, rfl⟩).keeps (pushCells_keeps r _), Nat.le_refl _⟩
       | false=>rw [e] at z;exact .inl z
     . rw [Heap.size_push] at z2
       exact .inr ⟨z1,Nat.le_of_succ_le z2⟩
   . rename_i hk
     rw [if_neg hk]
     exact jib r h acc q
theorem jeS:∀(names:List (Str×NameKind)) (n:Nat) (acc:List (Str×Addr)),(∀x c,acc.lookup x=some c->c<n)->(∀x y c,acc.lookup x=some c->acc.lookup y=some c->x=y)->
 ∀x y c,(cellsFrom n names acc).lookup x=some c->(cellsFrom n names acc).lookup y=some c->x=y
 | [],n,acc,_,h=>h
 | (m,k)::r,n,acc,hl,h=>by
   unfold cellsFrom
   split
   . refine jeS r (n+1) _ (fun x c q=>?_) fun x y c q1 q2=>?_
     . rw [List.lookup_cons] at q
       cases e:x == m with
       | true=>rw [e] at q;cases q;exact Nat.lt_succ_self _
       | false=>rw [e] at q;exact Nat.lt_succ_of_lt (hl x c q)
     . rw [List.lookup_cons] at q1 q2
       cases e1:x == m with
       | true=>
         cases e2:y == m with
         | true=>rw [beq_iff_eq.mp e1,beq_iff_eq.mp e2]
         | false=>
           rw [e1] at q1;rw [e2] at q2
           cases q1
           exact absurd (hl y _ q2) (Nat.lt_irrefl _)
       | false=>
         cases e2:y == m with
         | true=>
           rw [e1] at q1;rw [e2] at q2
           cases q2
           exact absurd (hl x _ q1) (Nat.lt_irrefl _)
         | false=>rw [e1] at q1;rw [e2] at q2;exact h x y c q1 q2
   . exact jeS r n acc hl h
theorem jaz {env:Env}:∀{names:List (Str×NameKind)} {x:Str},
 ((names.map fun (n,k)=>if (k == NameKind.free && env.scope.kind == .function && env.kindOf n == some .cell) then (n,NameKind.cell) else (n,k)).lookup x=some .cell \/
  (names.map fun (n,k)=>if (k == NameKind.free && env.scope.kind == .function && env.kindOf n == some .cell) then (n,NameKind.cell) else (n,k)).lookup x=some .free)->(x,NameKind.free)∈names\/(x,NameKind.cell)∈names
 | [],_,h=>by simp at h
 | (n,k)::r,x,h=>by
   have ih:=jaz (env:=env) (names:=r) (x:=x)
   rw [List.map_cons] at h
   by_cases hx:x=n
   . subst hx
     by_cases hk:(k == NameKind.free && env.scope.kind == .function && env.kindOf x == some .cell)=true
     . have:k=NameKind.free:=by
        simp only [Bool.and_eq_true] at hk
        simpa using hk.1.1
       subst this
       exact .inl List.mem_cons_self
     . simp only [hk,List.lookup_cons,beq_self_eq_true] at h
       rcases h with h | h
       . have:k=NameKind.cell:=by simpa using h
         subst this
         exact .inr List.mem_cons_self
       . have:k=NameKind.free:=by simpa using h
         subst this
         exact .inl List.mem_cons_self
   . have hb:(x == n)=false:=by simpa using hx
     have ih':=ih (by
       by_cases hk:(k == NameKind.free && env.scope.kind == .function && env.kindOf n == some .cell)=true
       . simpa only [hk,if_true,List.lookup_cons,hb] using h
       . simpa only [hk,Bool.false_eq_true,if_false,List.lookup_cons,hb] using h)
     rcases ih' with z | z
     . exact .inl (List.mem_cons_of_mem _ z)
     . exact .inr (List.mem_cons_of_mem _ z)
noncomputable def Q7 (scope:Scope) (x:Str):Bool:=match scope.names.lookup x with
 | some .cell=>true
 | _=>false
theorem jbK {scope:Scope} {x:Str} (h:Q7 scope x=true):(x,NameKind.cell)∈scope.names:=by
 unfold Q7 at h
 split at h
 . rename_i e;exact QF e
 . cases h
noncomputable def bcl (C:Addr) (scope:Scope) (cells:List (Str×Addr)):List (Str×Addr):=cellsFrom (C+1) scope.names (jbM cells scope.names [])
section
variable {M:Model} {A:Around} {E:Value->Shared->Prop} {s:Shared}
theorem Jw {scope:Scope} {globals:Addr} {closure:List (Str×Addr)} {qual:Str} {func:Option Addr} {code:Value} {outer:Env} {builtins:Addr} {Q:Env->Shared->Prop}
 (hQ:Q (newEnv scope s.heap.objs.size globals (cellsFrom (s.heap.objs.size+1) scope.names closure) qual func code (some outer) builtins) { s with heap:=pushCells (s.heap.push { cls:=.type "dict", data := .dict #[] }) scope.names }) :
 wpAny M A (newFunctionEnv scope globals closure [] qual func code (some outer) builtins) Q E s:=by
 simp only [newFunctionEnv,Option.isSome_some,if_true]
 refine wpAny_bind (wpAny_alloc ?_)
 refine wpAny_bind (wpAny_layCells _ (fun name kind cells=>by cases hkc:kind == NameKind.cell <;> simp [hkc]) _ _ _ _ ?_)
 rw [show ({ s with heap:=s.heap.push { cls:=.type "dict", data := .dict #[] } } : Shared).heap.objs.size = s.heap.objs.size + 1 from Heap.size_push ..]
 rw [List.forIn_nil]
 exact wpAny_bind (wpAny_pure (wpAny_pure hQ))
end
noncomputable def Cx.blk (X:Cx) (N:List Str) (scope:Scope) (C:Addr) (s:Shared) (H:Hp) (fp:List Addr):Cx:=
 { X with N:=N,s₀:=s,H₀:=H,env:=compEnvC scope (bcl C scope X.env.cells) C X.env,outer:=X.stack,stack:=X.stack,ex:=fp,fn:=Q7 scope,pn:=[],xe:=fun _ _=>False }
noncomputable def capt (σ:St) (ix:List Nat):St:=ix.map fun k=>(σ[k]?).getD none
noncomputable def Ji (n:Nat) (σ:St) (ix:List Nat):St:=List.replicate n none++capt σ ix
noncomputable def jeK (n:Nat) (g:TG):Prop:=∀x σ H Q,g x σ H Q->g x σ H fun σ2 H2=>Q σ2 H2/\σ2.length=σ.length/\∀j,n<=j->σ2[j]?=σ[j]?
theorem jgK {n i:Nat} (h:i<n):jeK n (ZI i):=fun x σ H Q q=>⟨q,by simp,fun j hj=>by rw [List.getElem?_set_ne (by omega)]⟩
noncomputable def PTs (X:Cx) (ifs:List Expr) (t:TT):Prop:=
 ∀(pins:List (Addr×Obj)) (s:Shared) (σ:St) (H:Hp) (Q:Bool->Hp->Prop) (E:Value->Shared->Prop),(∀e s',X.xe e s'->E e s')->Inv X pins σ H s->t σ H Q->
   wpAny (model X.prog X.w) X.A (forIn ifs true fun c r=>if r=true then do let ok <- isTrue c X.env (eval c X.env);pure (ForInStep.yield ok) else pure (ForInStep.yield r)) (TP X pins σ Q) E s
noncomputable def jkB:TT:=fun _ H Q=>Q true H
theorem jjV {X:Cx}:PTs X [] jkB:=fun _ _ _ H _ _ _ I h=>wpAny_tests_nil ⟨H,I,h⟩
theorem jjZ {X:Cx} {c:Expr} {t:TT} (h:PT X c t):PTs X [c] t:=fun pins s σ H Q E hE I q=>
 wpAny_tests_one (wpAny_mono (h pins s σ H Q I q) (fun _ _ z=>z) hE)
noncomputable def tLC (wi:TI) (g:TG) (tt:TT) (te:TE) (n:Nat) (ix:List Nat):TE:=fun σ H Q=>wi σ H fun J H1=>∃W:Nat->Nat->List V->Hp->Prop,(∃m,W 0 m [] H1)/\∀i m ys H,W i m ys H->
 (J.stop i H/\ys.length<=sizeLine/\∀p,H p=none->Q (.ref p) (upd H p (.lst ys))) \/
 (J.go i H/\ys.length<sizeLine/\∃N:List V->Hp->Prop,(∀ys' H',N ys' H'->∃m',m'<m/\W (i+1) m' ys' H')/\∀x H',J.yld i H x H'->g x (Ji n σ ix) H' fun σ2 H2=>tt σ2 H2 fun b H3=>
   if b=true then te σ2 H3 fun v H4=>N (ys++[v]) H4 else N ys H3)
section
variable {prog:Program} {w:World} {A:Around} {E:Value->Shared->Prop} {R:Result->Shared->Prop} {s:Shared}
theorem Ql {elt target iter:Expr} {ifs:List Expr} {scope:Scope} {pos:Pos} {it acc:Value} {env:Env} (I:Nat->Shared->Prop)
 (turn:∀n s,I n s->wpAny (model prog w) A (pyNext it) (fun r s₁=>match r with
  | none=>R (.ok .next) s₁
  | some v=>wpAny (model prog w) A (letOwnedTupleGo target it v) (fun _ s₁'=>wpAny (model prog w) A (assign target env v) (fun _ s₂=>
      wpAny (model prog w) A (forIn ifs true fun c r=>if r=true then do let ok <- isTrue c env (eval c env);pure (ForInStep.yield ok) else pure (ForInStep.yield r)) (fun ok s₃=>
        if ok=true then wpAny (model prog w) A (eval elt env) (fun x s₄=>
          wpAny (model prog w) A (call (.builtin "list.append") [acc, x]) (fun _ s₅ => ∃ m, m < n ∧ I m s₅) (fun _ _ => False) s₄) (fun _ _ => False) s₃
        else ∃m,m<n/\I m s₃) (fun _ _=>False) s₂) (fun _ _=>False) s₁') (fun _ _=>False) s₁) (fun _ _=>False) s)
 (n:Nat) (h:I n s) :
 codeAny (model prog w) A (.compLoop (.ListComp elt [⟨target,iter,ifs,0⟩] scope pos) 0 it acc env) R s:=by
 refine codeAny_loop rfl I (fun n s hI=>?_) n h
 show wpAny _ A ((compTurn (.ListComp elt [⟨target,iter,ifs,0⟩] scope pos) 0 it acc env).onRaise (fun x=>do noteFrame x env;theTreesLotGoes x)) _ _ s
 refine wpAny_noted ?_
 rw [compTurn_list]
 refine wpAny_bind (wpAny_standAt (wpAny_bind (wpAny_mono (turn n s hI) (fun r s₁ h₁=>?_) fun _ _ h'=>h'.elim)))
 cases r with
 | none=>exact wpAny_pure h₁
 | some v=>
   refine wpAny_bind (wpAny_mono h₁ (fun _ s₁' h₁'=>?_) fun _ _ h'=>h'.elim)
   refine wpAny_bind (wpAny_mono h₁' (fun _ s₂ h₂=>wpAny_bind (wpAny_mono h₂ (fun ok s₃ h₃=>?_) fun _ _ h'=>h'.elim)) fun _ _ h'=>h'.elim)
   cases ok with
   | false=>exact wpAny_pure ⟨rfl,h₃⟩
   | true=>
     exact wpAny_bind (wpAny_bind (wpAny_mono h₃ (fun x s₄ h₄=>wpAny_bind (wpAny_mono h₄ (fun _ s₅ h₅=>wpAny_pure (wpAny_pure ⟨rfl,h₅⟩)) fun _ _ h'=>h'.elim)) fun _ _ h'=>h'.elim))
end
section
variable {X:Cx} {pins:List (Addr×Obj)} {σ:St} {H:Hp} {s:Shared} {scope:Scope} {C:Addr} {fp:List Addr}
theorem Inv.bclOld (I:Inv X pins σ H s) (hC:s.heap.objs.size<=C) {x:Str} {c:Addr} (e:(bcl C scope X.env.cells).lookup x=some c):X.env.cells.lookup x=some c\/C<c:=by
 by_cases h:(x,NameKind.cell)∈scope.names
 . exact .inr (jc1 _ _ _ h e)
 . unfold bcl at e
   rw [ja2 _ _ _ h] at e
   exact .inl (Ja e)
theorem Inv.blkOk (I:Inv X pins σ H s) (N:List Str) (hC:s.heap.objs.size<=C) (hkind:scope.kind=.function)
 (hfree:∀n,(n,NameKind.free)∈scope.names->X.env.scope.names.lookup n=some .cell\/X.env.scope.names.lookup n=some .free)
 (hf:∀b∈fp,jby X pins H b) (hfl:∀b∈fp,b<s.heap.objs.size):(X.blk N scope C s H fp).Ok where
 mod:=I.ok.mod
 kind:=hkind
 glob:=I.ok.glob
 blt:=I.ok.blt
 above:=hC
 inj:=jeS _ _ _ (fun x c e=>by
     obtain ⟨v,q⟩:=I.cell x c (Ja e)
     exact Nat.lt_succ_of_lt (Nat.lt_of_lt_of_le q.lt hC)) fun x y c e1 e2=>I.ok.inj x y c (Ja e1) (Ja e2)
 has:=fun x hx=>by
  rcases jaz (env:=X.env) hx with q | q
  . obtain ⟨c,e⟩:=I.ok.has x (hfree x q)
    exact jbc _ _ _ c (jdK q e)
  . exact jc4 _ _ _ q
 cab:=fun x c e q=>Nat.le_trans hC (Nat.le_of_lt (jc1 _ _ _ (jbK e) q))
 hd:=I.ok.hd
 frames:=I.ok.frames
 stk:=.inl rfl
 exf:=fun b hb=>⟨Nat.ne_of_lt (Nat.lt_of_lt_of_le (hfl b hb) hC),fun x c e=>by
  rcases I.bclOld hC e with z | z
  . exact (hf b hb).2.2.2.2.1 x c z
  . exact Nat.ne_of_gt (Nat.lt_of_lt_of_le (hfl b hb) (Nat.le_trans hC (Nat.le_of_lt z)))⟩
 bs:=I.bs
 bsz:=Nat.le_trans I.ok.bsz I.sz
 noex:=fun b o e hb=>by
  rcases (hf b hb).2.2.2.1 with z | z
  . exact I.ok.noex b o e z
  . exact absurd (Nat.lt_of_lt_of_le (Heap.lt_size (I.ok.bs b o e).1) z) (Nat.lt_irrefl _)
 exfs:=fun b hb z=>by
  rcases List.mem_cons.mp (I.stkSub b z) with q | q
  . exact (hf b hb).2.1 q
  . exact (hf b hb).2.2.1 q
 funs:=I.stack
 frf:=I.stkFree
theorem Inv.unblk {σ':St} {H':Hp} {s':Shared} {N:List Str} {D:Addr} {ys:List V} {its:List Value} {n:Nat} {pl:List (Addr×Obj)} (I:Inv X pins σ H s) (hf:∀b∈fp,jby X pins H b) (hD:s.heap.objs.size<=D)
 (J:Inv (X.blk N scope C s H fp) pl σ' H' s') (hv:Vals ys its) (hz:ys.length ≤ sizeLine) (hl:s'.heap.get? D=some { cls:=.type "list", data := .seq its.toArray n }) (hn : H' D = none) : Inv X pins σ (upd H' D (.lst ys)) s' := by
 have u:Un (frs X.stack) fp H H' s.heap s'.heap:=J.base
 have neD:∀b o,s.heap.get? b=some o->b≠D:=fun b o e=>Nat.ne_of_lt (Nat.lt_of_lt_of_le (Heap.lt_size e) hD)
 refine I.call' (ch:=fp) J.os (u:=⟨u.keep,u.slot,fun b o e n' hx=>?_,u.there,fun b xs e=>?_,fun b o x e=>?_,fun b ps e=>?_⟩) ?_ J.bare fun b hb=>⟨(hf b hb).2.2.2.1,(hf b hb).2.1,(hf b hb).2.2.2.2.1,(hf b hb).2.2.2.2.2⟩
 . rw [jw (neD b o e)];exact u.free b o e n' hx
 . rw [jw (jz (u.tups b xs e) hn)];exact u.tups b xs e
 . rw [jw (jz (u.frzs b o x e) hn)];exact u.frzs b o x e
 . obtain ⟨more,q⟩:=u.tbls b ps e
   exact ⟨more,by rw [jw (jz q hn)];exact q⟩
 . intro b o e
   by_cases hb:b=D
   . subst hb
     rw [jx] at e
     cases e
     exact ⟨hz,its,n,hv,hl⟩
   . rw [jw hb] at e
     exact (J.hok b o e).stay (fun c v _ q=>q) (fun c q=>by rw [jw (jz q hn)];exact q) fun c xs q=>by rw [jw (jz q hn)];exact q
end
section
variable {X:Cx} {elt iter tg:Expr} {ifs:List Expr} {scope:Scope} {pos:Pos} {Lc F:List Str} {ix:List Nat} {wi:TI} {g:TG} {tt:TT} {te:TE}
theorem jh8 {σ:St} {ix:List Nat} {j:Nat} {v:V} (h:(capt σ ix)[j]?=some (some v)):∃k,ix[j]?=some k/\σ[k]?=some (some v):=by
 unfold capt at h
 rw [List.getElem?_map] at h
 cases e:ix[j]? with
 | none=>rw [e] at h;cases h
 | some k=>
   rw [e] at h
   have h':(σ[k]?).getD none=some v:=Option.some.inj h
   refine ⟨k,rfl,?_⟩
   cases q:σ[k]? with
   | none=>rw [q] at h';cases h'
   | some o=>rw [q] at h';rw [show o=some v from h']
theorem jdI {pins:List (Addr×Obj)} {σ:St} {H:Hp} {s:Shared} {it:Addr} {fp:List Addr} {tn:Nat->Heap->Prop} {J:It} {E:Value->Shared->Prop} {Qv:List V->Hp->Prop} {RR:Value->Addr->Result->Shared->Prop}
 (hc:X.calm=true) (hkind:scope.kind=.function) (hcell:∀y∈scope.names,y.2=.cell->scope.names.lookup y.1=some .cell)
 (hfree:∀n,(n,NameKind.free)∈scope.names->X.env.scope.names.lookup n=some .cell\/X.env.scope.names.lookup n=some .free)
 (hix:ix.length=F.length) (hF:∀(j:Nat) (x:Str) (k:Nat),F[j]?=some x->ix[j]?=some k->X.N[k]?=some x/\(X.env.scope.names.lookup x=some .cell\/X.env.scope.names.lookup x=some .free)/\scope.names.lookup x=some .free)
 (hg:∀C s H fp,PG (X.blk (Lc++F) scope C s H fp) tg g) (hloc:jeK Lc.length g) (ht:∀C s H fp,PTs (X.blk (Lc++F) scope C s H fp) ifs tt) (he:∀C s H fp,PE (X.blk (Lc++F) scope C s H fp) elt te)
 (I:Inv X pins σ H s) (T:Turn X.prog X.w X.K tg J fp it tn) (st0:tn 0 s.heap) (hf:∀b∈fp,jby X pins H b)
 (W:Nat->Nat->List V->Hp->Prop) (w0:∃m,W 0 m [] H)
 (turn:∀i m ys H,W i m ys H->(J.stop i H/\ys.length<=sizeLine/\Qv ys H) \/
  (J.go i H/\ys.length<sizeLine/\∃N:List V->Hp->Prop,(∀ys' H',N ys' H'->∃m',m'<m/\W (i+1) m' ys' H')/\∀x H',J.yld i H x H'->g x (Ji Lc.length σ ix) H' fun σ2 H2=>tt σ2 H2 fun b H3=>
    if b=true then te σ2 H3 fun v H4=>N (ys++[v]) H4 else N ys H3))
 (hRR:∀(D C:Addr) (H':Hp) (s':Shared) (ys:List V) (m:Str->Option Value),D≠C->s.heap.objs.size<=D->s.heap.objs.size<=C->H' D=none->H' C=none->s'.heap.Ns C m->Inv X pins σ (upd H' D (.lst ys)) s'->Qv ys H'->RR (.ref D) C (.ok .next) s') :
 wpAny (model X.prog X.w) X.A (newList []) (fun acc s₃=>wpAny (model X.prog X.w) X.A (newFunctionEnv scope X.env.globals (jbM X.env.cells scope.names []) [] X.env.qual none .none (some X.env)) (fun cenv s₄=>
  codeAny (model X.prog X.w) X.A (.compStart (.ListComp elt [⟨tg,iter,ifs,0⟩] scope pos) 0 (.ref it) acc { cenv with scope:=relabel scope X.env }) (RR acc cenv.locals) s₄) E s₃) E s:=by
 refine wpAny_newObj_type (Jw ?_)
 dsimp only
 generalize hH2:s.heap.push { cls:=.type "list", dict := none, data := .seq ([] : List Value).toArray } = G
 have hCs:G.objs.size=s.heap.objs.size+1:=by rw [<-hH2,Heap.size_push]
 have hDC:s.heap.objs.size≠G.objs.size:=by rw [hCs];exact Nat.ne_of_lt (Nat.lt_succ_self _)
 have hCle:s.heap.objs.size<=G.objs.size:=by rw [hCs];exact Nat.le_succ _
 have hns₁:(pushCells (G.push { cls:=.type "dict", data := .dict #[] }) scope.names).Ns G.objs.size fun _ => none := (Heap.Ns.new G (.type "dict")).keeps (pushCells_keeps _ _)
 have old:∀b o,s.heap.get? b=some o → (pushCells (G.push { cls:=.type "dict", data := .dict #[] }) scope.names).get? b = some o := fun b o e => pushCells_keeps _ _ _ _ (Heap.get?_push_of_some _ (hH2 ▸ Heap.get?_push_of_some _ e))
 have hacc:(pushCells (G.push { cls:=.type "dict", data := .dict #[] }) scope.names).get? s.heap.objs.size = some { cls := .type "list", data := .seq ([] : List Value).toArray } := pushCells_keeps _ _ _ _ (Heap.get?_push_of_some _ (hH2 ▸ Heap.get?_push_size _ rfl))
 have hcs:∀x c,(bcl G.objs.size scope X.env.cells).lookup x=some c → X.env.cells.lookup x=some c ∨ ((pushCells (G.push { cls:=.type "dict", data := .dict #[] }) scope.names).IsCell c none ∧ G.objs.size < c) := fun x c e => by
  unfold bcl at e
  rw [← Heap.size_push G { cls:=.type "dict", data := .dict #[] }] at e
  rcases jib _ _ _ e with z | ⟨z1,z2⟩
  . exact .inl (Ja z)
  . rw [Heap.size_push] at z2
    exact .inr ⟨z1,z2⟩
 generalize hh1:pushCells (G.push { cls:=.type "dict", data := .dict #[] }) scope.names = h₁ at hns₁ old hacc hcs ⊢
 generalize hD:s.heap.objs.size=D at *
 generalize hC:G.objs.size=C at *
 have hfl:∀b∈fp,b<D:=fun b hb=>by
  obtain ⟨o,e,_⟩:=T.obj 0 _ st0 b hb
  rw [<-hD];exact Heap.lt_size e
 have hfl':∀b∈fp,b<s.heap.objs.size:=fun b hb=>by rw [hD];exact hfl b hb
 have ok:(X.blk (Lc++F) scope C s H fp).Ok:=I.blkOk (Lc++F) (by rw [hD];exact hCle) hkind hfree hf hfl'
 have hσl:(Ji Lc.length σ ix).length=(Lc++F).length:=by
  unfold Ji capt
  rw [List.length_append,List.length_append,List.length_replicate,List.length_map,hix]
 have fpB:∀{H':Hp} {pl:List (Addr×Obj)},(∀b∈fp,H' b=none)->(∀p∈pl,p.1=D)->∀b∈fp,jby (X.blk (Lc++F) scope C s H fp) pl H' b:=fun {H' pl} hn hp b hb=>
  ⟨hn b hb,Nat.ne_of_lt (Nat.lt_of_lt_of_le (hfl b hb) hCle),ok.exfs b hb,.inl hb,(ok.exf b hb).2,fun p hp'=>by
   have hp2:p∈pl:=by simpa [Cx.blk] using hp'
   rw [hp p hp2]
   exact Nat.ne_of_gt (hfl b hb)⟩
 have HD:H D=none:=I.hok.fresh (by rw [hD];exact Nat.le_refl _)
 have HC:H C=none:=I.hok.fresh (by rw [hD];exact hCle)
 have nfsD:∀b,D<=b->b∉frs X.stack:=fun b hb z=>by
  obtain ⟨_,o,ho,_⟩:=I.stack.mem z
  have:=Heap.lt_size ho
  rw [hD] at this
  exact absurd (Nat.lt_of_lt_of_le this hb) (Nat.lt_irrefl _)
 have nD:∀x c,(bcl C scope X.env.cells).lookup x=some c->c≠D:=fun x c e z=>by
  rcases hcs x c e with e | ⟨_,e⟩
  . obtain ⟨v,q⟩:=I.cell x c e
    have:=q.lt
    rw [hD,z] at this
    exact absurd this (Nat.lt_irrefl _)
  . rw [z] at e
    exact absurd (Nat.lt_of_le_of_lt hCle e) (Nat.lt_irrefl _)
 have QQ:∀s3:Shared,s3={ s with heap:=h₁ } → Inv (X.blk (Lc++F) scope C s H fp) [(D,{ cls:=.type "list", data := .seq ([] : List Value).toArray })] (Ji Lc.length σ ix) H s3 := by
  rintro s3 rfl
  refine ⟨ok,rfl,I.bare,Un.kept old,⟨_,hns₁,fun i x v e1 e2 e3=>?_⟩,fun x c e=>?_,HC,fun x c e=>?_,fun p hp=>?_,I.hok.kept old,hσl⟩
  . have hi:Lc.length<=i:=by
      rcases Nat.lt_or_ge i Lc.length with q | q
      . unfold Ji at e2
        rw [List.getElem?_append_left (by simpa using q),List.getElem?_replicate] at e2
        rw [if_pos q] at e2
        cases e2
      . exact q
    have e2':(capt σ ix)[i-Lc.length]?=some (some v):=by
      unfold Ji at e2
      rwa [List.getElem?_append_right (by simpa using hi),List.length_replicate] at e2
    have e1':F[i-Lc.length]?=some x:=by
      have e1'':(Lc++F)[i]?=some x:=e1
      rwa [List.getElem?_append_right hi] at e1''
    obtain ⟨k,hk,hσ⟩:=jh8 e2'
    obtain ⟨hN,hcl,hfr⟩:=hF _ x k e1' hk
    obtain ⟨m,hn,hl⟩:=I.loc
    obtain ⟨u,r,lk⟩:=hl k x v hN hσ (by rcases hcl with z | z;exact .inr (.inl z);exact .inr (.inr z))
    refine ⟨u,r,.inr ⟨?_,?_⟩⟩
    . exact ZO (env:=X.env) hfr
    . rcases lk with ⟨hk1,_⟩ | ⟨_,c,hc1,hc2⟩
      . have hk1':X.env.scope.names.lookup x=some .local:=hk1
        rcases hcl with z | z <;> · rw [hk1'] at z;cases z
      . refine ⟨c,(ja2 _ _ _ fun z=>?_).trans (jdK (QF hfr) hc1),?_⟩
        . have:=hcell _ z rfl
          rw [hfr] at this
          cases this
        obtain ⟨o,ho,hd⟩:=hc2
        exact ⟨o,old c o ho,hd⟩
  . rcases hcs x c e with e | ⟨e,_⟩
    . obtain ⟨v,o,ho,hd⟩:=I.cell x c e
      exact ⟨v,o,old c o ho,hd⟩
    . exact ⟨none,e⟩
  . rcases hcs x c e with e | ⟨_,e⟩
    . exact I.freeC x c e
    . exact I.hok.fresh (by rw [hD];exact Nat.le_trans hCle (Nat.le_of_lt e))
  . have:p=(D,{ cls:=.type "list", data := .seq ([] : List Value).toArray }) := by simpa [Cx.blk] using hp
    subst this
    exact ⟨hacc,HD,hDC,nfsD D (Nat.le_refl _),fun v z=>nomatch z⟩
 have loop:∀s3:Shared,s3={ s with heap:=h₁ }->
  codeAny (model X.prog X.w) X.A (.compLoop (.ListComp elt [⟨tg,iter,ifs,0⟩] scope pos) 0 (.ref it) (.ref D) (X.blk (Lc++F) scope C s H fp).env) (RR (.ref D) C) s3:=by
  intro s3 hs3
  obtain ⟨m0,w0⟩:=w0
  have st3:tn 0 s3.heap:=by subst hs3;exact T.keep 0 _ _ st0 fun b _ o e=>old b o e
  refine Ql (fun n s'=>∃i ys its k H',Inv (X.blk (Lc++F) scope C s H fp) [(D,{ cls:=.type "list", data := .seq its.toArray k })] (Ji Lc.length σ ix) H' s' ∧ Vals ys its ∧ tn i s'.heap ∧ (∀ b ∈ fp, H' b = none) ∧ W i n ys H')
   ?_ m0 ⟨0,[],[],0,H,QQ s3 hs3,.nil,st3,fun b hb=>(hf b hb).1,w0⟩
  rintro n s4 ⟨i,ys,its,k,H4,I4,rv,st4,fr4,w4⟩
  have pD:∀p∈[((D,{ cls:=.type "list", data := .seq its.toArray k }) : Addr × Obj)], p.1 = D := fun p hp => by simp at hp; rw [hp]
  rcases turn i n ys H4 w4 with ⟨stop,hz,q⟩ | ⟨go,hz,N,hN,step⟩
  . refine qr (T.done (X.blk (Lc++F) scope C s H fp) rfl rfl rfl hc i _ s4 _ H4 _ I4 (fpB fr4 pD) st4 stop) fun r s5 ⟨hr,I5⟩=>?_
    subst hr
    obtain ⟨p1,p2,p3,p4,p5⟩:=I5.pin _ (List.mem_append_right _ List.mem_cons_self)
    obtain ⟨m,hn,_⟩:=I5.loc
    exact hRR D C H4 s5 ys m hDC (Nat.le_refl _) hCle p2 I5.free hn (I.unblk (C:=C) (scope:=scope) hf (by rw [hD];exact Nat.le_refl _) I5 rv hz p1 p2) q
  . refine qr (T.item (X.blk (Lc++F) scope C s H fp) rfl rfl rfl hc i _ s4 _ H4 _ I4 (fpB fr4 pD) st4 go) fun r s5 ⟨u,hr,h5⟩=>?_
    subst hr
    refine qr h5 fun _ s6 ⟨x,H6,I6,r6,y6,st6,fr6⟩=>?_
    have I6':=I6.pinned (fpB fr6 pD) (T.obj _ _ st6)
    refine qr (hg C s H fp _ s6 _ H6 x u _ I6' r6 (hloc _ _ _ _ (step x H6 y6))) fun _ s7 ⟨σ7,H7,I7,q7,l7,k7⟩=>?_
    have weak:∀(j:Nat) v,(Ji Lc.length σ ix)[j]?=some (some v)->σ7[j]?=some (some v):=fun j v e=>by
      rw [k7 j ?_];exact e
      rcases Nat.lt_or_ge j Lc.length with z | z
      . unfold Ji at e
        rw [List.getElem?_append_left (by simpa using z),List.getElem?_replicate,if_pos z] at e
        cases e
      . exact z
    have fin:∀{s':Shared} {H':Hp} {i':Nat} {ys':List V} {its':List Value} {k':Nat},Inv (X.blk (Lc++F) scope C s H fp) [] σ7 H' s' → s'.heap.get? D=some { cls:=.type "list", data := .seq its'.toArray k' } → H' D = none → Inv (X.blk (Lc ++ F) scope C s H fp) [(D, { cls := .type "list", data := .seq its'.toArray k' })] (Ji Lc.length σ ix) H' s' := fun {s' H' i' ys' its' k'} I' e n' =>
      (I'.weak (by rw [l7]) weak).pins_of fun p hp=>by
       have:p=(D,{ cls:=.type "list", data := .seq its'.toArray k' }) := by simpa using hp
       subst this
       exact ⟨e,n',hDC,nfsD D (Nat.le_refl _),fun v z=>nomatch z⟩
    refine qr (ht C s H fp _ s7 σ7 H7 _ _ (fun _ _ z=>z) I7 q7) fun b s8 ⟨H8,I8,q8⟩=>?_
    have keepS:∀{s':Shared} {H':Hp},Inv (X.blk (Lc++F) scope C s H fp) ([((D,{ cls:=.type "list", data := .seq its.toArray k }) : Addr × Obj)] ++ jb1 fp s6.heap) σ7 H' s' → tn (i + 1) s'.heap ∧ (∀ b ∈ fp, H' b = none) ∧ s'.heap.get? D = some { cls := .type "list", data := .seq its.toArray k } ∧ H' D = none := fun {s' H'} I' => by
      refine ⟨T.keep _ _ _ st6 fun b hb o e=>(I'.pin (b,o) (List.mem_append_right _ (List.mem_append_right _ (JU hb e)))).1,fun b hb=>?_,?_⟩
      . obtain ⟨o,e,d⟩:=T.obj _ _ st6 b hb
        exact (I'.pin (b,o) (List.mem_append_right _ (List.mem_append_right _ (JU hb e)))).2.1
      . have:=I'.pin (D,{ cls:=.type "list", data := .seq its.toArray k }) (List.mem_append_right _ (List.mem_append_left _ List.mem_cons_self))
        exact ⟨this.1,this.2.1⟩
    cases b with
    | false=>
      rw [if_neg Bool.false_ne_true] at q8 ⊢
      obtain ⟨m',hm,w8⟩:=hN _ _ q8
      obtain ⟨a1,a2,a3,a4⟩:=keepS I8
      exact ⟨m',hm,i+1,ys,its,k,H8,fin (i':=i) (ys':=ys) (I8.pins_of fun p hp=>nomatch hp) a3 a4,rv,a1,a2,w8⟩
    | true=>
      rw [if_pos rfl] at q8 ⊢
      refine qr (he C s H fp _ s8 σ7 H8 _ I8 q8) fun xv s9 ⟨v,H9,I9,r9,q9⟩=>?_
      obtain ⟨m',hm,w9⟩:=hN _ _ q9
      obtain ⟨a1,a2,a3,a4⟩:=keepS I9
      have hlen:=rv.length
      refine wpAny_list_append_plain (hsz:=by simp;omega) ⟨k,a3⟩ fun h10 hl10 hs10=>?_
      obtain ⟨k10,e10⟩:=hl10
      have I9':Inv (X.blk (Lc++F) scope C s H fp) [] σ7 H9 s9:=I9.pins_of fun p hp=>nomatch hp
      have I10:Inv (X.blk (Lc++F) scope C s H fp) [] σ7 H9 { s9 with heap:=h10,toks:=s9.toks }:=I9'.turned (it:=D) (fun b o hb e=>(hs10.2 b hb).trans e) a4 hDC (.inr (by show s.heap.objs.size<=D;rw [hD];exact Nat.le_refl _)) nD (fun p hp=>nomatch hp)
      have e10':h10.get? D=some { cls:=.type "list", data := .seq (its ++ [xv]).toArray k10 } := by rw [e10, List.push_toArray]
      refine ⟨m',hm,i+1,ys++[v],its++[xv],k10,H9,fin (i':=i) (ys':=ys) I10 e10' a4,Paired.snoc rv r9,?_,a2,w9⟩
      exact T.keep _ _ _ a1 fun b hb o e=>(hs10.2 b (Nat.ne_of_lt (hfl b hb))).trans e
 exact codeAny_compStart_list (loop _ rfl) (T.self _ 0 _ _ _ (T.keep 0 _ _ st0 fun b _ o e=>old b o e) (loop _ rfl))
theorem jnM (hc:X.calm=true) (hkind:scope.kind=.function) (hnames:∀x∈scope.names,x.2=.local->scope.names.lookup x.1=some .local) (hcell:∀y∈scope.names,y.2=.cell->scope.names.lookup y.1=some .cell)
 (hfree:∀n,(n,NameKind.free)∈scope.names->X.env.scope.names.lookup n=some .cell\/X.env.scope.names.lookup n=some .free)
 (hix:ix.length=F.length) (hF:∀(j:Nat) (x:Str) (k:Nat),F[j]?=some x->ix[j]?=some k->X.N[k]?=some x/\(X.env.scope.names.lookup x=some .cell\/X.env.scope.names.lookup x=some .free)/\scope.names.lookup x=some .free)
 (hi:PI X tg iter wi) (hg:∀C s H fp,PG (X.blk (Lc++F) scope C s H fp) tg g) (hloc:jeK Lc.length g) (ht:∀C s H fp,PTs (X.blk (Lc++F) scope C s H fp) ifs tt) (he:∀C s H fp,PE (X.blk (Lc++F) scope C s H fp) elt te)
 (hs:autoParam (∀x,foldedSetIterable iter X.env x=pure x) QA.a3._auto_1):PE X (.ListComp elt [⟨tg,iter,ifs,0⟩] scope pos) (tLC wi g tt te Lc.length ix):=by
 intro pins s σ H Q I h
 rw [eval_ListComp]
 refine wpAny_comprehension_free (use:=none) rfl hs (QY fun n hn=>I.ok.has n (hfree n hn)) hkind hnames (qr (hi pins s σ H _ I h) fun xv s₁ h₁=>qr h₁ fun itv s₂ h₂=>?_)
 obtain ⟨it,fp,tn,J,H2,rfl,I2,T,st2,f2,W,w0,turn⟩:=h₂
 refine jdI (RR:=fun acc C=>compPost (model X.prog X.w) X.A X.xe none (EP X pins σ Q) acc C) (Qv:=fun ys H'=>∀p,H' p=none->Q (.ref p) (upd H' p (.lst ys))) hc hkind hcell hfree hix hF hg hloc ht he I2 T st2 f2 W w0 turn ?_
 intro D C H' s' ys m hDC hD hC nD nC hn I' q
 refine ⟨m,hn,fun h' hsb=>⟨.ref D,upd H' D (.lst ys),?_,rfl,q D nD⟩⟩
 refine I'.turned (it:=C) (t':=s'.toks) (fun b o hb e=>(hsb.2 b hb).trans e) (by rw [jw (Ne.symm hDC)];exact nC) (fun z=>?_) (.inr (Nat.le_trans I2.sz hC)) (fun x c e z=>?_) fun p hp z=>?_
 . exact absurd (Nat.lt_of_lt_of_le (by rw [z];exact I2.lt) hC) (Nat.lt_irrefl _)
 . obtain ⟨v,w⟩:=I2.cell x c e
   exact absurd (Nat.lt_of_lt_of_le w.lt (by rw [z];exact hC)) (Nat.lt_irrefl _)
 . have:=Heap.lt_size (I2.pin p hp).1
   rw [z] at this
   exact absurd (Nat.lt_of_lt_of_le this hC) (Nat.lt_irrefl _)
theorem jhi {i:Nat} {y:Str} {py spos:Pos} (hN:X.N.Nodup) (hy:X.N[i]?=some y) (hyl:X.env.scope.names.lookup y=some .local)
 (hc:X.calm=true) (hkind:scope.kind=.function) (hnames:∀x∈scope.names,x.2=.local->scope.names.lookup x.1=some .local) (hcell:∀y∈scope.names,y.2=.cell->scope.names.lookup y.1=some .cell)
 (hfree:∀n,(n,NameKind.free)∈scope.names->X.env.scope.names.lookup n=some .cell\/X.env.scope.names.lookup n=some .free)
 (hix:ix.length=F.length) (hF:∀(j:Nat) (x:Str) (k:Nat),F[j]?=some x->ix[j]?=some k->X.N[k]?=some x/\(X.env.scope.names.lookup x=some .cell\/X.env.scope.names.lookup x=some .free)/\scope.names.lookup x=some .free)
 (hi:PI X tg iter wi) (hg:∀C s H fp,PG (X.blk (Lc++F) scope C s H fp) tg g) (hloc:jeK Lc.length g) (ht:∀C s H fp,PTs (X.blk (Lc++F) scope C s H fp) ifs tt) (he:∀C s H fp,PE (X.blk (Lc++F) scope C s H fp) elt te)
 (hsw:swapsWith (.ListComp elt [⟨tg,iter,ifs,0⟩] scope pos) (some (.Name y py)) spos.line X.env=pure true)
 (hs:autoParam (∀x,foldedSetIterable iter X.env x=pure x) QA.a3._auto_1):PS X (.Assign [.Name y py] (.ListComp elt [⟨tg,iter,ifs,0⟩] scope pos) spos) (jc3 (tLC wi g tt te Lc.length ix) (ZI i)):=by
 intro pins s σ H D₀ I h
 rw [exec_Assign_Name_used _ _ _ _ hsw]
 refine wpAny_bind (wpAny_standAt (wpAny_bind ?_))
 show wpAny _ X.A (do let _ <- comprehension (.ListComp elt [⟨tg,iter,ifs,0⟩] scope pos) scope X.env _ (newList []) false (eval iter X.env) (some (assign (.Name y py) X.env))) _ _ s
 refine wpAny_bind (wpAny_mono (wpAny_comprehension_free (use:=some (assign (.Name y py) X.env)) (Q:=fun _ s'=>SP X pins D₀ .next s') rfl hs (QY fun n hn=>I.ok.has n (hfree n hn)) hkind hnames
  (qr (hi pins s σ H _ I h) fun xv s₁ h₁=>qr h₁ fun itv s₂ h₂=>?_)) (fun _ s' hq=>wpAny_pure (wpAny_pure hq)) fun _ _ e=>e)
 obtain ⟨it,fp,tn,J,H2,rfl,I2,T,st2,f2,W,w0,turn⟩:=h₂
 refine jdI (RR:=fun acc C=>compPost (model X.prog X.w) X.A X.xe (some (assign (.Name y py) X.env)) (fun _ s'=>SP X pins D₀ .next s') acc C) (Qv:=fun ys H'=>∀p,H' p=none->D₀.nx (σ.set i (some (.ref p))) (upd H' p (.lst ys)))
  hc hkind hcell hfree hix hF hg hloc ht he I2 T st2 f2 W w0 turn ?_
 intro D C H' s' ys m hDC hD hC nD nC hn I' q
 show wpAny _ X.A (assign (.Name y py) X.env (.ref D)) _ _ s'
 refine wpAny_assign_Name (jcI I' hN hy (.inl hyl) (v:=.ref D) rfl (fun s2 I2' ⟨a,hsb,ha⟩=>?_) (.inr hyl))
 have hCL:C≠X.env.locals:=fun z=>absurd (Nat.lt_of_lt_of_le (by rw [z];exact I2.lt) hC) (Nat.lt_irrefl _)
 have hCc:∀x c,X.env.cells.lookup x=some c->c≠C:=fun x c e z=>by
  obtain ⟨v,w⟩:=I2.cell x c e
  exact absurd (Nat.lt_of_lt_of_le w.lt (by rw [z];exact hC)) (Nat.lt_irrefl _)
 have hCa:C≠a:=by
  rcases ha with z | z
  . rw [z];exact hCL
  . exact fun w=>hCc y a z w.symm
 refine ⟨m,hn.sameBut hsb hCa,fun h' hsb'=>⟨σ.set i (some (.ref D)),upd H' D (.lst ys),?_,q D nD⟩⟩
 refine I2'.turned (it:=C) (t':=s2.toks) (fun b o hb e=>(hsb'.2 b hb).trans e) (by rw [jw (Ne.symm hDC)];exact nC) hCL (.inr (Nat.le_trans I2.sz hC)) hCc fun p hp z=>?_
 have:=Heap.lt_size (I2.pin p hp).1
 rw [z] at this
 exact absurd (Nat.lt_of_lt_of_le this hC) (Nat.lt_irrefl _)
end
end L2
set_option Elab.async false
set_option linter.all false
set_option maxRecDepth 100000
set_option maxHeartbeats 1000000
namespace L2
open PySem PySem.Spec PyProof.Rows
section
variable {X:Cx}
noncomputable def jfs (i j:Int):Prop:=0<j/\j<2 ^ 200
theorem jiT:OpR X (binaryOp .FloorDiv) (rI jfs fun i j=>.int (i/j)):=opI fun i j _ _ _ _ _ hc q=>by
 have h1:(0:Int)<j:=hc.1
 have h2:j<2 ^ 200:=hc.2
 refine floordiv_int (by omega) (by rw [Int.fdiv_eq_ediv_of_nonneg i (by omega)];exact q) (.inl (PyProof.noPylong_of_log2 ?_))
 have h3:j.natAbs<2 ^ 200:=by omega
 have h4:j.natAbs≠0:=by omega
 have h5:=(Nat.log2_lt h4).mpr h3
 omega
noncomputable def IsT (K:PySem.W.Frag) (H:Hp) (x:V) (T:String) (b:Bool):Prop:=∃t,TyOf K H x t/\PySem.W.kitOne K t (.type T)=some b
theorem jdH:CallR X (.builtin "isinstance") (fun xs H Q => ∃ x T b, xs = [x, .ty T] ∧ IsT X.K H x T b ∧ Q (.bl b) H) := by
 intro pins s σ H xs us Q I r h
 obtain ⟨x,T,b,rfl,⟨t,ty,e⟩,q⟩:=h
 obtain ⟨u,v,rfl,rx,ry⟩:=Vals.two r
 have:v=Value.type T:=ry
 subst this
 exact jhh I rx ty e fun tk=>⟨.bl b,H,I.tok _,rfl,q⟩
theorem jhA (hc:X.calm=true):CallR X (.builtin "sum") (fun xs H Q => ∃ (p : Addr) (ns : List Int), xs = [.ref p] ∧ zB X.K H p (ns.map V.int) ∧ Q (.int ns.sum) H) := by
 intro pins s σ H xs us Q I r h
 obtain ⟨p,ns,rfl,hq,q⟩:=h
 obtain ⟨u,rfl,rx⟩:=Vals.one r
 cases rx
 obtain ⟨its,rv,pl,hz⟩:=I.list hq
 have hi:IntsAre its ns:=Za rv
 obtain ⟨ys,hx⟩:=hi.allInts.items
 have hl':s.heap.IsList p (intItems ys):=hx ▸ pl.isList
 refine sum_intListG (I.ok.hd hc) hl' fun h' tk t' hk=>?_
 have e1:ns=ys.toList.map (·.1):=by
  rw [<-nums_intItems,<- hx]
  exact (show numsOf its.toArray.toList=ns from hi.numsOf).symm
 have e2:preSum (numAt ys) ys.size=ns.sum:=by
  rw [preSum_eq,List.take_of_length_le (by simp),e1]
 rw [e2]
 exact ⟨.int ns.sum,H,I.kept hk,⟨_,rfl⟩,q⟩
theorem jiX (hc:X.calm=true):CallR X (.builtin "all") (fun xs H Q => ∃ (p : Addr) (bs : List Bool), xs = [.ref p] ∧ zB X.K H p (bs.map V.bl) ∧ Q (.bl (bs.all id)) H) := by
 intro pins s σ H xs us Q I r h
 obtain ⟨p,bs,rfl,hq,q⟩:=h
 obtain ⟨u,rfl,rx⟩:=Vals.one r
 cases rx
 obtain ⟨its,rv,pl,hz⟩:=I.list hq
 have hl:=pl.isList
 have hlt:p<s.heap.objs.size:=by obtain ⟨_,e,_⟩:=hl;exact Heap.lt_size e
 have hlen:its.length=bs.length:=by have:=rv.length;rw [List.length_map] at this;exact this.symm
 refine call_all_walk (wpAny_pyIter_list hl ?_)
 refine ⟨s.heap.objs.size,[s.heap.objs.size,p],[s.heap.objs.size],its.toArray.size,_,_,fun i=>(bs[i]?).getD true,rfl,Walks.list (A:=X.A.in1) (I.ok.hd hc) _ p (Nat.ne_of_lt hlt) its.toArray,
  ⟨⟨_,Heap.get?_push_size _ rfl,rfl,rfl⟩,hl.push _⟩,fun i v s' Q' E' hP hQ=>?_,fun h' tk hk=>?_⟩
 . have hP':its[i]?=some v:=by simpa using hP
   cases e:bs[i]? with
   | none=>
     have:bs.length<=i:=List.getElem?_eq_none_iff.mp e
     have:its[i]?=none:=List.getElem?_eq_none_iff.mpr (by omega)
     rw [this] at hP'
     cases hP'
   | some b=>
     obtain ⟨u,e1,e2⟩:=rv.get (i:=i) (x:=V.bl b) (by rw [List.getElem?_map,e];rfl)
     rw [hP'] at e1
     cases e1
     have:v=Value.bool b:=e2
     subst this
     simp only [e,Option.getD_some] at hQ
     exact wpAny_truthy_bool hQ
 . have e:((List.range its.toArray.size).all fun i=>(bs[i]?).getD true)=bs.all id:=by
    rw [List.size_toArray,hlen];exact LSm.range_all bs
   rw [e]
   exact ⟨.bl (bs.all id),H,I.kept (LSm.kept_iter hk),rfl,q⟩
end
theorem jjm {X:Cx} {x:Str} {i:Int} {t:Tok} {pos:Pos} (hg:Gl X x) (hm:X.mg x=some (.int i t)) (hd:autoParam ((x == ("__debug__" : Str)) = false) QA.a1._auto_1) : PE X (.Name x pos) (tC (.int i)) := jjg hg hm ⟨t, rfl⟩ hd
theorem jn3 {X:Cx} {x:Str} {T:String} {pos:Pos} (hg:Gl X x) (hm:X.mg x=none) (hv:bootBuiltins x=some (.type T)) (hn:autoParam (x ≠ "__name__") QA.a1._auto_1) (hd : autoParam ((x == ("__debug__" : Str)) = false) QA.a1._auto_1) : PE X (.Name x pos) (tC (.ty T)) := jjt hg hm hv rfl hn hd
section
variable {t u:TS} {te ta tb tc:TE} {nx bk ct:St->Hp->Prop} {rt:VK} {σ:St} {H:Hp} {i:Nat} {v:V} {Q:VK} {r r':R2} {c c':TT} {QB:Bool->Hp->Prop} {QA:List V->Hp->Prop} {A B:TA}
end
theorem Same.seqT {K:PySem.W.Frag} {H H':Hp} {a:Addr} {xs:List V} (e:Same H H') (h:SqT K H a xs):SqT K H' a xs:=by
 rcases h with (h | ⟨o,h⟩) | h
 . exact .inl (.inl (e _ _ h))
 . exact .inl (.inr ⟨o,e _ _ h⟩)
 . exact .inr h
theorem Same.upd {H:Hp} {p:Addr} {o:HO} (h:H p=none):Same H (upd H p o):=fun b u e=>by rw [jw (jz e h)];exact e
end L2
set_option Elab.async false
set_option linter.all false
set_option maxRecDepth 100000
set_option maxHeartbeats 1000000
namespace L2
open PySem PySem.Spec PyProof.Rows
theorem HOk.grow {P:Program} {w:World} {H H':Hp} {h h':Heap} (x:HOk P w H h) (k:∀b u,h.get? b=some u->h'.get? b=some u) (same:∀b,@LT.lt Nat instLTNat b h.objs.size->H' b=H b)
 (new:∀b o,h.objs.size<=b->H' b=some o->ObjOk P w H' h' b o):HOk P w H' h':=fun b o e=>by
 rcases Nat.lt_or_ge b h.objs.size with z | z
 . rw [same b z] at e
   exact (x b o e).stay (fun c v _ q=>k c v q) (fun c q=>by rw [same c (x.lt q)];exact q) fun c xs q=>by rw [same c (x.lt q)];exact q
 . exact new b o z e
section
variable {X:Cx} {pins:List (Addr×Obj)} {σ:St} {H H':Hp} {s:Shared} {h':Heap}
theorem Inv.grow {t':Nat} {d':Drawn} (I:Inv X pins σ H s) (k:∀b u,s.heap.get? b=some u->h'.get? b=some u) (same:∀b,@LT.lt Nat instLTNat b s.heap.objs.size->H' b=H b)
 (new:∀b o,s.heap.objs.size<=b->H' b=some o->ObjOk X.prog X.w H' h' b o):Inv X pins σ H' { s with heap:=h',drawn:=d',toks:=t' }:=
 I.step (g':=s.gens) (d':=d') (ch:=[]) (fun _ z=>nomatch z) (fun b o _ _ _ e _=>k b o e) (fun b o _ _ _ e _=>⟨o.slots,k b o e⟩) (fun b o _ e n=>by rw [same b (Heap.lt_size e)];exact n) (fun b o _ e=>⟨o,k b o e⟩)
  (fun b xs e=>by rw [same b (I.hok.lt e)];exact e) (fun b o u e=>by rw [same b (I.hok.lt e)];exact e) (fun b ps e=>⟨#[],by rw [same b (I.hok.lt e),e];simp⟩) (fun m hm=>hm.keeps k) (I.hok.grow k same new) I.bare
theorem Inv.turnNew {ch:List Addr} {t:Addr} {o:HO} {tk:Nat} (I:Inv X pins σ H s) (hf:∀b∈ch,jby X pins H b) (k:∀b u,b∉ch->s.heap.get? b=some u->h'.get? b=some u) (ht:s.heap.objs.size<=t)
 (new:ObjOk X.prog X.w (upd H t o) h' t o):Inv X pins σ (upd H t o) { s with heap:=h',toks:=tk }:=by
 have hn:H t=none:=I.hok.fresh ht
 have lt:∀b u,s.heap.get? b=some u->b≠t:=fun b u e=>Nat.ne_of_lt (Nat.lt_of_lt_of_le (Heap.lt_size e) ht)
 have nch:∀b u,H b=some u->b∉ch:=fun b u e z=>by rw [(hf b z).1] at e;cases e
 refine I.step (g':=s.gens) (d':=s.drawn) (ch:=ch) (fun b hb=>⟨(hf b hb).2.2.2.1,(hf b hb).2.1,(hf b hb).2.2.2.2.1,(hf b hb).2.2.2.2.2⟩) (fun b u _ _ hc e _=>k b u hc e) (fun b u _ _ hc e _=>⟨u.slots,k b u hc e⟩)
  (fun b u _ e n=>by rw [jw (lt b u e)];exact n) (fun b u hc e=>⟨u,k b u hc e⟩) (fun b xs e=>by rw [jw (jz e hn)];exact e) (fun b u v e=>by rw [jw (jz e hn)];exact e) (fun b ps e=>⟨#[],by rw [jw (jz e hn),e];simp⟩)
  (fun m hm=>?_) (fun b u e=>?_) I.bare
 . obtain ⟨ol,es,ep,ho,r⟩:=hm
   exact ⟨ol,es,ep,k _ ol (fun z=>(hf _ z).2.1 rfl) ho,r⟩
 . by_cases hb:b=t
   . subst hb;rw [jx] at e;cases e;exact new
   . rw [jw hb] at e
     refine (I.hok b u e).stay (fun c v hc q=>k c v ?_ q) (fun c q=>by rw [jw (jz q hn)];exact q) fun c xs q=>by rw [jw (jz q hn)];exact q
     rcases hc with z | z
     . rw [z];exact nch b u e
     . exact nch c _ z
end
noncomputable def Itz (K:PySem.W.Frag) (p q:Addr):It:=
 ⟨fun i H=>∃xs ys x y,zB K H p xs/\zB K H q ys/\xs[i]?=some x/\ys[i]?=some y,
  fun i H v H'=>∃t x y,H t=none/\v=.ref t/\H'=upd H t (.tup [x,y])/\(∀xs,zB K H p xs->xs[i]?=some x)/\∀ys,zB K H q ys->ys[i]?=some y,
  fun i H=>∃xs ys,zB K H p xs/\zB K H q ys/\(xs.length<=i\/ys.length<=i)⟩
theorem jbC {h:Heap} {T:Addr} {a b:Value} (e:IsPair h T a b):IsTup h T [a,b].toArray:=⟨_,e,rfl,0,rfl⟩
theorem ji7 {P:Program} {w:World} {K:PySem.W.Frag} {elts:List Expr} {x1:Nat} {tpos:Pos} {z TI TO i1 i2 p q:Addr} (D:ZipApart z TI TO i1 i2 p q) :
 Turn P w K (.Tuple elts x1 tpos) (Itz K p q) [z,TI,TO,i1,i2] z (fun i h=>IsZip h z TI TO .none/\IsPair h TI (.ref i1) (.ref i2)/\(∃a b,IsPair h TO a b)/\h.IsListIter i1 p i/\h.IsListIter i2 q i) where
 mem:=by simp
 obj:=fun i h st b hb=>by
  obtain ⟨hz,hTI,⟨a,c,hTO⟩,⟨o1,e1,_,d1⟩,⟨o2,e2,_,d2⟩⟩:=st
  simp only [List.mem_cons,List.not_mem_nil,or_false] at hb
  rcases hb with rfl | rfl | rfl | rfl | rfl
  . exact ⟨_,hz,fun v y=>nomatch y⟩
  . exact ⟨_,hTI,fun v y=>nomatch y⟩
  . exact ⟨_,hTO,fun v y=>nomatch y⟩
  . exact ⟨o1,e1,fun v y=>by rw [d1] at y;cases y⟩
  . exact ⟨o2,e2,fun v y=>by rw [d2] at y;cases y⟩
 keep:=fun i h h' st k=>by
  obtain ⟨hz,hTI,⟨a,c,hTO⟩,h1,h2⟩:=st
  exact ⟨k _ (by simp) _ hz,k _ (by simp) _ hTI,⟨a,c,k _ (by simp) _ hTO⟩,h1.at fun o e=>k _ (by simp) o e,h2.at fun o e=>k _ (by simp) o e⟩
 item:=by
  intro X hP hw hK hc i pins s σ H E I hf st hg
  subst hP hw hK
  obtain ⟨xs,ys,x,y,hp,hq,hx,hy⟩:=hg
  obtain ⟨its,rv,pl,_⟩:=I.list hp
  obtain ⟨its2,rv2,pl2,_⟩:=I.list hq
  obtain ⟨u,hu,ru⟩:=rv.get hx
  obtain ⟨u2,hu2,ru2⟩:=rv2.get hy
  obtain ⟨hz,hTI,⟨a,c,hTO⟩,h1,h2⟩:=st
  refine wpAny_pyNext_zip_item D hz hTI hTO h1 h2 pl.isList pl2.isList (x:=u) (y:=u2) (by simpa using hu) (by simpa using hu2) fun h' r1 r2 r3 r4 r5 r6 r7=>?_
  have kk:∀b o,b∉[z,TI,TO,i1,i2]->s.heap.get? b=some o->h'.get? b=some o:=fun b o hb e=>by
   simp only [List.mem_cons,List.not_mem_nil,or_false,not_or] at hb
   exact r7 b o hb.1 hb.2.2.1 hb.2.2.2.1 hb.2.2.2.2 e
  have I1:Inv X pins σ (upd H s.heap.objs.size (.tup [x,y])) { s with heap:=h',toks:=s.toks }:=I.turnNew hf kk (Nat.le_refl _) ⟨by show 2<=sizeLine;decide,[u,u2],.cons ru (.cons ru2 .nil),jbC r5⟩
  have hTI':IsPair h' TI (.ref i1) (.ref i2):=r7 _ _ D.TIz D.TITO D.TIi1 D.TIi2 hTI
  have nt:∀b∈[z,TI,TO,i1,i2],b≠s.heap.objs.size:=fun b hb=>by
   simp only [List.mem_cons,List.not_mem_nil,or_false] at hb
   rcases hb with rfl | rfl | rfl | rfl | rfl
   . exact Nat.ne_of_lt (Z7 hz)
   . exact Nat.ne_of_lt (Z7 hTI)
   . exact Nat.ne_of_lt (Z7 hTO)
   . obtain ⟨_,e,_⟩:=h1;exact Nat.ne_of_lt (Z7 e)
   . obtain ⟨_,e,_⟩:=h2;exact Nat.ne_of_lt (Z7 e)
  refine ⟨_,rfl,wpAny_letOwnedTupleGo_zip (s:={ s with heap:=h' }) r1 fun h'' z' sb=>?_⟩
  obtain ⟨f0,f1,f2,f3,f4,f5⟩:=hf z (by simp)
  have hn:H s.heap.objs.size=none:=I.hok.fresh (Nat.le_refl _)
  have I2:Inv X pins σ (upd H s.heap.objs.size (.tup [x,y])) { s with heap:=h'',toks:=s.toks }:=Inv.turned (s:={ s with heap:=h',toks:=s.toks }) (h':=h'') I1 (t':=s.toks) (it:=z) (fun b o hb e=>(sb.2 b hb).trans e) (by rw [jw (nt z (by simp))];exact f0) f1 f3 f4 f5
  refine ⟨.ref s.heap.objs.size,_,I2,rfl,⟨_,x,y,hn,rfl,rfl,fun xs' h'=>by rw [I.list_inj h' hp];exact hx,fun ys' h'=>by rw [I.list_inj h' hq];exact hy⟩,⟨z',sb.extBut _ _ D.TIz hTI',⟨_,_,sb.extBut _ _ D.TOz r2⟩,r3.extBut sb.extBut D.i1z,r4.extBut sb.extBut D.i2z⟩,fun b hb=>?_⟩
  rw [jw (nt b hb)]
  exact (hf b hb).1
 done:=by
  intro X hP hw hK hc i pins s σ H E I hf st hg
  subst hP hw hK
  obtain ⟨xs,ys,hp,hq,he⟩:=hg
  obtain ⟨its,rv,pl,_⟩:=I.list hp
  obtain ⟨its2,rv2,pl2,_⟩:=I.list hq
  obtain ⟨hz,hTI,⟨a,c,hTO⟩,h1,h2⟩:=st
  have l1:=rv.length
  have l2:=rv2.length
  refine wpAny_pyNext_zip_end (I.ok.hd hc) D hz hTI hTO h1 h2 pl.isList pl2.isList (by rcases he with e | e;exact .inl (by simp;omega);exact .inr (by simp;omega)) fun h' kk=>⟨rfl,?_⟩
  have J:∀b o,b∉[z,TI,TO,i1,i2]->s.heap.get? b=some o->h'.get? b=some o:=fun b o hb e=>by
   simp only [List.mem_cons,List.not_mem_nil,or_false,not_or] at hb
   exact kk b o hb.1 hb.2.2.1 hb.2.2.2.1 hb.2.2.2.2 e
  have nch:∀b u,H b=some u->b∉[z,TI,TO,i1,i2]:=fun b u e y=>by rw [(hf b y).1] at e;cases e
  refine I.step (g':=s.gens) (d':=s.drawn) (t':=s.toks) (ch:=[z,TI,TO,i1,i2]) (fun b hb=>⟨(hf b hb).2.2.2.1,(hf b hb).2.1,(hf b hb).2.2.2.2.1,(hf b hb).2.2.2.2.2⟩) (fun b u _ _ hc e _=>J b u hc e) (fun b u _ _ hc e _=>⟨u.slots,J b u hc e⟩)
   (fun _ _ _ _ n=>n) (fun b u hc e=>⟨u,J b u hc e⟩) (fun _ _ e=>e) (fun _ _ _ e=>e) (fun b ps e=>⟨#[],by rw [e];simp⟩) (fun m hm=>?_) (fun b u e=>?_) I.bare
  . obtain ⟨ol,es,ep,ho,r⟩:=hm
    exact ⟨ol,es,ep,J _ ol (fun y=>(hf _ y).2.1 rfl) ho,r⟩
  . refine (I.hok b u e).stay (fun c v hc q=>J c v ?_ q) (fun _ q=>q) fun _ _ q=>q
    rcases hc with y | y
    . rw [y];exact nch b u e
    . exact nch c _ y
 self:=fun _ _ _ _ _ st h=>wpAny_pyIter_zip st.1 h
section
variable {X:Cx}
noncomputable def jlS (K:PySem.W.Frag) (ta:TA):TI:=fun σ H R=>ta σ H fun vs H1=>∃p q xs ys,vs=[.ref p,.ref q]/\zB K H1 p xs/\zB K H1 q ys/\R (Itz K p q) H1
theorem jmh {a b:Expr} {ta:TA} {p pos:Pos} {elts:List Expr} {x1:Nat} {tpos:Pos} (hg:Gl X "zip") (hm : X.mg "zip" = none) (ha : PA X [a, b] ta) (hs : autoParam (starEach [a, b] X.env = [(false, eval a X.env), (false, eval b X.env)]) QA.a4._auto_1) (hs2 : autoParam (starEach [b] X.env = [(false, eval b X.env)]) QA.a4._auto_1) :
 PI X (.Tuple elts x1 tpos) (.Call (.Name "zip" p) [a, b] [] pos) (jlS X.K ta) := by
 intro pins s σ H R I h
 refine Call_ (JD I hg hm boot_zip (PyProof.Rows.callWith_type1 (qr (ha pos pins s σ H _ I h) fun us s1 ⟨vs,H1,I1,r1,q1⟩=>?_) (by rw [hs,hs2]) (by rw [hs2];rfl)))
 obtain ⟨pa,pb,xs,ys,e,hp,hq,q⟩:=q1
 subst e
 obtain ⟨u,v,rfl,ru,rv⟩:=Vals.two r1
 cases ru
 cases rv
 obtain ⟨its,rx,pl,_⟩:=I1.list hp
 obtain ⟨its2,ry,pl2,_⟩:=I1.list hq
 have lta:@LT.lt Nat instLTNat pa s1.heap.objs.size:=by obtain ⟨_,e,_⟩:=pl.isList;exact Z7 e
 have ltb:@LT.lt Nat instLTNat pb s1.heap.objs.size:=by obtain ⟨_,e,_⟩:=pl2.isList;exact Z7 e
 refine call_zip_2 pl.isList pl2.isList fun h' r1 r2 r3 r4 r5 r6 r7=>wpAny_pyIter_zip (s:={ s1 with heap:=h' }) r1 ?_
 have I2:Inv X pins σ H1 { s1 with heap:=h',toks:=s1.toks }:=I1.kept (t':=s1.toks) r7
 refine ⟨_,[s1.heap.objs.size+4,s1.heap.objs.size+2,s1.heap.objs.size+3,s1.heap.objs.size,s1.heap.objs.size+1],_,_,H1,rfl,I2,ji7 (zipApart_new lta ltb),⟨r1,r2,⟨_,_,r3⟩,r4,r5⟩,fun b hb=>?_,q⟩
 have ge:s1.heap.objs.size<=b:=by
  simp only [List.mem_cons,List.not_mem_nil,or_false] at hb
  rcases hb with rfl | rfl | rfl | rfl | rfl
  . exact Nat.le_add_right _ 4
  . exact Nat.le_add_right _ 2
  . exact Nat.le_add_right _ 3
  . exact Nat.le_refl _
  . exact Nat.le_add_right _ 1
 exact I1.fpOk ge (I1.hok.fresh ge)
end
noncomputable def Ite (K:PySem.W.Frag) (p:Addr):It:=
 ⟨fun i H=>∃xs x,zB K H p xs/\xs[i]?=some x,
  fun i H v H'=>∃t x,H t=none/\v=.ref t/\H'=upd H t (.tup [.int i,x])/\∀xs,zB K H p xs->xs[i]?=some x,
  fun i H=>∃xs,zB K H p xs/\xs.length<=i⟩
theorem jgT {P:Program} {w:World} {K:PySem.W.Frag} {elts:List Expr} {x1:Nat} {tpos:Pos} {e it p:Addr} (hei:e≠it) :
 Turn P w K (.Tuple elts x1 tpos) (Ite K p) [e,it] e (fun i h=>(∃old,IsEnum h e it i old)/\h.IsListIter it p i) where
 mem:=by simp
 obj:=fun i h st b hb=>by
  obtain ⟨⟨old,he⟩,⟨o1,e1,_,d1⟩⟩:=st
  simp only [List.mem_cons,List.not_mem_nil,or_false] at hb
  rcases hb with rfl | rfl
  . exact ⟨_,he,fun v y=>nomatch y⟩
  . exact ⟨o1,e1,fun v y=>by rw [d1] at y;cases y⟩
 keep:=fun i h h' st k=>by
  obtain ⟨⟨old,he⟩,h1⟩:=st
  exact ⟨⟨old,k _ (by simp) _ he⟩,h1.at fun o e=>k _ (by simp) o e⟩
 item:=by
  intro X hP hw hK hc i pins s σ H E I hf st hg
  subst hP hw hK
  obtain ⟨xs,x,hp,hx⟩:=hg
  obtain ⟨its,rv,pl,_⟩:=I.list hp
  obtain ⟨u,hu,ru⟩:=rv.get hx
  obtain ⟨⟨old,he⟩,h1⟩:=st
  refine wpAny_pyNext_enum_item he h1 pl.isList (x:=u) (by simpa using hu) hei fun h' r1 r2 r3 r4 r5=>?_
  have kk:∀b o,b∉[e,it]->s.heap.get? b=some o->h'.get? b=some o:=fun b o hb q=>by
   simp only [List.mem_cons,List.not_mem_nil,or_false,not_or] at hb
   exact r5 b o hb.1 hb.2 q
  have I1:Inv X pins σ (upd H s.heap.objs.size (.tup [.int i,x])) { s with heap:=h',toks:=s.toks+1 }:=I.turnNew hf kk (Nat.le_refl _) ⟨by show 2<=sizeLine;decide,[.int i s.toks,u],.cons ⟨_,rfl⟩ (.cons ru .nil),⟨_,r3,rfl,0,rfl⟩⟩
  have nt:∀b∈[e,it],b≠s.heap.objs.size:=fun b hb=>by
   simp only [List.mem_cons,List.not_mem_nil,or_false] at hb
   rcases hb with rfl | rfl
   . exact Nat.ne_of_lt (Z7 he)
   . obtain ⟨_,q,_⟩:=h1;exact Nat.ne_of_lt (Z7 q)
  refine ⟨_,rfl,wpAny_letOwnedTupleGo_enum (s:={ s with heap:=h',toks:=s.toks+1 }) r1 fun h'' z' sb=>?_⟩
  obtain ⟨f0,f1,f2,f3,f4,f5⟩:=hf e (by simp)
  have hn:H s.heap.objs.size=none:=I.hok.fresh (Nat.le_refl _)
  have I2:Inv X pins σ (upd H s.heap.objs.size (.tup [.int i,x])) { s with heap:=h'',toks:=s.toks+1 }:=Inv.turned (s:={ s with heap:=h',toks:=s.toks+1 }) (h':=h'') I1 (t':=s.toks+1) (it:=e) (fun b o hb q=>(sb.2 b hb).trans q) (by rw [jw (nt e (by simp))];exact f0) f1 f3 f4 f5
  refine ⟨.ref s.heap.objs.size,_,I2,rfl,⟨_,x,hn,rfl,rfl,fun xs' h'=>by rw [I.list_inj h' hp];exact hx⟩,⟨⟨_,z'⟩,r2.extBut sb.extBut (Ne.symm hei)⟩,fun b hb=>?_⟩
  rw [jw (nt b hb)]
  exact (hf b hb).1
 done:=by
  intro X hP hw hK hc i pins s σ H E I hf st hg
  subst hP hw hK
  obtain ⟨xs,hp,hle⟩:=hg
  obtain ⟨its,rv,pl,_⟩:=I.list hp
  obtain ⟨⟨old,he⟩,h1⟩:=st
  have l1:=rv.length
  obtain ⟨f0,f1,f2,f3,f4,f5⟩:=hf it (by simp)
  exact wpAny_pyNext_enum_end (I.ok.hd hc) he h1 pl.isList (by simp;omega) fun h' kk=>⟨rfl,I.turned (t':=s.toks) (it:=it) (fun b o hb q=>kk b o hb q) f0 f1 f3 f4 f5⟩
 self:=fun _ _ s _ _ st h=>by
  obtain ⟨⟨old,he⟩,_⟩:=st
  have hT:s.TypeIs (.ref e) "enumerate" := ⟨_, he, rfl⟩
  refine wpAny_pyIter_slot hT PySem.F.slot_enumerate_iter (wpAny_call_entry PySem.F.slot_enumerate_iter hT PySem.F.entry_enumerate_iter ?_ (PySem.F.args_enumerate_iter_1 _))
  show wpAny _ _ (ret (.ref e)) _ _ s
  exact wpAny_pure ⟨_,rfl, "enumerate", _, hT, PySem.F.slot_enumerate_next.lookup, h⟩
section
variable {X:Cx}
noncomputable def jiS (K:PySem.W.Frag) (ta:TA):TI:=fun σ H R=>ta σ H fun vs H1=>∃p xs,vs=[.ref p]/\zB K H1 p xs/\R (Ite K p) H1
theorem jj4 {a:Expr} {ta:TA} {p pos:Pos} {elts:List Expr} {x1:Nat} {tpos:Pos} (hg:Gl X "enumerate") (hm : X.mg "enumerate" = none) (ha : PA X [a] ta) (hs : autoParam (starEach [a] X.env = [(false, eval a X.env)]) QA.a4._auto_1) :
 PI X (.Tuple elts x1 tpos) (.Call (.Name "enumerate" p) [a] [] pos) (jiS X.K ta) := by
 intro pins s σ H R I h
 refine Call_ (JD I hg hm boot_enumerate (PyProof.Rows.callWith_type1 (qr (ha pos pins s σ H _ I h) fun us s1 ⟨vs,H1,I1,r1,q1⟩=>?_) hs rfl))
 obtain ⟨pa,xs,e,hp,q⟩:=q1
 subst e
 obtain ⟨u,rfl,ru⟩:=Vals.one r1
 cases ru
 obtain ⟨its,rx,pl,_⟩:=I1.list hp
 refine call_enumerate_list pl.isList fun h' r1 r2 r3 r4=>?_
 have hT:Shared.TypeIs { s1 with heap:=h' } (.ref (s1.heap.objs.size+1)) "enumerate" := ⟨_, r1, rfl⟩
 refine wpAny_pyIter_slot hT PySem.F.slot_enumerate_iter (wpAny_call_entry PySem.F.slot_enumerate_iter hT PySem.F.entry_enumerate_iter ?_ (PySem.F.args_enumerate_iter_1 _))
 show wpAny _ _ (ret (.ref (s1.heap.objs.size+1))) _ _ _
 refine wpAny_pure ⟨_,rfl, "enumerate", _, hT, PySem.F.slot_enumerate_next.lookup, ?_⟩
 have I2:Inv X pins σ H1 { s1 with heap:=h',toks:=s1.toks }:=I1.kept (t':=s1.toks) r4
 refine ⟨_,[s1.heap.objs.size+1,s1.heap.objs.size],_,_,H1,rfl,I2,jgT (Nat.ne_of_gt (Nat.lt_succ_self _)),⟨⟨_,r1⟩,r2⟩,fun b hb=>?_,q⟩
 have ge:s1.heap.objs.size<=b:=by
  simp only [List.mem_cons,List.not_mem_nil,or_false] at hb
  rcases hb with rfl | rfl
  . exact Nat.le_add_right _ 1
  . exact Nat.le_refl _
 exact I1.fpOk ge (I1.hok.fresh ge)
noncomputable def ja6 (K:PySem.W.Frag) (ta:TA):TE:=fun σ H Q=>ta σ H fun vs H1=>∃p q xs ys,vs=[.ref p,.ref q]/\zB K H1 p xs/\zB K H1 q ys/\xs.length<sizeLine /\
 ∀(l:Addr) (ts:List Addr) (H':Hp),H1 l=none->(∀t∈ts,H1 t=none)->l∉ts->ts.Nodup->ts.length=min xs.length ys.length->(∀b,b≠l->b∉ts->H' b=H1 b)->H' l=some (.lst (ts.map V.ref))->
   (∀(i:Nat) t x y,ts[i]?=some t->xs[i]?=some x->ys[i]?=some y->H' t=some (.tup [x,y]))->Q (.ref l) H'
theorem Z4:∀ts:List Addr,Vals (ts.map V.ref) (ts.map Value.ref)
 | []=>.nil
 | _::ts=>.cons rfl (Z4 ts)
theorem ZF {ts:List Addr} {b:Addr} (h:b∈ts):ts.idxOf b<ts.length/\ts[ts.idxOf b]?=some b:=by
 have h1:=List.idxOf_lt_length_of_mem h
 exact ⟨h1,by rw [List.getElem?_eq_getElem h1,List.getElem_idxOf h1]⟩
theorem jeF {a b:Expr} {ta:TA} {p1 p2 pos1 pos2:Pos} (hc:X.calm=true) (hg1:Gl X "list") (hm1 : X.mg "list" = none) (hg2 : Gl X "zip") (hm2 : X.mg "zip" = none) (ha : PA X [a, b] ta)
 (hs:autoParam (starEach [a,b] X.env=[(false,eval a X.env),(false,eval b X.env)]) QA.a4._auto_1) (hs2:autoParam (starEach [b] X.env=[(false,eval b X.env)]) QA.a4._auto_1)
 (hs3:autoParam (starEach [.Call (.Name "zip" p2) [a, b] [] pos2] X.env = [(false, eval (.Call (.Name "zip" p2) [a, b] [] pos2) X.env)]) QA.a4._auto_1) :
 PE X (.Call (.Name "list" p1) [.Call (.Name "zip" p2) [a, b] [] pos2] [] pos1) (ja6 X.K ta) := by
 intro pins s σ H Q I h
 refine Call_ (JD I hg1 hm1 boot_list (PyProof.Rows.callWith_type1 ?_ hs3 rfl))
 rw [hs3]
 show wpAny _ _ (spliced ((false,eval (.Call (.Name "zip" p2) [a, b] [] pos2) X.env) :: backTo pos1 [])) _ _ s
 refine Calls.spliced_cons (Call_ (JD I hg2 hm2 boot_zip (PyProof.Rows.callWith_type1 (qr (ha pos2 pins s σ H _ I h) fun us s1 ⟨vs,H1,I1,r1,q1⟩=>?_) (by rw [hs,hs2]) (by rw [hs2];rfl))))
 obtain ⟨pa,pb,xs,ys,e,hp,hq,hxl,q⟩:=q1
 subst e
 obtain ⟨u,v,rfl,ru,rv⟩:=Vals.two r1
 cases ru
 cases rv
 obtain ⟨its,rx,pl,hz1⟩:=I1.list hp
 obtain ⟨its2,ry,pl2,hz2⟩:=I1.list hq
 have lx:=rx.length
 have ly:=ry.length
 have lta:@LT.lt Nat instLTNat pa s1.heap.objs.size:=by obtain ⟨_,e,_⟩:=pl.isList;exact Z7 e
 have ltb:@LT.lt Nat instLTNat pb s1.heap.objs.size:=by obtain ⟨_,e,_⟩:=pl2.isList;exact Z7 e
 refine call_zip_2 pl.isList pl2.isList fun h' r1 r2 r3 r4 r5 r6 r7=>?_
 refine Calls.spliced_nil ?_
 refine jig (h₀:=s1.heap) (xs:=its.toArray) (ys:=its2.toArray) (I.ok.hd hc) (zipApart_new lta ltb) r1 r2 ⟨_,_,r3⟩ r4 r5 pl.isList pl2.isList r7 ⟨Nat.le_add_right _ 4,Nat.le_add_right _ 3,Nat.le_refl _,Nat.le_add_right _ 1⟩ (by show s1.heap.objs.size<=h'.objs.size;rw [r6];exact Nat.le_add_right _ 5) (by simp;omega) fun S g acc c hS eS M=>?_
 -- the tuples' addresses
 have hmin:min its.toArray.size its2.toArray.size=min xs.length ys.length:=by simp;omega
 have hts:∃ts:List Addr,acc.toList=ts.map Value.ref:=by
  have:∀v∈acc.toList,∃t,v=Value.ref t:=fun v hv=>by
   obtain ⟨j,hj,e⟩:=List.getElem_of_mem hv
   have hj':j<acc.size:=by simpa using hj
   obtain ⟨T,x,y,e1,_⟩:=M.pair j (by rw [<-M.size];exact hj')
   rw [Array.getElem?_eq_getElem hj'] at e1
   exact ⟨T,by rw [<-e];simpa using Option.some.inj e1⟩
  generalize acc.toList=l at this
  clear eS M
  induction l with
  | nil=>exact ⟨[],rfl⟩
  | cons v l ih=>
    obtain ⟨t,rfl⟩:=this v List.mem_cons_self
    obtain ⟨ts,e⟩:=ih fun x hx=>this x (List.mem_cons_of_mem _ hx)
    exact ⟨t::ts,by rw [e];rfl⟩
 obtain ⟨ts,hts⟩:=hts
 have tl:ts.length=min xs.length ys.length:=by
  have:=congrArg List.length hts
  rw [List.length_map,Array.length_toList,M.size,hmin] at this
  exact this.symm
 have at_:∀(j:Nat) (t:Addr),ts[j]?=some t->acc[j]?=some (.ref t):=fun j t e=>by
  rw [<-Array.getElem?_toList,hts,List.getElem?_map,e];rfl
 have info:∀(j:Nat) (t:Addr),ts[j]?=some t->∃x y,its[j]?=some x/\its2[j]?=some y/\IsPair g t x y/\s1.heap.objs.size<=t/\t≠S/\∀k,k<j->acc[k]?≠some (.ref t):=fun j t e=>by
  have hj:j<ts.length:=(List.getElem?_eq_some_iff.mp e).1
  obtain ⟨T,x,y,e1,e2,e3,e4,e5,e6,_,e7⟩:=M.pair j (by rw [hmin,<- tl];exact hj)
  rw [at_ j t e] at e1
  have:t=T:=by injection (Option.some.inj e1)
  subst this
  exact ⟨x,y,by simpa using e2,by simpa using e3,e4,e5,e6,e7⟩
 have nd:ts.Nodup:=by
  rw [List.nodup_iff_pairwise_ne,List.pairwise_iff_getElem]
  intro i j hi hj hij e
  obtain ⟨_,_,_,_,_,_,_,q7⟩:=info j ts[j] (List.getElem?_eq_getElem hj)
  exact q7 i hij (by rw [<-e];exact at_ i _ (List.getElem?_eq_getElem hi))
 have fresh:∀t∈ts,s1.heap.objs.size<=t/\t≠S:=fun t ht=>by
  obtain ⟨h1,h2⟩:=ZF ht
  obtain ⟨_,_,_,_,_,q5,q6,_⟩:=info _ t h2
  exact ⟨q5,q6⟩
 let H':Hp:=fun b=>if b=S then some (.lst (ts.map V.ref)) else if b∈ts then some (.tup [(xs[ts.idxOf b]?).getD .non,(ys[ts.idxOf b]?).getD .non]) else H1 b
 have HS:H' S=some (.lst (ts.map V.ref)):=if_pos rfl
 have HT:∀(i:Nat) t x y,ts[i]?=some t->xs[i]?=some x->ys[i]?=some y->H' t=some (.tup [x,y]):=fun i t x y e e1 e2=>by
  have hi:i<ts.length:=(List.getElem?_eq_some_iff.mp e).1
  have ht:t∈ts:=List.mem_of_getElem? e
  have hix:ts.idxOf t=i:=by
   obtain ⟨h1,h2⟩:=ZF ht
   exact (List.getElem_inj (h₀:=h1) (h₁:=hi) nd).mp ((List.getElem?_eq_some_iff.mp h2).2.trans (List.getElem?_eq_some_iff.mp e).2.symm)
  show (if t=S then _ else if t∈ts then _ else _)=_
  rw [if_neg (fresh t ht).2,if_pos ht,hix,e1,e2]
  rfl
 have HO':∀b,b≠S->b∉ts->H' b=H1 b:=fun b h1 h2=>by
  show (if b=S then _ else if b∈ts then _ else _)=_
  rw [if_neg h1,if_neg h2]
 have I2:Inv X pins σ H' { s1 with heap:=g,drawn:=s1.drawn,toks:=s1.toks }:=by
  refine I1.grow M.keep (fun b hb=>HO' b (fun z=>?_) (fun z=>?_)) fun b o hb e=>?_
  . rw [z] at hb;exact Nat.not_lt.mpr hS hb
  . exact Nat.not_lt.mpr (fresh b z).1 hb
  . by_cases hbS:b=S
    . subst hbS
      rw [HS] at e
      cases e
      refine ⟨by rw [List.length_map,tl];omega,acc.toList,c,?_,by simpa using eS⟩
      rw [hts]
      exact Z4 ts
    . by_cases hbt:b∈ts
      . obtain ⟨h1,h2⟩:=ZF hbt
        obtain ⟨x,y,e1,e2,e3,_⟩:=info _ b h2
        have hxi:ts.idxOf b<xs.length:=by omega
        have hyi:ts.idxOf b<ys.length:=by omega
        rw [HT _ b _ _ h2 (List.getElem?_eq_getElem hxi) (List.getElem?_eq_getElem hyi)] at e
        cases e
        obtain ⟨u1,g1,g2⟩:=rx.get (List.getElem?_eq_getElem hxi)
        obtain ⟨u2,g3,g4⟩:=ry.get (List.getElem?_eq_getElem hyi)
        rw [e1] at g1
        rw [e2] at g3
        cases g1
        cases g3
        exact ⟨by show 2<=sizeLine;decide,[x,y],.cons g2 (.cons g4 .nil),jbC e3⟩
      . rw [HO' b hbS hbt] at e
        exact absurd (I1.hok.lt e) (Nat.not_lt.mpr hb)
 have nS:H1 S=none:=I1.hok.fresh hS
 exact ⟨.ref S,H',I2,rfl,q S ts H' nS (fun t ht=>I1.hok.fresh (fresh t ht).1) (fun z=>(fresh S z).2 rfl) nd tl HO' HS HT⟩
noncomputable def jcV (X:Cx) (a:Addr) (ns:List Int):HO:=.ext fun h=>L2S.QM X.prog X.w h a ns
theorem jgP {P:Program} {w:World} {a:Addr} {ns:List Int} {h1 h2:Heap} (r:L2S.QM P w h1 a ns) (k:∀o,h1.get? a=some o->h2.get? a=some o):L2S.QM P w h2 a ns:=by
 obtain ⟨o,es,ep,t,ho,q⟩:=r
 exact ⟨o,es,ep,t,k o ho,q⟩
theorem je2 (hc:X.calm=true):CallR X (.type "set") (fun xs H Q => ∃ (p : Addr) (ns : List Int), xs = [.ref p] ∧ zB X.K H p (ns.map V.int) ∧ ns.length < 64 ∧ ∀ a, H a = none → Q (.ref a) (upd H a (jcV X a ns))) := by
 intro pins s σ H xs us Q I r h
 obtain ⟨p,ns,rfl,hq,hl,q⟩:=h
 obtain ⟨u,rfl,rx⟩:=Vals.one r
 cases rx
 obtain ⟨its,rv,pl,hz⟩:=I.list hq
 have hi:IntsAre its ns:=Za rv
 refine L2S.jeJ (I.ok.hd hc) pl.isList (by simpa using hi) (by show ns.length+1<4096;omega) fun h' tk hS hk=>?_
 refine ⟨.ref s.heap.objs.size,upd H s.heap.objs.size (jcV X s.heap.objs.size ns),?_,rfl,q _ (I.hok.fresh (Nat.le_refl _))⟩
 refine I.laid hk (Nat.le_refl _) ⟨hS,?_,fun h1 h2 r k=>jgP r k⟩
 obtain ⟨o,es,ep,t,ho,_⟩:=hS
 exact ⟨o,ho⟩
theorem jbW (hc:X.calm=true):CallR X (.builtin "sorted") (fun xs H Q => ∃ (a : Addr) (ns : List Int), xs = [.ref a] ∧ H a = some (jcV X a ns) ∧ ns.length < 64 ∧
 ∀(l:Addr) (ks:List Int),H l=none->ks.Pairwise (· < ·)->(∀k,k∈ks ↔ k∈ns)->ks.length<=ns.length->Q (.ref l) (upd H l (.lst (ks.map V.int)))):=by
 intro pins s σ H xs us Q I r h
 obtain ⟨a,ns,rfl,ha,hl,q⟩:=h
 obtain ⟨u,rfl,rx⟩:=Vals.one r
 cases rx
 obtain ⟨hS,_,_⟩:=I.hok a _ ha
 refine L2S.jeI (I.ok.hd hc) hS hl fun h' d tk l out c ks hk hle he hi hp hm hn=>?_
 have nl:H l=none:=I.hok.fresh hle
 refine ⟨.ref l,upd H l (.lst (ks.map V.int)),?_,rfl,q l ks nl hp hm hn⟩
 refine I.grow hk (fun b hb=>jw (Nat.ne_of_lt (Nat.lt_of_lt_of_le hb hle))) fun b o hb e=>?_
 by_cases hbl:b=l
 . subst hbl
   rw [jx] at e
   cases e
   refine ⟨by rw [List.length_map];exact Nat.le_trans (by omega:ks.length<=64) (by decide),out.toList,c,QD hi,by simpa using he⟩
 . rw [jw hbl] at e
   exact absurd (I.hok.lt e) (Nat.not_lt.mpr hb)
inductive DEq (K:PySem.W.Frag) (H:Hp):Nat->V->V->Bool->Prop where
 | flat {n:Nat} {x y:V} (fx:jcG x=true) (fy:jcG y=true):DEq K H n x y (eqV x y)
 | same {n:Nat} {a:Addr}:DEq K H n (.ref a) (.ref a) true
 | lens {n:Nat} {a b:Addr} {xs ys:List V} (ha:zB K H a xs) (hb:zB K H b ys) (hl:xs.length≠ys.length):DEq K H (n+1) (.ref a) (.ref b) false
 | lsts {n:Nat} {a b:Addr} {xs ys:List V} {e:Nat->Bool} (ha:zB K H a xs) (hb:zB K H b ys) (hl:xs.length=ys.length) (hne:a≠b) (he:∀(j:Nat) x y,xs[j]?=some x->ys[j]?=some y->DEq K H n x y (e j)):DEq K H (n+1) (.ref a) (.ref b) ((List.range xs.length).all e)
 | tups {n:Nat} {a b:Addr} {xs ys:List V} {e:Nat->Bool} (ha:SqT K H a xs) (hb:SqT K H b ys) (hl:xs.length=ys.length) (hne:a≠b) (he:∀(j:Nat) x y,xs[j]?=some x->ys[j]?=some y->DEq K H n x y (e j)):DEq K H (n+1) (.ref a) (.ref b) ((List.range xs.length).all e)
theorem DEq.ok {pins:List (Addr×Obj)} {σ:St} {H:Hp} {s:Shared} (I:Inv X pins σ H s):∀{n:Nat} {x y:V} {b:Bool},DEq X.K H n x y b->∀{u v:Value} {A:Around},RelV x u->RelV y v->A.units+n<cLine->SeqAt.EqAt A s u v b:=by
 intro n x y b d
 induction d with
 | flat fx fy=>intro u v A ru rv _;exact jhZ ru rv fx fy
 | same=>intro u v A ru rv _;cases ru;cases rv;exact SeqAt.EqAt.same _
 | @lens n a b xs ys ha hb hl=>
   intro u v A ru rv hu
   cases ru;cases rv
   obtain ⟨i1,r1,p1,_⟩:=I.list ha
   obtain ⟨i2,r2,p2,_⟩:=I.list hb
   have l1:=r1.length
   have l2:=r2.length
   by_cases hab:a=b
   . subst hab
     exact absurd (by rw [I.list_inj ha hb]) hl
   . exact SeqAt.EqAt.of_refs hab (SeqAt.RcAt.lists_lengths p1.isList p2.isList (by simp;omega) (by omega))
 | @lsts n a b xs ys e ha hb hl hne he ih=>
   intro u v A ru rv hu
   cases ru;cases rv
   obtain ⟨i1,r1,p1,_⟩:=I.list ha
   obtain ⟨i2,r2,p2,_⟩:=I.list hb
   have l1:=r1.length
   have l2:=r2.length
   have e1:xs.length=i1.toArray.size:=by simpa using l1
   rw [e1]
   refine SeqAt.EqAt.of_refs hne (SeqAt.RcAt.lists p1.isList p2.isList (by simp;omega) (by omega) fun j h1 h2=>?_)
   have hj1:j<xs.length:=by omega
   have hj2:j<ys.length:=by omega
   obtain ⟨u1,g1,g2⟩:=r1.get (List.getElem?_eq_getElem hj1)
   obtain ⟨u2,g3,g4⟩:=r2.get (List.getElem?_eq_getElem hj2)
   have k1:i1.toArray[j]=u1:=by
    have:=List.getElem?_eq_some_iff.mp g1
    simpa using this.2
   have k2:i2.toArray[j]=u2:=by
    have:=List.getElem?_eq_some_iff.mp g3
    simpa using this.2
   rw [k1,k2]
   exact ih j _ _ (List.getElem?_eq_getElem hj1) (List.getElem?_eq_getElem hj2) g2 g4 (by show A.units+1+n<cLine;omega)
 | @tups n a b xs ys e ha hb hl hne he ih=>
   intro u v A ru rv hu
   cases ru;cases rv
   obtain ⟨i1,r1,p1,_⟩:=I.tuple ha
   obtain ⟨i2,r2,p2,_⟩:=I.tuple hb
   have l1:=r1.length
   have l2:=r2.length
   have e1:(List.range xs.length).all e=((List.range (min i1.toArray.size i2.toArray.size)).all e && i1.toArray.size == i2.toArray.size):=by
    have q1:i1.toArray.size=xs.length:=by simpa using l1.symm
    have q2:i2.toArray.size=xs.length:=by simp;omega
    rw [q1,q2];simp
   rw [e1]
   refine SeqAt.EqAt.of_refs hne (SeqAt.RcAt.tuples (show s.heap.IsTuple a i1.toArray from p1) (show s.heap.IsTuple b i2.toArray from p2) (by omega) fun j h1 h2=>?_)
   have hj1:j<xs.length:=by simp at h1;omega
   have hj2:j<ys.length:=by simp at h2;omega
   obtain ⟨u1,g1,g2⟩:=r1.get (List.getElem?_eq_getElem hj1)
   obtain ⟨u2,g3,g4⟩:=r2.get (List.getElem?_eq_getElem hj2)
   have k1:i1.toArray[j]=u1:=by
    have:=List.getElem?_eq_some_iff.mp g1
    simpa using this.2
   have k2:i2.toArray[j]=u2:=by
    have:=List.getElem?_eq_some_iff.mp g3
    simpa using this.2
   rw [k1,k2]
   exact ih j _ _ (List.getElem?_eq_getElem hj1) (List.getElem?_eq_getElem hj2) g2 g4 (by show A.units+1+n<cLine;omega)
end
end L2
set_option Elab.async false
set_option linter.all false
set_option maxRecDepth 100000
set_option maxHeartbeats 1000000
namespace L2
open PySem PySem.Spec PyProof.Rows
section
variable {X:Cx}
end
end L2
set_option Elab.async false
set_option linter.all false
set_option maxRecDepth 100000
set_option maxHeartbeats 1000000
namespace L2
open PySem PySem.Spec PyProof.Rows
section
variable {K:PySem.W.Frag} {g:TG} {tt:TT} {te:TE} {σ0:St} {H:Hp} {Q:VK}
end
section
variable {K:PySem.W.Frag} {g:TG} {tb:TS} {D:Ends} {σ:St} {H:Hp}
end
end L2
set_option Elab.async false
set_option linter.all false
set_option maxRecDepth 100000
set_option maxHeartbeats 1000000
namespace L2
open PySem PySem.Spec PyProof.Rows
noncomputable def ins (k:Int):List Int->List Int
 | []=>[k]
 | x::l=>if k<x then k::x::l else if k=x then x::l else x::ins k l
noncomputable def srt (l:List Int):List Int:=l.foldr ins []
theorem mem_ins {k j:Int}:∀{l:List Int},j∈ins k l ↔ j=k\/j∈l
 | []=>by simp [ins]
 | x::l=>by
   unfold ins
   split
   . simp
   . split
     . rename_i h;subst h;simp
     . rw [List.mem_cons,mem_ins (l:=l),List.mem_cons]
       constructor
       . rintro (h | h | h) <;> simp [h]
       . rintro (h | h | h) <;> simp [h]
theorem jbp {k:Int}:∀{l:List Int},l.Pairwise (· < ·)->(ins k l).Pairwise (· < ·)
 | [],_=>by simp [ins]
 | x::l,h=>by
   have h':=List.pairwise_cons.mp h
   unfold ins
   split
   . rename_i hk
     exact List.pairwise_cons.mpr ⟨fun y hy=>by
       rcases List.mem_cons.mp hy with rfl | hy
       . exact hk
       . exact Int.lt_trans hk (h'.1 y hy),h⟩
   . split
     . exact h
     . rename_i h1 h2
       refine List.pairwise_cons.mpr ⟨fun y hy=>?_,jbp h'.2⟩
       rcases mem_ins.mp hy with rfl | hy
       . omega
       . exact h'.1 y hy
theorem jaZ {j:Int}:∀{l:List Int},j∈srt l ↔ j∈l
 | []=>by simp [srt]
 | x::l=>by
   show j∈ins x (srt l) ↔ _
   rw [mem_ins,jaZ (l:=l),List.mem_cons]
theorem Qa:∀{l:List Int},(srt l).Pairwise (· < ·)
 | []=>by simp [srt]
 | x::l=>jbp (Qa (l:=l))
theorem Q5:∀{l m:List Int},l.Pairwise (· < ·)->m.Pairwise (· < ·)->(∀k,k∈l ↔ k∈m)->l=m
 | [],[],_,_,_=>rfl
 | [],y::m,_,_,h=>absurd ((h y).mpr List.mem_cons_self) (by simp)
 | x::l,[],_,_,h=>absurd ((h x).mp List.mem_cons_self) (by simp)
 | x::l,y::m,h1,h2,h=>by
   have p1:=List.pairwise_cons.mp h1
   have p2:=List.pairwise_cons.mp h2
   have e:x=y:=by
     rcases List.mem_cons.mp ((h x).mp List.mem_cons_self) with z | z
     . exact z
     . rcases List.mem_cons.mp ((h y).mpr List.mem_cons_self) with z' | z'
       . exact z'.symm
       . have:=p2.1 x z;have:=p1.1 y z';omega
   subst e
   rw [Q5 p1.2 p2.2 fun k=>⟨fun hk=>?_,fun hk=>?_⟩]
   . rcases List.mem_cons.mp ((h k).mp (List.mem_cons_of_mem _ hk)) with z | z
     . have:=p1.1 k hk;omega
     . exact z
   . rcases List.mem_cons.mp ((h k).mpr (List.mem_cons_of_mem _ hk)) with z | z
     . have:=p2.1 k hk;omega
     . exact z
structure Ship where
 b:Int
 e:Int
 n:Int
 m:Int
structure Ship.Ok (s:Ship):Prop where
 lt:s.b<s.e
 long:s.e-s.b<=300000000000000
 lo:-500000000000000<=s.b
 hi:s.b<=500000000000000
 m0:0<=s.m
 m1:s.m<=1000000000000000
 n0:0<=s.n
 n1:s.n<=s.m*(s.e-s.b)
noncomputable def hrs (fl:List Ship):List Int:=fl.map (·.b)++fl.map (·.e)
noncomputable def JE (fl:List Ship):List Int:=srt (hrs fl)
noncomputable def jq (fl:List Ship):List (Int×Int):=(JE fl).zip (JE fl).tail
section
variable {K:PySem.W.Frag} {H H':Hp}
noncomputable def ShipV (K:PySem.W.Frag) (H:Hp) (v:V) (s:Ship):Prop:=∃a,v=.ref a/\SqT K H a [.int s.b,.int s.e,.int s.n,.int s.m]
noncomputable def SpanV (K:PySem.W.Frag) (H:Hp) (v:V) (p:Int×Int):Prop:=∃a,v=.ref a/\SqT K H a [.int p.1,.int p.2]
noncomputable def FleetAt (K:PySem.W.Frag) (H:Hp) (a:Addr) (fl:List Ship):Prop:=∃vs,zB K H a vs/\Paired (ShipV K H) vs fl
noncomputable def SpansAt (K:PySem.W.Frag) (H:Hp) (a:Addr) (sp:List (Int×Int)):Prop:=∃vs,zB K H a vs/\Paired (SpanV K H) vs sp
theorem ShipV.same {v:V} {s:Ship} (h:ShipV K H v s) (e:Same H H'):ShipV K H' v s:=let ⟨a,h1,h2⟩:=h;⟨a,h1,e.seqT h2⟩
theorem SpanV.same {v:V} {p:Int×Int} (h:SpanV K H v p) (e:Same H H'):SpanV K H' v p:=let ⟨a,h1,h2⟩:=h;⟨a,h1,e.seqT h2⟩
theorem FleetAt.same {a:Addr} {fl:List Ship} (h:FleetAt K H a fl) (e:Same H H'):FleetAt K H' a fl:=let ⟨vs,h1,h2⟩:=h;⟨vs,e.seq h1,Paired.mapP h2 fun _ _ q=>q.same e⟩
theorem SpansAt.same {a:Addr} {sp:List (Int×Int)} (h:SpansAt K H a sp) (e:Same H H'):SpansAt K H' a sp:=let ⟨vs,h1,h2⟩:=h;⟨vs,e.seq h1,Paired.mapP h2 fun _ _ q=>q.same e⟩
theorem Paired.get {α β:Type} {F:α->β->Prop}:∀{xs:List α} {ys:List β} {i:Nat} {x:α},Paired F xs ys->xs[i]?=some x->∃y,ys[i]?=some y/\F x y
 | _,_,_,_,.nil,e=>by simp at e
 | _,_,0,_,.cons r _,e=>by simp at e;subst e;exact ⟨_,rfl,r⟩
 | _,_,i+1,x,.cons _ t,e=>by
   obtain ⟨y,h1,h2⟩:=Paired.get (i:=i) t (by simpa using e)
   exact ⟨y,by simpa using h1,h2⟩
theorem FleetAt.len {a:Addr} {fl:List Ship} {vs:List V} (h2:Paired (ShipV K H) vs fl):vs.length=fl.length:=Paired.length h2
end
end L2
set_option Elab.async false
set_option linter.all false
set_option maxRecDepth 100000
set_option maxHeartbeats 1000000
namespace L2
open PySem PySem.Spec PyProof.Rows
set_option genInjectivity true in
inductive D where
 | int (i:Int) | bl (b:Bool) | non | str (x:Str) | lst (l:List D) | tup (l:List D)
 /-- the script -/
 | scr (ns:List Int)
 /-- a dict: its keys, whole numbers, and what stands at each -/
 | dic (ks:List Int) (ds:List D)
theorem bind_some {α β:Type} {o:Option α} {f:α->Option β} {b:β} (h:o.bind f=some b):∃a,o=some a/\f a=some b:=by
 cases o with
 | none=>cases h
 | some a=>exact ⟨a,rfl,h⟩
theorem map_some {α β:Type} {o:Option α} {f:α->β} {b:β} (h:o.map f=some b):∃a,o=some a/\f a=b:=by
 cases o with
 | none=>cases h
 | some a=>exact ⟨a,rfl,Option.some.inj h⟩
theorem jjK {α β:Type} {f:α->β} {l:List α} {i:Int}:L2.atI (l.map f) i=(L2.atI l i).map f:=by
 unfold L2.atI
 rw [List.length_map]
 cases ixN l.length i with
 | none=>rfl
 | some j=>simp
noncomputable instance (i j:Int):Decidable (CMul i j):=inferInstanceAs (Decidable (_\/_))
noncomputable def CMulB (i j:Int):Prop:=CMul i j\/(i.natAbs<2 ^ 400/\j.natAbs<2 ^ 400)
noncomputable instance (i j:Int):Decidable (CMulB i j):=inferInstanceAs (Decidable (_\/_))
theorem CMulB.ok {i j:Int} (h:CMulB i j):IntMulOk i j:=by
 rcases h with h | ⟨h1,h2⟩
 . exact h.ok
 . exact IntMulOk.of_bits (Nat.le_trans (intBits_le h1) (by decide)) (Nat.le_trans (intBits_le h2) (by decide))
theorem jka {X:Cx}:OpR X (binaryOp .Mult) (rI CMulB fun i j=>.int (i*j)):=opI fun _ _ _ _ _ _ _ hc q=>mul_int q hc.ok
class Fr where
 K:PySem.W.Frag
section
variable [Fr]
noncomputable def qI:D->Bool
 | .lst _=>false
 | .tup _=>false
 | .scr _=>false
 | .dic _ _=>false
 | _=>true
noncomputable def zu (ks:List Int) (vs:List V):List (zi×V):=(ks.map Sum.inl).zip vs
mutual
/-- the value v stands for the data d in the heap G -/
inductive Rep (G:Hp):V->D->Prop where
 | int (i:Int):Rep G (.int i) (.int i)
 | bl (b:Bool):Rep G (.bl b) (.bl b)
 | non:Rep G .non .non
 | str (x:Str):Rep G (.str x) (.str x)
 | lst {a:Addr} {vs:List V} {ds:List D} (h:Rd G a (.lst vs)) (r:Reps G vs ds):Rep G (.ref a) (.lst ds)
 | tup {a:Addr} {vs:List V} {ds:List D} (h:G a=some (.tup vs)) (r:Reps G vs ds):Rep G (.ref a) (.tup ds)
 | scr {a:Addr} {ns:List Int} (h:zB Fr.K G a (ns.map V.int)):Rep G (.ref a) (.scr ns)
 | dic {a:Addr} {o:Obj} {ks:List Int} {vs:List V} {ds:List D} (h:G a=some (.frz o (.dK (zu ks vs)))) (hl:ks.length=vs.length) (r:Reps G vs ds):Rep G (.ref a) (.dic ks ds)
inductive Reps (G:Hp):List V->List D->Prop where
 | nil:Reps G [] []
 | cons {v:V} {d:D} {vs:List V} {ds:List D}:Rep G v d->Reps G vs ds->Reps G (v::vs) (d::ds)
end
theorem Rd.same {G H:Hp} {a:Addr} {u:HO} (e:Same G H) (h:Rd G a u):Rd H a u:=by
 rcases h with h | ⟨o,h⟩
 . exact .inl (e _ _ h)
 . exact .inr ⟨o,e _ _ h⟩
mutual
theorem Rep.mono {G G':Hp} (e:Same G G'):∀{v:V} {d:D},Rep G v d->Rep G' v d
 | _,_,.int i=>.int i
 | _,_,.bl i=>.bl i
 | _,_,.non=>.non
 | _,_,.str i=>.str i
 | _,_,.lst h r=>.lst (h.same e) (Reps.mono e r)
 | _,_,.tup h r=>.tup (e _ _ h) (Reps.mono e r)
 | _,_,.scr h=>.scr (e.seq h)
 | _,_,.dic h hl r=>.dic (e _ _ h) hl (Reps.mono e r)
theorem Reps.mono {G G':Hp} (e:Same G G'):∀{vs:List V} {ds:List D},Reps G vs ds->Reps G' vs ds
 | _,_,.nil=>.nil
 | _,_,.cons r t=>.cons (Rep.mono e r) (Reps.mono e t)
end
theorem Rep.flat {G G':Hp} {v:V} {d:D} (h:Rep G v d) (f:qI d=true):Rep G' v d:=by
 cases h with
 | int i=>exact .int i
 | bl i=>exact .bl i
 | non=>exact .non
 | str i=>exact .str i
 | lst h r=>cases f
 | tup h r=>cases f
 | scr h=>cases f
 | dic h hl r=>cases f
section
variable {G G':Hp} {vs us:List V} {ds es:List D} {v:V} {d:D}
theorem Reps.length:∀{vs:List V} {ds:List D},Reps G vs ds->vs.length=ds.length
 | _,_,.nil=>rfl
 | _,_,.cons _ t=>by simp [Reps.length t]
theorem Reps.get:∀{vs:List V} {ds:List D} {i:Nat} {d:D},Reps G vs ds->ds[i]?=some d->∃v,vs[i]?=some v/\Rep G v d
 | _,_,_,_,.nil,e=>by simp at e
 | _,_,0,_,.cons r _,e=>by simp at e;subst e;exact ⟨_,rfl,r⟩
 | _,_,i+1,d,.cons _ t,e=>by
   obtain ⟨v,h1,h2⟩:=Reps.get (i:=i) t (by simpa using e)
   exact ⟨v,by simpa using h1,h2⟩
theorem Reps.getV:∀{vs:List V} {ds:List D} {i:Nat} {v:V},Reps G vs ds->vs[i]?=some v->∃d,ds[i]?=some d/\Rep G v d
 | _,_,_,_,.nil,e=>by simp at e
 | _,_,0,_,.cons r _,e=>by simp at e;subst e;exact ⟨_,rfl,r⟩
 | _,_,i+1,d,.cons _ t,e=>by
   obtain ⟨v,h1,h2⟩:=Reps.getV (i:=i) t (by simpa using e)
   exact ⟨v,by simpa using h1,h2⟩
theorem Reps.append:∀{vs us:List V} {ds es:List D},Reps G vs ds->Reps G us es->Reps G (vs++us) (ds++es)
 | _,_,_,_,.nil,s=>s
 | _,_,_,_,.cons r t,s=>.cons r (Reps.append t s)
theorem Reps.snoc (r:Reps G vs ds) (q:Rep G v d):Reps G (vs++[v]) (ds++[d]):=r.append (.cons q .nil)
theorem Reps.set (q:Rep G v d):∀{vs:List V} {ds:List D} (i:Nat),Reps G vs ds->Reps G (vs.set i v) (ds.set i d)
 | _,_,_,.nil=>.nil
 | _,_,0,.cons _ t=>.cons q t
 | _,_,i+1,.cons r t=>.cons r (Reps.set q i t)
theorem Reps.take:∀{vs:List V} {ds:List D} (n:Nat),Reps G vs ds->Reps G (vs.take n) (ds.take n)
 | _,_,0,_=>.nil
 | _,_,_+1,.nil=>.nil
 | _,_,n+1,.cons r t=>.cons r (Reps.take n t)
theorem Reps.drop:∀{vs:List V} {ds:List D} (n:Nat),Reps G vs ds->Reps G (vs.drop n) (ds.drop n)
 | _,_,0,r=>r
 | _,_,_+1,.nil=>.nil
 | _,_,n+1,.cons _ t=>Reps.drop n t
theorem Reps.ints:∀{ns:List Int} {vs:List V},Reps G vs (ns.map D.int)->vs=ns.map V.int
 | [],_,h=>by cases h;rfl
 | n::ns,_,h=>by
   cases h with
   | cons r t=>cases r;rw [Reps.ints t];rfl
theorem Reps.of_ints:∀(ns:List Int),Reps G (ns.map V.int) (ns.map D.int)
 | []=>.nil
 | n::ns=>.cons (.int n) (Reps.of_ints ns)
theorem Reps.bls:∀{ns:List Bool} {vs:List V},Reps G vs (ns.map D.bl)->vs=ns.map V.bl
 | [],_,h=>by cases h;rfl
 | n::ns,_,h=>by
   cases h with
   | cons r t=>cases r;rw [Reps.bls t];rfl
end
inductive RepT (G H:Hp):V->D->Prop where
 | int (i:Int):RepT G H (.int i) (.int i)
 | bl (b:Bool):RepT G H (.bl b) (.bl b)
 | non:RepT G H .non .non
 | str (x:Str):RepT G H (.str x) (.str x)
 | lst {a:Addr} {vs:List V} {ds:List D} (h:Rd H a (.lst vs)) (r:Reps G vs ds):RepT G H (.ref a) (.lst ds)
 | tup {a:Addr} {vs:List V} {ds:List D} (h:H a=some (.tup vs)) (r:Reps G vs ds):RepT G H (.ref a) (.tup ds)
 | scr {a:Addr} {ns:List Int} (h:zB Fr.K H a (ns.map V.int)):RepT G H (.ref a) (.scr ns)
 | dic {a:Addr} {ks:List Int} {vs:List V} {ds:List D} (h:Rd H a (.dK (zu ks vs))) (hl:ks.length=vs.length) (r:Reps G vs ds):RepT G H (.ref a) (.dic ks ds)
inductive RepTs (G H:Hp):List V->List D->Prop where
 | nil:RepTs G H [] []
 | cons {v:V} {d:D} {vs:List V} {ds:List D}:RepT G H v d->RepTs G H vs ds->RepTs G H (v::vs) (d::ds)
theorem Rep.top {G H:Hp} {v:V} {d:D} (h:Rep G v d) (e:Same G H):RepT G H v d:=by
 cases h with
 | int i=>exact .int i
 | bl i=>exact .bl i
 | non=>exact .non
 | str i=>exact .str i
 | lst h r=>exact .lst (h.same e) r
 | tup h r=>exact .tup (e _ _ h) r
 | scr h=>exact .scr (e.seq h)
 | dic h hl r=>exact .dic (.inr ⟨_,e _ _ h⟩) hl r
theorem RepT.mono {G H G' H':Hp} {v:V} {d:D} (h:RepT G H v d) (e:Same G G') (e':Same H H'):RepT G' H' v d:=by
 cases h with
 | int i=>exact .int i
 | bl i=>exact .bl i
 | non=>exact .non
 | str i=>exact .str i
 | lst h r=>exact .lst (h.same e') (r.mono e)
 | tup h r=>exact .tup (e' _ _ h) (r.mono e)
 | scr h=>exact .scr (e'.seq h)
 | dic h hl r=>exact .dic (h.same e') hl (r.mono e)
theorem RepTs.mono {G H G' H':Hp} (e:Same G G') (e':Same H H'):∀{vs:List V} {ds:List D},RepTs G H vs ds->RepTs G' H' vs ds
 | _,_,.nil=>.nil
 | _,_,.cons r t=>.cons (r.mono e e') (RepTs.mono e e' t)
structure Ext (G H G' H':Hp):Prop where
 hh:Same H H'
 gg:Same G G'
 gh:Same G' H'
 nw:∀a o,G' a=some o->G a=some o\/H a=none
section
variable {G H G' H' G'' H'':Hp} {a:Addr} {o:HO}
theorem Ext.refl (h:Same G H):Ext G H G H:=⟨.refl _,.refl _,h,fun _ _ e=>.inl e⟩
theorem Ext.trans (x:Ext G H G' H') (y:Ext G' H' G'' H''):Ext G H G'' H'':=
 ⟨x.hh.trans y.hh,x.gg.trans y.gg,y.gh,fun a o e=>by
  rcases y.nw a o e with z | z
  . exact x.nw a o z
  . exact .inr (x.hh.free z)⟩
theorem Ext.new (h:Same G H) (hn:H a=none):Ext G H G (upd H a o):=⟨.upd hn,.refl _,fun b u e=>by rw [jw (jz (h b u e) hn)];exact h b u e,fun _ _ e=>.inl e⟩
theorem Ext.freeze (x:Ext G H G' H') (hn:H a=none) (hg:G' a=none) (ho:H' a=some o):Ext G H (upd G' a o) H':=
 ⟨x.hh,x.gg.trans (.upd hg),fun b u e=>by
  by_cases hb:b=a
  . subst hb;rw [jx] at e;cases e;exact ho
  . rw [jw hb] at e;exact x.gh b u e,fun b u e=>by
  by_cases hb:b=a
  . subst hb;exact .inr hn
  . rw [jw hb] at e;exact x.nw b u e⟩
theorem Ext.gone (x:Ext G H G' H') (hg:G a=none) (hh:H a=some o):G' a=none:=by
 cases e:G' a with
 | none=>rfl
 | some u=>
   rcases x.nw a u e with z | z
   . rw [hg] at z;cases z
   . rw [hh] at z;cases z
end
inductive Slot where
 | un | sh (d:D) | ow (ds:List D)
 /-- a dict of one's own -/
 | od (ks:List Int) (ds:List D)
 /-- a list of one's own, of lists of one's own -/
 | oo (dss:List (List D))
noncomputable abbrev Env:=List Slot
inductive Rows (G H:Hp):List Addr->List (List D)->Prop where
 | nil:Rows G H [] []
 | cons {b:Addr} {us:List V} {ds:List D} {bs:List Addr} {dss:List (List D)} (h:H b=some (.lst us)) (r:Reps G us ds) (t:Rows G H bs dss):Rows G H (b::bs) (ds::dss)
noncomputable def JR (H:Hp):Option V->Slot->Addr->Prop
 | some (.ref a),.ow _,b=>b=a
 | some (.ref a),.od _ _,b=>b=a
 | some (.ref a),.oo _,b=>b=a\/∃vs,H a=some (.lst vs)/\V.ref b∈vs
 | _,_,_=>False
inductive SlotOk (H0 G H:Hp):Option V->Slot->Prop where
 | un (o:Option V):SlotOk H0 G H o .un
 | sh {v:V} {d:D} (r:Rep G v d):SlotOk H0 G H (some v) (.sh d)
 | ow {a:Addr} {vs:List V} {ds:List D} (h0:H0 a=none) (hg:G a=none) (h:H a=some (.lst vs)) (r:Reps G vs ds):SlotOk H0 G H (some (.ref a)) (.ow ds)
 | od {a:Addr} {ks:List Int} {vs:List V} {ds:List D} (h0:H0 a=none) (hg:G a=none) (h:H a=some (.dK (zu ks vs))) (hl:ks.length=vs.length) (r:Reps G vs ds):SlotOk H0 G H (some (.ref a)) (.od ks ds)
 | oo {a:Addr} {bs:List Addr} {dss:List (List D)} (h:H a=some (.lst (bs.map V.ref))) (nd:(a::bs).Nodup) (own:∀b∈a::bs,H0 b=none/\G b=none) (rows:Rows G H bs dss):SlotOk H0 G H (some (.ref a)) (.oo dss)
structure EnvOk (G0 H0 G H:Hp) (σ:St) (ρ:L2.Env):Prop where
 ext:Ext G0 H0 G H
 len:σ.length=ρ.length
 slot:∀(i:Nat) o s,σ[i]?=some o->ρ[i]?=some s->SlotOk H0 G H o s
 dist:∀(i j:Nat) o o' s s' b,σ[i]?=some o->ρ[i]?=some s->σ[j]?=some o'->ρ[j]?=some s'->JR H o s b->JR H o' s' b->i=j
section
variable {G0 H0 G H G' H':Hp} {σ:St} {ρ:L2.Env} {i:Nat} {d:D} {ds:List D} {v:V} {vs:List V} {a:Addr}
theorem Rows.there {bs:List Addr} {dss:List (List D)} (h:Rows G H bs dss):∀b∈bs,∃us,H b=some (.lst us):=by
 induction h with
 | nil=>intro b hb;cases hb
 | cons h r t ih=>
   intro b hb
   rcases List.mem_cons.mp hb with rfl | hb
   . exact ⟨_,h⟩
   . exact ih b hb
theorem Rows.keep {bs:List Addr} {dss:List (List D)} (h:Rows G H bs dss) (gg:Same G G') (k:∀b∈bs,H' b=H b):Rows G' H' bs dss:=by
 induction h with
 | nil=>exact .nil
 | cons h r t ih=>exact .cons (by rw [k _ List.mem_cons_self];exact h) (r.mono gg) (ih fun b hb=>k b (List.mem_cons_of_mem _ hb))
theorem Rows.length {bs:List Addr} {dss:List (List D)} (h:Rows G H bs dss):bs.length=dss.length:=by
 induction h with
 | nil=>rfl
 | cons h r t ih=>simp [ih]
theorem Rows.get {bs:List Addr} {dss:List (List D)} (h:Rows G H bs dss):∀{j:Nat} {ds:List D},dss[j]?=some ds->∃b us,bs[j]?=some b/\H b=some (.lst us)/\Reps G us ds:=by
 induction h with
 | nil=>intro j ds e;simp at e
 | cons h r t ih=>
   intro j ds e
   cases j with
   | zero=>simp at e;subst e;exact ⟨_,_,rfl,h,r⟩
   | succ j=>
     obtain ⟨b,us,h1,h2,h3⟩:=ih (j:=j) (ds:=ds) (by simpa using e)
     exact ⟨b,us,by simpa using h1,h2,h3⟩
theorem Rows.put {bs:List Addr} {dss:List (List D)} {us:List V} (h:Rows G H bs dss) (r:Reps G us ds):∀{j:Nat} {b:Addr},bs.Nodup->bs[j]?=some b->Rows G (upd H b (.lst us)) bs (dss.set j ds):=by
 induction h with
 | nil=>intro j b _ e;simp at e
 | @cons c us' ds' bs dss h q t ih=>
   intro j b nd e
   have nd':=List.nodup_cons.mp nd
   cases j with
   | zero=>
     simp at e;subst e
     exact .cons jx r (t.keep (.refl _) fun b' hb'=>jw fun z=>nd'.1 (z ▸ hb'))
   | succ j=>
     have e':bs[j]?=some b:=by simpa using e
     have hb:c≠b:=fun z=>nd'.1 (z ▸ List.mem_of_getElem? e')
     exact .cons (by rw [jw hb];exact h) q (ih nd'.2 e')
theorem Rows.frozen {bs:List Addr} {dss:List (List D)} (h:Rows G H bs dss) (gg:Same G G') (k:∀b∈bs,G' b=H b):Reps G' (bs.map V.ref) (dss.map D.lst):=by
 induction h with
 | nil=>exact .nil
 | cons h r t ih=>exact .cons (.lst (.inl ((k _ List.mem_cons_self).trans h)) (r.mono gg)) (ih fun b hb=>k b (List.mem_cons_of_mem _ hb))
theorem EnvOk.same (e:EnvOk G0 H0 G H σ ρ):Same G H:=e.ext.gh
theorem SlotOk.foot {o:Option V} {s:Slot} {b:Addr} (h:SlotOk H0 G H o s) (f:JR H o s b):H0 b=none/\G b=none/\∃u,H b=some u:=by
 cases h with
 | un=>cases o with | none=>exact f.elim | some v=>cases v <;> exact f.elim
 | @sh v d r=>cases v <;> exact f.elim
 | ow h0 hg h r=>cases (show b=_ from f);exact ⟨h0,hg,_,h⟩
 | od h0 hg h hl r=>cases (show b=_ from f);exact ⟨h0,hg,_,h⟩
 | @oo a bs dss h nd own rows=>
   have f':b=a\/∃vs,H a=some (.lst vs)/\V.ref b∈vs:=f
   rcases f' with rfl | ⟨vs,q,hb⟩
   . exact ⟨(own b List.mem_cons_self).1,(own b List.mem_cons_self).2,_,h⟩
   . rw [h] at q
     cases q
     obtain ⟨c,hc,e⟩:=List.mem_map.mp hb
     injection e with e
     subst e
     obtain ⟨us,hu⟩:=rows.there c hc
     exact ⟨(own c (List.mem_cons_of_mem _ hc)).1,(own c (List.mem_cons_of_mem _ hc)).2,_,hu⟩
theorem ZG {bs:List Addr} {dss:List (List D)} {b:Addr} (h:H a=some (.lst (bs.map V.ref))):JR H (some (.ref a)) (.oo dss) b ↔ b∈a::bs:=by
 show (b=a\/∃vs,H a=some (.lst vs)/\V.ref b∈vs) ↔ _
 rw [List.mem_cons]
 constructor
 . rintro (z | ⟨vs,q,hb⟩)
   . exact .inl z
   . rw [h] at q
     cases q
     obtain ⟨c,hc,e⟩:=List.mem_map.mp hb
     injection e with e
     subst e
     exact .inr hc
 . rintro (z | z)
   . exact .inl z
   . exact .inr ⟨_,h,List.mem_map_of_mem z⟩
theorem SlotOk.keep {o:Option V} {s:Slot} (h:SlotOk H0 G H o s) (gg:Same G G') (k:∀b,JR H o s b->H' b=H b/\G' b=none):SlotOk H0 G' H' o s/\∀b,JR H' o s b->JR H o s b:=by
 cases h with
 | un=>exact ⟨.un _,fun b f=>by cases o with | none=>exact f.elim | some v=>cases v <;> exact f.elim⟩
 | @sh v d r=>exact ⟨.sh (r.mono gg),fun b f=>by cases v <;> exact f.elim⟩
 | @ow a vs ds h0 hg h r=>
   have q:=k a rfl
   exact ⟨.ow h0 q.2 (by rw [q.1];exact h) (r.mono gg),fun b f=>f⟩
 | @od a ks vs ds h0 hg h hl r=>
   have q:=k a rfl
   exact ⟨.od h0 q.2 (by rw [q.1];exact h) hl (r.mono gg),fun b f=>f⟩
 | @oo a bs dss h nd own rows=>
   have h':H' a=some (.lst (bs.map V.ref)):=by rw [(k a (.inl rfl)).1];exact h
   refine ⟨.oo h' nd (fun b hb=>⟨(own b hb).1,(k b ((ZG h).mpr hb)).2⟩) (rows.keep gg fun b hb=>(k b ((ZG h).mpr (List.mem_cons_of_mem _ hb))).1),fun b f=>?_⟩
   exact (ZG h).mpr ((ZG h').mp f)
theorem EnvOk.grow (e:EnvOk G0 H0 G H σ ρ) (x:Ext G H G' H'):EnvOk G0 H0 G' H' σ ρ:=by
 have key:∀(i:Nat) o s,σ[i]?=some o->ρ[i]?=some s->_:=fun i o s h1 h2=>(e.slot i o s h1 h2).keep (H':=H') x.gg fun b f=>by
  obtain ⟨_,g,u,hu⟩:=(e.slot i o s h1 h2).foot f
  exact ⟨by rw [hu];exact x.hh _ _ hu,x.gone g hu⟩
 exact ⟨e.ext.trans x,e.len,fun i o s h1 h2=>(key i o s h1 h2).1,fun i j o o' s s' b h1 h2 h3 h4 f f'=>e.dist i j o o' s s' b h1 h2 h3 h4 ((key i o s h1 h2).2 b f) ((key j o' s' h3 h4).2 b f')⟩
theorem EnvOk.at {s:Slot} (e:EnvOk G0 H0 G H σ ρ) (h:ρ[i]?=some s):∃o,σ[i]?=some o/\SlotOk H0 G H o s:=by
 have hi:i<σ.length:=by rw [e.len];exact (List.getElem?_eq_some_iff.mp h).1
 exact ⟨σ[i],List.getElem?_eq_getElem hi,e.slot i _ _ (List.getElem?_eq_getElem hi) h⟩
theorem EnvOk.sh (e:EnvOk G0 H0 G H σ ρ) (h:ρ[i]?=some (.sh d)):∃v,σ[i]?=some (some v)/\Rep G v d:=by
 obtain ⟨o,h1,h2⟩:=e.at h
 cases h2 with
 | sh r=>exact ⟨_,h1,r⟩
theorem EnvOk.ow (e:EnvOk G0 H0 G H σ ρ) (h:ρ[i]?=some (.ow ds)):∃a vs,σ[i]?=some (some (.ref a))/\H0 a=none/\G a=none/\H a=some (.lst vs)/\Reps G vs ds:=by
 obtain ⟨o,h1,h2⟩:=e.at h
 cases h2 with
 | ow h0 hg h r=>exact ⟨_,_,h1,h0,hg,h,r⟩
theorem EnvOk.od {ks:List Int} (e:EnvOk G0 H0 G H σ ρ) (h:ρ[i]?=some (.od ks ds)):∃a vs,σ[i]?=some (some (.ref a))/\H0 a=none/\G a=none/\H a=some (.dK (zu ks vs))/\ks.length=vs.length/\Reps G vs ds:=by
 obtain ⟨o,h1,h2⟩:=e.at h
 cases h2 with
 | od h0 hg h hl r=>exact ⟨_,_,h1,h0,hg,h,hl,r⟩
theorem EnvOk.oo {dss:List (List D)} (e:EnvOk G0 H0 G H σ ρ) (h:ρ[i]?=some (.oo dss)):∃a bs,σ[i]?=some (some (.ref a))/\H a=some (.lst (bs.map V.ref))/\(a::bs).Nodup/\(∀b∈a::bs,H0 b=none/\G b=none)/\Rows G H bs dss:=by
 obtain ⟨o,h1,h2⟩:=e.at h
 cases h2 with
 | oo h nd own rows=>exact ⟨_,_,h1,h,nd,own,rows⟩
theorem EnvOk.change {o':Option V} {s':Slot} (e:EnvOk G0 H0 G H σ ρ) (x:Ext G0 H0 G' H') (gg:Same G G')
 (keep:∀j,j≠i->∀o s,σ[j]?=some o->ρ[j]?=some s->∀b,JR H o s b->H' b=H b/\G' b=none) (new:SlotOk H0 G' H' o' s')
 (foot:∀b,JR H' o' s' b->H b=none\/∃o s,σ[i]?=some o/\ρ[i]?=some s/\JR H o s b):EnvOk G0 H0 G' H' (σ.set i o') (ρ.set i s'):=by
 have key:∀(j:Nat) o s,j≠i->σ[j]?=some o->ρ[j]?=some s->_:=fun j o s hj h1 h2=>(e.slot j o s h1 h2).keep (H':=H') gg (keep j hj o s h1 h2)
 have at_i:∀o s,(σ.set i o')[i]?=some o->(ρ.set i s')[i]?=some s->o=o'/\s=s':=fun o s h1 h2=>by
  rw [List.getElem?_set] at h1 h2
  simp at h1 h2
  exact ⟨h1.2.symm,h2.2.symm⟩
 refine ⟨x,by simp [e.len],fun j o s h1 h2=>?_,fun j k o p s t b h1 h2 h3 h4 f g=>?_⟩
 . by_cases hj:i=j
   . subst hj
     obtain ⟨rfl,rfl⟩:=at_i o s h1 h2
     exact new
   . rw [List.getElem?_set_ne hj] at h1 h2
     exact (key j o s (Ne.symm hj) h1 h2).1
 . have other:∀(m:Nat) q u,i≠m->(σ.set i o')[m]?=some q->(ρ.set i s')[m]?=some u->JR H' q u b->JR H' o' s' b->False:=fun m q u hm g1 g2 f1 f2=>by
    rw [List.getElem?_set_ne hm] at g1 g2
    have f1':=(key m q u (Ne.symm hm) g1 g2).2 b f1
    obtain ⟨_,_,w,hw⟩:=(e.slot m q u g1 g2).foot f1'
    rcases foot b f2 with z | ⟨o2,s2,z1,z2,z3⟩
    . rw [hw] at z;cases z
    . exact hm (e.dist i m _ _ _ _ b z1 z2 g1 g2 z3 f1')
   by_cases hj:i=j
   . by_cases hk:i=k
     . exact hj.symm.trans hk
     . subst hj
       obtain ⟨rfl,rfl⟩:=at_i o s h1 h2
       exact (other k p t hk h3 h4 g f).elim
   . by_cases hk:i=k
     . subst hk
       obtain ⟨rfl,rfl⟩:=at_i p t h3 h4
       exact (other j o s hj h1 h2 f g).elim
     . rw [List.getElem?_set_ne hj] at h1 h2
       rw [List.getElem?_set_ne hk] at h3 h4
       exact e.dist j k o p s t b h1 h2 h3 h4 ((key j o s (Ne.symm hj) h1 h2).2 b f) ((key k p t (Ne.symm hk) h3 h4).2 b g)
theorem EnvOk.stay (e:EnvOk G0 H0 G H σ ρ):∀j,j≠i->∀o s,σ[j]?=some o->ρ[j]?=some s->∀b,JR H o s b->H b=H b/\G b=none:=fun j _ o s h1 h2 b f=>⟨rfl,((e.slot j o s h1 h2).foot f).2.1⟩
theorem EnvOk.set (e:EnvOk G0 H0 G H σ ρ) (r:Rep G v d):EnvOk G0 H0 G H (σ.set i (some v)) (ρ.set i (.sh d)):=
 e.change e.ext (.refl _) e.stay (.sh r) fun b f=>by cases v <;> exact f.elim
theorem EnvOk.fresh (e:EnvOk G0 H0 G H σ ρ) (x:Ext G H G' H') {o':Option V} {s':Slot} (new:SlotOk H0 G' H' o' s') (foot:∀b,JR H' o' s' b->H b=none):EnvOk G0 H0 G' H' (σ.set i o') (ρ.set i s'):=
 e.change (e.ext.trans x) x.gg (fun j _ o s h1 h2 b f=>by
  obtain ⟨_,g,u,hu⟩:=(e.slot j o s h1 h2).foot f
  exact ⟨by rw [hu];exact x.hh _ _ hu,x.gone g hu⟩) new fun b f=>.inl (foot b f)
theorem EnvOk.setO (e:EnvOk G0 H0 G H σ ρ) (x:Ext G H G' H') (hn:H a=none) (hg:G' a=none) (h:H' a=some (.lst vs)) (r:Reps G' vs ds):EnvOk G0 H0 G' H' (σ.set i (some (.ref a))) (ρ.set i (.ow ds)):=
 e.fresh x (.ow (e.ext.hh.free hn) hg h r) fun b f=>by cases (show b=a from f);exact hn
theorem EnvOk.setD {ks:List Int} (e:EnvOk G0 H0 G H σ ρ) (x:Ext G H G' H') (hn:H a=none) (hg:G' a=none) (h:H' a=some (.dK (zu ks vs))) (hl:ks.length=vs.length) (r:Reps G' vs ds):EnvOk G0 H0 G' H' (σ.set i (some (.ref a))) (ρ.set i (.od ks ds)):=
 e.fresh x (.od (e.ext.hh.free hn) hg h hl r) fun b f=>by cases (show b=a from f);exact hn
theorem EnvOk.write {u:HO} {o:Option V} {s s':Slot} (e:EnvOk G0 H0 G H σ ρ) (h1:ρ[i]?=some s) (h2:σ[i]?=some o) (f:JR H o s a) (new:SlotOk H0 G (upd H a u) o s') (foot:∀b,JR (upd H a u) o s' b->JR H o s b):EnvOk G0 H0 G (upd H a u) σ (ρ.set i s'):=by
 obtain ⟨q1,q2,_⟩:=(e.slot i o s h2 h1).foot f
 have hi:i<σ.length:=(List.getElem?_eq_some_iff.mp h2).1
 have key:=e.change (i:=i) (o':=o) (s':=s') (G':=G) (H':=upd H a u) ⟨fun b o z=>by rw [jw (jz z q1)];exact e.ext.hh b o z,e.ext.gg,fun b o z=>by rw [jw (jz z q2)];exact e.ext.gh b o z,e.ext.nw⟩ (.refl _)
  (fun j hj o' s' g1 g2 b f'=>by
   have hb:b≠a:=fun z=>by subst z;exact hj (e.dist j i _ _ _ _ b g1 g2 h2 h1 f' f)
   exact ⟨jw hb,((e.slot j o' s' g1 g2).foot f').2.1⟩) new fun b f'=>.inr ⟨o,s,h2,h1,foot b f'⟩
 have e':σ.set i o=σ:=by
  refine List.ext_getElem? fun j=>?_
  by_cases hj:i=j
  . subst hj;rw [List.getElem?_set_self hi,h2]
  . rw [List.getElem?_set_ne hj]
 rw [e'] at key
 exact key
theorem EnvOk.put (e:EnvOk G0 H0 G H σ ρ) (h1:ρ[i]?=some (.ow ds)) (h2:σ[i]?=some (some (.ref a))) {es:List D} (r:Reps G vs es):EnvOk G0 H0 G (upd H a (.lst vs)) σ (ρ.set i (.ow es)):=by
 obtain ⟨b,us,q1,q2,q3,q4,q5⟩:=e.ow h1
 rw [h2] at q1
 cases q1
 exact e.write h1 h2 rfl (.ow q2 q3 jx r) fun b f=>f
theorem EnvOk.putD {ks ls:List Int} (e:EnvOk G0 H0 G H σ ρ) (h1:ρ[i]?=some (.od ks ds)) (h2:σ[i]?=some (some (.ref a))) {es:List D} (hl:ls.length=vs.length) (r:Reps G vs es):EnvOk G0 H0 G (upd H a (.dK (zu ls vs))) σ (ρ.set i (.od ls es)):=by
 obtain ⟨b,us,q1,q2,q3,q4,_,q5⟩:=e.od h1
 rw [h2] at q1
 cases q1
 exact e.write h1 h2 rfl (.od q2 q3 jx hl r) fun b f=>f
noncomputable def frz (i:Nat) (ρ:L2.Env):L2.Env:=match ρ[i]? with
 | some (.ow ds)=>ρ.set i (.sh (.lst ds))
 | some (.oo dss)=>ρ.set i (.sh (.lst (dss.map .lst)))
 | _=>ρ
theorem EnvOk.let {o:Option V} {s s':Slot} (e:EnvOk G0 H0 G H σ ρ) (h1:ρ[i]?=some s) (h2:σ[i]?=some o) (gg:Same G G') (gh:Same G' H) (nw:∀b u,G' b=some u->G b=some u\/JR H o s b)
 (new:SlotOk H0 G' H o s') (foot:∀b,JR H o s' b->JR H o s b):EnvOk G0 H0 G' H σ (ρ.set i s'):=by
 have hi:i<σ.length:=(List.getElem?_eq_some_iff.mp h2).1
 have key:=e.change (i:=i) (o':=o) (s':=s') (G':=G') (H':=H) ⟨e.ext.hh,e.ext.gg.trans gg,gh,fun b u z=>by
  rcases nw b u z with w | w
  . exact e.ext.nw b u w
  . exact .inr ((e.slot i o s h2 h1).foot w).1⟩ gg
  (fun j hj o' s' g1 g2 b f'=>⟨rfl,by
   obtain ⟨_,g,_⟩:=(e.slot j o' s' g1 g2).foot f'
   cases q:G' b with
   | none=>rfl
   | some u=>
     rcases nw b u q with w | w
     . rw [g] at w;cases w
     . exact (hj (e.dist j i _ _ _ _ b g1 g2 h2 h1 f' w)).elim⟩) new fun b f'=>.inr ⟨o,s,h2,h1,foot b f'⟩
 have e':σ.set i o=σ:=by
  refine List.ext_getElem? fun j=>?_
  by_cases hj:i=j
  . subst hj;rw [List.getElem?_set_self hi,h2]
  . rw [List.getElem?_set_ne hj]
 rw [e'] at key
 exact key
theorem jlO {u w:HO} {b:Addr} (h:upd G a u b=some w):G b=some w\/b=a:=by
 by_cases hb:b=a
 . exact .inr hb
 . rw [jw hb] at h;exact .inl h
theorem jlA {u:HO} (s:Same G H) (h:H a=some u):Same (upd G a u) H:=fun b w e=>by
 by_cases hb:b=a
 . subst hb;rw [jx] at e;cases e;exact h
 . rw [jw hb] at e;exact s b w e
theorem EnvOk.freeze (e:EnvOk G0 H0 G H σ ρ) (h1:ρ[i]?=some (.ow ds)) (h2:σ[i]?=some (some (.ref a))) (h3:H a=some (.lst vs)) (h4:Reps G vs ds):EnvOk G0 H0 (upd G a (.lst vs)) H σ (ρ.set i (.sh (.lst ds))):=by
 obtain ⟨b,us,q1,q2,q3,q4,q5⟩:=e.ow h1
 rw [h2] at q1
 cases q1
 have up:Same G (upd G a (.lst vs)):=.upd q3
 exact e.let h1 h2 up (jlA e.same h3) (fun b u z=>jlO z) (.sh (.lst (.inl jx) (h4.mono up))) fun b f=>f.elim
open Classical in
/-- the heap with more of it known -/
noncomputable def more (G H:Hp) (bs:List Addr):Hp:=fun b=>if b∈bs then H b else G b
theorem jcS {bs:List Addr} {b:Addr} (h:b∈bs):more G H bs b=H b:=if_pos h
theorem Qg {bs:List Addr} {b:Addr} (h:b∉bs):more G H bs b=G b:=if_neg h
theorem jcw {bs:List Addr} (s:Same G H):Same G (more G H bs)/\Same (more G H bs) H:=by
 refine ⟨fun b u e=>?_,fun b u e=>?_⟩
 . by_cases hb:b∈bs
   . rw [jcS hb];exact s b u e
   . rw [Qg hb];exact e
 . by_cases hb:b∈bs
   . rw [jcS hb] at e;exact e
   . rw [Qg hb] at e;exact s b u e
theorem EnvOk.half {dss:List (List D)} {bs:List Addr} (e:EnvOk G0 H0 G H σ ρ) (h1:ρ[i]?=some (.oo dss)) (h2:σ[i]?=some (some (.ref a))) (h3:H a=some (.lst (bs.map V.ref))) (nd:(a::bs).Nodup) (own:∀b∈a::bs,H0 b=none/\G b=none) (rows:Rows G H bs dss) :
 EnvOk G0 H0 (more G H bs) H σ (ρ.set i (.ow (dss.map .lst)))/\Reps (more G H bs) (bs.map V.ref) (dss.map D.lst):=by
 have ss:=jcw (bs:=bs) e.same
 have nd':=List.nodup_cons.mp nd
 have rr:=rows.frozen ss.1 fun b hb=>jcS hb
 refine ⟨e.let h1 h2 ss.1 ss.2 (fun b u z=>?_) (.ow (own a List.mem_cons_self).1 (by rw [Qg nd'.1];exact (own a List.mem_cons_self).2) h3 rr) fun b f=>.inl f,rr⟩
 by_cases hb:b∈bs
 . exact .inr ((ZG h3).mpr (List.mem_cons_of_mem _ hb))
 . rw [Qg hb] at z;exact .inl z
end
noncomputable def EOk (t:TE) (f:L2.Env->Option D):Prop:=∀G0 H0 G H σ ρ (Q:VK) d,EnvOk G0 H0 G H σ ρ->f ρ=some d->(∀v G' H',Ext G H G' H'->Rep G' v d->Q v H')->t σ H Q
noncomputable def zL (t:TE) (f:L2.Env->Option D):Prop:=∀G0 H0 G H σ ρ (Q:VK) d,EnvOk G0 H0 G H σ ρ->f ρ=some d->(∀v G' H',Ext G H G' H'->RepT G' H' v d->Q v H')->t σ H Q
noncomputable def EOkO (t:TE) (f:L2.Env->Option (List D)):Prop:=∀G0 H0 G H σ ρ (Q:VK) ds,EnvOk G0 H0 G H σ ρ->f ρ=some ds->
 (∀a vs G' H',Ext G H G' H'->H a=none->G' a=none->H' a=some (.lst vs)->Reps G' vs ds->Q (.ref a) H')->t σ H Q
noncomputable def TOk (t:TT) (f:L2.Env->Option Bool):Prop:=∀G0 H0 G H σ ρ (Q:Bool->Hp->Prop) b,EnvOk G0 H0 G H σ ρ->f ρ=some b->(∀G' H',Ext G H G' H'->Q b H')->t σ H Q
noncomputable def AOk (t:TA) (f:L2.Env->Option (List D)):Prop:=∀G0 H0 G H σ ρ (Q:List V->Hp->Prop) ds,EnvOk G0 H0 G H σ ρ->f ρ=some ds->(∀vs G' H',Ext G H G' H'->Reps G' vs ds->Q vs H')->t σ H Q
noncomputable def jaS (t:TA) (f:L2.Env->Option (List D)):Prop:=∀G0 H0 G H σ ρ (Q:List V->Hp->Prop) ds,EnvOk G0 H0 G H σ ρ->f ρ=some ds->(∀vs G' H',Ext G H G' H'->RepTs G' H' vs ds->Q vs H')->t σ H Q
noncomputable def jL (f:L2.Env->Option (List D)):L2.Env->Option D:=fun ρ=>(f ρ).map .lst
theorem EOkO.e {t:TE} {f:L2.Env->Option (List D)} (h:EOkO t f):EOk t (jL f):=fun G0 H0 G H σ ρ Q d e q k=>by
 unfold jL at q
 cases z:f ρ with
 | none=>rw [z] at q;cases q
 | some ds=>
   rw [z] at q
   cases q
   exact h G0 H0 G H σ ρ Q ds e z fun a vs G' H' x hn hg ha r=>k _ _ _ (x.freeze hn hg ha) (.lst (.inl jx) (r.mono (.upd hg)))
theorem EOk.t {t:TE} {f:L2.Env->Option D} (h:EOk t f):zL t f:=fun G0 H0 G H σ ρ Q d e q k=>h G0 H0 G H σ ρ Q d e q fun v G' H' x r=>k v G' H' x (r.top x.gh)
theorem AOk.t {t:TA} {f:L2.Env->Option (List D)} (h:AOk t f):jaS t f:=fun G0 H0 G H σ ρ Q d e q k=>h G0 H0 G H σ ρ Q d e q fun v G' H' x r=>k v G' H' x (by
 clear k e q
 induction r using Reps.rec (motive_1:=fun _ _ _=>True) with
 | nil=>exact .nil
 | cons r _ _ ih=>exact .cons (r.top x.gh) ih
 | _=>trivial)
noncomputable def jF (i:Nat):L2.Env->Option D:=fun ρ=>match ρ[i]? with
 | some (.sh d)=>some d
 | _=>none
noncomputable def ja (i:Nat):L2.Env->Option D:=fun ρ=>match ρ[i]? with
 | some (.sh d)=>some d
 | some (.ow ds)=>some (.lst ds)
 | some (.od ks ds)=>some (.dic ks ds)
 | _=>none
noncomputable def eC (d:D):L2.Env->Option D:=fun _=>some d
theorem jnO (i:Nat):EOk (jev i) (jF i):=fun G0 H0 G H σ ρ Q d e q k=>by
 unfold jF at q
 split at q
 . rename_i d' h
   cases q
   obtain ⟨v,h1,r⟩:=e.sh h
   exact ⟨v,h1,k v G H (.refl e.same) r⟩
 . cases q
theorem jma (i:Nat):zL (jev i) (ja i):=fun G0 H0 G H σ ρ Q d e q k=>by
 unfold ja at q
 split at q
 . rename_i d' h
   cases q
   obtain ⟨v,h1,r⟩:=e.sh h
   exact ⟨v,h1,k v G H (.refl e.same) (r.top e.same)⟩
 . rename_i ds h
   cases q
   obtain ⟨a,vs,h1,_,_,h2,r⟩:=e.ow h
   exact ⟨_,h1,k _ G H (.refl e.same) (.lst (.inl h2) r)⟩
 . rename_i ks ds h
   cases q
   obtain ⟨a,vs,h1,_,_,h2,hl,r⟩:=e.od h
   exact ⟨_,h1,k _ G H (.refl e.same) (.dic (.inl h2) hl r)⟩
 . cases q
theorem jkD {i:Int}:EOk (tC (.int i)) (eC (.int i)):=fun G0 H0 G H σ ρ Q d e q k=>by cases q;exact k _ G H (.refl e.same) (.int i)
theorem joq {i:Bool}:EOk (tC (.bl i)) (eC (.bl i)):=fun G0 H0 G H σ ρ Q d e q k=>by cases q;exact k _ G H (.refl e.same) (.bl i)
noncomputable def ROk (r:R2) (f:D->D->Option D):Prop:=∀G H x y dx dy d (Q:VK),Same G H->RepT G H x dx->RepT G H y dy->f dx dy=some d->(∀v G' H',Ext G H G' H'->Rep G' v d->Q v H')->r x y H Q
noncomputable def jmL (r:R2) (f:D->D->Option (List D)):Prop:=∀G H x y dx dy ds (Q:VK),Same G H->RepT G H x dx->RepT G H y dy->f dx dy=some ds->
 (∀a vs G' H',Ext G H G' H'->H a=none->G' a=none->H' a=some (.lst vs)->Reps G' vs ds->Q (.ref a) H')->r x y H Q
noncomputable def jj {β:Type} (f:D->D->Option β) (a b:L2.Env->Option D):L2.Env->Option β:=fun ρ=>(a ρ).bind fun x=>(b ρ).bind fun y=>f x y
section
variable {ta tb tc:TE} {fa fb fc:L2.Env->Option D} {r r':R2} {f f':D->D->Option D}
theorem jj0 (h:ROk r f) (ha:zL ta fa) (hb:zL tb fb):EOk (tOp r ta tb) (jj f fa fb):=fun G0 H0 G H σ ρ Q d e q k=>by
 obtain ⟨x,qa,q⟩:=bind_some q
 obtain ⟨y,qb,q⟩:=bind_some q
 refine ha G0 H0 G H σ ρ _ x e qa fun u G1 H1 x1 r1=>?_
 refine hb G0 H0 G1 H1 σ ρ _ y (e.grow x1) qb fun v G2 H2 x2 r2=>?_
 exact h G2 H2 u v x y d Q x2.gh (r1.mono x2.gg x2.hh) r2 q fun w G3 H3 x3 r3=>k w G3 H3 ((x1.trans x2).trans x3) r3
theorem jnc {f:D->D->Option (List D)} (h:jmL r f) (ha:zL ta fa) (hb:zL tb fb):EOkO (tOp r ta tb) (jj f fa fb):=fun G0 H0 G H σ ρ Q d e q k=>by
 obtain ⟨x,qa,q⟩:=bind_some q
 obtain ⟨y,qb,q⟩:=bind_some q
 refine ha G0 H0 G H σ ρ _ x e qa fun u G1 H1 x1 r1=>?_
 refine hb G0 H0 G1 H1 σ ρ _ y (e.grow x1) qb fun v G2 H2 x2 r2=>?_
 exact h G2 H2 u v x y d Q x2.gh (r1.mono x2.gg x2.hh) r2 q fun w vs G3 H3 x3 hn hg hh r3=>k w vs G3 H3 ((x1.trans x2).trans x3) ((x1.hh.trans x2.hh).free hn) hg hh r3
noncomputable def dI0 (g:Int->Int->D):D->D->Option D
 | .int i,.int j=>some (g i j)
 | _,_=>none
noncomputable def dI (C:Int->Int->Prop) [∀i j,Decidable (C i j)] (g:Int->Int->D):D->D->Option D
 | .int i,.int j=>if C i j then some (g i j) else none
 | _,_=>none
theorem qo {α:Type} {P:Prop} {d:α} (h:none=some d):P:=nomatch h
theorem jjj {m:Int->Int->D} {x y d:D} (q:dI0 m x y=some d):∃i j,x=.int i/\y=.int j/\m i j=d:=by
 cases x with
 | int i=>
   cases y with
   | int j=>exact ⟨i,j,rfl,rfl,Option.some.inj q⟩
   | _=>exact qo q
 | _=>exact qo q
theorem jmn {C:Int->Int->Prop} [∀i j,Decidable (C i j)] {m:Int->Int->D} {x y d:D} (q:dI C m x y=some d):∃i j,x=.int i/\y=.int j/\C i j/\m i j=d:=by
 cases x with
 | int i=>
   cases y with
   | int j=>
     by_cases c:C i j
     . exact ⟨i,j,rfl,rfl,c,Option.some.inj ((if_pos c).symm.trans q)⟩
     . exact qo ((if_neg c).symm.trans q)
   | _=>exact qo q
 | _=>exact qo q
theorem jgL {g:Int->Int->V} {m:Int->Int->D} (hg:∀G i j,Rep G (g i j) (m i j)):ROk (rI0 g) (dI0 m):=fun G H x y dx dy d Q s rx ry q k=>by
 obtain ⟨i,j,rfl,rfl,rfl⟩:=jjj q
 cases rx
 cases ry
 exact ⟨_,_,rfl,rfl,k _ G H (.refl s) (hg _ _ _)⟩
theorem o_I {C:Int->Int->Prop} [∀i j,Decidable (C i j)] {g:Int->Int->V} {m:Int->Int->D} (hg:∀G i j,Rep G (g i j) (m i j)):ROk (rI C g) (dI C m):=fun G H x y dx dy d Q s rx ry q k=>by
 obtain ⟨i,j,rfl,rfl,hc,rfl⟩:=jmn q
 cases rx
 cases ry
 exact ⟨_,_,rfl,rfl,hc,k _ G H (.refl s) (hg _ _ _)⟩
noncomputable instance (i j:Int):Decidable (jfs i j):=inferInstanceAs (Decidable (_/\_))
noncomputable instance (i j:Int):Decidable (jaN i j):=inferInstanceAs (Decidable (_/\_))
noncomputable def qd:=dI0 fun i j=>.int (i+j)
noncomputable def qO:=dI0 fun i j=>.int (i-j)
noncomputable def qw:=dI CMulB fun i j=>.int (i*j)
noncomputable def qR:=dI jfs fun i j=>.int (i/j)
noncomputable def jW:=dI (fun _ j=>0<j) fun i j=>.int (i%j)
noncomputable def Ju:=dI jaN fun i j=>.int (i ^ j.toNat)
noncomputable def dLt:=dI0 fun i j=>.bl (decide (i<j))
noncomputable def dLe:=dI0 fun i j=>.bl (decide (i<=j))
noncomputable def dGt:=dI0 fun i j=>.bl (decide (j<i))
noncomputable def dGe:=dI0 fun i j=>.bl (decide (j<=i))
theorem jnb:ROk (rI0 fun i j=>.int (i+j)) qd:=jgL fun _ _ _=>.int _
theorem jnl:ROk (rI0 fun i j=>.int (i-j)) qO:=jgL fun _ _ _=>.int _
theorem jmD:ROk (rI CMulB fun i j=>.int (i*j)) qw:=o_I fun _ _ _=>.int _
theorem jm5:ROk (rI jfs fun i j=>.int (i/j)) qR:=o_I fun _ _ _=>.int _
theorem jni:ROk (rI (fun _ j=>0<j) fun i j=>.int (i%j)) jW:=o_I fun _ _ _=>.int _
theorem jmP:ROk (rI jaN fun i j=>.int (i ^ j.toNat)) Ju:=o_I fun _ _ _=>.int _
theorem joH:ROk (rI0 fun i j=>.bl (decide (i<j))) dLt:=jgL fun _ _ _=>.bl _
theorem jof:ROk (rI0 fun i j=>.bl (decide (i<=j))) dLe:=jgL fun _ _ _=>.bl _
theorem jot:ROk (rI0 fun i j=>.bl (decide (j<i))) dGt:=jgL fun _ _ _=>.bl _
theorem joy:ROk (rI0 fun i j=>.bl (decide (j<=i))) dGe:=jgL fun _ _ _=>.bl _
noncomputable def jN:D->D->Option D
 | .lst l,.int i=>atI l i
 | .tup l,.int i=>atI l i
 | .scr ns,.int i=>(atI ns i).map .int
 | .str z,.int i=>if z.length<=sizeLine then (atI z.cps.toList i).map fun c=>.str ⟨#[c]⟩ else none
 | _,_=>none
theorem Reps.atI {G:Hp} {vs:List V} {ds:List D} {i:Int} {d:D} (r:Reps G vs ds) (h:L2.atI ds i=some d):∃v,L2.atI vs i=some v/\Rep G v d:=by
 unfold L2.atI at h ⊢
 rw [r.length]
 obtain ⟨j,h1,h2⟩:=bind_some h
 obtain ⟨v,h3,h4⟩:=r.get h2
 exact ⟨v,by rw [h1];exact h3,h4⟩
theorem jjr {x y d:D} (q:jN x y=some d):∃i,y=.int i/\((∃l,x=.lst l/\atI l i=some d)\/(∃l,x=.tup l/\atI l i=some d)\/(∃ns n,x=.scr ns/\atI ns i=some n/\d=.int n)\/∃z c,x=.str z/\z.length<=sizeLine/\atI z.cps.toList i=some c/\d=.str ⟨#[c]⟩):=by
 cases y with
 | int i=>
   refine ⟨i,rfl,?_⟩
   cases x with
   | lst l=>exact .inl ⟨l,rfl,q⟩
   | tup l=>exact .inr (.inl ⟨l,rfl,q⟩)
   | scr ns=>
     obtain ⟨n,h1,h2⟩:=map_some (show (atI ns i).map D.int=some d from q)
     exact .inr (.inr (.inl ⟨ns,n,rfl,h1,h2.symm⟩))
   | str z=>
     have q':(if z.length<=sizeLine then (atI z.cps.toList i).map fun c=>D.str ⟨#[c]⟩ else none)=some d:=q
     by_cases c:z.length<=sizeLine
     . rw [if_pos c] at q'
       obtain ⟨n,h1,h2⟩:=map_some q'
       exact .inr (.inr (.inr ⟨z,n,rfl,c,h1,h2.symm⟩))
     . rw [if_neg c] at q'
       exact qo q'
   | _=>exact qo q
 | _=>exact qo (show none=some d from by cases x <;> exact q)
theorem joo:ROk (rIx Fr.K) jN:=fun G H x y dx dy d Q s rx ry q k=>by
 obtain ⟨i,rfl,z⟩:=jjr q
 cases ry
 rcases z with ⟨l,rfl,q⟩ | ⟨l,rfl,q⟩ | ⟨ns,n,rfl,e,rfl⟩ | ⟨z,c,rfl,hz,e,rfl⟩
 . cases rx with
   | lst h r=>
     obtain ⟨v,h1,h2⟩:=r.atI q
     exact .inl ⟨_,_,_,v,rfl,rfl,.inl h,h1,k v G H (.refl s) h2⟩
 . cases rx with
   | tup h r=>
     obtain ⟨v,h1,h2⟩:=r.atI q
     exact .inr (.inl ⟨_,_,_,v,rfl,rfl,.inl (.inl h),h1,k v G H (.refl s) h2⟩)
 . cases rx with
   | scr h=>exact .inl ⟨_,_,_,_,rfl,rfl,h,by rw [jjK,e];rfl,k _ G H (.refl s) (.int n)⟩
 . cases rx with
   | str z=>exact .inr (.inr ⟨_,_,c,rfl,rfl,hz,e,k _ G H (.refl s) (.str _)⟩)
noncomputable def jed (fa:L2.Env->Option D):L2.Env->Option D:=fun ρ=>match fa ρ with
 | some (.int i)=>some (.int (-i))
 | _=>none
theorem jmH (ha:zL ta fa):EOk (tUn (rU fun i=>.int (-i)) ta) (jed fa):=fun G0 H0 G H σ ρ Q d e q k=>by
 unfold jed at q
 split at q
 . rename_i i h
   cases q
   refine ha G0 H0 G H σ ρ _ _ e h fun v G' H' x r=>?_
   cases r
   exact ⟨_,rfl,k _ G' H' x (.int _)⟩
 . cases q
noncomputable def zJ (fa:L2.Env->Option D):L2.Env->Option Bool:=fun ρ=>match fa ρ with
 | some (.bl b)=>some b
 | _=>none
theorem jbs (ha:zL ta fa) {G0 H0 G H:Hp} {σ:St} {ρ:L2.Env} {b:Bool} {Q:VK} (e:EnvOk G0 H0 G H σ ρ) (q:zJ fa ρ=some b) (k:∀G' H',Ext G H G' H'->Q (.bl b) H'):ta σ H Q:=by
 unfold zJ at q
 split at q
 . rename_i i h
   cases q
   refine ha G0 H0 G H σ ρ _ _ e h fun v G' H' x r=>?_
   cases r
   exact k G' H' x
 . cases q
noncomputable def jgu (fa:L2.Env->Option D):L2.Env->Option D:=fun ρ=>(zJ fa ρ).map fun b=>.bl (!b)
theorem jnU (ha:zL ta fa):EOk (jkp ta) (jgu fa):=fun G0 H0 G H σ ρ Q d e q k=>by
 unfold jgu at q
 cases h:zJ fa ρ with
 | none=>rw [h] at q;cases q
 | some b=>
   rw [h] at q;cases q
   exact jbs ha e h fun G' H' x=>⟨_,rfl,k _ G' H' x (.bl _)⟩
noncomputable def jbh (fa fb:L2.Env->Option D):L2.Env->Option D:=fun ρ=>match zJ fa ρ with
 | some true=>fb ρ
 | some false=>some (.bl false)
 | none=>none
noncomputable def eOr (fa fb:L2.Env->Option D):L2.Env->Option D:=fun ρ=>match zJ fa ρ with
 | some true=>some (.bl true)
 | some false=>fb ρ
 | none=>none
theorem jmJ (ha:zL ta fa) (hb:EOk tb fb):EOk (jkH ta tb) (jbh fa fb):=fun G0 H0 G H σ ρ Q d e q k=>by
 unfold jbh at q
 split at q
 . rename_i h
   exact jbs ha e h fun G' H' x=>⟨true,rfl,by rw [if_pos rfl];exact hb _ _ _ _ _ _ _ _ (e.grow x) q fun v G2 H2 x2 r=>k v G2 H2 (x.trans x2) r⟩
 . rename_i h
   cases q
   exact jbs ha e h fun G' H' x=>⟨false,rfl,by rw [if_neg Bool.false_ne_true];exact k _ G' H' x (.bl _)⟩
 . cases q
noncomputable def jm7 (fa:L2.Env->Option D):L2.Env->Option D:=fun ρ=>(fa ρ).map fun d=>.bl (match d with | .non=>true | _=>false)
noncomputable def jkz (fa:L2.Env->Option D):L2.Env->Option D:=fun ρ=>(fa ρ).map fun d=>.bl (match d with | .non=>false | _=>true)
noncomputable def Jb (f f':D->D->Option D) (fa fb fc:L2.Env->Option D):L2.Env->Option D:=fun ρ=>(fa ρ).bind fun x=>(fb ρ).bind fun y=>(f x y).bind fun z=>match z with
 | .bl true=>(fc ρ).bind fun w=>f' y w
 | .bl false=>some (.bl false)
 | _=>none
theorem jj6 (h:ROk r f) (h':ROk r' f') (ha:zL ta fa) (hb:zL tb fb) (hc:zL tc fc):EOk (jhz r r' ta tb tc) (Jb f f' fa fb fc):=fun G0 H0 G H σ ρ Q d e q k=>by
 obtain ⟨x,qa,q⟩:=bind_some q
 obtain ⟨y,qb,q⟩:=bind_some q
 obtain ⟨z,qz,q⟩:=bind_some q
 refine ha G0 H0 G H σ ρ _ x e qa fun u G1 H1 x1 r1=>?_
 refine hb G0 H0 G1 H1 σ ρ _ y (e.grow x1) qb fun v G2 H2 x2 r2=>?_
 refine h G2 H2 u v x y z _ x2.gh (r1.mono x2.gg x2.hh) r2 qz fun w G3 H3 x3 r3=>?_
 cases r3 with
 | bl b=>
   refine ⟨b,rfl,?_⟩
   cases b with
   | false=>
     rw [if_neg Bool.false_ne_true]
     cases q
     exact k _ G3 H3 ((x1.trans x2).trans x3) (.bl _)
   | true=>
     rw [if_pos rfl]
     obtain ⟨w,qc,q⟩:=bind_some q
     refine hc G0 H0 G3 H3 σ ρ _ w (e.grow ((x1.trans x2).trans x3)) qc fun w' G4 H4 x4 r4=>?_
     exact h' G4 H4 v w' y w d Q x4.gh (r2.mono (x3.trans x4).gg (x3.trans x4).hh) r4 q fun z G5 H5 x5 r5=>k z G5 H5 ((((x1.trans x2).trans x3).trans x4).trans x5) r5
 | _=>cases q
theorem t_B (ha:zL ta fa):TOk (tB ta) (zJ fa):=fun G0 H0 G H σ ρ Q b e q k=>jbs ha e q fun G' H' x=>⟨b,rfl,k G' H' x⟩
theorem jll (ha:zL ta fa):TOk (jku ta) (zJ fa):=fun G0 H0 G H σ ρ Q b e q k=>jbs ha e q fun G' H' x=>⟨b,rfl,k G' H' x⟩
variable {ca cb:TT} {ga gb:L2.Env->Option Bool}
noncomputable def Z3 (ga gb:L2.Env->Option Bool):L2.Env->Option Bool:=fun ρ=>match ga ρ with
 | some true=>gb ρ
 | some false=>some false
 | none=>none
noncomputable def bOr (ga gb:L2.Env->Option Bool):L2.Env->Option Bool:=fun ρ=>match ga ρ with
 | some true=>some true
 | some false=>gb ρ
 | none=>none
noncomputable def QK (ga:L2.Env->Option Bool):L2.Env->Option Bool:=fun ρ=>(ga ρ).map (!·)
theorem jiW (ha:TOk ca ga) (hb:TOk cb gb):TOk (jnT ca cb) (Z3 ga gb):=fun G0 H0 G H σ ρ Q b e q k=>by
 unfold Z3 at q
 split at q
 . rename_i h
   exact ha _ _ _ _ _ _ _ _ e h fun G' H' x=>by rw [if_pos rfl];exact hb _ _ _ _ _ _ _ _ (e.grow x) q fun G2 H2 x2=>k G2 H2 (x.trans x2)
 . rename_i h
   cases q
   exact ha _ _ _ _ _ _ _ _ e h fun G' H' x=>by rw [if_neg Bool.false_ne_true];exact k G' H' x
 . cases q
theorem joJ (ha:TOk ca ga) (hb:TOk cb gb):TOk (tOr ca cb) (bOr ga gb):=fun G0 H0 G H σ ρ Q b e q k=>by
 unfold bOr at q
 split at q
 . rename_i h
   cases q
   exact ha _ _ _ _ _ _ _ _ e h fun G' H' x=>by rw [if_pos rfl];exact k G' H' x
 . rename_i h
   exact ha _ _ _ _ _ _ _ _ e h fun G' H' x=>by rw [if_neg Bool.false_ne_true];exact hb _ _ _ _ _ _ _ _ (e.grow x) q fun G2 H2 x2=>k G2 H2 (x.trans x2)
 . cases q
theorem Zy (ha:TOk ca ga):TOk (jnh ca) (QK ga):=fun G0 H0 G H σ ρ Q b e q k=>by
 unfold QK at q
 cases h:ga ρ with
 | none=>rw [h] at q;cases q
 | some c=>
   rw [h] at q;cases q
   exact ha _ _ _ _ _ _ _ _ e h fun G' H' x=>k G' H' x
theorem jlo:TOk jkB (fun _=>some true):=fun G0 H0 G H σ ρ Q b e q k=>by cases q;exact k G H (.refl e.same)
noncomputable def eIf (ga:L2.Env->Option Bool) (fa fb:L2.Env->Option D):L2.Env->Option D:=fun ρ=>match ga ρ with
 | some true=>fa ρ
 | some false=>fb ρ
 | none=>none
theorem jom (hc:TOk ca ga) (ha:EOk ta fa) (hb:EOk tb fb):EOk (tIf ca ta tb) (eIf ga fa fb):=fun G0 H0 G H σ ρ Q d e q k=>by
 unfold eIf at q
 split at q
 . rename_i h
   exact hc _ _ _ _ _ _ _ _ e h fun G' H' x=>by rw [if_pos rfl];exact ha _ _ _ _ _ _ _ _ (e.grow x) q fun v G2 H2 x2 r=>k v G2 H2 (x.trans x2) r
 . rename_i h
   exact hc _ _ _ _ _ _ _ _ e h fun G' H' x=>by rw [if_neg Bool.false_ne_true];exact hb _ _ _ _ _ _ _ _ (e.grow x) q fun v G2 H2 x2 r=>k v G2 H2 (x.trans x2) r
 . cases q
end
section
variable {ta tb tc:TE} {fa fb fc:L2.Env->Option D} {As:TA} {fs:L2.Env->Option (List D)}
noncomputable def jk:L2.Env->Option (List D):=fun _=>some []
noncomputable def jc (fa:L2.Env->Option D) (fs:L2.Env->Option (List D)):L2.Env->Option (List D):=fun ρ=>(fa ρ).bind fun d=>(fs ρ).map (d::·)
theorem jbl {ρ:L2.Env} {ds:List D} (h:jc fa fs ρ=some ds):∃d es,fa ρ=some d/\fs ρ=some es/\ds=d::es:=by
 obtain ⟨d,h1,h2⟩:=bind_some h
 cases z:fs ρ with
 | none=>rw [z] at h2;cases h2
 | some es=>rw [z] at h2;cases h2;exact ⟨d,es,h1,rfl,rfl⟩
theorem a_nil:AOk jg9 jk:=fun G0 H0 G H σ ρ Q d e q k=>by cases q;exact k [] G H (.refl e.same) .nil
theorem jmd (ha:EOk ta fa) (hs:AOk As fs):AOk (jbq ta As) (jc fa fs):=fun G0 H0 G H σ ρ Q ds e q k=>by
 obtain ⟨d,es,q1,q2,rfl⟩:=jbl q
 refine ha _ _ _ _ _ _ _ _ e q1 fun v G1 H1 x1 r1=>hs _ _ _ _ _ _ _ _ (e.grow x1) q2 fun vs G2 H2 x2 r2=>?_
 exact k _ G2 H2 (x1.trans x2) (.cons (r1.mono x2.gg) r2)
theorem jlE:jaS jg9 jk:=a_nil.t
theorem jjd (ha:zL ta fa) (hs:jaS As fs):jaS (jbq ta As) (jc fa fs):=fun G0 H0 G H σ ρ Q ds e q k=>by
 obtain ⟨d,es,q1,q2,rfl⟩:=jbl q
 refine ha _ _ _ _ _ _ _ _ e q1 fun v G1 H1 x1 r1=>hs _ _ _ _ _ _ _ _ (e.grow x1) q2 fun vs G2 H2 x2 r2=>?_
 exact k _ G2 H2 (x1.trans x2) (.cons (r1.mono x2.gg x2.hh) r2)
noncomputable def zM (n:Nat):Bool:=decide (n<sizeLine)
noncomputable def jbd (fs:L2.Env->Option (List D)):L2.Env->Option D:=fun ρ=>(fs ρ).bind fun ds=>if zM ds.length then some (.tup ds) else none
noncomputable def zw (fs:L2.Env->Option (List D)):L2.Env->Option (List D):=fun ρ=>(fs ρ).bind fun ds=>if zM ds.length then some ds else none
theorem jeg {n:Nat} (h:zM n=true):n<=sizeLine:=Nat.le_of_lt (of_decide_eq_true h)
theorem ZD {n:Nat} (h:zM n=true):n<sizeLine:=of_decide_eq_true h
theorem jnd (h:AOk As fs):EOk (jnj As) (jbd fs):=fun G0 H0 G H σ ρ Q d e q k=>by
 obtain ⟨ds,q1,q2⟩:=bind_some q
 split at q2
 . rename_i hz
   cases q2
   refine h _ _ _ _ _ _ _ _ e q1 fun vs G1 H1 x1 r1=>⟨by rw [r1.length];exact jeg hz,fun p hp=>?_⟩
   have hg:G1 p=none:=x1.gh.free hp
   have x2:Ext G1 H1 (upd G1 p (.tup vs)) (upd H1 p (.tup vs)):=(Ext.new x1.gh hp).freeze hp hg jx
   exact k _ _ _ (x1.trans x2) (.tup jx (r1.mono x2.gg))
 . cases q2
theorem jmA (h:AOk As fs):EOkO (jm1 As) (zw fs):=fun G0 H0 G H σ ρ Q d e q k=>by
 obtain ⟨ds,q1,q2⟩:=bind_some q
 split at q2
 . rename_i hz
   cases q2
   refine h _ _ _ _ _ _ _ _ e q1 fun vs G1 H1 x1 r1=>⟨by rw [r1.length];exact jeg hz,fun p hp=>?_⟩
   exact k p vs G1 _ (x1.trans (.new x1.gh hp)) (x1.hh.free hp) (x1.gh.free hp) jx r1
 . cases q2
noncomputable def jdk (r:List V->Hp->VK->Prop) (f:List D->Option D):Prop:=∀G H xs ds d (Q:VK),Same G H->RepTs G H xs ds->f ds=some d->(∀v G' H',Ext G H G' H'->Rep G' v d->Q v H')->r xs H Q
noncomputable def jf9 (r:List V->Hp->VK->Prop) (f:List D->Option (List D)):Prop:=∀G H xs ds es (Q:VK),Same G H->RepTs G H xs ds->f ds=some es->
 (∀a vs G' H',Ext G H G' H'->H a=none->G' a=none->H' a=some (.lst vs)->Reps G' vs es->Q (.ref a) H')->r xs H Q
noncomputable def jg {β:Type} (f:List D->Option β) (fs:L2.Env->Option (List D)):L2.Env->Option β:=fun ρ=>(fs ρ).bind f
theorem jow {r:List V->Hp->VK->Prop} {f:List D->Option D} (h:jdk r f) (ha:jaS As fs):EOk (tCB r As) (jg f fs):=fun G0 H0 G H σ ρ Q d e q k=>by
 obtain ⟨ds,q1,q2⟩:=bind_some q
 exact ha _ _ _ _ _ _ _ _ e q1 fun vs G1 H1 x1 r1=>h G1 H1 vs ds d Q x1.gh r1 q2 fun v G2 H2 x2 r2=>k v G2 H2 (x1.trans x2) r2
theorem jkU {r:List V->Hp->VK->Prop} {f:List D->Option (List D)} (h:jf9 r f) (ha:jaS As fs):EOkO (tCB r As) (jg f fs):=fun G0 H0 G H σ ρ Q d e q k=>by
 obtain ⟨ds,q1,q2⟩:=bind_some q
 exact ha _ _ _ _ _ _ _ _ e q1 fun vs G1 H1 x1 r1=>h G1 H1 vs ds d Q x1.gh r1 q2 fun a us G2 H2 x2 hn hg hh r2=>k a us G2 H2 (x1.trans x2) (x1.hh.free hn) hg hh r2
noncomputable def spS (f:List D->Option D):Sp:=fun vs H Q _=>∃G ds d,Same G H/\Reps G vs ds/\f ds=some d/\∀v G' H',Ext G H G' H'->Rep G' v d->Q v H'
noncomputable def spO (f:List D->Option (List D)):Sp:=fun vs H Q _=>∃G ds es,Same G H/\Reps G vs ds/\f ds=some es/\∀a us G' H',Ext G H G' H'->H a=none->G' a=none->H' a=some (.lst us)->Reps G' us es->Q (.ref a) H'
theorem jmi {f:List D->Option D} {E:XK} (ha:AOk As fs):EOk (jih (spS f) [] E As) (jg f fs):=fun G0 H0 G H σ ρ Q d e q k=>by
 obtain ⟨ds,q1,q2⟩:=bind_some q
 exact ha _ _ _ _ _ _ _ _ e q1 fun vs G1 H1 x1 r1=>⟨G1,ds,d,x1.gh,by rw [List.append_nil];exact r1,q2,fun v G2 H2 x2 r2=>k v G2 H2 (x1.trans x2) r2⟩
theorem jj1 {f:List D->Option (List D)} {E:XK} (ha:AOk As fs):EOkO (jih (spO f) [] E As) (jg f fs):=fun G0 H0 G H σ ρ Q d e q k=>by
 obtain ⟨ds,q1,q2⟩:=bind_some q
 exact ha _ _ _ _ _ _ _ _ e q1 fun vs G1 H1 x1 r1=>⟨G1,ds,d,x1.gh,by rw [List.append_nil];exact r1,q2,fun a us G2 H2 x2 hn hg hh r2=>k a us G2 H2 (x1.trans x2) (x1.hh.free hn) hg hh r2⟩
end
inductive Res where
 | next (ρ:L2.Env) | ret (d:D) | retO (ds:List D) | brk (ρ:L2.Env) | cnt (ρ:L2.Env) | fail
noncomputable def ResOk (G0 H0 Gc:Hp) (r:Res) (E:Ends):Prop:=match r with
 | .next ρ=>∀G H σ,Same Gc G->EnvOk G0 H0 G H σ ρ->E.nx σ H
 | .brk ρ=>∀G H σ,Same Gc G->EnvOk G0 H0 G H σ ρ->E.bk σ H
 | .cnt ρ=>∀G H σ,Same Gc G->EnvOk G0 H0 G H σ ρ->E.ct σ H
 | .ret d=>∀G H v,Ext G0 H0 G H->Rep G v d->E.rt v H
 | .retO ds=>∀G H a vs,Ext G0 H0 G H->H0 a=none->G a=none->H a=some (.lst vs)->Reps G vs ds->E.rt (.ref a) H
 | .fail=>False
theorem ResOk.mono {G0 H0 G G':Hp} {r:Res} {E:Ends} (s:Same G G') (h:ResOk G0 H0 G r E):ResOk G0 H0 G' r E:=by
 cases r with
 | next ρ=>exact fun G2 H2 σ s2 e=>h G2 H2 σ (s.trans s2) e
 | brk ρ=>exact fun G2 H2 σ s2 e=>h G2 H2 σ (s.trans s2) e
 | cnt ρ=>exact fun G2 H2 σ s2 e=>h G2 H2 σ (s.trans s2) e
 | ret d=>exact h
 | retO d=>exact h
 | fail=>exact h
noncomputable abbrev FS:=L2.Env->Res
noncomputable def ZZ (t:TS) (F:FS):Prop:=∀G0 H0 G H σ ρ E,EnvOk G0 H0 G H σ ρ->ResOk G0 H0 G (F ρ) E->t E σ H
section
variable {t u:TS} {F F':FS} {te:TE} {fe:L2.Env->Option D} {fo:L2.Env->Option (List D)} {tc:TT} {fc:L2.Env->Option Bool}
noncomputable def ql:FS:=.next
theorem jlj:ZZ jky ql:=fun G0 H0 G H σ ρ E e h=>h G H σ (.refl _) e
noncomputable def jr (F F':FS):FS:=fun ρ=>match F ρ with
 | .next ρ'=>F' ρ'
 | r=>r
theorem jmK (h:ZZ t F) (h':ZZ u F'):ZZ (jny t u) (jr F F'):=fun G0 H0 G H σ ρ E e q=>by
 refine h G0 H0 G H σ ρ _ e ?_
 unfold jr at q
 cases z:F ρ with
 | next ρ'=>rw [z] at q;exact fun G' H' σ' s' e'=>h' G0 H0 G' H' σ' ρ' E e' (q.mono s')
 | ret d=>rw [z] at q;exact q
 | retO d=>rw [z] at q;exact q
 | brk d=>rw [z] at q;exact q
 | cnt d=>rw [z] at q;exact q
 | fail=>rw [z] at q;exact q
noncomputable def Zw (fe:L2.Env->Option D):FS:=fun ρ=>match fe ρ with
 | some _=>.next ρ
 | none=>.fail
theorem jk1 (h:zL te fe):ZZ (jhT te) (Zw fe):=fun G0 H0 G H σ ρ E e q=>by
 unfold Zw at q
 split at q
 . rename_i d z
   exact h _ _ _ _ _ _ _ _ e z fun v G' H' x r=>q G' H' σ x.gg (e.grow x)
 . exact q.elim
noncomputable def qJ (fe:L2.Env->Option D):FS:=fun ρ=>match fe ρ with
 | some d=>.ret d
 | none=>.fail
theorem jmF (h:EOk te fe):ZZ (jjO te) (qJ fe):=fun G0 H0 G H σ ρ E e q=>by
 unfold qJ at q
 split at q
 . rename_i d z
   exact h _ _ _ _ _ _ _ _ e z fun v G' H' x r=>q G' H' v (e.ext.trans x) r
 . exact q.elim
noncomputable def Jf (fo:L2.Env->Option (List D)):FS:=fun ρ=>match fo ρ with
 | some d=>.retO d
 | none=>.fail
theorem jlh (h:EOkO te fo):ZZ (jjO te) (Jf fo):=fun G0 H0 G H σ ρ E e q=>by
 unfold Jf at q
 split at q
 . rename_i d z
   exact h _ _ _ _ _ _ _ _ e z fun a vs G' H' x hn hg hh r=>q G' H' a vs (e.ext.trans x) (e.ext.hh.free hn) hg hh r
 . exact q.elim
noncomputable def QR (i:Nat):FS:=fun ρ=>match ρ[i]? with
 | some (.ow ds)=>.retO ds
 | _=>.fail
theorem jk9 (i:Nat):ZZ (jjO (jev i)) (QR i):=fun G0 H0 G H σ ρ E e q=>by
 unfold QR at q
 split at q
 . rename_i ds z
   obtain ⟨a,vs,h1,h2,h3,h4,h5⟩:=e.ow z
   exact ⟨_,h1,q G H a vs e.ext h2 h3 h4 h5⟩
 . exact q.elim
noncomputable def Qf (fc:L2.Env->Option Bool) (F F':FS):FS:=fun ρ=>match fc ρ with
 | some true=>F ρ
 | some false=>F' ρ
 | none=>.fail
theorem jok (hc:TOk tc fc) (h:ZZ t F) (h':ZZ u F'):ZZ (jnk tc t u) (Qf fc F F'):=fun G0 H0 G H σ ρ E e q=>by
 unfold Qf at q
 split at q
 . rename_i z
   exact hc _ _ _ _ _ _ _ _ e z fun G' H' x=>by rw [if_pos rfl];exact h _ _ _ _ _ _ _ (e.grow x) (q.mono x.gg)
 . rename_i z
   exact hc _ _ _ _ _ _ _ _ e z fun G' H' x=>by rw [if_neg Bool.false_ne_true];exact h' _ _ _ _ _ _ _ (e.grow x) (q.mono x.gg)
 . exact q.elim
noncomputable def jB (i:Nat) (fe:L2.Env->Option D):FS:=fun ρ=>match fe ρ with
 | some d=>.next (ρ.set i (.sh d))
 | none=>.fail
theorem jkS (i:Nat) (h:EOk te fe):ZZ (jc3 te (ZI i)) (jB i fe):=fun G0 H0 G H σ ρ E e q=>by
 unfold jB at q
 split at q
 . rename_i d z
   exact h _ _ _ _ _ _ _ _ e z fun v G' H' x r=>q G' H' _ x.gg ((e.grow x).set r)
 . exact q.elim
noncomputable def Jg (i:Nat) (fo:L2.Env->Option (List D)):FS:=fun ρ=>match fo ρ with
 | some d=>.next (ρ.set i (.ow d))
 | none=>.fail
theorem jk0 (i:Nat) (h:EOkO te fo):ZZ (jc3 te (ZI i)) (Jg i fo):=fun G0 H0 G H σ ρ E e q=>by
 unfold Jg at q
 split at q
 . rename_i d z
   exact h _ _ _ _ _ _ _ _ e z fun a vs G' H' x hn hg hh r=>q G' H' _ x.gg (e.setO x hn hg hh r)
 . exact q.elim
noncomputable def jey (i:Nat) (F:FS):FS:=fun ρ=>F (frz i ρ)
theorem Ext.back {G G' H:Hp} (sg:Same G G') (gh:Same G' H):∀G2 H2,Ext G' H G2 H2->∃G3,Ext G H G3 H2/\∀v d,qI d=true->Rep G2 v d->Rep G3 v d:=fun G2 H2 x=>by
 refine ⟨fun b=>match G b,G' b with | none,some _=>none | _,_=>G2 b,⟨x.hh,fun b o q=>?_,fun b o q=>?_,fun b o q=>?_⟩,fun v d f r=>r.flat f⟩
 . show (match G b,G' b with | none,some _=>none | _,_=>G2 b)=some o
   rw [q,sg b o q]
   exact x.gg b o (sg b o q)
 . have q':(match G b,G' b with | none,some _=>none | _,_=>G2 b)=some o:=q
   split at q'
   . cases q'
   . exact x.gh b o q'
 . have q':(match G b,G' b with | none,some _=>none | _,_=>G2 b)=some o:=q
   cases g:G b with
   | some u=>
     rw [g,sg b u g] at q'
     have:G2 b=some u:=x.gg b u (sg b u g)
     rw [this] at q'
     exact .inl q'
   | none=>
     cases g':G' b with
     | some u=>rw [g,g'] at q';cases q'
     | none=>
       rw [g,g'] at q'
       rcases x.nw b o q' with w | w
       . rw [g'] at w;cases w
       . exact .inr w
theorem EnvOk.frz {G0 H0 G H:Hp} {σ:St} {ρ:L2.Env} (i:Nat) (e:EnvOk G0 H0 G H σ ρ):∃G',EnvOk G0 H0 G' H σ (L2.frz i ρ)/\Same G G'/\∀G2 H2,Ext G' H G2 H2->∃G3,Ext G H G3 H2/\∀v d,qI d=true->Rep G2 v d->Rep G3 v d:=by
 have fin:∀(ρ':L2.Env) G',EnvOk G0 H0 G' H σ ρ'->Same G G'->∃G',EnvOk G0 H0 G' H σ ρ'/\Same G G'/\∀G2 H2,Ext G' H G2 H2->∃G3,Ext G H G3 H2/\∀v d,qI d=true->Rep G2 v d->Rep G3 v d:=fun ρ' G' e' s=>⟨G',e',s,Ext.back s e'.same⟩
 unfold L2.frz
 split
 . rename_i ds z
   obtain ⟨a,vs,h1,h2,h3,h4,h5⟩:=e.ow z
   exact fin _ _ (e.freeze z h1 h4 h5) (.upd h3)
 . rename_i dss z
   obtain ⟨a,bs,h1,h2,h3,h4,h5⟩:=e.oo z
   obtain ⟨e1,rr⟩:=e.half z h1 h2 h3 h4 h5
   have hi:i<ρ.length:=(List.getElem?_eq_some_iff.mp z).1
   have e2:=e1.freeze (i:=i) (by rw [List.getElem?_set_self hi]) h1 h2 rr
   rw [List.set_set] at e2
   have nd':=List.nodup_cons.mp h3
   exact fin _ _ e2 ((jcw e.same).1.trans (.upd (by rw [Qg nd'.1];exact (h4 a List.mem_cons_self).2)))
 . exact fin _ _ e (.refl _)
theorem jm9 (i:Nat) (h:ZZ t F):ZZ t (jey i F):=fun G0 H0 G H σ ρ E e q=>by
 obtain ⟨G',e',sg,_⟩:=e.frz i
 exact h G0 H0 G' H σ _ E e' (q.mono sg)
noncomputable def jmY (i:Nat) (fe:L2.Env->Option D):L2.Env->Option D:=fun ρ=>match fe (frz i ρ) with
 | some d=>if qI d then some d else none
 | none=>none
noncomputable def jnN (i:Nat) (fc:L2.Env->Option Bool):L2.Env->Option Bool:=fun ρ=>fc (frz i ρ)
variable {ta:TE} {fa:L2.Env->Option D}
noncomputable def JJ (i:Nat) (fa:L2.Env->Option D):FS:=fun ρ=>match ρ[i]?,fa ρ with
 | some (.ow ds),some d=>if zM ds.length then .next (ρ.set i (.ow (ds++[d]))) else .fail
 | _,_=>.fail
theorem jmw (i:Nat) (h:EOk ta fa):ZZ (jhT (tBM Fr.K "list" jdd (jev i) (jbq ta jg9))) (JJ i fa) := fun G0 H0 G H σ ρ E e q => by
 unfold JJ at q
 split at q
 . rename_i ds d z1 z2
   split at q
   . rename_i hz
     obtain ⟨a,vs,h1,h2,h3,h4,h5⟩:=e.ow z1
     refine ⟨_,h1,.inl ⟨rfl,vs,.inl (.inl h4)⟩,h _ _ _ _ _ _ _ _ e z2 fun v G' H' x r=>?_⟩
     have e':=e.grow x
     exact ⟨a,vs,v,rfl,rfl,x.hh _ _ h4,by rw [h5.length];exact ZD hz,q G' _ σ x.gg (e'.put z1 h1 ((h5.mono x.gg).snoc r))⟩
   . exact q.elim
 . exact q.elim
noncomputable def jhD (i:Nat):FS:=fun ρ=>match ρ[i]? with
 | some (.ow _)=>.next (ρ.set i (.ow []))
 | _=>.fail
noncomputable def jns (i:Nat) (fa fb:L2.Env->Option D):FS:=fun ρ=>match ρ[i]?,fa ρ,fb ρ with
 | some (.ow ds),some (.int k),some d=>if 0<=k/\k<=ds.length/\zM ds.length then .next (ρ.set i (.ow (ds.take k.toNat++d::ds.drop k.toNat))) else .fail
 | _,_,_=>.fail
noncomputable def jb3 (i:Nat) (fk fa:L2.Env->Option D):FS:=fun ρ=>match ρ[i]?,fa ρ,fk ρ with
 | some (.ow ds),some d,some (.int k)=>match ixN ds.length k with
   | some j=>.next (ρ.set i (.ow (ds.set j d)))
   | none=>.fail
 | _,_,_=>.fail
theorem jmM {tk:TE} {fk:L2.Env->Option D} (i:Nat) (hk:EOk tk fk) (h:EOk ta fa):ZZ (jc3 ta (jm0 (jev i) tk jkI)) (jb3 i fk fa):=fun G0 H0 G H σ ρ E e q=>by
 unfold jb3 at q
 split at q
 . rename_i ds d k z1 z2 z3
   split at q
   . rename_i j hj
     obtain ⟨a,vs,h1,h2,h3,h4,h5⟩:=e.ow z1
     refine h _ _ _ _ _ _ _ _ e z2 fun v G' H' x r=>⟨_,h1,hk _ _ _ _ _ _ _ _ (e.grow x) z3 fun w G2 H2 x2 r2=>?_⟩
     cases r2
     have e':=(e.grow x).grow x2
     exact ⟨a,vs,k,j,rfl,rfl,(x.trans x2).hh _ _ h4,by rw [h5.length];exact hj,q G2 _ σ (x.trans x2).gg (e'.put z1 h1 ((h5.mono (x.trans x2).gg).set (r.mono x2.gg) j))⟩
   . exact q.elim
 . exact q.elim
end
noncomputable def GOk (g:TG) (m:D->L2.Env->Option L2.Env):Prop:=∀G0 H0 G H σ ρ v d ρ' (Q:St->Hp->Prop),EnvOk G0 H0 G H σ ρ->Rep G v d->m d ρ=some ρ'->(∀σ',EnvOk G0 H0 G H σ' ρ'->Q σ' H)->g v σ H Q
noncomputable def jg2 (g:TGs) (m:List D->L2.Env->Option L2.Env):Prop:=∀G0 H0 G H σ ρ vs ds ρ' (Q:St->Hp->Prop),EnvOk G0 H0 G H σ ρ->Reps G vs ds->m ds ρ=some ρ'->(∀σ',EnvOk G0 H0 G H σ' ρ'->Q σ' H)->g vs σ H Q
noncomputable def jG (i:Nat):D->L2.Env->Option L2.Env:=fun d ρ=>some (ρ.set i (.sh d))
noncomputable def ZL:List D->L2.Env->Option L2.Env
 | [],ρ=>some ρ
 | _,_=>none
noncomputable def qK (m:D->L2.Env->Option L2.Env) (ms:List D->L2.Env->Option L2.Env):List D->L2.Env->Option L2.Env
 | d::ds,ρ=>(m d ρ).bind fun ρ'=>ms ds ρ'
 | [],_=>none
noncomputable def Zb (n:Nat) (ms:List D->L2.Env->Option L2.Env):D->L2.Env->Option L2.Env
 | .tup ds,ρ=>if ds.length=n then ms ds ρ else none
 | _,_=>none
theorem je0 (i:Nat):GOk (ZI i) (jG i):=fun G0 H0 G H σ ρ v d ρ' Q e r q k=>by cases q;exact k _ (e.set r)
theorem jkx:jg2 jmo ZL:=fun G0 H0 G H σ ρ vs ds ρ' Q e r q k=>by
 cases r with
 | nil=>cases q;exact ⟨rfl,k _ e⟩
 | cons _ _=>cases q
theorem jhS {g:TG} {gs:TGs} {m:D->L2.Env->Option L2.Env} {ms:List D->L2.Env->Option L2.Env} (h:GOk g m) (hs:jg2 gs ms):jg2 (jko g gs) (qK m ms):=fun G0 H0 G H σ ρ vs ds ρ' Q e r q k=>by
 cases r with
 | nil=>cases q
 | cons r t=>
   obtain ⟨ρ1,q1,q2⟩:=bind_some q
   exact ⟨_,_,rfl,h _ _ _ _ _ _ _ _ _ _ e r q1 fun σ' e'=>hs _ _ _ _ _ _ _ _ _ _ e' t q2 k⟩
theorem jkO {n:Nat} {gs:TGs} {ms:List D->L2.Env->Option L2.Env} (hs:jg2 gs ms):GOk (jjE Fr.K n gs) (Zb n ms):=fun G0 H0 G H σ ρ v d ρ' Q e r q k=>by
 cases r with
 | tup h r=>
   simp only [Zb] at q
   split at q
   . rename_i hl
     exact ⟨_,_,rfl,.inl (.inl (e.same _ _ h)),by rw [r.length];exact hl,hs _ _ _ _ _ _ _ _ _ _ e r q k⟩
   . cases q
 | _=>cases q
noncomputable def jhr (m:D->L2.Env->Option L2.Env) (fe:L2.Env->Option D):FS:=fun ρ=>match (fe ρ).bind fun d=>m d ρ with
 | some ρ'=>.next ρ'
 | none=>.fail
theorem jn4 {g:TG} {m:D->L2.Env->Option L2.Env} {te:TE} {fe:L2.Env->Option D} (hg:GOk g m) (h:EOk te fe):ZZ (jc3 te g) (jhr m fe):=fun G0 H0 G H σ ρ E e q=>by
 unfold jhr at q
 split at q
 . rename_i ρ' z
   obtain ⟨d,z1,z2⟩:=bind_some z
   exact h _ _ _ _ _ _ _ _ e z1 fun v G' H' x r=>hg _ _ _ _ _ _ _ _ _ _ (e.grow x) r z2 fun σ' e'=>q G' H' σ' x.gg e'
 . exact q.elim
noncomputable def Iter (G1 H1:Hp) (J:It) (ds:List D):Prop:=∀(i:Nat) G H,Same G1 G->Same H1 H->Same G H->
 (∀d,ds[i]?=some d->J.go i H/\∀x H',J.yld i H x H'->∃G',Ext G H G' H'/\Rep G' x d)/\(ds[i]?=none->J.stop i H)
noncomputable def jhy (wi:TI) (f:L2.Env->Option (List D)):Prop:=∀G0 H0 G H σ ρ (R:It->Hp->Prop) ds,EnvOk G0 H0 G H σ ρ->f ρ=some ds->(∀J G' H',Ext G H G' H'->Iter G' H' J ds->R J H')->wi σ H R
noncomputable def IOk (wi:TI) (f:L2.Env->Option (List D)):Prop:=∀G0 H0 G H σ ρ (R:It->Hp->Prop) ds,EnvOk G0 H0 G H σ ρ->f ρ=some ds->(∀J G' H',Ext G H G' H'->Iter G' G' J ds->R J H')->wi σ H R
theorem Iter.weak {G H:Hp} {J:It} {ds:List D} (h:Iter G G J ds):Iter G H J ds:=fun i G' H' a b c=>h i G' H' a (a.trans c) c
theorem IOk.t {wi:TI} {f:L2.Env->Option (List D)} (h:IOk wi f):jhy wi f:=fun G0 H0 G H σ ρ R ds e q k=>h _ _ _ _ _ _ _ _ e q fun J G' H' x j=>k J G' H' x j.weak
section
variable {te:TE} {fe:L2.Env->Option D} {ta:TA} {fa:L2.Env->Option (List D)}
noncomputable def j8 (fe:L2.Env->Option D):L2.Env->Option (List D):=fun ρ=>match fe ρ with
 | some (.lst l)=>some l
 | _=>none
noncomputable def jak (fe:L2.Env->Option D):L2.Env->Option (List D):=fun ρ=>match fe ρ with
 | some (.tup l)=>some l
 | _=>none
end
end
end L2
set_option Elab.async false
set_option linter.all false
set_option maxRecDepth 100000
set_option maxHeartbeats 1000000
namespace L2
open PySem PySem.Spec PyProof.Rows
section
variable [Fr]
section
variable {te:TE} {fe:L2.Env->Option D} {ta:TA} {fa:L2.Env->Option (List D)}
theorem Reps.none_of {G:Hp} {vs:List V} {ds:List D} {i:Nat} (r:Reps G vs ds) (h:ds[i]?=none):vs.length<=i:=by
 rw [r.length];exact List.getElem?_eq_none_iff.mp h
theorem jcB {G1 H1:Hp} {a:Addr} {vs:List V} {ds:List D} (h:Rd H1 a (.lst vs)) (r:Reps G1 vs ds):Iter G1 H1 (Itl Fr.K a) ds:=fun i G H s1 s2 s3=>by
 have hq:zB Fr.K H a vs:=.inl (h.same s2)
 refine ⟨fun d hd=>?_,fun hd=>⟨vs,hq,r.none_of hd⟩⟩
 obtain ⟨v,h1,h2⟩:=r.get hd
 refine ⟨⟨vs,v,hq,h1⟩,fun x H' y=>?_⟩
 obtain ⟨e,y⟩:=y
 subst e
 have z:=y vs hq
 rw [h1] at z
 cases z
 exact ⟨G,.refl s3,h2.mono s1⟩
theorem jiL {G1 H1:Hp} {a:Addr} {vs:List V} {ds:List D} (h:H1 a=some (.tup vs)) (r:Reps G1 vs ds):Iter G1 H1 (Itt Fr.K a) ds:=fun i G H s1 s2 s3=>by
 have hq:SqT Fr.K H a vs:=.inl (.inl (s2 _ _ h))
 refine ⟨fun d hd=>?_,fun hd=>⟨vs,hq,r.none_of hd⟩⟩
 obtain ⟨v,h1,h2⟩:=r.get hd
 refine ⟨⟨vs,v,hq,h1⟩,fun x H' y=>?_⟩
 obtain ⟨e,y⟩:=y
 subst e
 have z:=y vs hq
 rw [h1] at z
 cases z
 exact ⟨G,.refl s3,h2.mono s1⟩
noncomputable def rng (lo:Int) (n:Nat):List D:=(List.range n).map fun (i:Nat)=>D.int (lo+(i:Int))
theorem jdP {G1 H1:Hp} {lo:Int} {n:Nat}:Iter G1 H1 (Itr lo n) (rng lo n):=fun i G H s1 s2 s3=>by
 refine ⟨fun d hd=>?_,fun hd=>?_⟩
 . unfold rng at hd
   rw [List.getElem?_map] at hd
   cases e:(List.range n)[i]? with
   | none=>rw [e] at hd;cases hd
   | some j=>
     rw [e] at hd
     cases hd
     obtain ⟨hi,hj⟩:=List.getElem?_eq_some_iff.mp e
     simp at hi hj
     subst hj
     refine ⟨hi,fun x H' y=>?_⟩
     obtain ⟨e1,e2⟩:=y
     subst e1 e2
     exact ⟨G,.refl s3,.int _⟩
 . have:=List.getElem?_eq_none_iff.mp hd
   simp [rng] at this
   exact this
theorem Ext.newT {G H:Hp} {t:Addr} {o:HO} (s:Same G H) (hn:H t=none):Ext G H (upd G t o) (upd H t o):=(Ext.new s hn).freeze hn (s.free hn) jx
noncomputable def jbO (l m:List D):List D:=(l.zip m).map fun p=>.tup [p.1,p.2]
theorem jhN {G1 H1:Hp} {a b:Addr} {vs us:List V} {ds es:List D} (h:Rd H1 a (.lst vs)) (h':Rd H1 b (.lst us)) (r:Reps G1 vs ds) (r':Reps G1 us es):Iter G1 H1 (Itz Fr.K a b) (jbO ds es):=fun i G H s1 s2 s3=>by
 have hq:zB Fr.K H a vs:=.inl (h.same s2)
 have hq':zB Fr.K H b us:=.inl (h'.same s2)
 refine ⟨fun d hd=>?_,fun hd=>⟨vs,us,hq,hq',?_⟩⟩
 . unfold jbO at hd
   rw [List.getElem?_map] at hd
   cases e:(ds.zip es)[i]? with
   | none=>rw [e] at hd;cases hd
   | some p=>
     rw [e] at hd
     cases hd
     obtain ⟨g1,g2⟩:=List.getElem?_zip_eq_some.mp e
     obtain ⟨v,h1,h2⟩:=r.get g1
     obtain ⟨u,h3,h4⟩:=r'.get g2
     refine ⟨⟨vs,us,v,u,hq,hq',h1,h3⟩,fun x H' y=>?_⟩
     obtain ⟨t,x',y',hn,e1,e2,y1,y2⟩:=y
     subst e1 e2
     have z1:=y1 vs hq
     have z2:=y2 us hq'
     rw [h1] at z1
     rw [h3] at z2
     cases z1
     cases z2
     have x:=Ext.newT (o:=.tup [v,u]) s3 hn
     exact ⟨_,x,.tup jx (.cons (h2.mono (s1.trans x.gg)) (.cons (h4.mono (s1.trans x.gg)) .nil))⟩
 . have:=List.getElem?_eq_none_iff.mp hd
   simp [jbO] at this
   rw [r.length,r'.length]
   omega
noncomputable def jbE (l:List D):List D:=(l.zipIdx).map fun p=>.tup [.int p.2,p.1]
theorem jgC {G1 H1:Hp} {a:Addr} {vs:List V} {ds:List D} (h:Rd H1 a (.lst vs)) (r:Reps G1 vs ds):Iter G1 H1 (Ite Fr.K a) (jbE ds):=fun i G H s1 s2 s3=>by
 have hq:zB Fr.K H a vs:=.inl (h.same s2)
 refine ⟨fun d hd=>?_,fun hd=>⟨vs,hq,?_⟩⟩
 . unfold jbE at hd
   rw [List.getElem?_map,List.getElem?_zipIdx] at hd
   cases e:ds[i]? with
   | none=>rw [e] at hd;cases hd
   | some p=>
     rw [e] at hd
     cases hd
     obtain ⟨v,h1,h2⟩:=r.get e
     refine ⟨⟨vs,v,hq,h1⟩,fun x H' y=>?_⟩
     obtain ⟨t,x',hn,e1,e2,y1⟩:=y
     subst e1 e2
     have z1:=y1 vs hq
     rw [h1] at z1
     cases z1
     have x:=Ext.newT (o:=.tup [.int i,v]) s3 hn
     refine ⟨_,x,.tup jx (.cons ?_ (.cons (h2.mono (s1.trans x.gg)) .nil))⟩
     simp
     exact .int _
 . have:=List.getElem?_eq_none_iff.mp hd
   simp [jbE] at this
   rw [r.length]
   omega
theorem jbj {ρ:L2.Env} {ds:List D} (h:j8 fe ρ=some ds):fe ρ=some (.lst ds):=by
 unfold j8 at h;split at h <;> first | (cases h;assumption) | cases h
theorem je1 {ρ:L2.Env} {ds:List D} (h:jak fe ρ=some ds):fe ρ=some (.tup ds):=by
 unfold jak at h;split at h <;> first | (cases h;assumption) | cases h
theorem jl3 (h:EOk te fe):IOk (jej Fr.K te) (j8 fe):=fun G0 H0 G H σ ρ R ds e q k=>by
 refine h _ _ _ _ _ _ _ _ e (jbj q) fun v G' H' x r=>?_
 cases r with
 | lst h r=>exact ⟨_,rfl,⟨_,.inl (h.same x.gh)⟩,k _ G' H' x (jcB h r)⟩
theorem jkj (h:zL te fe):jhy (jej Fr.K te) (j8 fe):=fun G0 H0 G H σ ρ R ds e q k=>by
 refine h _ _ _ _ _ _ _ _ e (jbj q) fun v G' H' x r=>?_
 cases r with
 | lst h r=>exact ⟨_,rfl,⟨_,.inl h⟩,k _ G' H' x (jcB h r)⟩
theorem jnL (h:EOk te fe):IOk (jmc Fr.K te) (jak fe):=fun G0 H0 G H σ ρ R ds e q k=>by
 refine h _ _ _ _ _ _ _ _ e (je1 q) fun v G' H' x r=>?_
 cases r with
 | tup h r=>exact ⟨_,rfl,⟨_,.inl (.inl (x.gh _ _ h))⟩,k _ G' H' x (jiL h r)⟩
noncomputable def J4 (fa:L2.Env->Option (List D)):L2.Env->Option (List D):=fun ρ=>match fa ρ with
 | some [.int j]=>if -(2 ^ 62)<=j/\j<2 ^ 62 then some (rng 0 j.toNat) else none
 | _=>none
noncomputable def jhV (fa:L2.Env->Option (List D)):L2.Env->Option (List D):=fun ρ=>match fa ρ with
 | some [.int i,.int j]=>if -(2 ^ 62)<=i/\i<2 ^ 62 /\ -(2 ^ 62)<=j/\j<2 ^ 62 then some (rng i (j-i).toNat) else none
 | _=>none
theorem jly (h:jaS ta fa):IOk (jkQ ta) (J4 fa):=fun G0 H0 G H σ ρ R ds e q k=>by
 unfold J4 at q
 split at q
 . rename_i j z
   split at q
   . rename_i hb
     cases q
     refine h _ _ _ _ _ _ _ _ e z fun vs G' H' x r=>?_
     cases r with
     | cons r t=>cases r;cases t;exact ⟨j,rfl,hb.1,hb.2,k _ G' H' x jdP⟩
   . cases q
 . cases q
theorem jk5 (h:jaS ta fa):IOk (jkr ta) (jhV fa):=fun G0 H0 G H σ ρ R ds e q k=>by
 unfold jhV at q
 split at q
 . rename_i i j z
   split at q
   . rename_i hb
     cases q
     refine h _ _ _ _ _ _ _ _ e z fun vs G' H' x r=>?_
     cases r with
     | cons r t=>cases r;cases t with | cons r t=>cases r;cases t;exact ⟨i,j,rfl,hb,k _ G' H' x jdP⟩
   . cases q
 . cases q
noncomputable def jbi (fa:L2.Env->Option (List D)):L2.Env->Option (List D):=fun ρ=>match fa ρ with
 | some [.lst l,.lst m]=>some (jbO l m)
 | _=>none
theorem jms (h:jaS ta fa):jhy (jlS Fr.K ta) (jbi fa):=fun G0 H0 G H σ ρ R ds e q k=>by
 unfold jbi at q
 split at q
 . rename_i l m z
   cases q
   refine h _ _ _ _ _ _ _ _ e z fun vs G' H' x r=>?_
   cases r with
   | cons r t=>cases t with | cons r' t=>cases t;cases r with | lst h1 r1=>cases r' with | lst h2 r2=>exact ⟨_,_,_,_,rfl,.inl h1,.inl h2,k _ G' H' x (jhN h1 h2 r1 r2)⟩
 . cases q
noncomputable def jba (fa:L2.Env->Option (List D)):L2.Env->Option (List D):=fun ρ=>match fa ρ with
 | some [.lst l]=>some (jbE l)
 | _=>none
theorem jml (h:AOk ta fa):IOk (jiS Fr.K ta) (jba fa):=fun G0 H0 G H σ ρ R ds e q k=>by
 unfold jba at q
 split at q
 . rename_i l z
   cases q
   refine h _ _ _ _ _ _ _ _ e z fun vs G' H' x r=>?_
   cases r with
   | cons r t=>cases t;cases r with | lst h1 r1=>exact ⟨_,_,rfl,.inl (h1.same x.gh),k _ G' H' x (jgC h1 r1)⟩
 . cases q
end
noncomputable def zH (m:D->L2.Env->Option L2.Env) (B:FS):List D->FS
 | [],ρ=>.next ρ
 | d::ds,ρ=>match m d ρ with
   | none=>.fail
   | some ρ1=>match B ρ1 with
     | .next ρ2=>zH m B ds ρ2
     | .cnt ρ2=>zH m B ds ρ2
     | .brk ρ2=>.next ρ2
     | .ret d=>.ret d
     | .retO l=>.retO l
     | .fail=>.fail
noncomputable def zW (fi:L2.Env->Option (List D)) (m:D->L2.Env->Option L2.Env) (B:FS):FS:=fun ρ=>match fi ρ with
 | some ds=>zH m B ds ρ
 | none=>.fail
theorem jnX {wi:TI} {fi:L2.Env->Option (List D)} {g:TG} {m:D->L2.Env->Option L2.Env} {tb:TS} {B:FS} (hi:IOk wi fi) (hg:GOk g m) (hb:ZZ tb B):ZZ (jnx wi g tb) (zW fi m B):=fun G0 H0 G H σ ρ E e q=>by
 unfold zW at q
 split at q
 . rename_i ds z
   refine hi _ _ _ _ _ _ _ _ e z fun J G1 H1 x1 it=>?_
   refine ⟨fun i n σ' H'=>n=ds.length-i/\i<=ds.length/\∃G' ρ',Same G1 G'/\EnvOk G0 H0 G' H' σ' ρ'/\ResOk G0 H0 G' (zH m B (ds.drop i) ρ') E,⟨_,rfl,Nat.zero_le _,G1,ρ,.refl _,e.grow x1,q.mono x1.gg⟩,?_⟩
   rintro i n σ' H' ⟨rfl,hl,G',ρ',s1,e1,q1⟩
   obtain ⟨go,stop⟩:=it i G' H' s1 (s1.trans e1.same) e1.same
   by_cases hlt:i<ds.length
   . have hd:ds[i]?=some ds[i]:=List.getElem?_eq_getElem hlt
     obtain ⟨g1,g2⟩:=go _ hd
     rw [List.drop_eq_getElem_cons hlt] at q1
     simp only [zH] at q1
     split at q1
     . exact q1.elim
     . rename_i ρ1 hm
       refine .inr ⟨g1,fun σ2 H2=>∃G2 ρ2,Same G1 G2/\EnvOk G0 H0 G2 H2 σ2 ρ2/\ResOk G0 H0 G2 (zH m B (ds.drop (i+1)) ρ2) E,fun σ2 H2 ⟨G2,ρ2,a1,a2,a3⟩=>⟨_,by omega,rfl,hlt,G2,ρ2,a1,a2,a3⟩,fun x H2 y=>?_⟩
       obtain ⟨G2,x2,r2⟩:=g2 x H2 y
       refine hg _ _ _ _ _ _ _ _ _ _ (e1.grow x2) r2 hm fun σ2 e2=>hb _ _ _ _ _ _ _ e2 ?_
       have q2:=q1.mono x2.gg
       have s2:=s1.trans x2.gg
       cases hB:B ρ1 with
       | next ρ2=>rw [hB] at q2;exact fun G3 H3 σ3 s3 e3=>⟨G3,ρ2,s2.trans s3,e3,q2.mono s3⟩
       | cnt ρ2=>rw [hB] at q2;exact fun G3 H3 σ3 s3 e3=>⟨G3,ρ2,s2.trans s3,e3,q2.mono s3⟩
       | brk ρ2=>rw [hB] at q2;exact q2
       | ret d=>rw [hB] at q2;exact q2
       | retO d=>rw [hB] at q2;exact q2
       | fail=>rw [hB] at q2;exact q2
   . have hd:ds[i]?=none:=List.getElem?_eq_none_iff.mpr (by omega)
     rw [List.drop_eq_nil_of_le (by omega)] at q1
     exact .inl ⟨stop hd,q1 G' H' σ' (.refl _) e1⟩
 . exact q.elim
noncomputable def wh (c:L2.Env->Option Bool) (B:FS):Nat->L2.Env->Option Res
 | 0,_=>none
 | n+1,ρ=>match c ρ with
   | none=>some .fail
   | some false=>some (.next ρ)
   | some true=>match B ρ with
     | .next ρ2=>wh c B n ρ2
     | .cnt ρ2=>wh c B n ρ2
     | .brk ρ2=>some (.next ρ2)
     | .ret d=>some (.ret d)
     | .retO l=>some (.retO l)
     | .fail=>some .fail
noncomputable def JT (n:Nat) (ix:List Nat) (ρ:L2.Env):L2.Env:=List.replicate n .un++ix.map fun k=>match ρ[k]? with
 | some (.sh d)=>.sh d
 | _=>.un
theorem jlx {G0 H0 G H:Hp} {σ:St} {ρ:L2.Env} (n:Nat) (ix:List Nat) (e:EnvOk G0 H0 G H σ ρ):EnvOk G0 H0 G H (Ji n σ ix) (JT n ix ρ):=by
 have key:∀(i:Nat) s,(JT n ix ρ)[i]?=some s->s=.un\/∃d k,s=.sh d/\n<=i/\ix[i-n]?=some k/\ρ[k]?=some (.sh d):=fun i s h=>by
  unfold JT at h
  rcases Nat.lt_or_ge i n with hi | hi
  . rw [List.getElem?_append_left (by simpa using hi),List.getElem?_replicate] at h
    simp [hi] at h
    exact .inl h.symm
  . rw [List.getElem?_append_right (by simpa using hi),List.length_replicate,List.getElem?_map] at h
    cases e1:ix[i-n]? with
    | none=>rw [e1] at h;cases h
    | some k=>
      rw [e1] at h
      simp only [Option.map_some,Option.some.injEq] at h
      split at h
      . rename_i d hd;exact .inr ⟨d,k,h.symm,hi,rfl,hd⟩
      . exact .inl h.symm
 refine ⟨e.ext,by simp [Ji,JT,capt],fun i o s h1 h2=>?_,fun i j o o' s s' b h1 h2 h3 h4 f f'=>?_⟩
 . rcases key i s h2 with rfl | ⟨d,k,rfl,hi,hk,hd⟩
   . exact .un _
   . obtain ⟨v,hv,r⟩:=e.sh hd
     unfold Ji at h1
     rw [List.getElem?_append_right (by simpa using hi),List.length_replicate] at h1
     unfold capt at h1
     rw [List.getElem?_map,hk] at h1
     simp only [Option.map_some,Option.some.injEq] at h1
     rw [hv] at h1
     subst h1
     exact .sh r
 . rcases key i _ h2 with z | ⟨d,k,z,_⟩
   . subst z
     cases o with | none=>exact f.elim | some v=>cases v <;> exact f.elim
   . subst z
     cases o with | none=>exact f.elim | some v=>cases v <;> exact f.elim
noncomputable def Zg (m:D->L2.Env->Option L2.Env) (ft:L2.Env->Option Bool) (fe:L2.Env->Option D) (ρ:L2.Env):List D->Option (List D)
 | []=>some []
 | d::ds=>(m d ρ).bind fun ρ1=>(ft ρ1).bind fun b=>if b then (fe ρ1).bind fun y=>(Zg m ft fe ρ ds).map (y::·) else Zg m ft fe ρ ds
noncomputable def QN (fi:L2.Env->Option (List D)) (m:D->L2.Env->Option L2.Env) (ft:L2.Env->Option Bool) (fe:L2.Env->Option D) (n:Nat) (ix:List Nat):L2.Env->Option (List D):=fun ρ=>
 (fi ρ).bind fun ds=>if zM ds.length then Zg m ft fe (JT n ix ρ) ds else none
theorem jmB {wi:TI} {fi:L2.Env->Option (List D)} {g:TG} {m:D->L2.Env->Option L2.Env} {tt:TT} {ft:L2.Env->Option Bool} {te:TE} {fe:L2.Env->Option D} (n:Nat) (ix:List Nat) (hi:jhy wi fi) (hg:GOk g m) (ht:TOk tt ft) (he:EOk te fe) :
 EOkO (tLC wi g tt te n ix) (QN fi m ft fe n ix):=fun G0 H0 G H σ ρ Q es e q k=>by
 obtain ⟨ds,q1,q2⟩:=bind_some q
 split at q2
 . rename_i hz
   refine hi _ _ _ _ _ _ _ _ e q1 fun J G1 H1 x1 it=>?_
   refine ⟨fun i n' ys H'=>n'=ds.length-i/\i<=ds.length/\ys.length<=i/\∃G' gs hs,Ext G1 H1 G' H'/\Reps G' ys gs/\Zg m ft fe (JT n ix ρ) (ds.drop i)=some hs/\gs++hs=es,⟨_,rfl,Nat.zero_le _,Nat.le_refl _,G1,[],es,.refl x1.gh,.nil,q2,rfl⟩,?_⟩
   rintro i n' ys H' ⟨rfl,hl,hy,G',gs,hs,x2,r2,hlc,hes⟩
   have hz':=ZD hz
   obtain ⟨go,stop⟩:=it i G' H' x2.gg x2.hh x2.gh
   by_cases hlt:i<ds.length
   . have hd:ds[i]?=some ds[i]:=List.getElem?_eq_getElem hlt
     obtain ⟨g1,g2⟩:=go _ hd
     rw [List.drop_eq_getElem_cons hlt] at hlc
     simp only [Zg] at hlc
     obtain ⟨ρ1,hm,hlc⟩:=bind_some hlc
     obtain ⟨b,hb,hlc⟩:=bind_some hlc
     refine .inr ⟨g1,by omega,fun ys' H'=>ys'.length<=i+1/\∃G' gs hs,Ext G1 H1 G' H'/\Reps G' ys' gs/\Zg m ft fe (JT n ix ρ) (ds.drop (i+1))=some hs/\gs++hs=es,fun ys' H' ⟨a0,a⟩=>⟨_,by omega,rfl,hlt,a0,a⟩,fun x H2 y=>?_⟩
     obtain ⟨G2,x3,r3⟩:=g2 x H2 y
     have e3:EnvOk G0 H0 G2 H2 (Ji n σ ix) (JT n ix ρ):=(jlx n ix e).grow ((x1.trans x2).trans x3)
     refine hg _ _ _ _ _ _ _ _ _ _ e3 r3 hm fun σ2 e4=>ht _ _ _ _ _ _ _ _ e4 hb fun G4 H4 x4=>?_
     have x24:=(x2.trans x3).trans x4
     cases b with
     | false=>
       rw [if_neg Bool.false_ne_true] at hlc ⊢
       exact ⟨by omega,G4,gs,hs,x24,r2.mono (x3.trans x4).gg,hlc,hes⟩
     | true=>
       rw [if_pos rfl] at hlc ⊢
       obtain ⟨y',hy',hlc⟩:=bind_some hlc
       obtain ⟨hs',hh,hlc⟩:=map_some hlc
       subst hlc
       refine he _ _ _ _ _ _ _ _ (e4.grow x4) hy' fun v G5 H5 x5 r5=>⟨by simp;omega,G5,gs++[y'],hs',x24.trans x5,((r2.mono ((x3.trans x4).trans x5).gg).snoc r5),hh,by simpa using hes⟩
   . have hd:ds[i]?=none:=List.getElem?_eq_none_iff.mpr (by omega)
     rw [List.drop_eq_nil_of_le (by omega)] at hlc
     cases hlc
     rw [List.append_nil] at hes
     subst hes
     refine .inl ⟨stop hd,by omega,fun p hp=>?_⟩
     exact k p ys G' _ ((x1.trans x2).trans (.new x2.gh hp)) ((x1.trans x2).hh.free hp) (x2.gh.free hp) jx r2
 . cases q2
noncomputable def qh (n:Nat) (ds:List D):L2.Env:=ds.map .sh++List.replicate (n-ds.length) .un
noncomputable def jch:Res->Option D
 | .ret d=>some d
 | .retO es=>some (.lst es)
 | .next _=>some .non
 | _=>none
noncomputable def jaJ:Res->Option (List D)
 | .retO es=>some es
 | _=>none
noncomputable def qX (k n:Nat) (F:FS) (ds:List D):Option D:=if ds.length=k then jch (F (qh n ds)) else none
noncomputable def Jv (k n:Nat) (F:FS) (ds:List D):Option (List D):=if ds.length=k then jaJ (F (qh n ds)) else none
theorem jfy {G H:Hp} {vs:List V} {ds:List D} {k n:Nat} (s:Same G H) (r:Reps G vs ds) (hk:k=n-vs.length):EnvOk G H G H (vs.map some++List.replicate k none) (qh n ds):=by
 have hl:=r.length
 refine ⟨.refl s,by simp [qh,hl,hk],fun i o s' h1 h2=>?_,fun i j o o' s s' b h1 h3 _ _ f _=>?_⟩
 . unfold qh at h2
   rcases Nat.lt_or_ge i ds.length with hi | hi
   . rw [List.getElem?_append_left (by simpa using hi),List.getElem?_map] at h2
     rw [List.getElem?_append_left (by simpa [hl] using hi),List.getElem?_map] at h1
     have hd:ds[i]?=some ds[i]:=List.getElem?_eq_getElem hi
     obtain ⟨v,g1,g2⟩:=r.get hd
     rw [g1] at h1
     rw [hd] at h2
     cases h1
     cases h2
     exact .sh g2
   . rw [List.getElem?_append_right (by simpa using hi),List.getElem?_replicate] at h2
     split at h2
     . cases h2;exact .un _
     . cases h2
 . exfalso
   unfold qh at h3
   rcases Nat.lt_or_ge i ds.length with hi | hi
   . rw [List.getElem?_append_left (by simpa using hi),List.getElem?_map] at h3
     have hd:ds[i]?=some ds[i]:=List.getElem?_eq_getElem hi
     rw [hd] at h3
     cases h3
     cases o with | none=>exact f.elim | some v=>cases v <;> exact f.elim
   . rw [List.getElem?_append_right (by simpa using hi),List.getElem?_replicate] at h3
     split at h3
     . cases h3
       cases o with | none=>exact f.elim | some v=>cases v <;> exact f.elim
     . cases h3
theorem jn5 {k n:Nat} {F:FS} {vs:List V} {H:Hp} {Q:VK} {E:XK} (q:spS (qX k n F) vs H Q E):vs.length=k:=by
 obtain ⟨G,ds,d,s,r,hf,fin⟩:=q
 unfold qX at hf
 split at hf
 . rename_i h;rw [r.length];exact h
 . cases hf
theorem jnG {k n:Nat} {F:FS} {vs:List V} {H:Hp} {Q:VK} {E:XK} (q:spO (Jv k n F) vs H Q E):vs.length=k:=by
 obtain ⟨G,ds,d,s,r,hf,fin⟩:=q
 unfold Jv at hf
 split at hf
 . rename_i h;rw [r.length];exact h
 . cases hf
theorem jlR {t:TS} {F:FS} {a n k:Nat} {vs:List V} {H:Hp} {Q:VK} {E:XK} (h:ZZ t F) (hk:k=n-vs.length) (q:spS (qX a n F) vs H Q E):t { nx:=fun _ H'=>Q .non H',rt:=Q } (vs.map some++List.replicate k none) H:=by
 obtain ⟨G,ds,d,s,r,hf,fin⟩:=q
 refine h G H G H _ _ _ (jfy s r hk) ?_
 unfold qX at hf
 split at hf
 . cases z:F (qh n ds) with
   | next ρ=>rw [z] at hf;cases hf;exact fun G' H' σ _ e=>fin _ G' H' e.ext .non
   | ret d=>rw [z] at hf;cases hf;exact fun G' H' v x r=>fin v G' H' x r
   | retO es=>rw [z] at hf;cases hf;exact fun G' H' a us x hn hg hh r=>fin _ _ H' (x.freeze hn hg hh) (.lst (.inl jx) (r.mono (.upd hg)))
   | brk _=>rw [z] at hf;cases hf
   | cnt _=>rw [z] at hf;cases hf
   | fail=>rw [z] at hf;cases hf
 . cases hf
theorem jl5 {t:TS} {F:FS} {a n k:Nat} {vs:List V} {H:Hp} {Q:VK} {E:XK} (h:ZZ t F) (hk:k=n-vs.length) (q:spO (Jv a n F) vs H Q E):t { nx:=fun _ H'=>Q .non H',rt:=Q } (vs.map some++List.replicate k none) H:=by
 obtain ⟨G,ds,d,s,r,hf,fin⟩:=q
 refine h G H G H _ _ _ (jfy s r hk) ?_
 unfold Jv at hf
 split at hf
 . cases z:F (qh n ds) with
   | retO es=>rw [z] at hf;cases hf;exact fun G' H' a us x hn hg hh r=>fin a us G' H' x hn hg hh r
   | _=>rw [z] at hf;cases hf
 . cases hf
end
end L2
set_option Elab.async false
set_option linter.all false
set_option maxRecDepth 100000
set_option maxHeartbeats 1000000
namespace L2
open PySem PySem.Spec PyProof.Rows
noncomputable def Qr:List D->Option (List Int)
 | []=>some []
 | .int i::l=>(Qr l).map (i::·)
 | _=>none
theorem JQ:∀ns:List Int,Qr (ns.map D.int)=some ns
 | []=>rfl
 | n::ns=>by simp [Qr,JQ ns]
theorem Jh:∀{l:List D} {ns:List Int},Qr l=some ns->l=ns.map D.int
 | [],_,h=>by cases h;rfl
 | .int i::l,ns,h=>by
   obtain ⟨ms,h1,h2⟩:=map_some h
   subst h2
   rw [Jh h1];rfl
 | .bl _::_,_,h=>by cases h
 | .non::_,_,h=>by cases h
 | .str _::_,_,h=>by cases h
 | .lst _::_,_,h=>by cases h
 | .tup _::_,_,h=>by cases h
 | .scr _::_,_,h=>by cases h
noncomputable def jgZ:List D->Option (List Bool)
 | []=>some []
 | .bl i::l=>(jgZ l).map (i::·)
 | _=>none
theorem jdW:∀ns:List Bool,jgZ (ns.map D.bl)=some ns
 | []=>rfl
 | n::ns=>by simp [jgZ,jdW ns]
theorem jcJ:∀{l:List D} {ns:List Bool},jgZ l=some ns->l=ns.map D.bl
 | [],_,h=>by cases h;rfl
 | .bl i::l,ns,h=>by
   obtain ⟨ms,h1,h2⟩:=map_some h
   subst h2
   rw [jcJ h1];rfl
 | .int _::_,_,h=>by cases h
 | .non::_,_,h=>by cases h
 | .str _::_,_,h=>by cases h
 | .lst _::_,_,h=>by cases h
 | .tup _::_,_,h=>by cases h
 | .scr _::_,_,h=>by cases h
section
variable [Fr]
theorem RepTs.one {G H:Hp} {xs:List V} {d:D} (h:RepTs G H xs [d]):∃v,xs=[v]/\RepT G H v d:=by
 cases h with | cons r t=>cases t;exact ⟨_,rfl,r⟩
theorem RepTs.two {G H:Hp} {xs:List V} {d e:D} (h:RepTs G H xs [d,e]):∃v u,xs=[v,u]/\RepT G H v d/\RepT G H u e:=by
 cases h with | cons r t=>cases t with | cons r' t=>cases t;exact ⟨_,_,rfl,r,r'⟩
theorem RepTs.three {G H:Hp} {xs:List V} {d e f:D} (h:RepTs G H xs [d,e,f]):∃v u w,xs=[v,u,w]/\RepT G H v d/\RepT G H u e/\RepT G H w f:=by
 cases h with | cons r t=>cases t with | cons r' t=>cases t with | cons r2 t=>cases t;exact ⟨_,_,_,rfl,r,r',r2⟩
section
variable {As:TA} {fs:L2.Env->Option (List D)} {ta:TE} {fa:L2.Env->Option D}
noncomputable def j5:List D->Option D
 | [.lst l]=>some (.int l.length)
 | [.tup l]=>some (.int l.length)
 | [.scr l]=>some (.int l.length)
 | [.str z]=>if z.length<=sizeLine then some (.int z.length) else none
 | _=>none
theorem jiC {ds:List D} {d:D} (q:j5 ds=some d):(∃l,ds=[.lst l]/\D.int l.length=d)\/(∃l,ds=[.tup l]/\D.int l.length=d)\/(∃l,ds=[.scr l]/\D.int l.length=d)\/∃z,ds=[.str z]/\z.length<=sizeLine/\D.int z.length=d:=by
 cases ds with
 | nil=>exact qo q
 | cons x t=>
   cases t with
   | cons y t=>cases x <;> exact qo q
   | nil=>
     cases x with
     | lst l=>exact .inl ⟨l,rfl,Option.some.inj q⟩
     | tup l=>exact .inr (.inl ⟨l,rfl,Option.some.inj q⟩)
     | scr l=>exact .inr (.inr (.inl ⟨l,rfl,Option.some.inj q⟩))
     | str z=>
       by_cases c:z.length<=sizeLine
       . exact .inr (.inr (.inr ⟨z,rfl,c,Option.some.inj ((if_pos c).symm.trans q)⟩))
       . exact qo ((if_neg c).symm.trans q)
     | _=>exact qo q
theorem jmO:jdk (fun xs H Q=>(∃p ys,xs=[.ref p]/\(zB Fr.K H p ys\/SqT Fr.K H p ys)/\Q (.int ys.length) H)\/∃z,xs=[.str z]/\z.length<=sizeLine/\Q (.int z.length) H) j5:=fun G H xs ds d Q s rr q k=>by
 rcases jiC q with ⟨l,rfl,rfl⟩ | ⟨l,rfl,rfl⟩ | ⟨l,rfl,rfl⟩ | ⟨z,rfl,hz,rfl⟩
 . obtain ⟨v,rfl,r⟩:=rr.one
   cases r with | lst h r=>exact .inl ⟨_,_,rfl,.inl (.inl h),by rw [r.length];exact k _ G H (.refl s) (.int _)⟩
 . obtain ⟨v,rfl,r⟩:=rr.one
   cases r with | tup h r=>exact .inl ⟨_,_,rfl,.inr (.inl (.inl h)),by rw [r.length];exact k _ G H (.refl s) (.int _)⟩
 . obtain ⟨v,rfl,r⟩:=rr.one
   cases r with | scr h=>exact .inl ⟨_,_,rfl,.inl h,by rw [List.length_map];exact k _ G H (.refl s) (.int _)⟩
 . obtain ⟨v,rfl,r⟩:=rr.one
   cases r
   exact .inr ⟨_,rfl,hz,k _ G H (.refl s) (.int _)⟩
noncomputable def Qm:List D->Option (List D)
 | [.lst l]=>some l
 | [.tup l]=>some l
 | _=>none
theorem jla:jf9 (fun xs H Q=>∃p ys,xs=[.ref p]/\(zB Fr.K H p ys\/SqT Fr.K H p ys)/\∀l,H l=none->Q (.ref l) (upd H l (.lst ys))) Qm:=fun G H xs ds d Q s rr q k=>by
 unfold Qm at q
 split at q
 . cases q
   obtain ⟨v,rfl,r⟩:=rr.one
   cases r with | lst h r=>exact ⟨_,_,rfl,.inl (.inl h),fun l hl=>k l _ G _ (.new s hl) hl (s.free hl) jx r⟩
 . cases q
   obtain ⟨v,rfl,r⟩:=rr.one
   cases r with | tup h r=>exact ⟨_,_,rfl,.inr (.inl (.inl h)),fun l hl=>k l _ G _ (.new s hl) hl (s.free hl) jx r⟩
 . cases q
noncomputable def jkT:List D->Option D
 | [.lst l]=>some (.tup l)
 | _=>none
noncomputable def Q6:List D->Option D
 | [.lst l]=>(Qr l).map fun ns=>.int ns.sum
 | _=>none
theorem jmZ:jdk (fun xs H Q=>∃(p:Addr) (ns:List Int),xs=[.ref p]/\zB Fr.K H p (ns.map V.int)/\Q (.int ns.sum) H) Q6:=fun G H xs ds d Q s rr q k=>by
 unfold Q6 at q
 split at q
 . obtain ⟨ns,q1,q2⟩:=map_some q
   subst q2
   obtain ⟨v,rfl,r⟩:=rr.one
   cases r with
   | lst h r=>
     rw [Jh q1] at r
     rw [r.ints] at h
     exact ⟨_,ns,rfl,.inl h,k _ G H (.refl s) (.int _)⟩
 . cases q
noncomputable def jb7:List D->Option D
 | [.lst l]=>(jgZ l).map fun ns=>.bl (ns.all id)
 | _=>none
theorem jno:jdk (fun xs H Q=>∃(p:Addr) (ns:List Bool),xs=[.ref p]/\zB Fr.K H p (ns.map V.bl)/\Q (.bl (ns.all id)) H) jb7:=fun G H xs ds d Q s rr q k=>by
 unfold jb7 at q
 split at q
 . obtain ⟨ns,q1,q2⟩:=map_some q
   subst q2
   obtain ⟨v,rfl,r⟩:=rr.one
   cases r with
   | lst h r=>
     rw [jcJ q1] at r
     rw [r.bls] at h
     exact ⟨_,ns,rfl,.inl h,k _ G H (.refl s) (.bl _)⟩
 . cases q
noncomputable def QV:List D->Option D
 | [.int i,.int j]=>some (.int (if j<i then j else i))
 | _=>none
noncomputable def Zq:List D->Option D
 | [.int i,.int j]=>some (.int (if j>i then j else i))
 | _=>none
theorem jmm:jdk (fun xs H Q=>∃i j,xs=[.int i,.int j]/\Q (.int (if j<i then j else i)) H) QV:=fun G H xs ds d Q s rr q k=>by
 unfold QV at q
 split at q
 . cases q
   obtain ⟨v,u,rfl,r,r'⟩:=rr.two
   cases r
   cases r'
   exact ⟨_,_,rfl,k _ G H (.refl s) (.int _)⟩
 . cases q
theorem jk8:jdk (fun xs H Q=>∃i j,xs=[.int i,.int j]/\Q (.int (if j>i then j else i)) H) Zq:=fun G H xs ds d Q s rr q k=>by
 unfold Zq at q
 split at q
 . cases q
   obtain ⟨v,u,rfl,r,r'⟩:=rr.two
   cases r
   cases r'
   exact ⟨_,_,rfl,k _ G H (.refl s) (.int _)⟩
 . cases q
noncomputable def jbw (i j k:Int):Int:=if k<(if j<i then j else i) then k else if j<i then j else i
noncomputable def jan:List D->Option D
 | [.int i,.int j,.int k]=>some (.int (jbw i j k))
 | _=>none
theorem jk2:jdk (fun xs H Q=>∃i j k,xs=[.int i,.int j,.int k]/\Q (.int (jbw i j k)) H) jan:=fun G H xs ds d Q s rr q k=>by
 unfold jan at q
 split at q
 . cases q
   obtain ⟨v,u,w,rfl,r,r',r2⟩:=rr.three
   cases r
   cases r'
   cases r2
   exact ⟨_,_,_,rfl,k _ G H (.refl s) (.int _)⟩
 . cases q
noncomputable def jkX:List D->Option D
 | [.int i]=>some (.int i)
 | [.bl b]=>some (.int (if b then 1 else 0))
 | _=>none
theorem jmR:jdk (fun xs H Q=>(∃i,xs=[.int i]/\Q (.int i) H)\/∃k,xs=[.bl k]/\Q (.int (if k then 1 else 0)) H) jkX:=fun G H xs ds d Q s rr q k=>by
 unfold jkX at q
 split at q
 . cases q
   obtain ⟨v,rfl,r⟩:=rr.one
   cases r
   exact .inl ⟨_,rfl,k _ G H (.refl s) (.int _)⟩
 . cases q
   obtain ⟨v,rfl,r⟩:=rr.one
   cases r
   exact .inr ⟨_,rfl,k _ G H (.refl s) (.int _)⟩
 . cases q
noncomputable def dIs:D->D->Option D
 | .bl a,.bl b=>some (.bl (decide (a=b)))
 | _,_=>none
noncomputable def jkN:D->D->Option D
 | .bl a,.bl b=>some (.bl (!decide (a=b)))
 | _,_=>none
noncomputable def vOf:D->V
 | .int i=>.int i
 | .bl b=>.bl b
 | .str z=>.str z
 | _=>.non
theorem RepT.v {G H:Hp} {v:V} {d:D} (r:RepT G H v d) (f:qI d=true):v=vOf d:=by
 cases r <;> first | rfl | cases f
theorem Rep.v {G:Hp} {v:V} {d:D} (r:Rep G v d) (f:qI d=true):v=vOf d:=by
 cases r <;> first | rfl | cases f
theorem Zo {d:D} (f:qI d=true):jcG (vOf d)=true:=by
 cases d <;> first | rfl | cases f
noncomputable def jaM (xs:List D) (lo hi:Option Int):List D:=(xs.drop (HT.sIx xs.length 0 lo)).take (HT.sIx xs.length xs.length hi-HT.sIx xs.length 0 lo)
noncomputable def POk (t:TO) (f:L2.Env->Option (Option Int)):Prop:=∀G0 H0 G H σ ρ (Q:Option Int->Hp->Prop) b,EnvOk G0 H0 G H σ ρ->f ρ=some b->(∀G' H',Ext G H G' H'->Q b H')->t σ H Q
noncomputable def pNo:L2.Env->Option (Option Int):=fun _=>some none
noncomputable def pSo (fa:L2.Env->Option D):L2.Env->Option (Option Int):=fun ρ=>match fa ρ with
 | some (.int i)=>some (some i)
 | _=>none
theorem joE:POk jgf pNo:=fun G0 H0 G H σ ρ Q b e q k=>by cases q;exact k G H (.refl e.same)
theorem joh (h:zL ta fa):POk (jkL ta) (pSo fa):=fun G0 H0 G H σ ρ Q b e q k=>by
 unfold pSo at q
 split at q
 . rename_i i z
   cases q
   refine h _ _ _ _ _ _ _ _ e z fun v G' H' x r=>?_
   cases r
   exact ⟨_,rfl,k G' H' x⟩
 . cases q
noncomputable def eSl (fa:L2.Env->Option D) (fl fh:L2.Env->Option (Option Int)):L2.Env->Option (List D):=fun ρ=>match fa ρ,fl ρ,fh ρ with
 | some (.lst l),some lo,some hi=>some (jaM l lo hi)
 | some (.scr ns),some lo,some hi=>some (jaM (ns.map .int) lo hi)
 | _,_,_=>none
theorem joz {tl th:TO} {fl fh:L2.Env->Option (Option Int)} (h:zL ta fa) (hl:POk tl fl) (hh:POk th fh):EOkO (tSl (jln Fr.K) ta tl th) (eSl fa fl fh):=fun G0 H0 G H σ ρ Q ds e q k=>by
 unfold eSl at q
 split at q
 . rename_i l lo hi z1 z2 z3
   cases q
   refine h _ _ _ _ _ _ _ _ e z1 fun v G1 H1 x1 r=>hl _ _ _ _ _ _ _ _ (e.grow x1) z2 fun G2 H2 x2=>hh _ _ _ _ _ _ _ _ ((e.grow x1).grow x2) z3 fun G3 H3 x3=>?_
   cases r with
   | lst h r=>
     have x:=(x1.trans x2).trans x3
     have r3:=r.mono (x2.trans x3).gg
     refine ⟨_,_,rfl,.inl (h.same (x2.trans x3).hh),fun p hp=>k p _ G3 _ (x.trans (.new x3.gh hp)) (x.hh.free hp) (x3.gh.free hp) jx ?_⟩
     unfold jgU jaM
     rw [r.length]
     exact (r3.drop _).take _
 . rename_i ns lo hi z1 z2 z3
   cases q
   refine h _ _ _ _ _ _ _ _ e z1 fun v G1 H1 x1 r=>hl _ _ _ _ _ _ _ _ (e.grow x1) z2 fun G2 H2 x2=>hh _ _ _ _ _ _ _ _ ((e.grow x1).grow x2) z3 fun G3 H3 x3=>?_
   cases r with
   | scr h=>
     have x:=(x1.trans x2).trans x3
     refine ⟨_,_,rfl,(x2.trans x3).hh.seq h,fun p hp=>k p _ G3 _ (x.trans (.new x3.gh hp)) (x.hh.free hp) (x3.gh.free hp) jx ?_⟩
     unfold jgU jaM
     rw [List.length_map,List.length_map]
     exact ((Reps.of_ints ns).drop _).take _
 . cases q
noncomputable def J8 (T:String):D->Option Bool
 | .int _=>some (T == "int")
 | .bl _=>some (T == "bool" || T == "int")
 | .non=>some false
 | .str _=>some (T == "str")
 | .lst _=>some (T == "list")
 | .tup _=>some (T == "tuple")
 | .scr _=>none
 | .dic _ _=>none
noncomputable def jaO (T:String) (fa:L2.Env->Option D):L2.Env->Option D:=fun ρ=>(fa ρ).bind fun d=>(J8 T d).map .bl
noncomputable def eLZ (fs:L2.Env->Option (List D)):L2.Env->Option (List D):=fun ρ=>match fs ρ with
 | some [.lst l,.lst m]=>if zM l.length then some (jbO l m) else none
 | _=>none
theorem jol (h:jaS As fs):EOkO (ja6 Fr.K As) (eLZ fs):=fun G0 H0 G H σ ρ Q ds e q k=>by
 unfold eLZ at q
 split at q
 . rename_i l m z
   split at q
   . rename_i hz
     cases q
     refine h _ _ _ _ _ _ _ _ e z fun vs G1 H1 x1 rr=>?_
     obtain ⟨v,u,rfl,r1,r2⟩:=rr.two
     cases r1 with
     | @lst a vs l h1 r1=>
       cases r2 with
       | @lst b us m h2 r2=>
         refine ⟨a,b,vs,us,rfl,.inl h1,.inl h2,by rw [r1.length];exact ZD hz,fun c ts H' hc hts hcn hnd hlen hoth hcl htup=>?_⟩
         have G2:∃G2:Hp,G2=fun x=>if x∈ts then H' x else G1 x:=⟨_,rfl⟩
         obtain ⟨G2,eG2⟩:=G2
         have inT:∀x,x∈ts->G2 x=H' x:=fun x hx=>by rw [eG2];exact if_pos hx
         have outT:∀x,x∉ts->G2 x=G1 x:=fun x hx=>by rw [eG2];exact if_neg hx
         have sG:Same G1 G2:=fun x o w=>by rw [outT x fun z=>by have:=hts x z;rw [x1.gh x o w] at this;cases this];exact w
         have sH:Same H1 H':=fun x o w=>by
          rw [hoth x (jz w hc) fun z=>by have:=hts x z;rw [w] at this;cases this];exact w
         have x2:Ext G1 H1 G2 H':=⟨sH,sG,fun x o w=>by
          by_cases hx:x∈ts
          . rw [inT x hx] at w;exact w
          . rw [outT x hx] at w;exact sH x o (x1.gh x o w),fun x o w=>by
          by_cases hx:x∈ts
          . exact .inr (hts x hx)
          . rw [outT x hx] at w;exact .inl w⟩
         have gc:G2 c=none:=by rw [outT c hcn];exact x1.gh.free hc
         refine k c _ G2 H' (x1.trans x2) (x1.hh.free hc) gc hcl ?_
         have len:(ts.map V.ref).length=(jbO l m).length:=by
          simp [jbO,hlen,r1.length,r2.length]
         have build:∀(vs:List V) (ds:List D),vs.length=ds.length->(∀(i:Nat) v d,vs[i]?=some v->ds[i]?=some d->Rep G2 v d)->Reps G2 vs ds:=by
          intro vs
          induction vs with
          | nil=>intro ds hl _;cases ds with | nil=>exact .nil | cons _ _=>simp at hl
          | cons v vs ih=>
            intro ds hl hh
            cases ds with
            | nil=>simp at hl
            | cons d ds=>exact .cons (hh 0 v d rfl rfl) (ih ds (by simpa using hl) fun i v d h1 h2=>hh (i+1) v d (by simpa using h1) (by simpa using h2))
         refine build _ _ len fun i v d g1 g2=>?_
         rw [List.getElem?_map] at g1
         cases et:ts[i]? with
         | none=>rw [et] at g1;cases g1
         | some t=>
           rw [et] at g1
           cases g1
           unfold jbO at g2
           rw [List.getElem?_map] at g2
           cases ep:(l.zip m)[i]? with
           | none=>rw [ep] at g2;cases g2
           | some p=>
             rw [ep] at g2
             cases g2
             obtain ⟨w1,w2⟩:=List.getElem?_zip_eq_some.mp ep
             obtain ⟨v1,y1,y2⟩:=r1.get w1
             obtain ⟨v2,y3,y4⟩:=r2.get w2
             have ht:=htup i t v1 v2 et y1 y3
             exact .tup (by rw [inT t (List.mem_of_getElem? et)];exact ht) (.cons (y2.mono sG) (.cons (y4.mono sG) .nil))
   . cases q
 . cases q
end
noncomputable def eqB (x y:D):Option Bool:=if qI x=true then (if qI y=true then some (eqV (vOf x) (vOf y)) else none) else none
noncomputable def Ze (f:D->D->Option Bool):List D->List D->Option Bool
 | x::l,y::m=>(f x y).bind fun b=>(Ze f l m).map (b && ·)
 | _,_=>some true
noncomputable def ZU:Nat->D->D->Option Bool
 | n+1,.lst l,.lst m=>if l.length=m.length then Ze (ZU n) l m else some false
 | n+1,.tup l,.tup m=>(Ze (ZU n) l m).map (· && l.length == m.length)
 | _,x,y=>eqB x y
noncomputable def jcl (x y:D):Option Bool:=if qI x && qI y then (if jlg (vOf x) (vOf y) then some (decide (vOf x=vOf y)) else none) else ZU 40 x y
noncomputable def jeW:R2:=fun x y H Q=>∃G dx dy b,Same G H/\RepT G H x dx/\RepT G H y dy/\jcl dx dy=some b/\Q (.bl b) H
noncomputable def jeM:R2:=fun x y H Q=>∃G dx dy b,Same G H/\RepT G H x dx/\RepT G H y dy/\jcl dx dy=some b/\Q (.bl (!b)) H
noncomputable def dEq:D->D->Option D:=fun x y=>(jcl x y).map .bl
noncomputable def dNe:D->D->Option D:=fun x y=>(jcl x y).map fun b=>.bl (!b)
theorem joF:ROk jeW dEq:=fun G H x y dx dy d Q s rx ry q k=>by
 obtain ⟨b,q1,q2⟩:=map_some q
 subst q2
 exact ⟨G,dx,dy,b,s,rx,ry,q1,k _ G H (.refl s) (.bl _)⟩
theorem jon:ROk jeM dNe:=fun G H x y dx dy d Q s rx ry q k=>by
 obtain ⟨b,q1,q2⟩:=map_some q
 subst q2
 exact ⟨G,dx,dy,b,s,rx,ry,q1,k _ G H (.refl s) (.bl _)⟩
noncomputable def jkn:R2:=fun x y H Q=>∃l b xs zs,x=.ref l/\y=.ref b/\Rd H l (.lst xs)/\Rd H b (.lst zs)/\xs.length+zs.length<=sizeLine/\∀p,H p=none->Q (.ref p) (upd H p (.lst (xs++zs)))
noncomputable def jca:D->D->Option (List D)
 | .lst l,.lst m=>if l.length+m.length<=sizeLine then some (l++m) else none
 | _,_=>none
theorem jnA:jmL jkn jca:=fun G H x y dx dy d Q s rx ry q k=>by
 unfold jca at q
 split at q
 . split at q
   . rename_i hz
     cases q
     cases rx with
     | lst h r=>
       cases ry with
       | lst h' r'=>exact ⟨_,_,_,_,rfl,rfl,h,h',by rw [r.length,r'.length];exact hz,fun p hp=>k p _ G _ (.new s hp) hp (s.free hp) jx (r.append r')⟩
   . cases q
 . cases q
end
end L2
set_option Elab.async false
set_option linter.all false
set_option maxRecDepth 100000
set_option maxHeartbeats 1000000
namespace L2
open PySem PySem.Spec PyProof.Rows
section
variable {es:List Expr} {env:PySem.Env} {p:Pos}
end
section
variable {X:Cx}
theorem jgQ:CallR X (.builtin "len") (fun xs H Q => (∃ p ys, xs = [.ref p] ∧ (zB X.K H p ys ∨ SqT X.K H p ys) ∧ Q (.int ys.length) H) ∨ ∃ z, xs = [.str z] ∧ z.length ≤ sizeLine ∧ Q (.int z.length) H) := call_len_seq.or jc2
theorem jj2:OpR X (binaryOp .Add) jkn:=by
 intro pins s σ H x y v u Q I rx ry h
 obtain ⟨l,b,xs,zs,rfl,rfl,hH,hB,hz,q⟩:=h
 cases rx
 cases ry
 obtain ⟨z,its,n,r,e⟩:=hH.ok I.hok
 obtain ⟨z2,its2,n2,r2,e2⟩:=hB.ok I.hok
 have hl:=r.length
 have hl2:=r2.length
 refine PySem.P.add_list e e2 ?_ (by rw [List.size_toArray,List.size_toArray];omega)
 have ea:its.toArray++its2.toArray=(its++its2).toArray:=by simp
 rw [ea]
 exact ⟨.ref _,_,I.lnew (t':=s.toks) (r.append r2) (by rw [List.length_append];omega),rfl,q _ I.fresh⟩
theorem jgw (hc:X.calm=true):CallR X (.builtin "min") (fun xs H Q => ∃ i j k, xs = [.int i, .int j, .int k] ∧ Q (.int (jbw i j k)) H) := by
 intro pins s σ H xs us Q I r h
 obtain ⟨i,j,k,rfl,q⟩:=h
 cases r with
 | cons r1 r=>
   cases r with
   | cons r2 r=>
     cases r with
     | cons r3 r=>
       cases r
       obtain ⟨t1,rfl⟩:=r1
       obtain ⟨t2,rfl⟩:=r2
       obtain ⟨t3,rfl⟩:=r3
       refine min_three_ints (I.ok.hd hc) fun h' tk kk=>⟨_,H,I.kept kk,?_,q⟩
       unfold jbw
       by_cases h1:j<i
       . rw [if_pos h1,if_pos h1]
         by_cases h2:k<j
         . rw [if_pos h2,if_pos h2];exact ⟨_,rfl⟩
         . rw [if_neg h2,if_neg h2];exact ⟨_,rfl⟩
       . rw [if_neg h1,if_neg h1]
         by_cases h2:k<i
         . rw [if_pos h2,if_pos h2];exact ⟨_,rfl⟩
         . rw [if_neg h2,if_neg h2];exact ⟨_,rfl⟩
end
noncomputable def jfk (k:Int):List Int->List Int
 | []=>[k]
 | x::l=>if k<=x then k::x::l else x::jfk k l
noncomputable def JX (l:List Int):List Int:=l.foldr jfk []
theorem jad (k:Int):∀l:List Int,(jfk k l).Perm (k::l)
 | []=>.refl _
 | x::l=>by
   unfold jfk
   split
   . exact .refl _
   . exact ((jad k l).cons x).trans (.swap k x l)
theorem JL:∀l:List Int,(JX l).Perm l
 | []=>.refl _
 | x::l=>(jad x (JX l)).trans ((JL l).cons x)
theorem jaA {k:Int}:∀{l:List Int},l.Pairwise (· <= ·)->(jfk k l).Pairwise (· <= ·)
 | [],_=>by simp [jfk]
 | x::l,h=>by
   have h':=List.pairwise_cons.mp h
   unfold jfk
   split
   . rename_i hk
     refine List.pairwise_cons.mpr ⟨fun y hy=>?_,h⟩
     rcases List.mem_cons.mp hy with rfl | hy
     . exact hk
     . exact Int.le_trans hk (h'.1 y hy)
   . rename_i hk
     refine List.pairwise_cons.mpr ⟨fun y hy=>?_,jaA h'.2⟩
     rcases List.mem_cons.mp ((jad k l).mem_iff.mp hy) with rfl | hy
     . omega
     . exact h'.1 y hy
theorem zG:∀l:List Int,(JX l).Pairwise (· <= ·)
 | []=>by simp [JX]
 | x::l=>jaA (zG l)
theorem jbr:∀{l m:List Int},l.Pairwise (· <= ·)->m.Pairwise (· <= ·)->l.Perm m->l=m
 | [],m,_,_,h=>(List.nil_perm.mp h).symm ▸ rfl
 | x::l,[],_,_,h=>absurd h.length_eq (by simp)
 | x::l,y::m,h1,h2,h=>by
   have p1:=List.pairwise_cons.mp h1
   have p2:=List.pairwise_cons.mp h2
   have e:x=y:=by
     rcases List.mem_cons.mp (h.mem_iff.mp List.mem_cons_self) with z | z
     . exact z
     . rcases List.mem_cons.mp (h.mem_iff.mpr List.mem_cons_self) with z' | z'
       . exact z'.symm
       . have:=p2.1 x z;have:=p1.1 y z';omega
   subst e
   rw [jbr p1.2 p2.2 ((List.perm_cons x).mp h)]
theorem jjW {l m:List Int} (h:m.Perm l) (hs:m.Pairwise (· <= ·)):m=JX l:=jbr hs (zG l) (h.trans (JL l).symm)
section
variable {X:Cx}
theorem jeC (hc:X.calm=true):CallR X (.builtin "sorted") (fun xs H Q => ∃ (p : Addr) (ns : List Int), xs = [.ref p] ∧ zB X.K H p (ns.map V.int) ∧ ns.length < 64 ∧ ∀ l, H l = none → Q (.ref l) (upd H l (.lst ((JX ns).map V.int)))) := by
 intro pins s σ H xs us Q I r h
 obtain ⟨p,ns,rfl,hq,hl,q⟩:=h
 obtain ⟨u,rfl,rx⟩:=Vals.one r
 cases rx
 obtain ⟨its,rv,pl,hz⟩:=I.list hq
 have hi:IntsAre its ns:=Za rv
 have hlen:its.length=ns.length:=by have:=rv.length;rw [List.length_map] at this;exact this.symm
 refine sorted_ints pl.isList hi (by omega) fun out ks q1 q2 q3=>?_
 have ek:ks=JX ns:=jjW q2 q3
 subst ek
 have hn:H (s.heap.objs.size+1)=none:=I.hok.fresh (Nat.le_succ _)
 obtain ⟨e,he⟩:=sortedAll_at s.heap its out
 refine ⟨.ref (s.heap.objs.size+1),upd H (s.heap.objs.size+1) (.lst ((JX ns).map V.int)),?_,rfl,q _ hn⟩
 refine I.laid (t':=s.toks) (fun b o e=>sortedAll_old e) (Nat.le_succ _) ⟨?_,out.toList,e,QD q1,by simpa using he⟩
 have:=(JL ns).length_eq
 rw [List.length_map]
 exact Nat.le_trans (by omega:(JX ns).length<=64) (by decide)
end
section
variable [Fr]
noncomputable def jd1:List D->Option (List D)
 | [.lst l]=>(Qr l).bind fun ns=>if ns.length<64 then some ((JX ns).map .int) else none
 | _=>none
theorem jlt:jf9 (fun xs H Q=>∃(p:Addr) (ns:List Int),xs=[.ref p]/\zB Fr.K H p (ns.map V.int)/\ns.length<64/\∀l,H l=none->Q (.ref l) (upd H l (.lst ((JX ns).map V.int)))) jd1:=fun G H xs ds es Q s rr q k=>by
 unfold jd1 at q
 split at q
 . obtain ⟨ns,q1,q2⟩:=bind_some q
   split at q2
   . rename_i hz
     cases q2
     obtain ⟨v,rfl,r⟩:=rr.one
     cases r with
     | lst h r=>
       rw [Jh q1] at r
       rw [r.ints] at h
       exact ⟨_,ns,rfl,.inl h,hz,fun l hl=>k l _ G _ (.new s hl) hl (s.free hl) jx (Reps.of_ints _)⟩
   . cases q2
 . cases q
noncomputable def jdO (fs:L2.Env->Option (List D)):L2.Env->Option (List D):=fun ρ=>match fs ρ with
 | some [.lst l]=>(Qr l).bind fun ns=>if ns.length<64 then some ((srt ns).map .int) else none
 | _=>none
theorem jlY {X:Cx} {As:TA} {fs:L2.Env->Option (List D)} (ha:jaS As fs):EOkO (tCB (fun xs H Q=>∃(a:Addr) (ns:List Int),xs=[.ref a]/\H a=some (jcV X a ns)/\ns.length<64 /\
 ∀(l:Addr) (ks:List Int),H l=none->ks.Pairwise (· < ·)->(∀k,k∈ks ↔ k∈ns)->ks.length<=ns.length->Q (.ref l) (upd H l (.lst (ks.map V.int))))
 (jbq (tCB (fun xs H Q=>∃(p:Addr) (ns:List Int),xs=[.ref p]/\zB Fr.K H p (ns.map V.int)/\ns.length<64/\∀a,H a=none->Q (.ref a) (upd H a (jcV X a ns))) As) jg9)) (jdO fs):=fun G0 H0 G H σ ρ Q es e q k=>by
 unfold jdO at q
 split at q
 . rename_i l z
   obtain ⟨ns,q1,q2⟩:=bind_some q
   split at q2
   . rename_i hz
     cases q2
     refine ha _ _ _ _ _ _ _ _ e z fun vs G1 H1 x1 rr=>?_
     obtain ⟨v,rfl,r⟩:=rr.one
     cases r with
     | lst h r=>
       rw [Jh q1] at r
       rw [r.ints] at h
       refine ⟨_,ns,rfl,.inl h,hz,fun a ha'=>?_⟩
       have x2:Ext G1 H1 G1 (upd H1 a (jcV X a ns)):=.new x1.gh ha'
       refine ⟨a,ns,rfl,jx,hz,fun l ks hl hp hm hn=>?_⟩
       have ek:ks=srt ns:=Q5 hp Qa fun j=>by rw [hm j,jaZ]
       subst ek
       exact k l _ G1 _ ((x1.trans x2).trans (.new x2.gh hl)) ((x1.trans x2).hh.free hl) (x2.gh.free hl) jx (Reps.of_ints _)
   . cases q2
 . cases q
noncomputable def okT (T:String):Bool:=T == "int" || T == "bool" || T == "str" || T == "list" || T == "tuple"
theorem jj9 {G H:Hp} {x:V} {d:D} {T:String} {b:Bool} (r:RepT G H x d) (q:J8 T d=some b) (hT:okT T=true):IsT Fr.K H x T b:=by
 have hT':T = "int" ∨ T = "bool" ∨ T = "str" ∨ T = "list" ∨ T = "tuple" := by
  simpa [okT,or_assoc] using hT
 cases r with
 | int i=>rcases hT' with rfl | rfl | rfl | rfl | rfl <;> (simp [J8] at q;subst q;exact ⟨_,.int i,by rfl⟩)
 | bl i=>rcases hT' with rfl | rfl | rfl | rfl | rfl <;> (simp [J8] at q;subst q;exact ⟨_,.bl i,by rfl⟩)
 | non=>rcases hT' with rfl | rfl | rfl | rfl | rfl <;> (simp [J8] at q;subst q;exact ⟨_,.non,by rfl⟩)
 | str i=>rcases hT' with rfl | rfl | rfl | rfl | rfl <;> (simp [J8] at q;subst q;exact ⟨_,.str i,by rfl⟩)
 | lst h r=>
   rcases h with h | ⟨o,h⟩
   . rcases hT' with rfl | rfl | rfl | rfl | rfl <;> (simp [J8] at q;subst q;exact ⟨_,.lst h,by rfl⟩)
   . rcases hT' with rfl | rfl | rfl | rfl | rfl <;> (simp [J8] at q;subst q;exact ⟨_,.frz h,by rfl⟩)
 | tup h r=>rcases hT' with rfl | rfl | rfl | rfl | rfl <;> (simp [J8] at q;subst q;exact ⟨_,.tup h,by rfl⟩)
 | scr h=>cases q
 | dic h hl r=>cases q
theorem jnF {T:String} {ta:TE} {fa:L2.Env->Option D} (ha:zL ta fa) (hT:okT T=true):EOk (tCB (fun xs H Q=>∃x T b,xs=[x,.ty T]/\IsT Fr.K H x T b/\Q (.bl b) H) (jbq ta (jbq (tC (.ty T)) jg9))) (jaO T fa):=fun G0 H0 G H σ ρ Q d e q k=>by
 obtain ⟨dx,q1,q2⟩:=bind_some q
 obtain ⟨b,q4,q3⟩:=map_some q2
 subst q3
 exact ha _ _ _ _ _ _ _ _ e q1 fun v G' H' x r=>⟨v,T,b,rfl,jj9 r q4 hT,k _ G' H' x (.bl _)⟩
end
section
variable [Fr]
theorem jdn {v:V} (f:jcG v=true):eqV v v=true:=by
 cases v <;> first | rfl | exact absurd f Bool.false_ne_true | simp [eqV]
theorem Qh {x y:D} {b:Bool} (h:eqB x y=some b):qI x=true/\qI y=true/\b=eqV (vOf x) (vOf y):=by
 unfold eqB at h
 by_cases f1:qI x=true
 . by_cases f2:qI y=true
   . rw [if_pos f1,if_pos f2] at h
     exact ⟨f1,f2,(Option.some.inj h).symm⟩
   . rw [if_pos f1,if_neg f2] at h
     exact qo h
 . rw [if_neg f1] at h
   exact qo h
theorem jaU {n:Nat} {dx dy:D} {b:Bool} (h:ZU (n+1) dx dy=some b):(∃l m,dx=.lst l/\dy=.lst m/\(if l.length=m.length then Ze (ZU n) l m else some false)=some b)\/(∃l m,dx=.tup l/\dy=.tup m/\(Ze (ZU n) l m).map (· && l.length == m.length)=some b)\/eqB dx dy=some b:=by
 cases dx with
 | lst l=>
   cases dy with
   | lst m=>exact .inl ⟨l,m,rfl,rfl,h⟩
   | _=>exact qo h
 | tup l=>
   cases dy with
   | tup m=>exact .inr (.inl ⟨l,m,rfl,rfl,h⟩)
   | _=>exact qo h
 | _=>exact .inr (.inr h)
theorem Qe {f:D->D->Option Bool}:∀{l m:List D} {b:Bool},Ze f l m=some b->∃e:Nat->Bool,(∀(j:Nat) x y,l[j]?=some x->m[j]?=some y->f x y=some (e j))/\(List.range (min l.length m.length)).all e=b
 | [],m,b,h=>⟨fun _=>true,fun j x y h1 _=>by simp at h1,by cases h;simp⟩
 | x::l,[],b,h=>⟨fun _=>true,fun j x y _ h2=>by simp at h2,by cases h;simp⟩
 | x::l,y::m,b,h=>by
   obtain ⟨c,h1,h2⟩:=bind_some h
   obtain ⟨c',h3,h4⟩:=map_some h2
   obtain ⟨e,he,hb⟩:=Qe h3
   refine ⟨fun j=>match j with | 0=>c | j+1=>e j,fun j u v g1 g2=>?_,?_⟩
   . cases j with
     | zero=>simp at g1 g2;subst g1 g2;exact h1
     | succ j=>exact he j u v (by simpa using g1) (by simpa using g2)
   . rw [<-h4,<- hb]
     simp only [List.length_cons,Nat.add_min_add_right,List.range_succ_eq_map,List.all_cons,List.all_map]
     rfl
end
section
variable {X:Cx} {pins:List (Addr×Obj)} {σ:St} {H G:Hp} {s:Shared}
theorem jgo [Fr] (hK:Fr.K=X.K) (I:Inv X pins σ H s) (sg:Same G H):∀(n:Nat) {v:V} {dx dy:D} {b:Bool},Rep G v dx->Rep G v dy->ZU n dx dy=some b->b=true:=by
 intro n
 induction n with
 | zero=>
   intro v dx dy b rx ry h
   obtain ⟨f1,f2,rfl⟩:=Qh (show eqB dx dy=some b from h)
   rw [<-rx.v f1,<- ry.v f2]
   exact jdn (by rw [rx.v f1];exact Zo f1)
 | succ n ih=>
   have zz:∀{vs:List V} {l m:List D} {b:Bool},Reps G vs l->Reps G vs m->Ze (ZU n) l m=some b->b=true:=by
    intro vs
    induction vs with
    | nil=>intro l m b r1 r2 h;cases r1;cases r2;cases h;rfl
    | cons v vs ihv=>
      intro l m b r1 r2 h
      cases r1 with
      | cons a1 t1=>
        cases r2 with
        | cons a2 t2=>
          obtain ⟨c,h1,h2⟩:=bind_some h
          obtain ⟨c',h3,h4⟩:=map_some h2
          rw [ih a1 a2 h1,ihv t1 t2 h3] at h4
          exact h4.symm
   intro v dx dy b rx ry h
   rcases jaU h with ⟨l,m,rfl,rfl,q⟩ | ⟨l,m,rfl,rfl,q⟩ | q
   . cases rx with
     | lst h1 r1=>
       cases ry with
       | lst h2 r2=>
         have e:=I.list_inj (.inl (h1.same sg)) (.inl (h2.same sg))
         subst e
         rw [if_pos (show l.length=m.length by rw [<-r1.length,<- r2.length])] at q
         exact zz r1 r2 q
   . cases rx with
     | tup h1 r1=>
       cases ry with
       | tup h2 r2=>
         rw [h1] at h2
         cases h2
         have hl:l.length=m.length:=by rw [<-r1.length,<- r2.length]
         obtain ⟨c,h3,h4⟩:=map_some q
         rw [zz r1 r2 h3,hl] at h4
         simpa using h4.symm
   . obtain ⟨f1,f2,rfl⟩:=Qh q
     rw [<-rx.v f1,<- ry.v f2]
     exact jdn (by rw [rx.v f1];exact Zo f1)
theorem jgn [Fr] {x y:V} {dx dy:D} {b:Bool} {u v:Value} {A:Around} (rx:Rep G x dx) (ry:Rep G y dy) (h:eqB dx dy=some b) (ru:RelV x u) (rv:RelV y v):SeqAt.EqAt A s u v b:=by
 obtain ⟨f1,f2,rfl⟩:=Qh h
 rw [<-rx.v f1,<- ry.v f2]
 exact jhZ ru rv (by rw [rx.v f1];exact Zo f1) (by rw [ry.v f2];exact Zo f2)
theorem Zt [Fr] {vs us:List V} {l m:List D} {i1 i2:List Value} {e:Nat->Bool} {A:Around} {n:Nat} (r1:Reps G vs l) (r2:Reps G us m) (v1:Vals vs i1) (v2:Vals us i2)
 (he:∀(j:Nat) x y,l[j]?=some x->m[j]?=some y->ZU n x y=some (e j))
 (ih:∀{x y:V} {dx dy:D} {b:Bool} {u v:Value},Rep G x dx->Rep G y dy->ZU n dx dy=some b->RelV x u->RelV y v->SeqAt.EqAt A s u v b) :
 ∀j (h1:j<i1.toArray.size) (h2:j<i2.toArray.size),SeqAt.EqAt A s i1.toArray[j] i2.toArray[j] (e j):=fun j h1 h2=>by
 have l1:=v1.length
 have l2:=v2.length
 have hj1:j<vs.length:=by simp at h1;omega
 have hj2:j<us.length:=by simp at h2;omega
 obtain ⟨u1,g1,g2⟩:=v1.get (List.getElem?_eq_getElem hj1)
 obtain ⟨u2,g3,g4⟩:=v2.get (List.getElem?_eq_getElem hj2)
 obtain ⟨d1,k1,k2⟩:=r1.getV (List.getElem?_eq_getElem hj1)
 obtain ⟨d2,k3,k4⟩:=r2.getV (List.getElem?_eq_getElem hj2)
 have e1:i1.toArray[j]=u1:=by
  have:=List.getElem?_eq_some_iff.mp g1
  simpa using this.2
 have e2:i2.toArray[j]=u2:=by
  have:=List.getElem?_eq_some_iff.mp g3
  simpa using this.2
 rw [e1,e2]
 exact ih k2 k4 (he j _ _ k1 k3) g2 g4
theorem jeb [Fr] (hK:Fr.K=X.K) (I:Inv X pins σ H s) {a c:Addr} {vs us:List V} {l m:List D} {b:Bool} {n:Nat} {A:Around} (h1:Rd H a (.lst vs)) (h2:Rd H c (.lst us)) (r1:Reps G vs l) (r2:Reps G us m) (h:(if l.length=m.length then Ze (ZU n) l m else some false)=some b) (hu:A.units<cLine)
 (ih:∀{x y:V} {dx dy:D} {b:Bool} {u v:Value},Rep G x dx->Rep G y dy->ZU n dx dy=some b->RelV x u->RelV y v->SeqAt.EqAt A.in1 s u v b):SeqAt.RcAt A s (.ref a) (.ref c) b:=by
 obtain ⟨i1,v1,p1,_⟩:=I.list (.inl h1)
 obtain ⟨i2,v2,p2,_⟩:=I.list (.inl h2)
 have l1:=v1.length
 have l2:=v2.length
 have k1:=r1.length
 have k2:=r2.length
 split at h
 . rename_i hl
   obtain ⟨e,he,hb⟩:=Qe h
   have hb':(List.range i1.toArray.size).all e=b:=by
    rw [<-hb,<- hl,Nat.min_self,List.size_toArray,<- l1,k1]
   rw [<-hb']
   exact SeqAt.RcAt.lists p1.isList p2.isList (by simp;omega) hu (Zt r1 r2 v1 v2 he ih)
 . rename_i hl
   cases h
   exact SeqAt.RcAt.lists_lengths p1.isList p2.isList (by simp;omega) hu
theorem jfL [Fr] (hK:Fr.K=X.K) (I:Inv X pins σ H s) {a c:Addr} {vs us:List V} {l m:List D} {b:Bool} {n:Nat} {A:Around} (h1:H a=some (.tup vs)) (h2:H c=some (.tup us)) (r1:Reps G vs l) (r2:Reps G us m) (h:(Ze (ZU n) l m).map (· && l.length == m.length)=some b) (hu:A.units<cLine)
 (ih:∀{x y:V} {dx dy:D} {b:Bool} {u v:Value},Rep G x dx->Rep G y dy->ZU n dx dy=some b->RelV x u->RelV y v->SeqAt.EqAt A.in1 s u v b):SeqAt.RcAt A s (.ref a) (.ref c) b:=by
 obtain ⟨i1,v1,p1,_⟩:=I.tuple (SqT.of h1)
 obtain ⟨i2,v2,p2,_⟩:=I.tuple (SqT.of h2)
 have l1:=v1.length
 have l2:=v2.length
 have k1:=r1.length
 have k2:=r2.length
 obtain ⟨c,h3,h4⟩:=map_some h
 obtain ⟨e,he,hb⟩:=Qe h3
 have q1:i1.toArray.size=l.length:=by simp;omega
 have q2:i2.toArray.size=m.length:=by simp;omega
 have hb':((List.range (min i1.toArray.size i2.toArray.size)).all e && i1.toArray.size == i2.toArray.size)=b:=by
  rw [q1,q2,hb];exact h4
 rw [<-hb']
 exact SeqAt.RcAt.tuples (show s.heap.IsTuple a i1.toArray from p1) (show s.heap.IsTuple _ i2.toArray from p2) hu (Zt r1 r2 v1 v2 he ih)
theorem jkP [Fr] (hK:Fr.K=X.K) (I:Inv X pins σ H s) (sg:Same G H):∀(n:Nat) {x y:V} {dx dy:D} {b:Bool} {u v:Value} {A:Around},Rep G x dx->Rep G y dy->ZU n dx dy=some b->RelV x u->RelV y v->A.units+n<cLine->SeqAt.EqAt A s u v b:=by
 intro n
 induction n with
 | zero=>
   intro x y dx dy b u v A rx ry h ru rv _
   exact jgn rx ry (show eqB dx dy=some b from h) ru rv
 | succ n ih=>
   intro x y dx dy b u v A rx ry h ru rv hu
   have hu1:A.units<cLine:=by omega
   have ih':∀{x y:V} {dx dy:D} {b:Bool} {u v:Value},Rep G x dx->Rep G y dy->ZU n dx dy=some b->RelV x u->RelV y v->SeqAt.EqAt A.in1 s u v b:=fun r1 r2 h ru rv=>ih r1 r2 h ru rv (by show A.units+1+n<cLine;omega)
   rcases jaU h with ⟨l,m,rfl,rfl,q⟩ | ⟨l,m,rfl,rfl,q⟩ | q
   . cases rx with
     | @lst a vs _ h1 r1=>
       cases ry with
       | @lst c us _ h2 r2=>
         cases ru;cases rv
         by_cases hac:a=c
         . subst hac
           rw [jgo hK I sg (n+1) (.lst h1 r1) (.lst h2 r2) h]
           exact SeqAt.EqAt.same _
         . exact SeqAt.EqAt.of_refs hac (jeb hK I (h1.same sg) (h2.same sg) r1 r2 q hu1 ih')
   . cases rx with
     | @tup a vs _ h1 r1=>
       cases ry with
       | @tup c us _ h2 r2=>
         cases ru;cases rv
         by_cases hac:a=c
         . subst hac
           rw [jgo hK I sg (n+1) (.tup h1 r1) (.tup h2 r2) h]
           exact SeqAt.EqAt.same _
         . exact SeqAt.EqAt.of_refs hac (jfL hK I (sg _ _ h1) (sg _ _ h2) r1 r2 q hu1 ih')
   . exact jgn rx ry q ru rv
end
section
variable {X:Cx}
theorem jlq [Fr] (hK:Fr.K=X.K) {pins:List (Addr×Obj)} {σ:St} {H G:Hp} {s:Shared} (hu:X.A.units+64<cLine) (I:Inv X pins σ H s) (sg:Same G H) {x y:V} {dx dy:D} {b:Bool} {u v:Value} (rx:RepT G H x dx) (ry:RepT G H y dy) (h:ZU 40 dx dy=some b)
 (hf:(qI dx && qI dy)=false) (ru:RelV x u) (rv:RelV y v):SeqAt.RcAt X.A s u v b:=by
 have ih:∀{x y:V} {dx dy:D} {b:Bool} {u v:Value},Rep G x dx->Rep G y dy->ZU 39 dx dy=some b->RelV x u->RelV y v->SeqAt.EqAt X.A.in1 s u v b:=fun r1 r2 h ru rv=>jkP hK I sg 39 r1 r2 h ru rv (by show X.A.units+1+39<cLine;omega)
 rcases jaU (n:=39) h with ⟨l,m,rfl,rfl,q⟩ | ⟨l,m,rfl,rfl,q⟩ | q
 . cases rx with
   | lst h1 r1=>
     cases ry with
     | lst h2 r2=>cases ru;cases rv;exact jeb hK I h1 h2 r1 r2 q (by omega) ih
 . cases rx with
   | tup h1 r1=>
     cases ry with
     | tup h2 r2=>cases ru;cases rv;exact jfL hK I h1 h2 r1 r2 q (by omega) ih
 . obtain ⟨f1,f2,_⟩:=Qh q
   rw [f1,f2] at hf
   exact absurd hf Bool.noConfusion
theorem jhk [Fr] (hK:Fr.K=X.K) (I:Inv X pins σ H s) {a c:Addr} {vs us:List V} {l m:List D} {b:Bool} {n:Nat} {A:Around} (h1:Rd H a (.lst vs)) (h2:Rd H c (.lst us)) (r1:Reps G vs l) (r2:Reps G us m) (h:(if l.length=m.length then Ze (ZU n) l m else some false)=some b) (hu:A.units<cLine)
 (ih:∀{x y:V} {dx dy:D} {b:Bool} {u v:Value},Rep G x dx->Rep G y dy->ZU n dx dy=some b->RelV x u->RelV y v->SeqAt.EqAt A.in1 s u v b):SeqAt.RcNeAt A s (.ref a) (.ref c) (!b):=by
 obtain ⟨i1,v1,p1,_⟩:=I.list (.inl h1)
 obtain ⟨i2,v2,p2,_⟩:=I.list (.inl h2)
 have l1:=v1.length
 have l2:=v2.length
 have k1:=r1.length
 have k2:=r2.length
 split at h
 . rename_i hl
   obtain ⟨e,he,hb⟩:=Qe h
   have hb':(List.range i1.toArray.size).all e=b:=by
    rw [<-hb,<- hl,Nat.min_self,List.size_toArray,<- l1,k1]
   rw [<-hb']
   exact SeqAt.RcNeAt.lists p1.isList p2.isList (by simp;omega) hu (Zt r1 r2 v1 v2 he ih)
 . rename_i hl
   cases h
   exact SeqAt.RcNeAt.lists_lengths p1.isList p2.isList (by simp;omega) hu
theorem jh3 [Fr] (hK:Fr.K=X.K) (I:Inv X pins σ H s) {a c:Addr} {vs us:List V} {l m:List D} {b:Bool} {n:Nat} {A:Around} (h1:H a=some (.tup vs)) (h2:H c=some (.tup us)) (r1:Reps G vs l) (r2:Reps G us m) (h:(Ze (ZU n) l m).map (· && l.length == m.length)=some b) (hu:A.units<cLine)
 (ih:∀{x y:V} {dx dy:D} {b:Bool} {u v:Value},Rep G x dx->Rep G y dy->ZU n dx dy=some b->RelV x u->RelV y v->SeqAt.EqAt A.in1 s u v b):SeqAt.RcNeAt A s (.ref a) (.ref c) (!b):=by
 obtain ⟨i1,v1,p1,_⟩:=I.tuple (SqT.of h1)
 obtain ⟨i2,v2,p2,_⟩:=I.tuple (SqT.of h2)
 have l1:=v1.length
 have l2:=v2.length
 have k1:=r1.length
 have k2:=r2.length
 obtain ⟨c,h3,h4⟩:=map_some h
 obtain ⟨e,he,hb⟩:=Qe h3
 have q1:i1.toArray.size=l.length:=by simp;omega
 have q2:i2.toArray.size=m.length:=by simp;omega
 have hb':((List.range (min i1.toArray.size i2.toArray.size)).all e && i1.toArray.size == i2.toArray.size)=b:=by
  rw [q1,q2,hb];exact h4
 rw [<-hb']
 exact SeqAt.RcNeAt.tuples (show s.heap.IsTuple a i1.toArray from p1) (show s.heap.IsTuple _ i2.toArray from p2) hu (Zt r1 r2 v1 v2 he ih)
theorem jju [Fr] (hK:Fr.K=X.K) {pins:List (Addr×Obj)} {σ:St} {H G:Hp} {s:Shared} (hu:X.A.units+64<cLine) (I:Inv X pins σ H s) (sg:Same G H) {x y:V} {dx dy:D} {b:Bool} {u v:Value} (rx:RepT G H x dx) (ry:RepT G H y dy) (h:ZU 40 dx dy=some b)
 (hf:(qI dx && qI dy)=false) (ru:RelV x u) (rv:RelV y v):SeqAt.RcNeAt X.A s u v (!b):=by
 have ih:∀{x y:V} {dx dy:D} {b:Bool} {u v:Value},Rep G x dx->Rep G y dy->ZU 39 dx dy=some b->RelV x u->RelV y v->SeqAt.EqAt X.A.in1 s u v b:=fun r1 r2 h ru rv=>jkP hK I sg 39 r1 r2 h ru rv (by show X.A.units+1+39<cLine;omega)
 rcases jaU (n:=39) h with ⟨l,m,rfl,rfl,q⟩ | ⟨l,m,rfl,rfl,q⟩ | q
 . cases rx with
   | lst h1 r1=>
     cases ry with
     | lst h2 r2=>cases ru;cases rv;exact jhk hK I h1 h2 r1 r2 q (by omega) ih
 . cases rx with
   | tup h1 r1=>
     cases ry with
     | tup h2 r2=>cases ru;cases rv;exact jh3 hK I h1 h2 r1 r2 q (by omega) ih
 . obtain ⟨f1,f2,_⟩:=Qh q
   rw [f1,f2] at hf
   exact absurd hf Bool.noConfusion
theorem jh5 (hu:X.A.units+64<cLine):OpR X (compareOp .Eq) (@jeW ⟨X.K⟩):=by
 intro pins s σ H x y v u Q I rx ry h
 obtain ⟨G,dx,dy,b,sg,r1,r2,he,q⟩:=h
 unfold jcl at he
 split at he
 . rename_i hf
   simp only [Bool.and_eq_true] at hf
   split at he
   . rename_i hs
     cases he
     have e1:=@RepT.v ⟨X.K⟩ _ _ _ _ r1 hf.1
     have e2:=@RepT.v ⟨X.K⟩ _ _ _ _ r2 hf.2
     rw [<-e1,<- e2] at q hs
     exact jmW pins s σ H x y v u Q I rx ry ⟨hs,q⟩
   . cases he
 . rename_i hf
   exact @jlq X ⟨X.K⟩ rfl _ _ _ _ _ hu I sg _ _ _ _ _ _ _ r1 r2 he (by simpa using hf) rx ry X.prog X.w _ _ ⟨.bl b,H,I,rfl,q⟩
theorem jiE (hu:X.A.units+64<cLine):OpR X (compareOp .NotEq) (@jeM ⟨X.K⟩):=by
 intro pins s σ H x y v u Q I rx ry h
 obtain ⟨G,dx,dy,b,sg,r1,r2,he,q⟩:=h
 unfold jcl at he
 split at he
 . rename_i hf
   simp only [Bool.and_eq_true] at hf
   split at he
   . rename_i hs
     cases he
     have e1:=@RepT.v ⟨X.K⟩ _ _ _ _ r1 hf.1
     have e2:=@RepT.v ⟨X.K⟩ _ _ _ _ r2 hf.2
     rw [<-e1,<- e2] at q hs
     exact jnp pins s σ H x y v u Q I rx ry ⟨hs,q⟩
   . cases he
 . rename_i hf
   exact @jju X ⟨X.K⟩ rfl _ _ _ _ _ hu I sg _ _ _ _ _ _ _ r1 r2 he (by simpa using hf) rx ry X.prog X.w _ _ ⟨.bl (!b),H,I,rfl,q⟩
end
noncomputable def LcOk (sc:Scope) (N:List Str) (scope:Scope) (F:List Str) (ix:List Nat):Prop:=
 scope.kind=.function/\(∀x∈scope.names,x.2=.local->scope.names.lookup x.1=some .local)/\(∀y∈scope.names,y.2=.cell->scope.names.lookup y.1=some .cell) /\
 (∀y∈scope.names,y.2=.free->sc.names.lookup y.1=some .cell\/sc.names.lookup y.1=some .free)/\ix.length=F.length /\
 (∀p∈F.zip ix,N[p.2]?=some p.1/\(sc.names.lookup p.1=some .cell\/sc.names.lookup p.1=some .free)/\scope.names.lookup p.1=some .free)
noncomputable instance (sc:Scope) (N:List Str) (scope:Scope) (F:List Str) (ix:List Nat):Decidable (LcOk sc N scope F ix):=by unfold LcOk;infer_instance
section
variable {X:Cx} {tg iter elt:Expr} {ifs:List Expr} {scope:Scope} {pos:Pos} {wi:TI} {g:TG} {tt:TT} {te:TE} {Lc F N:List Str} {ix:List Nat} {sc:Scope}
theorem LcOk.free (ok:LcOk sc N scope F ix) (hsc:X.env.scope=sc):∀n,(n,NameKind.free)∈scope.names->X.env.scope.names.lookup n=some .cell\/X.env.scope.names.lookup n=some .free:=fun n hn=>by
 rw [hsc];exact ok.2.2.2.1 (n,.free) hn rfl
theorem LcOk.capt (ok:LcOk sc N scope F ix) (hsc:X.env.scope=sc) (hN:X.N=N):∀(j:Nat) (x:Str) (k:Nat),F[j]?=some x->ix[j]?=some k->X.N[k]?=some x/\(X.env.scope.names.lookup x=some .cell\/X.env.scope.names.lookup x=some .free)/\scope.names.lookup x=some .free:=fun j x k h1 h2=>by
 rw [hsc,hN]
 exact ok.2.2.2.2.2 (x,k) (List.mem_of_getElem? (i:=j) (List.getElem?_zip_eq_some.mpr ⟨h1,h2⟩))
theorem jl1 (hsc:X.env.scope=sc) (hN:X.N=N) (hc:X.calm=true) (ok:LcOk sc N scope F ix)
 (hi:PI X tg iter wi) (hg:∀C s H fp,PG (X.blk (Lc++F) scope C s H fp) tg g) (hloc:jeK Lc.length g) (ht:∀C s H fp,PTs (X.blk (Lc++F) scope C s H fp) ifs tt) (he:∀C s H fp,PE (X.blk (Lc++F) scope C s H fp) elt te)
 (hs:autoParam (∀x,foldedSetIterable iter X.env x=pure x) QA.a3._auto_1):PE X (.ListComp elt [⟨tg,iter,ifs,0⟩] scope pos) (tLC wi g tt te Lc.length ix):=
 jnM hc ok.1 ok.2.1 ok.2.2.1 (ok.free hsc) ok.2.2.2.2.1 (ok.capt hsc hN) hi hg hloc ht he hs
theorem je9 {i:Nat} {y:Str} {py spos:Pos} (hNd:X.N.Nodup) (hy:X.N[i]?=some y) (hyl:X.env.scope.names.lookup y=some .local) (hsc:X.env.scope=sc) (hN:X.N=N) (hc:X.calm=true) (ok:LcOk sc N scope F ix)
 (hi:PI X tg iter wi) (hg:∀C s H fp,PG (X.blk (Lc++F) scope C s H fp) tg g) (hloc:jeK Lc.length g) (ht:∀C s H fp,PTs (X.blk (Lc++F) scope C s H fp) ifs tt) (he:∀C s H fp,PE (X.blk (Lc++F) scope C s H fp) elt te)
 (hsw:swapsWith (.ListComp elt [⟨tg,iter,ifs,0⟩] scope pos) (some (.Name y py)) spos.line X.env=pure true)
 (hs:autoParam (∀x,foldedSetIterable iter X.env x=pure x) QA.a3._auto_1):PS X (.Assign [.Name y py] (.ListComp elt [⟨tg,iter,ifs,0⟩] scope pos) spos) (jc3 (tLC wi g tt te Lc.length ix) (ZI i)):=
 jhi hNd hy hyl hc ok.1 ok.2.1 ok.2.2.1 (ok.free hsc) ok.2.2.2.2.1 (ok.capt hsc hN) hi hg hloc ht he hsw hs
end
end L2
set_option Elab.async false
set_option linter.all false
set_option maxRecDepth 100000
set_option maxHeartbeats 1000000
namespace L2
open PySem PySem.Spec PyProof.Rows
section
variable {i j:Int} {F F':FS} {ρ ρ':L2.Env} {r:Res}
theorem JM (h:F ρ=.next ρ') (h':F' ρ'=r):jr F F' ρ=r:=by unfold jr;rw [h];exact h'
theorem jK:qd (.int i) (.int j)=some (.int (i+j)):=rfl
theorem j2:qO (.int i) (.int j)=some (.int (i-j)):=rfl
theorem Je (h1:-18446744073709551616<i) (h2:i<18446744073709551616):qw (.int i) (.int j)=some (.int (i*j)):=by
 unfold qw dI;simp only;rw [if_pos];exact .inl (.inl ⟨by omega,by omega⟩)
theorem Jy (h1:-18446744073709551616<j) (h2:j<18446744073709551616):qw (.int i) (.int j)=some (.int (i*j)):=by
 unfold qw dI;simp only;rw [if_pos];exact .inl (.inr ⟨by omega,by omega⟩)
theorem jhQ (h1:i.natAbs<2 ^ 400) (h2:j.natAbs<2 ^ 400):qw (.int i) (.int j)=some (.int (i*j)):=by
 unfold qw dI;simp only;rw [if_pos];exact .inr ⟨h1,h2⟩
theorem jV (h1:0<j) (h2:j<1606938044258990275541962092341162602522202993782792835301376):qR (.int i) (.int j)=some (.int (i/j)):=by
 unfold qR dI;simp only;rw [if_pos];exact ⟨h1,by show j<2 ^ 200;omega⟩
theorem jC (h1:0<j):jW (.int i) (.int j)=some (.int (i%j)):=by
 unfold jW dI;simp only;rw [if_pos];exact h1
theorem J9 (h:jaN i j):Ju (.int i) (.int j)=some (.int (i ^ j.toNat)):=by unfold Ju dI;simp only;rw [if_pos h]
theorem jfZ:Ju (.int 10) (.int 5)=some (.int 100000):=by rw [J9 (by unfold jaN;omega)];rfl
theorem jiY:Ju (.int 10) (.int 9)=some (.int 1000000000):=by rw [J9 (by unfold jaN;omega)];rfl
theorem jiJ:Ju (.int 10) (.int 14)=some (.int 100000000000000):=by rw [J9 (by unfold jaN;omega)];rfl
theorem jew:Ju (.int 10) (.int 15)=some (.int 1000000000000000):=by rw [J9 (by unfold jaN;omega)];rfl
theorem jiP:Ju (.int 10) (.int 16)=some (.int 10000000000000000):=by rw [J9 (by unfold jaN;omega)];rfl
theorem jda:dLt (.int i) (.int j)=some (.bl (decide (i<j))):=rfl
theorem Z1:dLe (.int i) (.int j)=some (.bl (decide (i<=j))):=rfl
theorem jbn:dGt (.int i) (.int j)=some (.bl (decide (j<i))):=rfl
theorem jfe:dGe (.int i) (.int j)=some (.bl (decide (j<=i))):=rfl
theorem jiA:decide (V.int i=V.int j)=decide (i=j):=by
 by_cases q:i=j
 . subst q;simp
 . have:¬V.int i=V.int j:=fun z=>q (by injection z)
   simp [q,this]
theorem jik:dEq (.int i) (.int j)=some (.bl (decide (i=j))):=by
 show some (D.bl (decide (V.int i=V.int j)))=_
 rw [jiA]
theorem jlb:dNe (.int i) (.int j)=some (.bl (!decide (i=j))):=by
 show some (D.bl (!decide (V.int i=V.int j)))=_
 rw [jiA]
theorem jnw {a b:Bool}:dEq (.bl a) (.bl b)=some (.bl (decide (a=b))):=by cases a <;> cases b <;> rfl
theorem jnu {a b:Bool}:dNe (.bl a) (.bl b)=some (.bl (!decide (a=b))):=by cases a <;> cases b <;> rfl
theorem jm8 {ds:List D} {i:Int} (h0:0<=i) (h1:i<ds.length):∃m,m∈ds/\jN (.lst ds) (.int i)=some m:=by
 have hi:i.toNat<ds.length:=by omega
 refine ⟨ds[i.toNat],List.getElem_mem hi,?_⟩
 show atI ds i=_
 unfold atI ixN
 rw [if_pos h0,if_pos h1]
 simp [hi]
theorem ZY {ds:List D} {i:Int} {d:D} (h0:0<=i) (h:ds[i.toNat]?=some d):jN (.lst ds) (.int i)=some d:=by
 have hi:i.toNat<ds.length:=(List.getElem?_eq_some_iff.mp h).1
 show atI ds i=_
 unfold atI ixN
 rw [if_pos h0,if_pos (by omega)]
 simpa using h
theorem jY {n:Nat} (h:n<16777216):zM n=true:=decide_eq_true h
theorem jaD {i:Int}:J8 "int" (.int i) = some true := by rfl
theorem jbD {b:Bool}:J8 "int" (.bl b) = some true := by rfl
theorem jai  : J8 "int" .non = some false := by rfl
theorem jal {z:Str}:J8 "int" (.str z) = some false := by rfl
theorem jaj {l:List D}:J8 "int" (.lst l) = some false := by rfl
theorem jat {l:List D}:J8 "int" (.tup l) = some false := by rfl
theorem Zl {i:Int}:J8 "bool" (.int i) = some false := by rfl
theorem jap {b:Bool}:J8 "bool" (.bl b) = some true := by rfl
theorem ZM  : J8 "bool" .non = some false := by rfl
theorem Zv {z:Str}:J8 "bool" (.str z) = some false := by rfl
theorem ZA {l:List D}:J8 "bool" (.lst l) = some false := by rfl
theorem Zx {l:List D}:J8 "bool" (.tup l) = some false := by rfl
theorem jaw {i:Int}:J8 "str" (.int i) = some false := by rfl
theorem jbJ {b:Bool}:J8 "str" (.bl b) = some false := by rfl
theorem jaB  : J8 "str" .non = some false := by rfl
theorem jaC {z:Str}:J8 "str" (.str z) = some true := by rfl
theorem jar {l:List D}:J8 "str" (.lst l) = some false := by rfl
theorem jav {l:List D}:J8 "str" (.tup l) = some false := by rfl
theorem ZT {i:Int}:J8 "list" (.int i) = some false := by rfl
theorem jax {b:Bool}:J8 "list" (.bl b) = some false := by rfl
theorem ZJ  : J8 "list" .non = some false := by rfl
theorem ZQ {z:Str}:J8 "list" (.str z) = some false := by rfl
theorem ZK {l:List D}:J8 "list" (.lst l) = some true := by rfl
theorem Zs {l:List D}:J8 "list" (.tup l) = some false := by rfl
theorem QU {i:Int}:J8 "tuple" (.int i) = some false := by rfl
theorem Zf {b:Bool}:J8 "tuple" (.bl b) = some false := by rfl
theorem QZ  : J8 "tuple" .non = some false := by rfl
theorem QW {z:Str}:J8 "tuple" (.str z) = some false := by rfl
theorem Q0 {l:List D}:J8 "tuple" (.lst l) = some false := by rfl
theorem QX {l:List D}:J8 "tuple" (.tup l) = some true := by rfl
theorem J3 {a:D} {l:List D}:jN (.tup (a::l)) (.int 0)=some a:=by
 show atI (a::l) 0=_
 unfold atI ixN
 rw [if_pos (by decide),if_pos (by simp only [List.length_cons];omega)];rfl
theorem JZ {a b:D} {l:List D}:jN (.tup (a::b::l)) (.int 1)=some b:=by
 show atI (a::b::l) 1=_
 unfold atI ixN
 rw [if_pos (by decide),if_pos (by simp only [List.length_cons];omega)];rfl
theorem ZW {a b c:D} {l:List D}:jN (.tup (a::b::c::l)) (.int 2)=some c:=by
 show atI (a::b::c::l) 2=_
 unfold atI ixN
 rw [if_pos (by decide),if_pos (by simp only [List.length_cons];omega)];rfl
theorem jaa {a b c d:D} {l:List D}:jN (.tup (a::b::c::d::l)) (.int 3)=some d:=by
 show atI (a::b::c::d::l) 3=_
 unfold atI ixN
 rw [if_pos (by decide),if_pos (by simp only [List.length_cons];omega)];rfl
theorem jiN {a:D} {l:List D}:jN (.lst (a::l)) (.int 0)=some a:=by
 show atI (a::l) 0=_
 unfold atI ixN
 rw [if_pos (by decide),if_pos (by simp only [List.length_cons];omega)];rfl
theorem jhx {a b:D} {l:List D}:jN (.lst (a::b::l)) (.int 1)=some b:=by
 show atI (a::b::l) 1=_
 unfold atI ixN
 rw [if_pos (by decide),if_pos (by simp only [List.length_cons];omega)];rfl
theorem jiR {a b c:D} {l:List D}:jN (.lst (a::b::c::l)) (.int 2)=some c:=by
 show atI (a::b::c::l) 2=_
 unfold atI ixN
 rw [if_pos (by decide),if_pos (by simp only [List.length_cons];omega)];rfl
theorem jhL {a b c d:D} {l:List D}:jN (.lst (a::b::c::d::l)) (.int 3)=some d:=by
 show atI (a::b::c::d::l) 3=_
 unfold atI ixN
 rw [if_pos (by decide),if_pos (by simp only [List.length_cons];omega)];rfl
end
end L2
set_option Elab.async false
set_option linter.all false
set_option maxRecDepth 100000
set_option maxHeartbeats 1000000
namespace L2
open PySem PySem.Spec PyProof.Rows
structure Fm where
 ι:Type
 X:ι->Cx
 K:PySem.W.Frag
 N:List Str
 hK:∀i,(X i).K=K
 hN:∀i,(X i).N=N
 calm:∀i,(X i).calm=true
noncomputable abbrev Fm.fr (M:Fm):Fr:=⟨M.K⟩
structure WE (M:Fm) (e:Expr) (f:L2.Env->Option D):Prop where
 h:∃t,(∀i,PE (M.X i) e t)/\@EOk M.fr t f
structure WT (M:Fm) (e:Expr) (f:L2.Env->Option D):Prop where
 h:∃t,(∀i,PE (M.X i) e t)/\@zL M.fr t f
structure WO (M:Fm) (e:Expr) (f:L2.Env->Option (List D)):Prop where
 h:∃t,(∀i,PE (M.X i) e t)/\@EOkO M.fr t f
structure WC (M:Fm) (e:Expr) (f:L2.Env->Option Bool):Prop where
 h:∃t,(∀i,PT (M.X i) e t)/\@TOk M.fr t f
structure WW (M:Fm) (e:Expr) (f:L2.Env->Option Bool):Prop where
 h:∃t,(∀i,PW (M.X i) e t)/\@TOk M.fr t f
structure WTs (M:Fm) (e:List Expr) (f:L2.Env->Option Bool):Prop where
 h:∃t,(∀i,PTs (M.X i) e t)/\@TOk M.fr t f
structure WA (M:Fm) (e:List Expr) (f:L2.Env->Option (List D)):Prop where
 h:∃t,(∀i,PA (M.X i) e t)/\@AOk M.fr t f
structure WAT (M:Fm) (e:List Expr) (f:L2.Env->Option (List D)):Prop where
 h:∃t,(∀i,PA (M.X i) e t)/\@jaS M.fr t f
structure WP (M:Fm) (e:Option Expr) (f:L2.Env->Option (Option Int)):Prop where
 h:∃t,(∀i,PO (M.X i) e t)/\@POk M.fr t f
structure WI (M:Fm) (tg e:Expr) (f:L2.Env->Option (List D)):Prop where
 h:∃t,(∀i,PI (M.X i) tg e t)/\@IOk M.fr t f
structure WIT (M:Fm) (tg e:Expr) (f:L2.Env->Option (List D)):Prop where
 h:∃t,(∀i,PI (M.X i) tg e t)/\@jhy M.fr t f
structure WG (M:Fm) (tg:Expr) (m:D->L2.Env->Option L2.Env):Prop where
 h:∃t,(∀i,PG (M.X i) tg t)/\@GOk M.fr t m
structure WGs (M:Fm) (tg:List Expr) (m:List D->L2.Env->Option L2.Env):Prop where
 h:∃t,(∀i,PGs (M.X i) tg t)/\@jg2 M.fr t m
structure WL (M:Fm) (n:Nat) (tg:Expr) (m:D->L2.Env->Option L2.Env):Prop where
 h:∃t,(∀i,PG (M.X i) tg t)/\@GOk M.fr t m/\jeK n t
structure WS (M:Fm) (st:Stmt) (F:FS):Prop where
 h:∃t,(∀i,PS (M.X i) st t)/\@ZZ M.fr t F
structure WSs (M:Fm) (st:List Stmt) (F:FS):Prop where
 h:∃t,(∀i,PSs (M.X i) st t)/\@ZZ M.fr t F
noncomputable def jX:Expr->Bool
 | .Starred _ _=>true
 | _=>false
theorem j3 {e:Expr} {es:List Expr} {env:PySem.Env} (h:jX e=false):starEach (e::es) env=(false,eval e env)::starEach es env:=by
 rw [starEach]
 intro a p z
 subst z
 cases h
theorem Jx {pos:Pos} {env:PySem.Env}:∀{es:List Expr},(es.all fun e=>!jX e)=true->(backTo pos (starEach es env)).any (·.1)=false
 | [],_=>rfl
 | e::es,h=>by
   simp only [List.all_cons,Bool.and_eq_true,Bool.not_eq_true'] at h
   rw [j3 h.1]
   show (false || (backTo pos (starEach es env)).any (·.1))=false
   rw [Jx h.2];rfl
section
variable {M:Fm} {a b c e o:Expr} {es:List Expr} {fa fb fc fe:L2.Env->Option D} {fo:L2.Env->Option (List D)} {fs:L2.Env->Option (List D)} {ga gb:L2.Env->Option Bool} {pos p apos cpos:Pos} {x:Str}
theorem WO.toE (h:WO M e fo):WE M e (jL fo):=let ⟨t,h1,h2⟩:=h.h;⟨t,h1,@EOkO.e M.fr _ _ h2⟩
theorem WE.toT (h:WE M e fe):WT M e fe:=let ⟨t,h1,h2⟩:=h.h;⟨t,h1,@EOk.t M.fr _ _ h2⟩
theorem jA (i:Nat) (hN:autoParam (M.N[i]?=some x) QA.a4._auto_1) (hv:autoParam (∀j,Vis (M.X j).env.scope x) QA.a6._auto_1) (hd:autoParam ((x == ("__debug__" : Str)) = false) QA.a1._auto_1)
 (hcd:autoParam ((x == ("__classdict__" : Str)) = false) QA.a1._auto_1) : WE M (.Name x pos) (jF i) := ⟨_, fun j => jae (by rw [M.hN j]; exact hN) (hv j) hd hcd, @jnO M.fr i⟩
theorem jb (i:Nat) (hN:autoParam (M.N[i]?=some x) QA.a4._auto_1) (hv:autoParam (∀j,Vis (M.X j).env.scope x) QA.a6._auto_1) (hd:autoParam ((x == ("__debug__" : Str)) = false) QA.a1._auto_1)
 (hcd:autoParam ((x == ("__classdict__" : Str)) = false) QA.a1._auto_1) : WT M (.Name x pos) (ja i) := ⟨_, fun j => jae (by rw [M.hN j]; exact hN) (hv j) hd hcd, @jma M.fr i⟩
theorem qW {i:Int} {t:Tok} (hg:∀j,Gl (M.X j) x) (hm:∀j,(M.X j).mg x=some (.int i t)) (hd:autoParam ((x == ("__debug__" : Str)) = false) QA.a1._auto_1) : WE M (.Name x pos) (eC (.int i)) := ⟨_, fun j => jjm (hg j) (hm j) hd, @jkD M.fr i⟩
theorem jh {i:Int} {k:Nat}:WE M (.Constant (.int i) k pos) (eC (.int i)):=⟨_,fun _=>jl0,@jkD M.fr i⟩
theorem jdy {i:Bool} {k:Nat}:WE M (.Constant (.bool i) k pos) (eC (.bl i)):=⟨_,fun _=>jnQ,@joq M.fr i⟩
theorem jcA {op:Operator} {r:R2} {f:D->D->Option D} (ho:∀j,OpR (M.X j) (binaryOp op) r) (hr:@ROk M.fr r f) (ha:WT M a fa) (hb:WT M b fb):WE M (.BinOp a op b pos) (jj f fa fb):=
 let ⟨_,h1,h2⟩:=ha.h;let ⟨_,k1,k2⟩:=hb.h;⟨_,fun j=>jkm (ho j) (h1 j) (k1 j),@jj0 M.fr _ _ _ _ _ _ hr h2 k2⟩
theorem qA (ha:WT M a fa) (hb:WT M b fb):WE M (.BinOp a .Add b pos) (jj qd fa fb):=jcA (fun _=>jlK) (@jnb M.fr) ha hb
theorem zp (ha:WT M a fa) (hb:WT M b fb):WE M (.BinOp a .Sub b pos) (jj qO fa fb):=jcA (fun _=>jlM) (@jnl M.fr) ha hb
theorem qZ (ha:WT M a fa) (hb:WT M b fb):WE M (.BinOp a .Mult b pos) (jj qw fa fb):=jcA (fun _=>jka) (@jmD M.fr) ha hb
theorem zt (ha:WT M a fa) (hb:WT M b fb):WE M (.BinOp a .FloorDiv b pos) (jj qR fa fb):=jcA (fun _=>jiT) (@jm5 M.fr) ha hb
theorem j7 (ha:WT M a fa) (hb:WT M b fb):WE M (.BinOp a .Mod b pos) (jj jW fa fb):=jcA (fun _=>jmj) (@jni M.fr) ha hb
theorem ja9 (ha:WT M a fa) (hb:WT M b fb):WE M (.BinOp a .Pow b pos) (jj Ju fa fb):=jcA (fun _=>jlk) (@jmP M.fr) ha hb
theorem ji0 (ha:WT M a fa) (hb:WT M b fb):WO M (.BinOp a .Add b pos) (jj jca fa fb):=
 let ⟨_,h1,h2⟩:=ha.h;let ⟨_,k1,k2⟩:=hb.h;⟨_,fun j=>jkm jj2 (h1 j) (k1 j),@jnc M.fr _ _ _ _ _ _ (@jnA M.fr) h2 k2⟩
theorem jkG (ha:WT M a fa):WE M (.UnaryOp .USub a pos) (jed fa):=let ⟨_,h1,h2⟩:=ha.h;⟨_,fun j=>jmG jle (h1 j),@jmH M.fr _ _ h2⟩
theorem w_not (ha:WT M a fa):WE M (.UnaryOp .Not a pos) (jgu fa):=let ⟨_,h1,h2⟩:=ha.h;⟨_,fun j=>jk6 (h1 j),@jnU M.fr _ _ h2⟩
theorem jU (ha:WT M a fa) (hb:WT M b fb) (hs:autoParam (jfI b) QA.a7._auto_1):WE M (.Subscript a b pos) (jj jN fa fb):=
 let ⟨_,h1,h2⟩:=ha.h;let ⟨_,k1,k2⟩:=hb.h;⟨_,fun j=>jnY (r:=rIx M.K) (by rw [<-M.hK j];exact jmr) (h1 j) (k1 j) hs,@jj0 M.fr _ _ _ _ _ _ (@joo M.fr) h2 k2⟩
structure WCmp (M:Fm) (op:CmpOp) (f:D->D->Option D):Prop where
 h:∃r,(∀j,OpR (M.X j) (compareOp op) r)/\@ROk M.fr r f
theorem jmQ:WCmp M .Lt dLt:=⟨_,fun _=>jnC,@joH M.fr⟩
theorem jdC:WCmp M .LtE dLe:=⟨_,fun _=>jnH,@jof M.fr⟩
theorem jlB:WCmp M .Gt dGt:=⟨_,fun _=>jnm,@jot M.fr⟩
theorem joK:WCmp M .GtE dGe:=⟨_,fun _=>jmI,@joy M.fr⟩
theorem jiZ (hu:∀j,(M.X j).A.units+64<cLine):WCmp M .Eq dEq:=⟨@jeW M.fr,fun j=>by have:=jh5 (hu j);rw [M.hK j] at this;exact this,@joF M.fr⟩
theorem je7 (hu:∀j,(M.X j).A.units+64<cLine):WCmp M .NotEq dNe:=⟨@jeM M.fr,fun j=>by have:=jiE (hu j);rw [M.hK j] at this;exact this,@jon M.fr⟩
variable {op op':CmpOp} {f f':D->D->Option D}
theorem jfN (ho:WCmp M op f) (ha:WT M a fa) (hb:WT M b fb) (hm:autoParam (behindInMarks op b=false) QA.a8._auto_1):WE M (.Compare a [op] [b] pos) (jj f fa fb):=
 let ⟨_,r1,r2⟩:=ho.h;let ⟨_,h1,h2⟩:=ha.h;let ⟨_,k1,k2⟩:=hb.h;⟨_,fun j=>jjJ (r1 j) (h1 j) (k1 j) hm,@jj0 M.fr _ _ _ _ _ _ r2 h2 k2⟩
theorem zx (ho:WCmp M op f) (ha:WT M a fa) (hb:WT M b fb) (hm:autoParam (behindInMarks op b=false) QA.a8._auto_1):WC M (.Compare a [op] [b] pos) (zJ (jj f fa fb)):=
 let ⟨_,r1,r2⟩:=ho.h;let ⟨_,h1,h2⟩:=ha.h;let ⟨_,k1,k2⟩:=hb.h;⟨_,fun j=>jjN (r1 j) (h1 j) (k1 j) hm,@jll M.fr _ _ (@EOk.t M.fr _ _ (@jj0 M.fr _ _ _ _ _ _ r2 h2 k2))⟩
theorem jgc (ho:WCmp M op f) (ho':WCmp M op' f') (ha:WT M a fa) (hb:WT M b fb) (hc:WT M c fc) (hm:autoParam (lastMarks [op,op'] [b,c]=false) QA.a5._auto_1):WE M (.Compare a [op,op'] [b,c] pos) (Jb f f' fa fb fc):=
 let ⟨_,r1,r2⟩:=ho.h;let ⟨_,r3,r4⟩:=ho'.h;let ⟨_,h1,h2⟩:=ha.h;let ⟨_,k1,k2⟩:=hb.h;let ⟨_,l1,l2⟩:=hc.h;⟨_,fun j=>jh2 (r1 j) (r3 j) (h1 j) (k1 j) (l1 j) hm,@jj6 M.fr _ _ _ _ _ _ _ _ _ _ r2 r4 h2 k2 l2⟩
theorem jhU {bo:BoolOp} (h:WE M a fa):WE M (.BoolOp bo [a] pos) fa:=let ⟨_,h1,h2⟩:=h.h;⟨_,fun j=>jlz (h1 j),h2⟩
theorem jfJ (ha:WT M a fa) (hb:WE M (.BoolOp .And (b::es) pos) fb):WE M (.BoolOp .And (a::b::es) pos) (jbh fa fb):=let ⟨_,h1,h2⟩:=ha.h;let ⟨_,k1,k2⟩:=hb.h;⟨_,fun j=>jkV (h1 j) (k1 j),@jmJ M.fr _ _ _ _ h2 k2⟩
theorem jo0 (hc:WC M c ga) (ha:WE M a fa) (hb:WE M b fb):WE M (.IfExp c a b pos) (eIf ga fa fb):=let ⟨_,l1,l2⟩:=hc.h;let ⟨_,h1,h2⟩:=ha.h;let ⟨_,k1,k2⟩:=hb.h;⟨_,fun j=>jiD (l1 j) (h1 j) (k1 j),@jom M.fr _ _ _ _ _ _ l2 h2 k2⟩
theorem QP (h:WT M a fa) (he:autoParam (∀j whole,isTrue a (M.X j).env whole=(do let v <- whole;standAt a.pos;holding [v] (truthy v))) QA.a9._auto_1):WC M a (zJ fa):=let ⟨_,h1,h2⟩:=h.h;⟨_,fun j=>jlp (h1 j) (he j),@t_B M.fr _ _ h2⟩
theorem WW.toC (h:WW M a ga):WC M a ga:=let ⟨_,h1,h2⟩:=h.h;⟨_,fun j=>(h1 j).pt,h2⟩
theorem jfo (h:WC M a ga):WW M (.BoolOp .And [a] pos) ga:=let ⟨_,h1,h2⟩:=h.h;⟨_,fun j=>jjG (h1 j),h2⟩
theorem jel (h:WC M a ga):WW M (.BoolOp .Or [a] pos) ga:=let ⟨_,h1,h2⟩:=h.h;⟨_,fun j=>jl9 (h1 j),h2⟩
theorem jhX (ha:WC M a ga) (hb:WW M (.BoolOp .And (b::es) pos) gb):WW M (.BoolOp .And (a::b::es) pos) (Z3 ga gb):=let ⟨_,h1,h2⟩:=ha.h;let ⟨_,k1,k2⟩:=hb.h;⟨_,fun j=>jmg (h1 j) (k1 j),@jiW M.fr _ _ _ _ h2 k2⟩
theorem jeR (ha:WC M a ga) (hb:WW M (.BoolOp .Or (b::es) pos) gb):WW M (.BoolOp .Or (a::b::es) pos) (bOr ga gb):=let ⟨_,h1,h2⟩:=ha.h;let ⟨_,k1,k2⟩:=hb.h;⟨_,fun j=>jn2 (h1 j) (k1 j),@joJ M.fr _ _ _ _ h2 k2⟩
theorem Zz (ha:WC M a ga):WC M (.UnaryOp .Not a pos) (QK ga):=let ⟨_,h1,h2⟩:=ha.h;⟨_,fun j=>jl6 (h1 j),@Zy M.fr _ _ h2⟩
theorem ju:WA M [] jk:=⟨_,fun _=>jbH,@a_nil M.fr⟩
theorem je (ha:WE M e fe) (hs:WA M es fs) (h:autoParam (jX e=false) QA.a4._auto_1):WA M (e::es) (jc fe fs):=let ⟨_,h1,h2⟩:=ha.h;let ⟨_,k1,k2⟩:=hs.h;⟨_,fun j=>QC (h1 j) (k1 j) (j3 h),@jmd M.fr _ _ _ _ h2 k2⟩
theorem jt:WAT M [] jk:=⟨_,fun _=>jbH,@jlE M.fr⟩
theorem jl (ha:WT M e fe) (hs:WAT M es fs) (h:autoParam (jX e=false) QA.a4._auto_1):WAT M (e::es) (jc fe fs):=let ⟨_,h1,h2⟩:=ha.h;let ⟨_,k1,k2⟩:=hs.h;⟨_,fun j=>QC (h1 j) (k1 j) (j3 h),@jjd M.fr _ _ _ _ h2 k2⟩
theorem jfS {k:Nat} (h:WA M es fs):WE M (.Tuple es k pos) (jbd fs):=let ⟨_,h1,h2⟩:=h.h;⟨_,fun j=>jlm (h1 j),@jnd M.fr _ _ h2⟩
theorem JN (h:WA M es fs):WO M (.List es pos) (zw fs):=let ⟨_,h1,h2⟩:=h.h;⟨_,fun j=>jlT (h1 j),@jmA M.fr _ _ h2⟩
theorem jij:WP M none pNo:=⟨_,fun _=>jkd,@joE M.fr⟩
theorem jd7 (h:WT M e fe):WP M (some e) (pSo fe):=let ⟨_,h1,h2⟩:=h.h;⟨_,fun j=>jkk (h1 j),@joh M.fr _ _ h2⟩
theorem jjl {lo hi:Option Expr} {fl fh:L2.Env->Option (Option Int)} {p2:Pos} (h:WT M e fe) (hl:WP M lo fl) (hh:WP M hi fh):WO M (.Subscript e (.Slice lo hi none p2) pos) (eSl fe fl fh):=
 let ⟨_,h1,h2⟩:=h.h;let ⟨_,k1,k2⟩:=hl.h;let ⟨_,l1,l2⟩:=hh.h;⟨_,fun j=>jh4 (r:=jln M.K) (by rw [<-M.hK j];exact jjY) (h1 j) (k1 j) (l1 j),@joz M.fr _ _ _ _ _ _ h2 k2 l2⟩
structure WB (M:Fm) (g:Value) (f:List D->Option D):Prop where
 h:∃r,(∀j,CallR (M.X j) g r)/\@jdk M.fr r f
structure WBO (M:Fm) (g:Value) (f:List D->Option (List D)):Prop where
 h:∃r,(∀j,CallR (M.X j) g r)/\@jf9 M.fr r f
theorem b_len:WB M (.builtin "len") j5 := ⟨_, fun j => by have := jgQ (X := M.X j); rw [M.hK j] at this; exact this, @jmO M.fr⟩
theorem b_list:WBO M (.type "list") Qm := ⟨_, fun j => by have := jdh (X := M.X j); rw [M.hK j] at this; exact this, @jla M.fr⟩
theorem b_sum:WB M (.builtin "sum") Q6 := ⟨_, fun j => by have := jhA (M.calm j); rw [M.hK j] at this; exact this, @jmZ M.fr⟩
theorem b_all:WB M (.builtin "all") jb7 := ⟨_, fun j => by have := jiX (M.calm j); rw [M.hK j] at this; exact this, @jno M.fr⟩
theorem ji3:WB M (.builtin "min") QV := ⟨_, fun j => jg8 (M.calm j), @jmm M.fr⟩
theorem jhM:WB M (.builtin "max") Zq := ⟨_, fun j => jhe (M.calm j), @jk8 M.fr⟩
theorem jlW:WB M (.builtin "min") jan := ⟨_, fun j => jgw (M.calm j), @jk2 M.fr⟩
theorem b_int:WB M (.type "int") jkX := ⟨_, fun _ => jgz, @jmR M.fr⟩
theorem jlL:WBO M (.builtin "sorted") jd1 := ⟨_, fun j => by have := jeC (M.calm j); rw [M.hK j] at this; exact this, @jlt M.fr⟩
variable {id T:String} {f1:List D->Option D} {f2:List D->Option (List D)}
theorem qG (hc:WB M (.builtin id) f1) (hg:∀j,Gl (M.X j) x) (hm:∀j,(M.X j).mg x=none) (hv:bootBuiltins x=some (.builtin id)) (ha:WAT M (e::es) fs) (hn:autoParam (x ≠ "__name__") QA.a1._auto_1) (hdb : autoParam ((x == ("__debug__" : Str)) = false) QA.a1._auto_1)
 (h:autoParam (jX e=false) QA.a4._auto_1) (h':autoParam ((es.all fun e=>!jX e)=true) QA.a4._auto_1):WE M (.Call (.Name x p) (e::es) [] pos) (jg f1 fs):=
 let ⟨_,r1,r2⟩:=hc.h;let ⟨_,h1,h2⟩:=ha.h;⟨_,fun j=>Zn (r1 j) (hg j) (hm j) hv (h1 j) hn hdb (j3 h) (Jx h'),@jow M.fr _ _ _ _ r2 h2⟩
theorem jmC (hc:WBO M (.builtin id) f2) (hg:∀j,Gl (M.X j) x) (hm:∀j,(M.X j).mg x=none) (hv:bootBuiltins x=some (.builtin id)) (ha:WAT M (e::es) fs) (hn:autoParam (x ≠ "__name__") QA.a1._auto_1) (hdb : autoParam ((x == ("__debug__" : Str)) = false) QA.a1._auto_1)
 (h:autoParam (jX e=false) QA.a4._auto_1) (h':autoParam ((es.all fun e=>!jX e)=true) QA.a4._auto_1):WO M (.Call (.Name x p) (e::es) [] pos) (jg f2 fs):=
 let ⟨_,r1,r2⟩:=hc.h;let ⟨_,h1,h2⟩:=ha.h;⟨_,fun j=>Zn (r1 j) (hg j) (hm j) hv (h1 j) hn hdb (j3 h) (Jx h'),@jkU M.fr _ _ _ _ r2 h2⟩
theorem jii (hc:WBO M (.type T) f2) (hg:∀j,Gl (M.X j) x) (hm:∀j,(M.X j).mg x=none) (hv:bootBuiltins x=some (.type T)) (ha:WAT M (e::es) fs) (hn:autoParam (x ≠ "__name__") QA.a1._auto_1) (hdb : autoParam ((x == ("__debug__" : Str)) = false) QA.a1._auto_1)
 (h:autoParam (jX e=false) QA.a4._auto_1) (h':autoParam ((es.all fun e=>!jX e)=true) QA.a4._auto_1):WO M (.Call (.Name x p) (e::es) [] pos) (jg f2 fs):=
 let ⟨_,r1,r2⟩:=hc.h;let ⟨_,h1,h2⟩:=ha.h;⟨_,fun j=>jcs (r1 j) (hg j) (hm j) hv (h1 j) hn hdb (j3 h) (Jx h'),@jkU M.fr _ _ _ _ r2 h2⟩
theorem jay {y:Str} {p':Pos} (hg:∀j,Gl (M.X j) "isinstance") (hm : ∀ j, (M.X j).mg "isinstance" = none) (hg' : ∀ j, Gl (M.X j) y) (hm' : ∀ j, (M.X j).mg y = none) (hv' : bootBuiltins y = some (.type T)) (hT : okT T = true) (ha : WT M a fa)
 (hn:autoParam (y ≠ "__name__") QA.a1._auto_1) (hdb : autoParam ((y == ("__debug__" : Str)) = false) QA.a1._auto_1) (h : autoParam (jX a = false) QA.a4._auto_1) : WE M (.Call (.Name "isinstance" p) [a, .Name y p'] [] pos) (jaO T fa) :=
 let ⟨_,h1,h2⟩:=ha.h
 ⟨_,fun j=>Zn (r:=fun xs H Q=>∃x T b,xs=[x,.ty T]/\IsT M.K H x T b/\Q (.bl b) H) (by have:=jdH (X:=M.X j);rw [M.hK j] at this;exact this) (hg j) (hm j) boot_isinstance (QC (h1 j) (QC (jn3 (hg' j) (hm' j) hv' hn hdb) jbH (j3 rfl)) (j3 h)) (by decide) (by decide) (j3 h) (Jx rfl),@jnF M.fr T _ _ h2 hT⟩
theorem jlv {p' pos':Pos} (hg:∀j,Gl (M.X j) "sorted") (hm : ∀ j, (M.X j).mg "sorted" = none) (hg' : ∀ j, Gl (M.X j) "set") (hm' : ∀ j, (M.X j).mg "set" = none) (ha : WAT M [e] fs) (h : autoParam (jX e = false) QA.a4._auto_1) (sub : ∀ i j, (M.X i).prog = (M.X j).prog ∧ (M.X i).w = (M.X j).w) (j0 : M.ι) :
 WO M (.Call (.Name "sorted" p) [.Call (.Name "set" p') [e] [] pos'] [] pos) (jdO fs) :=
 let ⟨ta,h1,h2⟩:=ha.h
 ⟨_,fun j=>by
  have r1:=je2 (X:=M.X j) (M.calm j)
  have r2:=jbW (X:=M.X j) (M.calm j)
  have eS:∀a ns,jcV (M.X j) a ns=jcV (M.X j0) a ns:=fun a ns=>by unfold jcV;rw [(sub j j0).1,(sub j j0).2]
  rw [M.hK j] at r1
  simp only [eS] at r1 r2
  exact Zn r2 (hg j) (hm j) boot_sorted (QC (jcs r1 (hg' j) (hm' j) boot_set (h1 j) (by decide) (by decide) (j3 h) (Jx rfl)) jbH (j3 rfl)) (by decide) (by decide) (j3 rfl) (Jx rfl),@jlY M.fr (M.X j0) _ _ h2⟩
theorem jor {p1 p2 pos1 pos2:Pos} (hg1:∀j,Gl (M.X j) "list") (hm1 : ∀ j, (M.X j).mg "list" = none) (hg2 : ∀ j, Gl (M.X j) "zip") (hm2 : ∀ j, (M.X j).mg "zip" = none) (ha : WAT M [a, b] fs) (h : autoParam (jX a = false) QA.a4._auto_1) (h' : autoParam (jX b = false) QA.a4._auto_1) :
 WO M (.Call (.Name "list" p1) [.Call (.Name "zip" p2) [a, b] [] pos2] [] pos1) (eLZ fs) :=
 let ⟨_,h1,h2⟩:=ha.h
 ⟨ja6 M.K _,fun j=>by have:=jeF (p1:=p1) (p2:=p2) (pos1:=pos1) (pos2:=pos2) (M.calm j) (hg1 j) (hm1 j) (hg2 j) (hm2 j) (h1 j) (by rw [j3 h,j3 h'];rfl) (by rw [j3 h'];rfl) (by rw [j3 rfl];rfl);rw [M.hK j] at this;exact this,@jol M.fr _ _ h2⟩
theorem j9 {k:Nat} {g:Addr} {fd:FuncData} {ps:List Str} (F:∀j,FnOk (M.X j).prog (M.X j).w (M.X j).K (M.X j).mg (M.X j).base Qc k g fd ps (@spS M.fr f1)) (hr:∀j,Room k (M.X j).A) (hg:∀j,Gl (M.X j) x) (hm:∀j,(M.X j).mg x=some (.ref g)) (hk:∀j,PySem.W.keepIn (M.X j).K (.ref g)=true)
 (hb:∀j,Binds (M.X j).K fd ps []) (ha:WA M (e::es) fs) (hdb:autoParam ((x == ("__debug__" : Str)) = false) QA.a1._auto_1) (h : autoParam (jX e = false) QA.a4._auto_1) (h' : autoParam ((es.all fun e => !jX e) = true) QA.a4._auto_1) : WE M (.Call (.Name x p) (e :: es) [] pos) (jg f1 fs) :=
 let ⟨_,h1,h2⟩:=ha.h;⟨_,fun j=>jfB (F j) (hr j) (hg j) (hm j) (hk j) (hb j) .nil jkq (h1 j) hdb (j3 h) (Jx h'),@jmi M.fr _ _ f1 E0 h2⟩
theorem qV {k:Nat} {g:Addr} {fd:FuncData} {ps:List Str} (F:∀j,FnOk (M.X j).prog (M.X j).w (M.X j).K (M.X j).mg (M.X j).base Qc k g fd ps (@spO M.fr f2)) (hr:∀j,Room k (M.X j).A) (hg:∀j,Gl (M.X j) x) (hm:∀j,(M.X j).mg x=some (.ref g)) (hk:∀j,PySem.W.keepIn (M.X j).K (.ref g)=true)
 (hb:∀j,Binds (M.X j).K fd ps []) (ha:WA M (e::es) fs) (hdb:autoParam ((x == ("__debug__" : Str)) = false) QA.a1._auto_1) (h : autoParam (jX e = false) QA.a4._auto_1) (h' : autoParam ((es.all fun e => !jX e) = true) QA.a4._auto_1) : WO M (.Call (.Name x p) (e :: es) [] pos) (jg f2 fs) :=
 let ⟨_,h1,h2⟩:=ha.h;⟨_,fun j=>jfB (F j) (hr j) (hg j) (hm j) (hk j) (hb j) .nil jkq (h1 j) hdb (j3 h) (Jx h'),@jj1 M.fr _ _ f2 E0 h2⟩
variable {m:D->L2.Env->Option L2.Env} {ms:List D->L2.Env->Option L2.Env} {tg iter:Expr}
theorem qN {i:Nat} (hN:∀j,(M.X j).N.Nodup) (hi:M.N[i]?=some x) (hx:∀j,Loc (M.X j).env.scope x) (hf:∀j,(M.X j).fn x=true\/(M.X j).env.scope.names.lookup x=some .local):WG M (.Name x pos) (jG i):=⟨_,fun j=>jdm (hN j) (by rw [M.hN j];exact hi) (hx j) (hf j),@je0 M.fr i⟩
theorem jeD:WGs M [] ZL:=⟨_,fun _=>jf4,@jkx M.fr⟩
theorem Qw (h1:WG M e m) (h2:WGs M es ms) (hs:autoParam (∀j,(assignEach (e::es) (M.X j).env).map (·.2)=assign e (M.X j).env::(assignEach es (M.X j).env).map (·.2)) QA.a3._auto_1):WGs M (e::es) (qK m ms):=let ⟨_,a1,a2⟩:=h1.h;let ⟨_,b1,b2⟩:=h2.h;⟨_,fun j=>jem (a1 j) (b1 j) (hs j),@jhS M.fr _ _ _ _ a2 b2⟩
theorem jeN {k n:Nat} (h:WGs M es ms) (hn:autoParam (∀j,(assignEach es (M.X j).env).length=n) QA.a3._auto_1) (hst:autoParam (∀j,(assignEach es (M.X j).env).findIdx? (·.1)=none) QA.a3._auto_1):WG M (.Tuple es k pos) (Zb n ms):=
 let ⟨_,a1,a2⟩:=h.h;⟨jjE M.K n _,fun j=>by have:=ji8 (k:=k) (pos:=pos) (M.calm j) (a1 j) (hn j) (hst j);rw [M.hK j] at this;exact this,@jkO M.fr n _ _ a2⟩
theorem WI.toT {f:L2.Env->Option (List D)} (h:WI M tg e f):WIT M tg e f:=let ⟨_,h1,h2⟩:=h.h;⟨_,h1,@IOk.t M.fr _ _ h2⟩
theorem jf2 (h:WE M e fe):WI M tg e (j8 fe):=let ⟨_,h1,h2⟩:=h.h;⟨jej M.K _,fun j=>by have:=jfY (tg:=tg) (h1 j);rw [M.hK j] at this;exact this,@jl3 M.fr _ _ h2⟩
theorem qB (h:WT M e fe):WIT M tg e (j8 fe):=let ⟨_,h1,h2⟩:=h.h;⟨jej M.K _,fun j=>by have:=jfY (tg:=tg) (h1 j);rw [M.hK j] at this;exact this,@jkj M.fr _ _ h2⟩
theorem jlF (h:WE M e fe):WI M tg e (jak fe):=let ⟨_,h1,h2⟩:=h.h;⟨jmc M.K _,fun j=>by have:=jlr (tg:=tg) (h1 j);rw [M.hK j] at this;exact this,@jnL M.fr _ _ h2⟩
theorem Jp (hg:∀j,Gl (M.X j) "range") (hm : ∀ j, (M.X j).mg "range" = none) (ha : WAT M [a] fs) (h : autoParam (jX a = false) QA.a4._auto_1) : WI M tg (.Call (.Name "range" p) [a] [] pos) (J4 fs) := let ⟨_, h1, h2⟩ := ha.h; ⟨_, fun j => jgD (hg j) (hm j) (h1 j) (by rw [j3 h]; rfl), @jly M.fr _ _ h2⟩
theorem jjk (hg:∀j,Gl (M.X j) "range") (hm : ∀ j, (M.X j).mg "range" = none) (ha : WAT M [a, b] fs) (h : autoParam (jX a = false) QA.a4._auto_1) (h' : autoParam (jX b = false) QA.a4._auto_1) : WI M tg (.Call (.Name "range" p) [a, b] [] pos) (jhV fs) := let ⟨_, h1, h2⟩ := ha.h; ⟨_, fun j => jgX (hg j) (hm j) (h1 j) (by rw [j3 h, j3 h']; rfl) (by rw [j3 h']; rfl), @jk5 M.fr _ _ h2⟩
theorem jfv {ts:List Expr} {k:Nat} {tp:Pos} (hg:∀j,Gl (M.X j) "zip") (hm : ∀ j, (M.X j).mg "zip" = none) (ha : WAT M [a, b] fs) (h : autoParam (jX a = false) QA.a4._auto_1) (h' : autoParam (jX b = false) QA.a4._auto_1) : WIT M (.Tuple ts k tp) (.Call (.Name "zip" p) [a, b] [] pos) (jbi fs) :=
 let ⟨_,h1,h2⟩:=ha.h;⟨jlS M.K _,fun j=>by have:=jmh (elts:=ts) (x1:=k) (tpos:=tp) (p:=p) (pos:=pos) (hg j) (hm j) (h1 j) (by rw [j3 h,j3 h'];rfl) (by rw [j3 h'];rfl);rw [M.hK j] at this;exact this,@jms M.fr _ _ h2⟩
theorem jjX {ts:List Expr} {k:Nat} {tp:Pos} (hg:∀j,Gl (M.X j) "enumerate") (hm : ∀ j, (M.X j).mg "enumerate" = none) (ha : WA M [a] fs) (h : autoParam (jX a = false) QA.a4._auto_1) : WI M (.Tuple ts k tp) (.Call (.Name "enumerate" p) [a] [] pos) (jba fs) :=
 let ⟨_,h1,h2⟩:=ha.h;⟨jiS M.K _,fun j=>by have:=jj4 (elts:=ts) (x1:=k) (tpos:=tp) (p:=p) (pos:=pos) (hg j) (hm j) (h1 j) (by rw [j3 h];rfl);rw [M.hK j] at this;exact this,@jml M.fr _ _ h2⟩
variable {st:Stmt} {sts body:List Stmt} {F F' B:FS}
theorem qm:WSs M [] ql:=⟨_,fun _=>jj7,@jlj M.fr⟩
theorem jo (h:WS M st F):WSs M [st] F:=let ⟨_,h1,h2⟩:=h.h;⟨_,fun j=>jjn (h1 j),h2⟩
theorem jf (h:WS M st F) (h':WSs M sts F'):WSs M (st::sts) (jr F F'):=let ⟨_,h1,h2⟩:=h.h;let ⟨_,k1,k2⟩:=h'.h;⟨_,fun j=>jhE (h1 j) (k1 j),@jmK M.fr _ _ _ _ h2 k2⟩
theorem jgl (h:WT M e fe) (hs:autoParam (∀j,swapsWith e none pos.line (M.X j).env=pure false) QA.a3._auto_1):WS M (.Expr e pos) (Zw fe):=let ⟨_,h1,h2⟩:=h.h;⟨_,fun j=>jgg (h1 j) (hs j),@jk1 M.fr _ _ h2⟩
theorem j6 (h:WE M e fe):WS M (.Return (some e) pos) (qJ fe):=let ⟨_,h1,h2⟩:=h.h;⟨_,fun j=>jfg (h1 j),@jmF M.fr _ _ h2⟩
theorem Zh (h:WO M e fo):WS M (.Return (some e) pos) (Jf fo):=let ⟨_,h1,h2⟩:=h.h;⟨_,fun j=>jfg (h1 j),@jlh M.fr _ _ h2⟩
theorem ZP (i:Nat) (hN:autoParam (M.N[i]?=some x) QA.a4._auto_1) (hv:autoParam (∀j,Vis (M.X j).env.scope x) QA.a6._auto_1) (hd:autoParam ((x == ("__debug__" : Str)) = false) QA.a1._auto_1)
 (hcd:autoParam ((x == ("__classdict__" : Str)) = false) QA.a1._auto_1) : WS M (.Return (some (.Name x p)) pos) (QR i) := ⟨_, fun j => jfg (jae (by rw [M.hN j]; exact hN) (hv j) hd hcd), @jk9 M.fr i⟩
theorem zI (hc:WC M c ga) (h:WSs M sts F) (h':WSs M body F'):WS M (.If c sts body pos) (Qf ga F F'):=let ⟨_,l1,l2⟩:=hc.h;let ⟨_,h1,h2⟩:=h.h;let ⟨_,k1,k2⟩:=h'.h;⟨_,fun j=>jnK (l1 j) (h1 j) (k1 j),@jok M.fr _ _ _ _ _ _ l2 h2 k2⟩
theorem jD {i:Nat} {pos':Pos} (h:WE M e fe) (hN:∀j,(M.X j).N.Nodup) (hi:M.N[i]?=some x) (hx:∀j,Loc (M.X j).env.scope x) (hf:∀j,(M.X j).fn x=true\/(M.X j).env.scope.names.lookup x=some .local) (hs:autoParam (∀j,swapsWith e (some (.Name x pos')) pos.line (M.X j).env=pure false) QA.a3._auto_1) :
 WS M (.Assign [.Name x pos'] e pos) (jB i fe):=let ⟨_,h1,h2⟩:=h.h;⟨_,fun j=>je3 (hN j) (by rw [M.hN j];exact hi) (hx j) (h1 j) (hs j) (hf j),@jkS M.fr _ _ i h2⟩
theorem Qu {i:Nat} {pos':Pos} (h:WO M e fo) (hN:∀j,(M.X j).N.Nodup) (hi:M.N[i]?=some x) (hx:∀j,Loc (M.X j).env.scope x) (hf:∀j,(M.X j).fn x=true\/(M.X j).env.scope.names.lookup x=some .local) (hs:autoParam (∀j,swapsWith e (some (.Name x pos')) pos.line (M.X j).env=pure false) QA.a3._auto_1) :
 WS M (.Assign [.Name x pos'] e pos) (Jg i fo):=let ⟨_,h1,h2⟩:=h.h;⟨_,fun j=>je3 (hN j) (by rw [M.hN j];exact hi) (hx j) (h1 j) (hs j) (hf j),@jk0 M.fr _ _ i h2⟩
theorem jou (h:WE M e fe) (hg:WG M tg m) (hs:autoParam (∀j,swapsWithSole [tg] e pos.line (M.X j).env=pure false) QA.a3._auto_1) (hw:autoParam (∀j,swappedStores [tg] e (M.X j).env=pure none) QA.a3._auto_1) (h1:autoParam (∀j,(assignEach [tg] (M.X j).env).map (·.2)=[assign tg (M.X j).env]) QA.a3._auto_1) :
 WS M (.Assign [tg] e pos) (jhr m fe):=let ⟨_,a1,a2⟩:=h.h;let ⟨_,b1,b2⟩:=hg.h;⟨_,fun j=>ji2 (a1 j) (b1 j) (hs j) (hw j) (h1 j),@jn4 M.fr _ _ _ _ b2 a2⟩
theorem jhP {i:Nat} {pos':Pos} {y:Str} {py:Pos} (hN:M.N[i]?=some y) (hv:∀j,Vis (M.X j).env.scope y) (hk:WE M b fb) (h:WE M e fe) (hd:autoParam ((y == ("__debug__" : Str)) = false) QA.a1._auto_1) (hcd : autoParam ((y == ("__classdict__" : Str)) = false) QA.a1._auto_1)
 (ha:autoParam (∀j v,assign (.Subscript (.Name y py) b pos') (M.X j).env v=(do
  let ov <- holding [v] (eval (.Name y py) (M.X j).env)
  let iv <- holding [v,ov] (eval b (M.X j).env)
  standAt pos'
  holding [v,ov,iv] (setItem ov iv v)
  release [v,ov,iv] [])) QA.a9._auto_1)
 (hs:autoParam (∀j,swapsWithSole [.Subscript (.Name y py) b pos'] e pos.line (M.X j).env=pure false) QA.a3._auto_1) (hw:autoParam (∀j,swappedStores [.Subscript (.Name y py) b pos'] e (M.X j).env=pure none) QA.a3._auto_1)
 (h1:autoParam (∀j,(assignEach [.Subscript (.Name y py) b pos'] (M.X j).env).map (·.2)=[assign (.Subscript (.Name y py) b pos') (M.X j).env]) QA.a3._auto_1):WS M (.Assign [.Subscript (.Name y py) b pos'] e pos) (jb3 i fb fe):=
 let ⟨_,a1,a2⟩:=h.h;let ⟨_,b1,b2⟩:=hk.h;⟨_,fun j=>ji2 (a1 j) (jlH (jae (by rw [M.hN j];exact hN) (hv j) hd hcd) (b1 j) jin (ha j)) (hs j) (hw j) (h1 j),@jmM M.fr _ _ _ _ i b2 a2⟩
theorem jlD (i:Nat) (h:WS M st F):WS M st (jey i F):=let ⟨_,h1,h2⟩:=h.h;⟨_,h1,@jm9 M.fr _ _ i h2⟩
theorem Jt (hi:WI M tg iter fo) (hg:WG M tg m) (hb:WSs M body B) (hp:autoParam (∀j,PassesOwn (model (M.X j).prog (M.X j).w) (M.X j).A (M.X j).env (M.X j).xe) QA.a10._auto_1) (hs:autoParam (∀j x,foldedSetIterable iter (M.X j).env x=pure x) QA.a9._auto_1):WS M (.For tg iter body [] pos) (zW fo m B):=
 let ⟨_,i1,i2⟩:=hi.h;let ⟨_,g1,g2⟩:=hg.h;let ⟨_,b1,b2⟩:=hb.h;⟨_,fun j=>jkY (hp j) (M.calm j) (i1 j) (g1 j) (b1 j) (hs j),@jnX M.fr _ _ _ _ _ _ i2 g2 b2⟩
theorem Q9 {i:Nat} {y:Str} {py:Pos} (hN:M.N[i]?=some y) (hv:∀j,Vis (M.X j).env.scope y) (h:WE M e fe) (hd:autoParam ((y == ("__debug__" : Str)) = false) QA.a1._auto_1) (hcd : autoParam ((y == ("__classdict__" : Str)) = false) QA.a1._auto_1)
 (hbase:autoParam (∀j,attributeBase (.Name y py) "append" (M.X j).env (eval (.Name y py) (M.X j).env) = eval (.Name y py) (M.X j).env) QA.a3._auto_1) (hline : autoParam ((apos.endLine == cpos.line) = true) QA.a4._auto_1) (h' : autoParam (jX e = false) QA.a4._auto_1)
 (hs:autoParam (∀j,swapsWith (.Call (.Attribute (.Name y py) "append" apos) [e] [] cpos) none pos.line (M.X j).env = pure false) QA.a3._auto_1) : WS M (.Expr (.Call (.Attribute (.Name y py) "append" apos) [e] [] cpos) pos) (JJ i fe) :=
 let ⟨_,a1,a2⟩:=h.h
 ⟨_,fun j=>jgg (te:=tBM M.K "list" jdd _ _) (by
  have:=jnS (X:=M.X j) (apos:=apos) (cpos:=cpos) PySem.F.plainAttrs_list PySem.F.slot_list_append PySem.F.type_list_append jhb (jae (i:=i) (pos:=py) (by rw [M.hN j];exact hN) (hv j) hd hcd) (QC (a1 j) jbH (j3 h')) (hbase j) (by rw [j3 h'];rfl) hline (j3 h') (Jx rfl)
  rw [M.hK j] at this;exact this) (hs j),@jmw M.fr _ _ i a2⟩
noncomputable def Fm.blk (M:Fm) (N:List Str) (scope:Scope):Fm:=⟨M.ι×Addr×Shared×Hp×List Addr,fun i=>(M.X i.1).blk N scope i.2.1 i.2.2.1 i.2.2.2.1 i.2.2.2.2,M.K,N,fun i=>M.hK i.1,fun _=>rfl,fun i=>M.calm i.1⟩
variable {ifs:List Expr} {scope sc:Scope} {Lc Fn:List Str} {ix:List Nat}
theorem qD {i n:Nat} (hN:∀j,(M.X j).N.Nodup) (hi:M.N[i]?=some x) (hn:i<n) (hx:∀j,Loc (M.X j).env.scope x) (hf:∀j,(M.X j).fn x=true\/(M.X j).env.scope.names.lookup x=some .local):WL M n (.Name x pos) (jG i):=⟨_,fun j=>jdm (hN j) (by rw [M.hN j];exact hi) (hx j) (hf j),@je0 M.fr i,jgK hn⟩
noncomputable def jnq (n:Nat) (t:TGs):Prop:=(∀xs σ H Q,t xs σ H Q->t xs σ H fun σ2 H2=>Q σ2 H2/\σ2.length=σ.length/\∀j,n<=j->σ2[j]?=σ[j]?)/\∀xs σ H (Q Q':St->Hp->Prop),(∀σ H,Q σ H->Q' σ H)->t xs σ H Q->t xs σ H Q'
structure WLs (M:Fm) (n:Nat) (tg:List Expr) (m:List D->L2.Env->Option L2.Env):Prop where
 h:∃t:TGs,(∀i,PGs (M.X i) tg t)/\@jg2 M.fr t m/\jnq n t
theorem jeZ {n:Nat}:WLs M n [] ZL:=⟨jmo,fun _=>jf4,@jkx M.fr,fun xs σ H Q h=>⟨h.1,h.2,rfl,fun _ _=>rfl⟩,fun xs σ H Q Q' hq h=>⟨h.1,hq _ _ h.2⟩⟩
theorem QG {i n:Nat} (hN:∀j,(M.X j).N.Nodup) (hi:M.N[i]?=some x) (hn:i<n) (hx:∀j,Loc (M.X j).env.scope x) (hf:∀j,(M.X j).fn x=true\/(M.X j).env.scope.names.lookup x=some .local) (h:WLs M n es ms)
 (hs:autoParam (∀j,(assignEach (.Name x pos::es) (M.X j).env).map (·.2)=assign (.Name x pos) (M.X j).env::(assignEach es (M.X j).env).map (·.2)) QA.a3._auto_1):WLs M n (.Name x pos::es) (qK (jG i) ms):=
 let ⟨_,b1,b2,b3,b4⟩:=h.h
 ⟨_,fun j=>jem (jdm (hN j) (by rw [M.hN j];exact hi) (hx j) (hf j)) (b1 j) (hs j),@jhS M.fr _ _ _ _ (@je0 M.fr i) b2,fun xs σ H Q ⟨v,r,e,q⟩=>⟨v,r,e,b4 _ _ _ _ _ (fun σ2 H2 ⟨q1,q2,q3⟩=>⟨q1,by rw [q2];simp,fun k hk=>by rw [q3 k hk,List.getElem?_set_ne (by omega)]⟩) (b3 _ _ _ _ q)⟩,
  fun xs σ H Q Q' hq ⟨v,r,e,q⟩=>⟨v,r,e,b4 _ _ _ _ _ hq q⟩⟩
theorem jex {k n l:Nat} (h:WLs M n es ms) (hn:autoParam (∀j,(assignEach es (M.X j).env).length=l) QA.a3._auto_1) (hst:autoParam (∀j,(assignEach es (M.X j).env).findIdx? (·.1)=none) QA.a3._auto_1):WL M n (.Tuple es k pos) (Zb l ms):=
 let ⟨_,a1,a2,a3,_⟩:=h.h;⟨jjE M.K l _,fun j=>by have:=ji8 (k:=k) (pos:=pos) (M.calm j) (a1 j) (hn j) (hst j);rw [M.hK j] at this;exact this,@jkO M.fr l _ _ a2,fun x σ H Q ⟨a,xs,e,hq,hl,q⟩=>⟨a,xs,e,hq,hl,a3 _ _ _ _ q⟩⟩
theorem qp:WTs M [] (fun _=>some true):=⟨_,fun _=>jjV,@jlo M.fr⟩
theorem jjz (h:WC M e ga):WTs M [e] ga:=let ⟨_,h1,h2⟩:=h.h;⟨_,fun j=>jjZ (h1 j),h2⟩
theorem ZS (hsc:∀j,(M.X j).env.scope=sc) (ok:LcOk sc M.N scope Fn ix) (hi:WIT M tg iter fo) (hg:WL (M.blk (Lc++Fn) scope) Lc.length tg m) (ht:WTs (M.blk (Lc++Fn) scope) ifs ga) (he:WE (M.blk (Lc++Fn) scope) e fe)
 (hs:autoParam (∀j x,foldedSetIterable iter (M.X j).env x=pure x) QA.a9._auto_1):WO M (.ListComp e [⟨tg,iter,ifs,0⟩] scope pos) (QN fo m ga fe Lc.length ix):=
 let ⟨_,i1,i2⟩:=hi.h;let ⟨_,g1,g2,g3⟩:=hg.h;let ⟨_,t1,t2⟩:=ht.h;let ⟨_,e1,e2⟩:=he.h
 ⟨_,fun j=>jl1 (hsc j) (M.hN j) (M.calm j) ok (i1 j) (fun C s H fp=>g1 (j,C,s,H,fp)) g3 (fun C s H fp=>t1 (j,C,s,H,fp)) (fun C s H fp=>e1 (j,C,s,H,fp)) (hs j),@jmB M.fr _ _ _ _ _ _ _ _ _ _ i2 g2 t2 e2⟩
noncomputable def jhJ (sc scope:Scope):Scope:={ scope with names:=scope.names.map fun (n,k)=>if (k == NameKind.free && sc.kind == .function && sc.names.lookup n == some .cell) then (n,NameKind.cell) else (n,k) }
theorem jna {N1:List Str} {scope1:Scope} (hsc:∀j,(M.X j).env.scope=sc) (ok:LcOk (jhJ sc scope1) N1 scope Fn ix) (hi:WIT (M.blk N1 scope1) tg iter fo) (hg:WL ((M.blk N1 scope1).blk (Lc++Fn) scope) Lc.length tg m) (ht:WTs ((M.blk N1 scope1).blk (Lc++Fn) scope) ifs ga) (he:WE ((M.blk N1 scope1).blk (Lc++Fn) scope) e fe)
 (hs:autoParam (∀j x,foldedSetIterable iter ((M.blk N1 scope1).X j).env x=pure x) QA.a9._auto_1):WO (M.blk N1 scope1) (.ListComp e [⟨tg,iter,ifs,0⟩] scope pos) (QN fo m ga fe Lc.length ix):=
 ZS (M:=M.blk N1 scope1) (sc:=jhJ sc scope1) (fun j=>by rw [<-hsc j.1];rfl) ok hi hg ht he hs
theorem jhO {i:Nat} {y:Str} {py spos:Pos} (hNd:∀j,(M.X j).N.Nodup) (hy:M.N[i]?=some y) (hyl:∀j,(M.X j).env.scope.names.lookup y=some .local) (hsc:∀j,(M.X j).env.scope=sc) (ok:LcOk sc M.N scope Fn ix) (hi:WIT M tg iter fo) (hg:WL (M.blk (Lc++Fn) scope) Lc.length tg m) (ht:WTs (M.blk (Lc++Fn) scope) ifs ga) (he:WE (M.blk (Lc++Fn) scope) e fe)
 (hsw:autoParam (∀j,swapsWith (.ListComp e [⟨tg,iter,ifs,0⟩] scope pos) (some (.Name y py)) spos.line (M.X j).env=pure true) QA.a3._auto_1) (hs:autoParam (∀j x,foldedSetIterable iter (M.X j).env x=pure x) QA.a9._auto_1):WS M (.Assign [.Name y py] (.ListComp e [⟨tg,iter,ifs,0⟩] scope pos) spos) (jB i (jL (QN fo m ga fe Lc.length ix))):=
 let ⟨_,i1,i2⟩:=hi.h;let ⟨_,g1,g2,g3⟩:=hg.h;let ⟨_,t1,t2⟩:=ht.h;let ⟨_,e1,e2⟩:=he.h
 ⟨_,fun j=>je9 (hNd j) (by rw [M.hN j];exact hy) (hyl j) (hsc j) (M.hN j) (M.calm j) ok (i1 j) (fun C s H fp=>g1 (j,C,s,H,fp)) g3 (fun C s H fp=>t1 (j,C,s,H,fp)) (fun C s H fp=>e1 (j,C,s,H,fp)) (hsw j) (hs j),@jkS M.fr _ _ i (@EOkO.e M.fr _ _ (@jmB M.fr _ _ _ _ _ _ _ _ _ _ i2 g2 t2 e2))⟩
end
section
variable {P:Program} {w:World} {K:PySem.W.Frag} {mg:Str->Option Value} {base:Heap} {y qual:Str} {st:Stmt} {f:Addr} {fd:FuncData} {N ps:List Str} {k a n:Nat} {m:FS}
noncomputable abbrev jkK (P:Program) (w:World) (K:PySem.W.Frag) (mg:Str->Option Value) (base:Heap) (N:List Str) (qual:Str) (scope:Scope) (f:Addr) (cdv:Value) (A:Around) (outer:List PySem.Env) (s:Shared) (H:Hp) (E:XK):Fm:=
 ⟨Unit,fun _=>(jeP Qc P w K mg base N qual scope f cdv A outer s H E).nox,K,N,fun _=>rfl,fun _=>rfl,fun _=>rfl⟩
theorem zN (F:Fun K y qual st f fd) (S:FnScope N ps (jd st)) (ha:a=ps.length) (hn:N.length=n)
 (h:∀(cdv:Value) (A:Around) (outer:List PySem.Env) (s:Shared) (H:Hp) (E:XK),Room k (A.deeper (envOfC qual (jd st) s.heap.objs.size f cdv))->WSs (jkK P w K mg base N qual (jd st) f cdv A outer s H E) (jH st) m) :
 FnOk P w K mg base Qc (k+1) f fd ps (@spS ⟨K⟩ (qX a n m)):=by
 letI:Fr:=⟨K⟩
 refine F.ok S (fun vs H Q E h=>(jn5 h).trans ha) (fun cdv A outer s H vs Q E hr q=>?_)
 obtain ⟨t,h1,h2⟩:=(h cdv A outer s H E hr).h
 exact ⟨t,h1 (),jlR h2 (by rw [<-hn]) q⟩
theorem QT (F:Fun K y qual st f fd) (S:FnScope N ps (jd st)) (ha:a=ps.length) (hn:N.length=n)
 (h:∀(cdv:Value) (A:Around) (outer:List PySem.Env) (s:Shared) (H:Hp) (E:XK),Room k (A.deeper (envOfC qual (jd st) s.heap.objs.size f cdv))->WSs (jkK P w K mg base N qual (jd st) f cdv A outer s H E) (jH st) m) :
 FnOk P w K mg base Qc (k+1) f fd ps (@spO ⟨K⟩ (Jv a n m)):=by
 letI:Fr:=⟨K⟩
 refine F.ok S (fun vs H Q E h=>(jnG h).trans ha) (fun cdv A outer s H vs Q E hr q=>?_)
 obtain ⟨t,h1,h2⟩:=(h cdv A outer s H E hr).h
 exact ⟨t,h1 (),jl5 h2 (by rw [<-hn]) q⟩
end
end L2
set_option Elab.async false
set_option linter.all false
set_option maxRecDepth 100000
set_option maxHeartbeats 1000000
namespace L2
open PySem PySem.Spec PyProof.Rows
noncomputable def Jd:List Int->List D->Int->Option D
 | i::ks,d::ds,k=>if i=k then some d else Jd ks ds k
 | _,_,_=>none
noncomputable def jcO:List Int->List D->Int->D->List D
 | i::ks,d::ds,k,e=>(if i=k then e else d)::jcO ks ds k e
 | _,_,_,_=>[]
noncomputable def ja3:List Int->List V->Int->V->List V
 | i::ks,d::ds,k,e=>(if i=k then e else d)::ja3 ks ds k e
 | _,_,_,_=>[]
section
variable [Fr] {G H:Hp}
theorem Zm {i:Int} {ks:List Int} {v:V} {vs:List V}:zu (i::ks) (v::vs)=(Sum.inl i,v)::zu ks vs:=rfl
theorem jh6 {vs:List V} {ds:List D} (r:Reps G vs ds):∀{ks:List Int} (k:Int),ks.length=vs.length->
 (∀d,Jd ks ds k=some d->∃v,jaQ (zu ks vs) (Sum.inl k)=some v/\Rep G v d)/\(Jd ks ds k=none->jaQ (zu ks vs) (Sum.inl k)=none):=by
 induction vs generalizing ds with
 | nil=>
   intro ks k hl
   cases ks with
   | nil=>
     have hn:Jd [] ds k=none:=rfl
     rw [hn]
     exact ⟨fun d h=>(nomatch h),fun _=>rfl⟩
   | cons i ks=>cases hl
 | cons v vs ih=>
   intro ks k hl
   cases ks with
   | nil=>cases hl
   | cons i ks=>
     cases r with
     | @cons _ d _ ds r t=>
       have ih':=ih t (ks:=ks) k (by simpa using hl)
       by_cases e:i=k
       . refine ⟨fun d' h=>⟨v,?_,?_⟩,fun h=>?_⟩
         . rw [Zm];exact Zj (by rw [e])
         . have h':(if i=k then some d else Jd ks ds k)=some d':=h
           rw [if_pos e] at h'
           cases h'
           exact r
         . have h':(if i=k then some d else Jd ks ds k)=none:=h
           rw [if_pos e] at h'
           cases h'
       . have h0:Jd (i::ks) (d::ds) k=Jd ks ds k:=if_neg e
         rw [h0,Zm,Zu (show ¬(Sum.inl i:zi)=Sum.inl k from fun z=>e (by injection z))]
         exact ih'
theorem jd4 {v:V}:∀{ks:List Int} {vs:List V} {k:Int},ks.length=vs.length->(ja3 ks vs k v).length=ks.length
 | [],[],_,_=>rfl
 | [],_::_,_,h=>by cases h
 | _::_,[],_,h=>by cases h
 | i::ks,u::vs,k,h=>by show (ja3 ks vs k v).length+1=ks.length+1;rw [jd4 (by simpa using h)]
theorem jhI {v:V} {d:D} (q:Rep G v d) {vs:List V} {ds:List D} (r:Reps G vs ds):∀{ks:List Int} {k:Int},Reps G (ja3 ks vs k v) (jcO ks ds k d):=by
 induction vs generalizing ds with
 | nil=>intro ks k;cases r;cases ks <;> exact .nil
 | cons u vs ih=>
   intro ks k
   cases r with
   | cons a t=>
     cases ks with
     | nil=>exact .nil
     | cons i ks=>
       refine .cons ?_ (ih t)
       by_cases e:i=k
       . rw [if_pos e,if_pos e];exact q
       . rw [if_neg e,if_neg e];exact a
theorem jfz {v:V}:∀{ks:List Int} {vs:List V} {k:Int},ks.length=vs.length->(zu ks vs).map (fun kv=>if kv.1=(Sum.inl k:zi) then (kv.1,v) else kv)=zu ks (ja3 ks vs k v)
 | [],[],_,_=>rfl
 | [],_::_,_,h=>by cases h
 | _::_,[],_,h=>by cases h
 | i::ks,u::vs,k,h=>by
   show _=zu (i::ks) ((if i=k then v else u)::ja3 ks vs k v)
   rw [Zm,Zm,List.map_cons,jfz (by simpa using h)]
   congr 1
   by_cases e:i=k
   . subst e;simp
   . rw [if_neg (show ¬(Sum.inl i:zi)=Sum.inl k from fun z=>e (by injection z)),if_neg e]
theorem jf7 {v:V} {k:Int}:∀{ks:List Int} {vs:List V},ks.length=vs.length->zu ks vs++[(Sum.inl k,v)]=zu (ks++[k]) (vs++[v])
 | [],[],_=>rfl
 | [],_::_,h=>by cases h
 | _::_,[],h=>by cases h
 | i::ks,u::vs,h=>by
   show (Sum.inl i,u)::(zu ks vs++[(Sum.inl k,v)])=zu (i::(ks++[k])) (u::(vs++[v]))
   rw [jf7 (by simpa using h)]
   rfl
omit [Fr] in
theorem jh0 {ks:List Int} {vs:List V} (h:ks.length=vs.length):(zu ks vs).length=ks.length:=by unfold zu;simp [h]
noncomputable def joZ (neg:Bool):D->D->Option D
 | .int i,.dic ks ds=>some (.bl (neg != (Jd ks ds i).isSome))
 | _,_=>none
noncomputable def EOkD (t:TE) (f:L2.Env->Option (List Int×List D)):Prop:=∀G0 H0 G H σ ρ (Q:VK) p,EnvOk G0 H0 G H σ ρ->f ρ=some p->
 (∀a vs G' H',Ext G H G' H'->H a=none->G' a=none->H' a=some (.dK (zu p.1 vs))->p.1.length=vs.length->Reps G' vs p.2->Q (.ref a) H')->t σ H Q
noncomputable def tFz (t:TE):TE:=fun σ H Q=>t σ H fun v H1=>∃a kvs,v=.ref a/\H1 a=some (.dK kvs)/\∀o,Q v (upd H1 a (.frz o (.dK kvs)))
noncomputable def jmX (f:L2.Env->Option (List Int×List D)):L2.Env->Option D:=fun ρ=>(f ρ).map fun p=>.dic p.1 p.2
theorem EOkD.e {t:TE} {f:L2.Env->Option (List Int×List D)} (h:EOkD t f):EOk (tFz t) (jmX f):=fun G0 H0 G H σ ρ Q d e q k=>by
 unfold jmX at q
 cases z:f ρ with
 | none=>rw [z] at q;cases q
 | some ds=>
   rw [z] at q
   cases q
   refine h G0 H0 G H σ ρ _ ds e z fun a vs G' H' x hn hg ha hl r=>⟨a,_,rfl,ha,fun o=>?_⟩
   have x':Ext G H G' (upd H' a (.frz o (.dK (zu ds.1 vs)))):=⟨fun b u w=>by rw [jw (jz w hn)];exact x.hh b u w,x.gg,fun b u w=>by rw [jw (jz w hg)];exact x.gh b u w,x.nw⟩
   exact k _ _ _ (x'.freeze hn hg jx) (.dic jx hl (r.mono (.upd hg)))
noncomputable def jit:L2.Env->Option (List Int×List D):=fun _=>some ([],[])
theorem jmf:EOkD jiH jit:=fun G0 H0 G H σ ρ Q p e q k hp hn=>by
 cases q
 exact k hp [] G _ (.new e.same hn) hn (e.same.free hn) (by rw [jx];rfl) rfl .nil
noncomputable def jhG (fk fv:L2.Env->Option D):L2.Env->Option (List Int×List D):=fun ρ=>match fk ρ,fv ρ with
 | some (.int i),some d=>some ([i],[d])
 | _,_=>none
theorem jl8 {tk tv:TE} {fk fv:L2.Env->Option D} (hk:EOk tk fk) (hv:EOk tv fv):EOkD (jkA [(tk,tv)]) (jhG fk fv):=fun G0 H0 G H σ ρ Q p e q k a ha=>by
 unfold jhG at q
 split at q
 . rename_i i d z1 z2
   cases q
   have x0:Ext G H G (upd H a (.dK [])):=.new e.same ha
   refine hk _ _ _ _ _ _ _ _ (e.grow x0) z1 fun x G1 H1 x1 r1=>hv _ _ _ _ _ _ _ _ ((e.grow x0).grow x1) z2 fun y G2 H2 x2 r2=>?_
   cases r1
   have h2:H2 a=some (.dK []):=(x1.trans x2).hh _ _ jx
   have ga:G2 a=none:=(x1.trans x2).gone (e.same.free ha) jx
   refine ⟨h2,[(Sum.inl i,y)],rfl,by show 1<=15;decide,?_⟩
   have x3:Ext G H G2 H2:=x0.trans (x1.trans x2)
   refine k a [y] G2 _ ⟨fun b o z=>?_,x3.gg,fun b o z=>?_,x3.nw⟩ ha ga ?_ rfl (.cons r2 .nil)
   . rw [jw (jz z ha)];exact x3.hh b o z
   . rw [jw (jz z ga)];exact x3.gh b o z
   . rw [jx];rfl
 . cases q
noncomputable def jfD (i:Nat) (fo:L2.Env->Option (List Int×List D)):FS:=fun ρ=>match fo ρ with
 | some p=>.next (ρ.set i (.od p.1 p.2))
 | none=>.fail
theorem jk7 {te:TE} {fo:L2.Env->Option (List Int×List D)} (i:Nat) (h:EOkD te fo):ZZ (jc3 te (ZI i)) (jfD i fo):=fun G0 H0 G H σ ρ E e q=>by
 unfold jfD at q
 split at q
 . rename_i p z
   exact h _ _ _ _ _ _ _ _ e z fun a vs G' H' x hn hg hh hl r=>q G' H' _ x.gg (e.setD x hn hg hh hl r)
 . exact q.elim
noncomputable def joN (i:Nat):FS:=fun ρ=>match ρ[i]? with
 | some (.od ks ds)=>.ret (.dic ks ds)
 | _=>.fail
noncomputable def JF (ks:List Int) (k:Int):List Int:=if k∈ks then ks else ks++[k]
noncomputable def jcn (ks:List Int) (ds:List D) (k:Int) (d:D):List D:=if k∈ks then jcO ks ds k d else ds++[d]
theorem jjf {ks:List Int} {vs:List V} {k:Int} (hl:ks.length=vs.length):((zu ks vs).any fun kv=>decide (kv.1=(Sum.inl k:zi)))=decide (k∈ks):=by
 induction ks generalizing vs with
 | nil=>rfl
 | cons i ks ih=>
   cases vs with
   | nil=>cases hl
   | cons v vs=>
     rw [Zm,List.any_cons,ih (by simpa using hl)]
     by_cases e:i=k
     . subst e;simp
     . have:¬(Sum.inl i:zi)=Sum.inl k:=fun z=>e (by injection z)
       simp [this,Ne.symm e]
noncomputable def jbf (i:Nat) (fk fv:L2.Env->Option D):FS:=fun ρ=>match ρ[i]?,fv ρ,fk ρ with
 | some (.od ks ds),some d,some (.int k)=>if zM ks.length then .next (ρ.set i (.od (JF ks k) (jcn ks ds k d))) else .fail
 | _,_,_=>.fail
theorem jlQ {tk tv:TE} {fk fv:L2.Env->Option D} (i:Nat) (hk:EOk tk fk) (hv:EOk tv fv):ZZ (jkv (jev i) tk tv) (jbf i fk fv):=fun G0 H0 G H σ ρ E e q=>by
 unfold jbf at q
 split at q
 . rename_i ks ds d k z1 z2 z3
   split at q
   . rename_i hz
     obtain ⟨a,vs,h1,h2,h3,h4,hl,h5⟩:=e.od z1
     refine hv _ _ _ _ _ _ _ _ e z2 fun v G' H' x r=>⟨_,h1,hk _ _ _ _ _ _ _ _ (e.grow x) z3 fun w G2 H2 x2 r2=>?_⟩
     cases r2
     have xx:=x.trans x2
     have e':=(e.grow x).grow x2
     have h5':=h5.mono xx.gg
     have r':=r.mono x2.gg
     refine ⟨a,_,rfl,.inl ⟨zu ks vs,Sum.inl k,xx.hh _ _ h4,rfl,by rw [jh0 hl];exact ZD hz,rfl⟩,?_⟩
     have key:QL (zu ks vs) (Sum.inl k) v=zu (JF ks k) (if k∈ks then ja3 ks vs k v else vs++[v]):=by
       unfold QL JF
       rw [jjf hl]
       by_cases hm:k∈ks
       . rw [if_pos (decide_eq_true hm),if_pos hm,if_pos hm,jfz hl]
       . rw [if_neg (by simpa using hm),if_neg hm,if_neg hm,jf7 hl]
     rw [key]
     refine q G2 _ σ xx.gg (e'.putD z1 h1 ?_ ?_)
     . unfold JF
       by_cases hm:k∈ks
       . rw [if_pos hm,if_pos hm,jd4 hl]
       . rw [if_neg hm,if_neg hm];simp [hl]
     . unfold jcn
       by_cases hm:k∈ks
       . rw [if_pos hm,if_pos hm];exact jhI r' h5'
       . rw [if_neg hm,if_neg hm];exact h5'.snoc r'
   . exact q.elim
 . exact q.elim
end
section
variable [Fr]
end
section
variable {X:Cx}
theorem jjy {P:Program} {w:World} {i:Int} {u:Value} (h:(j1 P w).is (Sum.inl i) u=true):RelV (.int i) u:=by
 have h':jau (Sum.inl i) u=true:=h
 cases u <;> simp [jau,Value.isInt] at h' <;> first | (subst h';exact ⟨_,rfl⟩) | skip
end
end L2
set_option Elab.async false
set_option linter.all false
set_option maxRecDepth 100000
set_option maxHeartbeats 1000000
namespace L2
open PySem PySem.Spec PyProof.Rows
section
variable {X:Cx}
end
section
variable {prog:Program} {w:World} {A:Around} {E:Value->Shared->Prop} {s:Shared}
end
section
variable {X:Cx} {pins:List (Addr×Obj)} {σ:St} {H:Hp} {s:Shared} {a:Addr} {A:Around} {E:Value->Shared->Prop}
end
section
variable [Fr]
end
end L2
set_option Elab.async false
set_option linter.all false
set_option maxRecDepth 100000
set_option maxHeartbeats 1000000
namespace L2
open PySem PySem.Spec PyProof.Rows
section
variable [Fr]
theorem jld {t:TS}:ZZ t fun _=>.fail:=fun G0 H0 G H σ ρ E e q=>q.elim
end
section
variable {X:Cx}
end
end L2
set_option Elab.async false
set_option linter.all false
set_option maxRecDepth 100000
set_option maxHeartbeats 1000000
namespace L2
open PySem PySem.Spec PyProof.Rows
section
variable {prog:Program} {w:World} {A:Around} {E:Value->Shared->Prop} {s:Shared}
end
section
variable {X:Cx}
end
section
variable [Fr]
end
section
variable {X:Cx}
end
section
variable [Fr]
end
section
variable {prog:Program} {w:World} {A:Around} {E:Value->Shared->Prop} {s:Shared}
end
section
variable {X:Cx}
end
section
variable [Fr]
end
end L2
set_option Elab.async false
set_option linter.all false
set_option maxRecDepth 100000
set_option maxHeartbeats 1000000
namespace L2
open PySem PySem.Spec PyProof.Rows
structure WD (M:Fm) (e:Expr) (f:L2.Env->Option (List Int×List D)):Prop where
 h:∃t,(∀i,PE (M.X i) e t)/\@EOkD M.fr t f
section
variable {M:Fm} {a b c e o:Expr} {es:List Expr} {fa fb fc fe:L2.Env->Option D} {fo:L2.Env->Option (List D)} {fs:L2.Env->Option (List D)} {fd:L2.Env->Option (List Int×List D)} {ga gb:L2.Env->Option Bool} {pos p apos cpos:Pos} {x:Str}
theorem jiB {n:Nat} (h:n+64<cLine):n+1<cLine:=by omega
theorem jkW:WD M (.Dict [] [] pos) jit:=⟨_,fun _=>jiQ,@jmf M.fr⟩
theorem jox (ha:WE M a fa) (hb:WE M b fb):WD M (.Dict [some a] [b] pos) (jhG fa fb):=
 let ⟨_,h1,h2⟩:=ha.h;let ⟨_,k1,k2⟩:=hb.h;⟨_,fun j=>jjc (jio (h1 j) (k1 j) jjo) rfl rfl (by simp) (by show 1<=15;decide),@jl8 M.fr _ _ _ _ h2 k2⟩
variable {m:D->L2.Env->Option L2.Env} {tg iter:Expr} {st:Stmt} {sts body:List Stmt} {F F' B:FS}
theorem jj8 {i:Nat} {pos':Pos} (h:WD M e fd) (hN:∀j,(M.X j).N.Nodup) (hi:M.N[i]?=some x) (hx:∀j,Loc (M.X j).env.scope x) (hf:∀j,(M.X j).fn x=true\/(M.X j).env.scope.names.lookup x=some .local) (hs:autoParam (∀j,swapsWith e (some (.Name x pos')) pos.line (M.X j).env=pure false) QA.a3._auto_1) :
 WS M (.Assign [.Name x pos'] e pos) (jfD i fd):=let ⟨_,h1,h2⟩:=h.h;⟨_,fun j=>je3 (hN j) (by rw [M.hN j];exact hi) (hx j) (h1 j) (hs j) (hf j),@jk7 M.fr _ _ i h2⟩
theorem jjI {i:Nat} {pos':Pos} {y:Str} {py:Pos} (hu:∀j,(M.X j).A.units+64<cLine) (hN:M.N[i]?=some y) (hv:∀j,Vis (M.X j).env.scope y) (hk:WE M b fb) (h:WE M e fe) (hd:autoParam ((y == ("__debug__" : Str)) = false) QA.a1._auto_1) (hcd : autoParam ((y == ("__classdict__" : Str)) = false) QA.a1._auto_1)
 (hs:autoParam (∀j,swapsWith e (some (.Subscript (.Name y py) b pos')) pos.line (M.X j).env=pure false) QA.a3._auto_1):WS M (.Assign [.Subscript (.Name y py) b pos'] e pos) (jbf i fb fe):=
 let ⟨_,a1,a2⟩:=h.h;let ⟨_,b1,b2⟩:=hk.h;⟨_,fun j=>jke (jiB (hu j)) (jae (by rw [M.hN j];exact hN) (hv j) hd hcd) (b1 j) (a1 j) (hs j),@jlQ M.fr _ _ _ _ i b2 a2⟩
theorem jd9:WS M st (fun _=>.fail):=⟨fun _ _ _=>False,fun _ _ _ _ _ _ _ h=>h.elim,@jld M.fr _⟩
variable {ifs:List Expr} {scope sc:Scope} {Lc Fn:List Str} {ix:List Nat}
end
end L2
set_option Elab.async false
set_option linter.all false
set_option maxRecDepth 100000
set_option maxHeartbeats 1000000
namespace L2
open PySem PySem.Spec PyProof.Rows
noncomputable abbrev TLk:=V->TT
section
variable {X:Cx} {op op':CmpOp} {ops:List CmpOp} {b b' a:Expr} {bs:List Expr} {r:R2} {tb ta:TE} {l:TLk} {pos:Pos}
end
section
variable [Fr]
variable {r:R2} {f:D->D->Option D} {ta tb:TE} {fa fb:L2.Env->Option D} {l:TLk} {m:D->L2.Env->Option Bool}
end
section
variable {M:Fm} {a b b':Expr} {bs:List Expr} {op op':CmpOp} {ops:List CmpOp} {f:D->D->Option D} {fa fb:L2.Env->Option D} {m:D->L2.Env->Option Bool} {pos:Pos}
end
end L2
set_option Elab.async false
set_option linter.all false
set_option maxRecDepth 100000
set_option maxHeartbeats 1000000
namespace L2
open PySem PySem.Spec PyProof.Rows
section
variable {X:Cx}
end
section
variable [Fr]
end
section
variable {M:Fm} {o e:Expr} {fa fe:L2.Env->Option D} {apos cpos:Pos}
end
section
variable {P:Program} {w:World} {K:PySem.W.Frag} {mg:Str->Option Value} {base:Heap} {f:Addr} {fd:FuncData} {ps:List Str} {k:Nat}
end
end L2
set_option Elab.async false
set_option linter.all false
set_option maxRecDepth 100000
set_option maxHeartbeats 4000000
namespace QS
open PySem.W PyProof.Rows
noncomputable def ans {α:Type} (n:Nat) (K:Nat->Int):KasT α->(α->Prop)->Prop
 | .ret a,Q=>Q a
 | .ask i j k,Q=>i<n/\j<n/\ans n K (k (decide (K i<K j))) Q
theorem JI {α β:Type} {n:Nat} {K:Nat->Int} {f:α->KasT β} {Q:β->Prop}:∀{t:KasT α},ans n K t (fun a=>ans n K (f a) Q)->ans n K (t.bind f) Q
 | .ret _,h=>h
 | .ask _ _ k,h=>⟨h.1,h.2.1,JI (t:=k _) h.2.2⟩
theorem zj {α:Type} {n:Nat} {K:Nat->Int} {Q Q':α->Prop} (hq:∀a,Q a->Q' a):∀{t:KasT α},ans n K t Q->ans n K t Q'
 | .ret a,h=>hq a h
 | .ask _ _ k,h=>⟨h.1,h.2.1,zj hq (t:=k _) h.2.2⟩
structure PA (n:Nat) (p:Array Nat):Prop where
 size:p.size=n
 perm:p.toList.Perm (List.range n)
noncomputable def key (K:Nat->Int) (p:Array Nat) (i:Nat):Int:=K (p.getD i 0)
section
variable {n:Nat} {K:Nat->Int} {p:Array Nat}
theorem PA.at (h:PA n p) {i:Nat} (hi:i<n):p[i]?=some (p.getD i 0):=by
 rw [Array.getD_eq_getD_getElem?,Array.getElem?_eq_getElem (by rw [h.size];exact hi)];rfl
theorem PA.lt (h:PA n p) {i:Nat} (hi:i<n):p.getD i 0<n:=by
 have e:=h.at hi
 have m:p.getD i 0∈p.toList:=Array.mem_toList_iff.mpr (Array.mem_of_getElem? e)
 exact List.mem_range.mp (h.perm.mem_iff.mp m)
theorem PA.inj (h:PA n p) {i j:Nat} (hi:i<n) (hj:j<n) (e:p.getD i 0=p.getD j 0):i=j:=by
 have nd:p.toList.Nodup:=h.perm.nodup_iff.mpr List.nodup_range
 have hi':i<p.toList.length:=by rw [Array.length_toList,h.size];exact hi
 have hj':j<p.toList.length:=by rw [Array.length_toList,h.size];exact hj
 refine (List.getElem_inj (h₀:=hi') (h₁:=hj') nd).mp ?_
 have a:=h.at hi
 have b:=h.at hj
 rw [<-Array.getElem?_toList,List.getElem?_eq_getElem hi'] at a
 rw [<-Array.getElem?_toList,List.getElem?_eq_getElem hj'] at b
 rw [Option.some.inj a,Option.some.inj b,e]
theorem PA.rev (h:PA n p) (i j:Nat):PA n (kas_rev p i j):=⟨(mirror_size _ _ _ _).trans h.size,(Array.perm_iff_toList_perm.mp (mirror_perm _ _ _ _)).trans h.perm⟩
theorem PA.bub (h:PA n p) (i j:Nat):PA n (bubble p i j):=⟨(bubble_size _ _ _).trans h.size,(Array.perm_iff_toList_perm.mp (bubble_perm _ _ _)).trans h.perm⟩
theorem J6 {q:Array Nat} {i j:Nat} (h:p[i]?=q[j]?):key K p i=key K q j:=by
 unfold key
 rw [Array.getD_eq_getD_getElem?,Array.getD_eq_getD_getElem?,h]
theorem jge (h:PA n p) {m i:Nat} (hm:m<=n):key K (kas_rev p 0 m) i=if i<m then key K p (m-1-i) else key K p i:=by
 have e:=getElem?_mirror_all (xs:=p) (i:=0) (j:=m) (by rw [h.size];exact hm) i
 by_cases c:i<m
 . rw [if_pos c]
   rw [if_pos ⟨Nat.zero_le _,c⟩,Nat.zero_add] at e
   exact J6 e
 . rw [if_neg c]
   rw [if_neg (by omega)] at e
   exact J6 e
theorem jf5 (h:PA n p) {k d i:Nat} (hk:k<n) (hd:d<=k):key K (bubble p k d) i=if i=k-d then key K p k else if k-d<i/\i<=k then key K p (i-1) else key K p i:=by
 have e:=getElem?_bubble (xs:=p) (by rw [h.size];exact hk) d hd i
 by_cases c:i=k-d
 . rw [if_pos c] at e ⊢;exact J6 e
 . rw [if_neg c] at e ⊢
   by_cases c2:k-d<i/\i<=k
   . rw [if_pos c2] at e ⊢;exact J6 e
   . rw [if_neg c2] at e ⊢;exact J6 e
theorem Zp {α:Type} (h:PA n p) {i j:Nat} {k:Bool->KasT α} {Q:α->Prop} (hi:i<n) (hj:j<n) (y:key K p i<key K p j->ans n K (k true) Q) (z:¬key K p i<key K p j->ans n K (k false) Q):ans n K (.ask (p.getD i 0) (p.getD j 0) k) Q:=by
 refine ⟨h.lt hi,h.lt hj,?_⟩
 show ans n K (k (decide (key K p i<key K p j))) Q
 by_cases c:key K p i<key K p j
 . rw [decide_eq_true c];exact y c
 . rw [decide_eq_false c];exact z c
noncomputable def Ris (K:Nat->Int) (p:Array Nat) (m:Nat):Prop:=∀i,i+1<m->key K p i<key K p (i+1)
theorem Ris.all {m:Nat} (h:Ris K p m):∀{d i:Nat},i+d+1<m->key K p i<key K p (i+d+1)
 | 0,i,hi=>h i hi
 | d+1,i,hi=>Int.lt_trans (h.all (d:=d) (by omega)) (h (i+d+1) (by omega))
theorem Ris.lt {m i j:Nat} (h:Ris K p m) (hij:i<j) (hj:j<m):key K p i<key K p j:=by
 obtain ⟨d,rfl⟩:∃d,j=i+d+1:=⟨j-i-1,by omega⟩
 exact h.all hj
variable (hK:∀i j,i<n->j<n->i≠j->K i≠K j)
include hK
theorem je4 (h:PA n p) {i j:Nat} (hi:i<n) (hj:j<n) (hij:i≠j):key K p i≠key K p j:=hK _ _ (h.lt hi) (h.lt hj) fun e=>hij (h.inj hi hj e)
theorem jfm (h:PA n p):∀(f m:Nat),1<=m->m+f=n->Ris K p m->ans n K (kas_asc p f m) fun r=>m<=r/\r<=n/\Ris K p r/\(r<n->key K p r<key K p (r-1))
 | 0,m,h1,hm,hr=>⟨Nat.le_refl _,by omega,hr,by omega⟩
 | f+1,m,h1,hm,hr=>by
   refine Zp h (by omega) (by omega) (fun c=>?_) fun c=>?_
   . exact ⟨Nat.le_refl _,by omega,hr,fun _=>c⟩
   . refine zj (fun r q=>⟨by omega,q.2.1,q.2.2.1,q.2.2.2⟩) (jfm h f (m+1) (by omega) (by omega) fun i hi=>?_)
     by_cases e:i+1<m
     . exact hr i e
     . have e':i=m-1:=by omega
       subst e'
       have ne:=je4 hK h (i:=m) (j:=m-1) (by omega) (by omega) (by omega)
       rw [show m-1+1=m by omega]
       omega
theorem jfF (h:PA n p):∀(f m:Nat),2<=m->m+f=n->(∀i,i+1<m->key K p (i+1)<key K p i)->ans n K (kas_desc f p m 0) fun r=>r.1=p/\r.2.2=0/\m<=r.2.1/\r.2.1<=n/\∀i,i+1<r.2.1->key K p (i+1)<key K p i
 | 0,m,h1,hm,hr=>⟨rfl,rfl,Nat.le_refl _,by show m<=n;omega,hr⟩
 | f+1,m,h1,hm,hr=>by
   refine Zp h (by omega) (by omega) (fun c=>?_) fun c=>?_
   . refine zj (fun r q=>⟨q.1,q.2.1,by omega,q.2.2.2⟩) (jfF h f (m+1) (by omega) (by omega) fun i hi=>?_)
     by_cases e:i+1<m
     . exact hr i e
     . have e':i=m-1:=by omega
       subst e'
       rw [show m-1+1=m by omega]
       exact c
   . have ne:=je4 hK h (i:=m) (j:=m-1) (by omega) (by omega) (by omega)
     refine Zp h (by omega) (by omega) (fun c2=>⟨rfl,rfl,Nat.le_refl _,by show m<=n;omega,hr⟩) fun c2=>?_
     omega
theorem jid (h:PA n p) (hn:1<=n):ans n K (kas_count n p) fun r=>PA n r.2/\1<=r.1/\r.1<=n/\Ris K r.2 r.1:=by
 unfold kas_count
 refine JI (zj (fun r q=>?_) (jfm hK h (n-1) 1 (by omega) (by omega) fun i hi=>by omega))
 obtain ⟨q1,q2,q3,q4⟩:=q
 by_cases c1:r=n
 . rw [if_pos (by rw [c1];exact beq_self_eq_true _)]
   exact ⟨h,q1,q2,q3⟩
 . rw [if_neg (by rw [beq_iff_eq];exact c1)]
   by_cases c2:r>1
   . rw [if_pos c2]
     exact Zp h (by omega) (by omega) (fun _=>⟨h,q1,q2,q3⟩) fun c=>absurd (q3.lt (by omega) (by omega)) c
   . rw [if_neg c2]
     have e:r=1:=by omega
     subst e
     unfold kas_descPart
     refine JI (zj (fun r q=>?_) (jfF hK h (n-(1+1)) (1+1) (by omega) (by omega) fun i hi=>by
       have e':i=0:=by omega
       subst e'
       exact q4 (by omega)))
     obtain ⟨z,m,t⟩:=r
     obtain ⟨rfl,z2,z3,z4,z5⟩:=q
     dsimp only at z2 z3 z4 z5 ⊢
     subst z2
     rw [if_neg (by omega)]
     unfold kas_tail3
     have h':=h.rev 0 m
     refine JI (zj (fun r q=>?_) (jfm hK h' (n-m) m (by omega) (by omega) fun i hi=>?_))
     . exact ⟨h',by omega,q.2.1,q.2.2.1⟩
     . rw [jge h z4,jge h z4,if_pos (by omega),if_pos hi]
       have:=z5 (m-1-(i+1)) (by omega)
       rw [show m-1-(i+1)+1=m-1-i by omega] at this
       exact this
theorem jbX (h:PA n p) {k:Nat} (hk:k<n) (hr:Ris K p k):∀(f l r:Nat),l<=r->r<=k->r-l<=f->(∀i,i<l->key K p i<key K p k)->(∀i,r<=i->i<k->key K p k<key K p i)->ans n K (kas_place p k f l r) fun x=>x<=k/\(∀i,i<x->key K p i<key K p k)/\∀i,x<=i->i<k->key K p k<key K p i
 | 0,l,r,h1,h2,h3,h4,h5=>by
   have e:l=r:=by omega
   subst e
   exact ⟨h2,h4,h5⟩
 | f+1,l,r,h1,h2,h3,h4,h5=>by
   unfold kas_place
   by_cases c:l>=r
   . rw [if_pos c]
     have e:l=r:=by omega
     subst e
     exact ⟨h2,h4,h5⟩
   . rw [if_neg c]
     refine Zp h hk (by omega) (fun d=>?_) fun d=>?_
     . refine jbX h hk hr f l ((l+r)/2) (by omega) (by omega) (by omega) h4 fun i hi hik=>?_
       by_cases e:i=(l+r)/2
       . subst e;exact d
       . exact Int.lt_trans d (hr.lt (by omega) hik)
     . have ne:=je4 hK h (i:=k) (j:=(l+r)/2) hk (by omega) (by omega)
       refine jbX h hk hr f ((l+r)/2+1) r (by omega) h2 (by omega) (fun i hi=>?_) h5
       by_cases e:i=(l+r)/2
       . subst e;omega
       . have:=hr.lt (i:=i) (j:=(l+r)/2) (by omega) (by omega)
         omega
theorem ji4:∀(f:Nat) (p:Array Nat) (k:Nat),PA n p->1<=k->k+f=n->Ris K p k->ans n K (kas_bin f p k) fun r=>PA n r/\Ris K r n
 | 0,p,k,h,h1,hk,hr=>by
   have e:k=n:=by omega
   subst e
   exact ⟨h,hr⟩
 | f+1,p,k,h,h1,hk,hr=>by
   unfold kas_bin
   refine JI (zj (fun l q=>?_) (jbX hK h (k:=k) (by omega) hr k 0 k (by omega) (by omega) (by omega) (fun i hi=>by omega) fun i hi hk=>by omega))
   obtain ⟨q1,q2,q3⟩:=q
   refine ji4 f _ (k+1) (h.bub k (k-l)) (by omega) (by omega) fun i hi=>?_
   rw [jf5 h (by omega) (by omega),jf5 h (by omega) (by omega),show k-(k-l)=l by omega]
   by_cases c1:i=l
   . rw [if_pos c1,if_neg (by omega),if_pos (by omega)]
     exact q3 _ (by omega) (by omega)
   . rw [if_neg c1]
     by_cases c2:l<i/\i<=k
     . rw [if_pos c2,if_neg (by omega),if_pos (by omega)]
       have:=hr (i-1) (by omega)
       rw [show i-1+1=i by omega] at this
       rw [show i+1-1=i by omega]
       exact this
     . rw [if_neg c2]
       by_cases c3:i+1=l
       . rw [if_pos c3];exact q2 i (by omega)
       . rw [if_neg c3,if_neg (by omega)]
         exact hr i (by omega)
theorem jjP (hn:1<=n):ans n K (kas_sort n) fun r=>PA n r/\Ris K r n:=by
 unfold kas_sort
 have h0:PA n (List.toArray (List.range n)):=⟨by simp,List.Perm.refl _⟩
 refine JI (zj (fun r q=>?_) (jid hK h0 hn))
 obtain ⟨q1,q2,q3,q4⟩:=q
 by_cases c:r.1<n
 . rw [if_pos c,Nat.max_eq_left q2]
   exact ji4 hK _ _ _ q1 q2 (by omega) q4
 . rw [if_neg c]
   have e:r.1=n:=by omega
   rw [e] at q4
   exact ⟨q1,q4⟩
end
end QS
set_option Elab.async false
set_option linter.all false
set_option maxRecDepth 100000
set_option maxHeartbeats 4000000
namespace QS
open PySem PySem.W PySem.Calls PyProof.Rows
noncomputable abbrev Tr:=Value×Int×Int
noncomputable def jaP (h:Heap) (q:Tr):Prop:=∃a t u,q.1=.ref a ∧ h.get? a=some { cls:=.type "tuple", data := .seq #[.int q.2.1 t, .int q.2.2 u] }
noncomputable def t0:Tr:=(.none,0,0)
section
variable {prog:Program} {w:World} {A:Around} {E:Value->Shared->Prop} {s:Shared}
theorem jli {p q:Tr} {C:Bool->Shared->Prop} (hp:jaP s.heap p) (hq:jaP s.heap q) (e:p.2.1=q.2.1->p.2.2=q.2.2) (h:C (decide (p.2.1<q.2.1)) s):wpAny (model prog w) A (keyLt' (tuples' true) p.1 q.1) C E s:=by
 obtain ⟨a,t,u,ea,ha⟩:=hp
 obtain ⟨b,t',u',eb,hb⟩:=hq
 rw [ea,eb]
 refine kat_lt ha rfl hb rfl ?_
 show KatLex prog w A true (decide (2<2)) C [(.int p.2.1 t,.int q.2.1 t'),(.int p.2.2 u,.int q.2.2 u')] 0 s
 refine kat_cons (wpAny_eqBool_int ?_)
 by_cases c:p.2.1=q.2.1
 . rw [beq_iff_eq.mpr c]
   refine kat_yes (kat_cons (wpAny_eqBool_int ?_))
   rw [beq_iff_eq.mpr (e c)]
   refine kat_yes (kat_nil ?_)
   rw [decide_eq_false (by omega)] at h
   exact h
 . rw [beq_eq_false_iff_ne.mpr c]
   exact kat_no (oneLt_int h)
theorem jcM {α:Type} {n:Nat} {K:Nat->Int} {vs:List Value} {κ:SortKind} (hc:∀i j (C:Bool->Shared->Prop),i<n->j<n->C (decide (K i<K j)) s->kas_ask prog w A κ vs i j C s) {Q:α->Shared->Prop}:∀{t:KasT α},ans n K t (fun a=>Q a s)->t.kasWp (kas_ask prog w A κ vs) Q s
 | .ret _,h=>h
 | .ask i j k,h=>hc i j _ h.1 h.2.1 (jcM hc h.2.2)
theorem jgI {T:List Tr}:(List.range T.length).map (fun i=>T.getD i t0)=T:=by
 apply List.ext_getElem?
 intro i
 rw [List.getElem?_map]
 by_cases h:i<T.length
 . rw [List.getElem?_range h,List.getElem?_eq_getElem h]
   simp [List.getD_eq_getElem?_getD,h]
 . rw [List.getElem?_eq_none (by simp;omega),List.getElem?_eq_none (by omega)];rfl
theorem jlP {T:List Tr} {p:Array Nat} (h:PA T.length p) (hr:Ris (fun i=>(T.getD i t0).2.1) p T.length):(p.toList.map fun i=>T.getD i t0).Perm T/\(p.toList.map fun i=>T.getD i t0).Pairwise fun a b=>a.2.1<b.2.1:=by
 refine ⟨?_,?_⟩
 . have:=h.perm.map fun i=>T.getD i t0
   rwa [jgI] at this
 . rw [List.pairwise_iff_getElem]
   intro i j hi hj hij
   rw [List.length_map,Array.length_toList,h.size] at hi hj
   have q:=hr.lt hij hj
   unfold key at q
   have e:∀i (hi:i<T.length),p.getD i 0=p.toList[i]'(by rw [Array.length_toList,h.size];exact hi):=fun i hi=>by
    have:=h.at hi
    rw [<-Array.getElem?_toList,List.getElem?_eq_getElem (by rw [Array.length_toList,h.size];exact hi)] at this
    exact (Option.some.inj this).symm
   rw [List.getElem_map,List.getElem_map,<- e i hi,<- e j hj]
   exact q
theorem jfu {h:Heap}:∀{T:List Tr},(∀q∈T,jaP h q)->∃fs:List Value,fs.length=T.length/\KatTups h (T.map (·.1)) fs/\∀v∈fs,∃k t,v=Value.int k t
 | [],_=>⟨[],rfl,KatTups.nil,fun v hv=>absurd hv List.not_mem_nil⟩
 | q::T,hT=>by
   obtain ⟨fs,h1,h2,h3⟩:=jfu (T:=T) fun x hx=>hT x (List.mem_cons_of_mem _ hx)
   obtain ⟨a,t,u,ea,ha⟩:=hT q List.mem_cons_self
   refine ⟨.int q.2.1 t::fs,by rw [List.length_cons,List.length_cons,h1],?_,fun v hv=>?_⟩
   . rw [List.map_cons,ea]
     exact KatTups.cons ha rfl rfl rfl h2
   . rcases List.mem_cons.mp hv with rfl | hv
     . exact ⟨_,_,rfl⟩
     . exact h3 v hv
theorem jdq {h:Heap} {a:Addr} {vs:List Value} {q:Tr} (hq:jaP h q) (hne:∀b o,h.get? b=some o → o.cls=.type "tuple" → b ≠ a) : jaP (((h.update a (Obj.mapSeq fun _ => #[])).push (seqObj "tuple" vs.toArray 0)).push (seqObj "list" #[] 0)) q := by
 obtain ⟨b,t,u,eb,hb⟩:=hq
 refine ⟨b,t,u,eb,Heap.get?_push_of_some _ (Heap.get?_push_of_some _ ?_)⟩
 rw [Heap.get?_update_ne _ _ _ _ (hne b _ hb rfl)]
 exact hb
theorem jaF {a:Addr} {T:List Tr} {n:Nat} {P:PySem.Fin → Shared → Prop} (ho:s.heap.get? a=some (seqObj "list" (T.map (·.1)).toArray n)) (hT : ∀ q ∈ T, jaP s.heap q) (hnd : (T.map (·.2.1)).Nodup) (h64 : T.length < 64)
 (h:∀T':List Tr,T'.Perm T->T'.Pairwise (fun a b=>b.2.1<a.2.1)->P (.done (.ret .none)) { s with heap:=sortedHeap s.heap a (T.map (·.1)) (T'.map (·.1)).toArray }) :
 wpAny (model prog w) A (Builtin.«list.sort» ⟨[.ref a],[(Str.ofString "reverse", .bool true)]⟩) P E s := by
 rw [list_sort_rev]
 have ha:a<s.heap.objs.size:=Heap.lt_size ho
 have hsz:(T.map (·.1)).toArray.size=T.length:=by simp
 refine wpAny_bind (listItems_at ho rfl ?_)
 refine wpAny_bind (listUpdate_at ho rfl ?_ (by rw [hsz,sizeLine_eq];omega) (Nat.zero_le _))
 obtain ⟨e1,ho1⟩:∃e1,(s.heap.update a (Obj.mapSeq fun _=>#[])).get? a=some (seqObj "list" #[] e1) := ⟨_, get?_update_seq ho (fun _ => #[])⟩
 refine wpAny_bind (seqEpoch_at ho1 rfl ?_)
 refine wpAny_bind (wpAny_newTuple ?_ (by show (T.map (·.1)).length<=_;rw [List.length_map,sizeLine_eq];omega))
 refine wpAny_bind (wpAny_newList ?_ (Nat.zero_le _))
 refine wpAny_holding ?_
 have ho6:(((s.heap.update a (Obj.mapSeq fun _=>#[])).push (seqObj "tuple" (T.map (·.1)).toArray 0)).push (seqObj "list" #[] 0)).get? a = some (seqObj "list" #[] e1) := by
  rw [Heap.get?_push_ne _ _ _ (by rw [size_push',Heap.size_update];exact Nat.ne_of_lt (Nat.lt_succ_of_lt ha)),Heap.get?_push_ne _ _ _ (by rw [Heap.size_update];exact Nat.ne_of_lt ha)]
  exact ho1
 have hT2:∀q∈T,jaP (((s.heap.update a (Obj.mapSeq fun _=>#[])).push (seqObj "tuple" (T.map (·.1)).toArray 0)).push (seqObj "list" #[] 0)) q := fun q hq => jdq (hT q hq) fun b o hb hc z => by
  subst z
  rw [ho] at hb
  cases hb
  exact absurd (Value.type.inj hc) (by decide)
 show wpAny (model prog w) A _ P E { s with heap:=((s.heap.update a (Obj.mapSeq fun _=>#[])).push (seqObj "tuple" (T.map (·.1)).toArray 0)).push (seqObj "list" #[] 0) }
 dsimp only
 rw [if_pos rfl]
 refine wpAny_bind (wpAny_rule ?_)
 by_cases h2:(T.map (·.1)).toArray.size<2
 . rw [if_pos h2,if_pos h2]
   refine wpAny_bind (wpAny_pure ?_)
   rw [StateT.run_pure]
   refine wpAny_bind (wpAny_pure ?_)
   dsimp only
   have hp:T.Pairwise (fun a b=>b.2.1<a.2.1):=by
    rw [hsz] at h2
    match T,h2 with
    | [],_=>exact List.Pairwise.nil
    | [q],_=>exact List.pairwise_singleton _ _
   have eo:(if true=true then ((arrOf (SortSt.mk' general' (if true=true then ((T.map (·.1)).toArray.zip (T.map (·.1)).toArray).reverse else (T.map (·.1)).toArray.zip (T.map (·.1)).toArray) #[] 7 none)).map (·.2)).reverse else (arrOf (SortSt.mk' general' (if true=true then ((T.map (·.1)).toArray.zip (T.map (·.1)).toArray).reverse else (T.map (·.1)).toArray.zip (T.map (·.1)).toArray) #[] 7 none)).map (·.2))=(T.map (·.1)).toArray:=by
    rw [if_pos rfl,if_pos rfl]
    show ((((T.map (·.1)).toArray.zip (T.map (·.1)).toArray).reverse).map (·.2)).reverse=_
    rw [hsz] at h2
    match T,h2 with
    | [],_=>simp
    | [q],_=>simp
   refine wpAny_bind (seqEpoch_at ho6 rfl ?_)
   rw [eo]
   refine wpAny_bind (listUpdate_at ho6 rfl ?_ (Nat.zero_le _) (by rw [hsz,sizeLine_eq];omega))
   simp only [bne_self_eq_false,Bool.false_eq_true,if_false]
   exact wpAny_pure (h T (List.Perm.refl _) hp)
 . rw [if_neg h2,if_neg h2]
   rw [hsz] at h2
   obtain ⟨fs,f1,f2,f3⟩:=jfu hT2
   refine wpAny_bind (kat_kind (T:=.type "int") f2 (by omega) (fun v hv => by obtain ⟨k, t, rfl⟩ := f3 v hv; exact Looks.now) (by decide) ?_)
   rw [show (Value.type "int" != Value.type "tuple") = true from by decide]
   have eL:(T.map (·.1)).length=(T.map (·.1)).length:=rfl
   rw [kat_pairs true eL,show katRev true (T.map (·.1))=T.reverse.map (·.1) from by rw [List.map_reverse];rfl]
   have hl:(T.reverse.map (·.1)).length=T.length:=by simp
   have hrl:T.reverse.length=T.length:=by simp
   have hT3:∀i,i<T.length → jaP (((s.heap.update a (Obj.mapSeq fun _=>#[])).push (seqObj "tuple" (T.map (·.1)).toArray 0)).push (seqObj "list" #[] 0)) (T.reverse.getD i t0) := fun i hi => by
    refine hT2 _ (List.mem_reverse.mp ?_)
    rw [List.getD_eq_getElem?_getD,List.getElem?_eq_getElem (by rw [hrl];exact hi)]
    exact List.getElem_mem _
   have hget:∀i,(T.reverse.map (·.1)).getD i Value.none=(T.reverse.getD i t0).1:=fun i=>by
    rw [List.getD_eq_getElem?_getD,List.getD_eq_getElem?_getD,List.getElem?_map]
    cases T.reverse[i]? <;> rfl
   have hK:∀i j,i<T.length->j<T.length->i≠j->(T.reverse.getD i t0).2.1≠(T.reverse.getD j t0).2.1:=fun i j hi hj hij z=>by
    have nd:(T.reverse.map (·.2.1)).Nodup:=by rw [List.map_reverse];exact (List.reverse_perm _).nodup_iff.mpr hnd
    have hi':i<(T.reverse.map (·.2.1)).length:=by rw [List.length_map,hrl];exact hi
    have hj':j<(T.reverse.map (·.2.1)).length:=by rw [List.length_map,hrl];exact hj
    refine hij ((List.getElem_inj (h₀:=hi') (h₁:=hj') nd).mp ?_)
    rw [List.getElem_map,List.getElem_map]
    rw [List.getD_eq_getElem?_getD,List.getD_eq_getElem?_getD,List.getElem?_eq_getElem (by rw [hrl];exact hi),List.getElem?_eq_getElem (by rw [hrl];exact hj)] at z
    exact z
   have so:=jjP (n:=T.length) (K:=fun i=>(T.reverse.getD i t0).2.1) hK (by omega)
   refine wpAny_bind (wpAny_mono (kat_run (ks:=T.reverse.map (·.1)) (vs:=T.reverse.map (·.1)) (G:=fun p s'=>s'={ s with heap:=((s.heap.update a (Obj.mapSeq fun _=>#[])).push (seqObj "tuple" (T.map (·.1)).toArray 0)).push (seqObj "list" #[] 0) } ∧ PA T.length p ∧ Ris (fun i => (T.reverse.getD i t0).2.1) p T.length)
    (Q:=fun st' s'=>∃p:Array Nat,arrOf st'=p.map (kas_item ((T.reverse.map (·.1)).toArray.zip (T.reverse.map (·.1)).toArray)) ∧ failedOf st'=none ∧ s'={ s with heap:=((s.heap.update a (Obj.mapSeq fun _=>#[])).push (seqObj "tuple" (T.map (·.1)).toArray 0)).push (seqObj "list" #[] 0) } ∧ PA T.length p ∧ Ris (fun i => (T.reverse.getD i t0).2.1) p T.length)
    rfl (by rw [hl];omega) (by rw [hl];exact h64) (fun p st' s' a1 a2 a3 a4=>⟨p,a2,a3,a4⟩) ?_) ?_ fun _ _ e=>e)
   . rw [hl]
     refine jcM (n:=T.length) (K:=fun i=>(T.reverse.getD i t0).2.1) (fun i j C hi hj hC=>?_) (zj (fun p q=>⟨rfl,q.1,q.2⟩) so)
     unfold kas_ask
     rw [hget,hget]
     refine jli (hT3 i hi) (hT3 j hj) (fun z=>?_) hC
     by_cases c:i=j
     . rw [c]
     . exact absurd z (hK i j hi hj c)
   . rintro ⟨⟨⟩,st'⟩ s' ⟨p,har,hf,rfl,hp,hr⟩
     dsimp only
     have hout:=kat_snds (ks:=T.reverse.map (·.1)) (vs:=T.reverse.map (·.1)) rfl har
     have e1':(p.toList.map fun i=>(T.reverse.map (·.1)).getD i Value.none)=(p.toList.map fun i=>T.reverse.getD i t0).map (·.1):=by
       rw [List.map_map]
       exact List.map_congr_left fun i _=>hget i
     rw [e1'] at hout
     obtain ⟨o1,o2⟩:=jlP (T:=T.reverse) (by rw [hrl];exact hp) (by rw [hrl];exact hr)
     generalize (p.toList.map fun i=>T.reverse.getD i t0)=O at hout o1 o2
     have hOl:O.length=T.length:=by rw [o1.length_eq,hrl]
     refine wpAny_bind (seqEpoch_at ho6 rfl ?_)
     rw [hout,if_pos rfl]
     have er:(O.map (·.1)).toArray.reverse=(O.reverse.map (·.1)).toArray:=by rw [List.map_reverse];simp
     rw [er]
     refine wpAny_bind (listUpdate_at ho6 rfl ?_ (Nat.zero_le _) (by rw [List.size_toArray,List.length_map,List.length_reverse,hOl,sizeLine_eq];omega))
     rw [hf]
     simp only [bne_self_eq_false,Bool.false_eq_true,if_false]
     exact wpAny_pure (h O.reverse ((List.reverse_perm O).trans (o1.trans (List.reverse_perm T))) (List.pairwise_reverse.mpr o2))
theorem jaW {α β:Type}:∀{as:List β} {ps:List α},as.length=ps.length->(as.zip ps).map (·.1)=as
 | [],[],_=>rfl
 | a::as,p::ps,h=>by rw [List.zip_cons_cons,List.map_cons,jaW (by simpa using h)]
 | [],_::_,h=>by simp at h
 | _::_,[],h=>by simp at h
theorem jfr {α β:Type}:∀{as:List β} {ps:List α},as.length=ps.length->(as.zip ps).map (·.2)=ps
 | [],[],_=>rfl
 | a::as,p::ps,h=>by rw [List.zip_cons_cons,List.map_cons,jfr (by simpa using h)]
 | [],_::_,h=>by simp at h
 | _::_,[],h=>by simp at h
noncomputable def trs (as:List Addr) (ps:List (Int×Int)):List Tr:=(as.zip ps).map fun q=>(.ref q.1,q.2)
theorem jcU {K:Type} [DecidableEq K] {knd:PySem.KeyKind prog w K} {v d:Addr} {kvs:List (K×Value)} {ep:Nat} {ps:List (Int×Int)} {Q:Value->Shared->Prop} (hh:A.handled=none) (hv:s.heap.IsItemsView v d) (hlast:s.heap.objs.size=v+1) (hm:s.heap.DictAt knd d kvs ep)
 (hl:kvs.length=ps.length) (hps:∀(i:Nat) k x,kvs[i]?=some (k,x)->∃p u,ps[i]?=some p/\x=.int p.2 u/\∀key,knd.is k key=true->∃t,key=.int p.1 t) (hnd:(ps.map (·.1)).Nodup) (h64:ps.length<64)
 (h:∀h' tk l c (T:List Tr),(∀b o,s.heap.get? b=some o → h'.get? b=some o) → s.heap.objs.size ≤ l → h'.get? l=some (seqObj "list" (T.map (·.1)).toArray c) → (∀ q ∈ T, jaP h' q) → (∀ q ∈ T, ∃ a, q.1 = .ref a ∧ s.heap.objs.size ≤ a ∧ a ≠ l) → (T.map (·.1)).Nodup → (T.map (·.2)).Perm ps → T.Pairwise (fun a b => b.2.1 < a.2.1) →
  Q (.ref l) { s with heap:=h',toks:=tk }):wpAny (model prog w) A (call (.builtin "sorted") [.ref v] [(Str.ofString "reverse", .bool true)]) Q E s := by
 refine call_function_entry_kw kind_sorted plain_sorted entry_sorted (args_sorted_rev _ _) ?_
 unfold Builtin.«sorted»
 refine wpAny_bind (m:=checkCount "sorted" 1 1 _) (wpAny_pure ?_)
 refine wpAny_bind (kdx_collect (A:=A.in1) (knd:=knd) (kvs:=kvs) (ep:=ep) hh hv hm (by rw [hl,sizeLine_eq];omega) fun h1 tk as hk hal hG=>?_)
 refine wpAny_bind (wpAny_newList ?_ (by rw [List.length_map,hal,hl,sizeLine_eq];omega))
 have hal':as.length=ps.length:=hal.trans hl
 have e1:(trs as ps).map (·.1)=as.map Value.ref:=by
  unfold trs
  rw [List.map_map]
  have:=congrArg (List.map Value.ref) (jaW hal')
  rwa [List.map_map] at this
 have e2:(trs as ps).map (·.2)=ps:=by
  unfold trs
  rw [List.map_map]
  exact jfr hal'
 have e3:(trs as ps).length=ps.length:=by have:=congrArg List.length e2;rwa [List.length_map] at this
 have hoL:(h1.push (seqObj "list" (as.map Value.ref).toArray 0)).get? h1.objs.size = some (seqObj "list" (as.map Value.ref).toArray 0) := Heap.get?_push_size _ rfl
 have mem:∀q∈trs as ps,∃(j:Nat) (a:Addr),as[j]?=some a/\ps[j]?=some q.2/\q.1=.ref a:=fun q hq=>by
  unfold trs at hq
  obtain ⟨r,hr,rfl⟩:=List.mem_map.mp hq
  obtain ⟨j,hj⟩:=List.mem_iff_getElem?.mp hr
  rw [List.getElem?_zip_eq_some] at hj
  exact ⟨j,r.1,hj.1,hj.2,rfl⟩
 have hT:∀q∈trs as ps,jaP h1 q:=fun q hq=>by
  obtain ⟨j,a,h3,h4,h5⟩:=mem q hq
  obtain ⟨key,k,x,g1,g2,g3⟩:=hG.pairs j a h3
  obtain ⟨p,u,f1,rfl,f3⟩:=hps j k x g1
  rw [h4] at f1
  cases f1
  obtain ⟨t,rfl⟩:=f3 key g2
  exact ⟨a,t,u,h5,g3⟩
 have up:∀{hx:Heap} {q:Tr},(∀b o,h1.get? b=some o->hx.get? b=some o)->jaP h1 q->jaP hx q:=fun {hx q} kp ⟨a,t,u,x1,x2⟩=>⟨a,t,u,x1,kp a _ x2⟩
 have hz:s.heap.objs.size<=h1.objs.size:=by
  obtain ⟨o,ho,_⟩:=hv
  rw [hlast]
  exact Heap.lt_size (hk _ _ ho)
 rw [<-e1] at hoL
 show wpAny _ _ _ _ _ { s with heap:=h1.push (seqObj "list" (as.map Value.ref).toArray 0), toks := tk }
 rw [<-e1]
 refine wpAny_bind (wpAny_holding (wpAny_call_entry_kw slot_list_sort ⟨_,hoL,rfl⟩ entry_list_sort (jaF (s:={ s with heap:=h1.push (seqObj "list" ((trs as ps).map (·.1)).toArray 0), toks := tk }) hoL (fun q hq => up (fun b o e => Heap.get?_push_of_some _ e) (hT q hq)) (by rw [show (trs as ps).map (·.2.1) = ((trs as ps).map (·.2)).map (·.1) from by rw [List.map_map]; rfl, e2]; exact hnd) (by rw [e3]; exact h64) fun T' p1 p2 => ⟨_, rfl, ?_⟩) (args_list_sort_rev _ _)))
 refine wpAny_pure ⟨_,rfl,?_⟩
 have hlt:h1.objs.size<(h1.push (seqObj "list" ((trs as ps).map (·.1)).toArray 0)).objs.size := by rw [size_push']; exact Nat.lt_succ_self _
 obtain ⟨c,hc⟩:=sortedHeap_at (out:=(T'.map (·.1)).toArray) hoL
 have keep:∀b o,h1.get? b=some o → (sortedHeap (h1.push (seqObj "list" ((trs as ps).map (·.1)).toArray 0)) h1.objs.size ((trs as ps).map (·.1)) (T'.map (·.1)).toArray).get? b = some o := fun b o e => by
  have hb:b≠h1.objs.size:=Nat.ne_of_lt (Heap.lt_size e)
  rw [sortedHeap_old hb (Nat.lt_trans (Heap.lt_size e) hlt)]
  exact Heap.get?_push_of_some _ e
 refine h _ tk h1.objs.size c T' (fun b o e=>keep b o (hk b o e)) hz hc (fun q hq=>up keep (hT q (p1.mem_iff.mp hq))) (fun q hq=>?_) ?_ ?_ p2
 . obtain ⟨j,a,h3,h4,h5⟩:=mem q (p1.mem_iff.mp hq)
   exact ⟨a,h5,Nat.le_of_lt (hG.above a (List.mem_of_getElem? h3)),Nat.ne_of_lt (hG.there (List.mem_of_getElem? h3))⟩
 . refine (p1.map (·.1)).nodup_iff.mpr ?_
   rw [e1]
   refine List.Pairwise.map _ (fun a b z=>?_) hG.rise
   intro y
   cases y
   exact Nat.lt_irrefl _ z
 . have:=p1.map (·.2)
   rwa [e2] at this
end
end QS
set_option Elab.async false
set_option linter.all false
set_option maxRecDepth 100000
set_option maxHeartbeats 1000000
namespace QS
open PySem PySem.W PySem.Calls PyProof.Rows PyProof.V PySem.Spec
section
variable {prog:Program} {w:World} {A:Around} {R:Result->Shared->Prop} {I S:Addr} {fp wr:List Addr} {n:Nat} {P:Nat->Value->Prop} {St:Nat->Heap->Prop} {val:Nat->Int} {d:Value}
theorem gt_int {a b:Int} {t u:Tok} {s:Shared} {Q:Value->Shared->Prop} {E:Value->Shared->Prop} (h:Q (.bool (decide (a>b))) s):wpAny (model prog w) A (richCompare .Gt (.int a t) (.int b u)) Q E s:=
 CmpOf.ints_gt (P:=fun i v=>v=.int (if i=0 then a else b) (if i=0 then t else u)) (fun i=>if i=0 then a else b) (fun i v hv=>⟨_,hv⟩) 0 1 _ _ s Q E rfl rfl h
end
section
variable {prog:Program} {w:World} {A:Around} {E:Value->Shared->Prop} {s:Shared}
end
end QS
set_option Elab.async false
set_option linter.all false
set_option maxRecDepth 100000
set_option maxHeartbeats 1000000
namespace L2
open PySem PySem.Spec PyProof.Rows
noncomputable def jfM (to:TE):TE:=fun σ H Q=>to σ H fun x H1=>∃(a:Addr) (ks xs:List Int),x=.ref a/\Rd H1 a (.dK (zu ks (xs.map V.int)))/\ks.length=xs.length/\ks.Nodup/\ks.length<64 /\
 ∀(l:Addr) (ts:List Addr) (ps:List (Int×Int)) (H':Hp),H1 l=none->(∀t∈ts,H1 t=none)->l∉ts->ts.Nodup->ts.length=ps.length->ps.Perm (ks.zip xs)->ps.Pairwise (fun a b=>b.1<a.1)->(∀b,b≠l->b∉ts->H' b=H1 b)->H' l=some (.lst (ts.map V.ref))->
   (∀(i:Nat) t p,ts[i]?=some t->ps[i]?=some p->H' t=some (.tup [.int p.1,.int p.2]))->Q (.ref l) H'
noncomputable def jnt (h:Heap) (a:Addr) (p:Int×Int):Prop:=∃t u,h.get? a=some { cls:=.type "tuple", data := .seq #[.int p.1 t, .int p.2 u] }
section
variable {X:Cx}
theorem jkf {T:List QS.Tr} (h:∀q∈T,∃a,q.1=Value.ref a):∃ts:List Addr,T.map (·.1)=ts.map Value.ref:=by
 induction T with
 | nil=>exact ⟨[],rfl⟩
 | cons q T ih=>
   obtain ⟨a,ea⟩:=h q List.mem_cons_self
   obtain ⟨ts,e⟩:=ih fun x hx=>h x (List.mem_cons_of_mem _ hx)
   exact ⟨a::ts,by rw [List.map_cons,List.map_cons,e,ea]⟩
theorem jg1 {o:Expr} {to:TE} {p1 apos pos2 pos1 kp cp:Pos} (hc:X.calm=true) (hg:Gl X "sorted") (hm : X.mg "sorted" = none) (ho : PE X o to)
 (hbase:autoParam (attributeBase o "items" X.env (eval o X.env) = eval o X.env) QA.a4._auto_1) (hline : autoParam ((apos.endLine == pos2.line) = true) QA.a4._auto_1)
 (hs:autoParam (starEach [.Call (.Attribute o "items" apos) [] [] pos2] X.env = [(false, eval (.Call (.Attribute o "items" apos) [] [] pos2) X.env)]) QA.a4._auto_1) :
 PE X (.Call (.Name "sorted" p1) [.Call (.Attribute o "items" apos) [] [] pos2] [⟨some "reverse", .Constant (.bool true) 0 cp, kp⟩] pos1) (jfM to) := by
 intro pins s σ H Q I h
 refine wpAny_Call_Name_kw (JD I hg hm boot_sorted ?_)
 refine PyProof.Rows.callWith_kw (rest:=[]) ?_ (by rw [hs];rfl) (by rw [hs];rfl)
 rw [hs]
 show wpAny _ _ (spliced ((false,eval (.Call (.Attribute o "items" apos) [] [] pos2) X.env) :: backTo pos1 [])) _ _ s
 refine Calls.spliced_cons (wpAny_Call_method0_late hbase hline (qr (ho pins s σ H _ I h) fun v s1 ⟨x,H1,I1,r1,a,ks,xs,ex,hd,hl,hnd,h64,q⟩=>?_))
 subst ex
 obtain rfl:v=Value.ref a:=r1
 obtain ⟨z,hsm,vs,rel,dd⟩:=jf6 I1.hok hd
 obtain ⟨t1,t2,_⟩:=jiU I1 (.inl ⟨_,hd⟩)
 refine ⟨"dict", "dict.items", PySem.F.plainAttrs_dict, PySem.F.slot_dict_items, PySem.F.type_dict_items, t1, t2, Calls.callWith_builtin rfl (PySem.evalArgs_none ?_)⟩
 refine call_meetsIn PySem.F.slot_dict_items dd.typeIs PySem.F.entry_dict_items (PySem.F.args_dict_items_1 _) (meets_dict_items (j1 X.prog X.w) a hsm) ⟨⟨vs,dd⟩,?_⟩
 refine Calls.spliced_nil (PyProof.Rows.kws_cons (Constant_bool (PyProof.Rows.kws_nil ?_)))
 show wpAny _ _ (call (.builtin "sorted") [.ref s1.heap.objs.size] [(Str.ofString "reverse", .bool true)]) _ _ _
 obtain ⟨ep,dat⟩:=dd.dictAt
 have hlv:ks.length=(xs.map V.int).length:=by rw [List.length_map];exact hl
 have lw:vs.length=ks.length:=by rw [<-KV.length rel,jh0 hlv]
 have lp:(ks.zip xs).length=ks.length:=by rw [List.length_zip];omega
 refine QS.jcU (knd:=j1 X.prog X.w) (kvs:=vs) (ep:=ep) (ps:=ks.zip xs) (I.ok.hd hc) ⟨_,Heap.get?_push_size _ rfl,rfl,rfl⟩ (size_push' _ _) (dat.push _) (by rw [lw,lp]) (fun i k x e=>?_) ?_ (by rw [lp];exact h64) fun h' tk l c T hk hle hol hT hfr hndT hperm hpw=>?_
 . have hi:i<ks.length:=by rw [<-lw];exact (List.getElem?_eq_some_iff.mp e).1
   have hz:(zu ks (xs.map V.int))[i]?=some (Sum.inl ks[i],V.int (xs[i]'(by omega))):=by
    unfold zu
    rw [List.getElem?_zip_eq_some]
    exact ⟨by rw [List.getElem?_map,List.getElem?_eq_getElem hi];rfl,by rw [List.getElem?_map,List.getElem?_eq_getElem (by omega)];rfl⟩
   obtain ⟨q',hq,e1,e2⟩:=Paired.get rel hz
   rw [e] at hq
   cases hq
   dsimp only at e1 e2
   subst e1
   obtain ⟨u,rfl⟩:=e2
   exact ⟨(ks[i],xs[i]'(by omega)),u,by rw [List.getElem?_zip_eq_some];exact ⟨List.getElem?_eq_getElem hi,List.getElem?_eq_getElem (by omega)⟩,rfl,fun key hkey=>jjy hkey⟩
 . have:(ks.zip xs).map (·.1)=ks:=QS.jaW hl
   rw [this]
   exact hnd
 . obtain ⟨ts,ets⟩:=jkf fun q hq=>let ⟨a,ea,_⟩:=hfr q hq;⟨a,ea⟩
   have sz:s1.heap.objs.size ≤ (s1.heap.push { cls:=.type "dict_items", data := .fields #[.ref a] }).objs.size := by rw [size_push']; exact Nat.le_succ _
   have hTl:T.length=ts.length:=by have:=congrArg List.length ets;rwa [List.length_map,List.length_map] at this
   have tsT:∀(i:Nat) t,ts[i]?=some t->∃q,T[i]?=some q/\q∈T/\q.1=Value.ref t:=fun i t et=>by
    have:=congrArg (fun l=>l[i]?) ets
    simp only [List.getElem?_map,et,Option.map_some] at this
    obtain ⟨q,e1,e2⟩:=map_some this
    exact ⟨q,e1,List.mem_of_getElem? e1,e2⟩
   have fresh:∀t∈ts,s1.heap.objs.size<=t/\t≠l:=fun t ht=>by
    obtain ⟨i,hi⟩:=List.mem_iff_getElem?.mp ht
    obtain ⟨q',_,hq,e1⟩:=tsT i t hi
    obtain ⟨b,e2,e3,e4⟩:=hfr q' hq
    rw [e1] at e2
    cases e2
    exact ⟨Nat.le_trans sz e3,e4⟩
   have nd:ts.Nodup:=by
    rw [ets] at hndT
    exact List.Pairwise.of_map Value.ref (fun a b hab z=>hab (congrArg Value.ref z)) hndT
   have pl:∀(i:Nat) t p,ts[i]?=some t->(T.map (·.2))[i]?=some p->jnt h' t p:=fun i t p e1 e2=>by
    obtain ⟨q',f1,f2,f3⟩:=tsT i t e1
    rw [List.getElem?_map,f1] at e2
    cases e2
    obtain ⟨b,t',u,g1,g2⟩:=hT q' f2
    rw [f3] at g1
    cases g1
    exact ⟨t',u,g2⟩
   have lT:(T.map (·.2)).length=ts.length:=by rw [List.length_map];exact hTl
   have pw:(T.map (·.2)).Pairwise fun a b=>b.1<a.1:=List.pairwise_map.mpr hpw
   generalize T.map (·.2)=ps at hperm pl lT pw
   let H':Hp:=fun b=>if b=l then some (.lst (ts.map V.ref)) else if b∈ts then some (.tup [.int ((ps[ts.idxOf b]?).getD (0,0)).1,.int ((ps[ts.idxOf b]?).getD (0,0)).2]) else H1 b
   have HS:H' l=some (.lst (ts.map V.ref)):=if_pos rfl
   have HT:∀(i:Nat) t p,ts[i]?=some t->ps[i]?=some p->H' t=some (.tup [.int p.1,.int p.2]):=fun i t p e e1=>by
    have hi:i<ts.length:=(List.getElem?_eq_some_iff.mp e).1
    have ht:t∈ts:=List.mem_of_getElem? e
    have hix:ts.idxOf t=i:=by
      obtain ⟨h1,h2⟩:=ZF ht
      exact (List.getElem_inj (h₀:=h1) (h₁:=hi) nd).mp ((List.getElem?_eq_some_iff.mp h2).2.trans (List.getElem?_eq_some_iff.mp e).2.symm)
    show (if t=l then _ else if t∈ts then _ else _)=_
    rw [if_neg (fresh t ht).2,if_pos ht,hix,e1]
    rfl
   have HO':∀b,b≠l->b∉ts->H' b=H1 b:=fun b h1 h2=>by
    show (if b=l then _ else if b∈ts then _ else _)=_
    rw [if_neg h1,if_neg h2]
   have lel:s1.heap.objs.size<=l:=Nat.le_trans sz hle
   have I2:Inv X pins σ H' { s1 with heap:=h',drawn:=s1.drawn,toks:=tk }:=by
    refine I1.grow (fun b o e=>hk b o (Heap.get?_push_of_some _ e)) (fun b hb=>HO' b (fun z=>?_) (fun z=>?_)) fun b o hb e=>?_
    . rw [z] at hb;exact Nat.not_lt.mpr lel hb
    . exact Nat.not_lt.mpr (fresh b z).1 hb
    . by_cases hbS:b=l
      . subst hbS
        rw [HS] at e
        cases e
        refine ⟨by rw [List.length_map,<- hTl,hTl,<- lT,hperm.length_eq,lp];exact Nat.le_trans (by omega:ks.length<=64) (by decide),ts.map Value.ref,c,Z4 ts,?_⟩
        rw [<-ets]
        exact hol
      . by_cases hbt:b∈ts
        . obtain ⟨h1,h2⟩:=ZF hbt
          have hpi:ts.idxOf b<ps.length:=by rw [lT];exact h1
          rw [HT _ b _ h2 (List.getElem?_eq_getElem hpi)] at e
          cases e
          obtain ⟨t',u,g2⟩:=pl _ b _ h2 (List.getElem?_eq_getElem hpi)
          exact ⟨by show 2<=sizeLine;decide,_,.cons ⟨_,rfl⟩ (.cons ⟨_,rfl⟩ .nil),⟨_,g2,rfl,0,rfl⟩⟩
        . rw [HO' b hbS hbt] at e
          exact absurd (I1.hok.lt e) (Nat.not_lt.mpr hb)
   exact ⟨.ref l,H',I2,rfl,q l ts ps H' (I1.hok.fresh lel) (fun t ht=>I1.hok.fresh (fresh t ht).1) (fun z=>(fresh l z).2 rfl) nd lT.symm hperm pw HO' HS HT⟩
end
noncomputable def jgV (p:Int×Int):List (Int×Int)->List (Int×Int)
 | []=>[p]
 | q::l=>if q.1<p.1 then p::q::l else q::jgV p l
noncomputable def jc5:List (Int×Int)->List (Int×Int)
 | []=>[]
 | p::l=>jgV p (jc5 l)
theorem jac (p:Int×Int):∀l,(jgV p l).Perm (p::l)
 | []=>List.Perm.refl _
 | q::l=>by
   unfold jgV
   split
   . exact List.Perm.refl _
   . exact (List.Perm.cons q (jac p l)).trans (List.Perm.swap p q l)
theorem QI:∀l,(jc5 l).Perm l
 | []=>List.Perm.refl _
 | p::l=>(jac p (jc5 l)).trans (List.Perm.cons p (QI l))
theorem jct {p:Int×Int}:∀{l:List (Int×Int)},l.Pairwise (fun a b=>b.1<a.1)->(∀q∈l,q.1≠p.1)->(jgV p l).Pairwise fun a b=>b.1<a.1
 | [],_,_=>List.pairwise_singleton _ _
 | q::l,h,hn=>by
   have h':=List.pairwise_cons.mp h
   have hq:=hn q List.mem_cons_self
   unfold jgV
   split
   . rename_i c
     refine List.pairwise_cons.mpr ⟨fun x hx=>?_,h⟩
     rcases List.mem_cons.mp hx with rfl | hx
     . exact c
     . exact Int.lt_trans (h'.1 x hx) c
   . rename_i c
     refine List.pairwise_cons.mpr ⟨fun x hx=>?_,jct h'.2 fun x hx=>hn x (List.mem_cons_of_mem _ hx)⟩
     rcases List.mem_cons.mp ((jac p l).mem_iff.mp hx) with rfl | hx
     . omega
     . exact h'.1 x hx
theorem Z2:∀{l:List (Int×Int)},(l.map (·.1)).Nodup->(jc5 l).Pairwise fun a b=>b.1<a.1
 | [],_=>List.Pairwise.nil
 | p::l,h=>by
   have h':=List.nodup_cons.mp h
   refine jct (Z2 h'.2) fun q hq z=>h'.1 ?_
   show p.1∈_
   rw [<-z]
   exact List.mem_map_of_mem ((QI l).mem_iff.mp hq)
theorem jdD:∀{l m:List (Int×Int)},l.Pairwise (fun a b=>b.1<a.1)->m.Pairwise (fun a b=>b.1<a.1)->l.Perm m->l=m
 | [],m,_,_,h=>by rw [List.nil_perm.mp h]
 | x::l,[],_,_,h=>by cases List.perm_nil.mp h
 | x::l,y::m,h1,h2,h=>by
   have p1:=List.pairwise_cons.mp h1
   have p2:=List.pairwise_cons.mp h2
   have e:x=y:=by
     rcases List.mem_cons.mp (h.mem_iff.mp List.mem_cons_self) with z | z
     . exact z
     . rcases List.mem_cons.mp (h.mem_iff.mpr List.mem_cons_self) with w | w
       . exact w.symm
       . have:=p2.1 x z
         have:=p1.1 y w
         omega
   subst e
   rw [jdD p1.2 p2.2 ((List.perm_cons x).mp h)]
section
variable [Fr]
noncomputable def jmV (p:Int×Int):D:=.tup [.int p.1,.int p.2]
noncomputable def jaX (fd:L2.Env->Option D):L2.Env->Option (List D):=fun ρ=>match fd ρ with
 | some (.dic ks ds)=>(Qr ds).bind fun xs=>if ks.length=xs.length/\ks.Nodup/\ks.length<64 then some ((jc5 (ks.zip xs)).map jmV) else none
 | _=>none
theorem jiv {td:TE} {fd:L2.Env->Option D} (hd:zL td fd):EOkO (jfM td) (jaX fd):=fun G0 H0 G H σ ρ Q ds e q k=>by
 unfold jaX at q
 split at q
 . rename_i ks es z
   obtain ⟨xs,q1,q2⟩:=bind_some q
   split at q2
   . rename_i hz
     cases q2
     refine hd _ _ _ _ _ _ _ _ e z fun v G1 H1 x1 rr=>?_
     cases rr with
     | @dic a vs _ _ h hl r=>
       rw [Jh q1] at r
       rw [r.ints] at h
       refine ⟨a,ks,xs,rfl,h,hz.1,hz.2.1,hz.2.2,fun c ts ps H' hc hts hcn hnd hlen hperm hfall hoth hcl htup=>?_⟩
       have eps:ps=jc5 (ks.zip xs):=by
        refine jdD hfall (Z2 ?_) (hperm.trans (QI _).symm)
        have:(ks.zip xs).map (·.1)=ks:=QS.jaW hz.1
        rw [this]
        exact hz.2.1
       subst eps
       have G2:∃G2:Hp,G2=fun x=>if x∈ts then H' x else G1 x:=⟨_,rfl⟩
       obtain ⟨G2,eG2⟩:=G2
       have inT:∀x,x∈ts->G2 x=H' x:=fun x hx=>by rw [eG2];exact if_pos hx
       have outT:∀x,x∉ts->G2 x=G1 x:=fun x hx=>by rw [eG2];exact if_neg hx
       have sG:Same G1 G2:=fun x o w=>by rw [outT x fun z=>by have:=hts x z;rw [x1.gh x o w] at this;cases this];exact w
       have sH:Same H1 H':=fun x o w=>by
        rw [hoth x (jz w hc) fun z=>by have:=hts x z;rw [w] at this;cases this];exact w
       have x2:Ext G1 H1 G2 H':=⟨sH,sG,fun x o w=>by
        by_cases hx:x∈ts
        . rw [inT x hx] at w;exact w
        . rw [outT x hx] at w;exact sH x o (x1.gh x o w),fun x o w=>by
        by_cases hx:x∈ts
        . exact .inr (hts x hx)
        . rw [outT x hx] at w;exact .inl w⟩
       have gc:G2 c=none:=by rw [outT c hcn];exact x1.gh.free hc
       refine k c _ G2 H' (x1.trans x2) (x1.hh.free hc) gc hcl ?_
       have build:∀(vs:List V) (ds:List D),vs.length=ds.length->(∀(i:Nat) v d,vs[i]?=some v->ds[i]?=some d->Rep G2 v d)->Reps G2 vs ds:=by
        intro vs
        induction vs with
        | nil=>intro ds hl _;cases ds with | nil=>exact .nil | cons _ _=>simp at hl
        | cons v vs ih=>
          intro ds hl hh
          cases ds with
          | nil=>simp at hl
          | cons d ds=>exact .cons (hh 0 v d rfl rfl) (ih ds (by simpa using hl) fun i v d h1 h2=>hh (i+1) v d (by simpa using h1) (by simpa using h2))
       refine build _ _ (by rw [List.length_map,List.length_map,hlen]) fun i v d g1 g2=>?_
       rw [List.getElem?_map] at g1 g2
       obtain ⟨t,et,rfl⟩:=map_some g1
       obtain ⟨p,epp,rfl⟩:=map_some g2
       exact .tup (by rw [inT t (List.mem_of_getElem? et)];exact htup i t p et epp) (.cons (.int _) (.cons (.int _) .nil))
   . cases q2
 . cases q
end
section
variable {X:Cx}
end
section
variable [Fr]
noncomputable def Z9 (fd fk fx:L2.Env->Option D):L2.Env->Option D:=fun ρ=>(fd ρ).bind fun d=>(fk ρ).bind fun k=>(fx ρ).bind fun x=>match d,k with
 | .dic ks ds,.int i=>some ((Jd ks ds i).getD x)
 | _,_=>none
theorem jjv {td ty tx:TE} {fd fk fx:L2.Env->Option D} (hd:zL td fd) (hk:zL ty fk) (hx:EOk tx fx):EOk (jiG td ty tx) (Z9 fd fk fx):=fun G0 H0 G H σ ρ Q d e q k=>by
 obtain ⟨x,qa,q⟩:=bind_some q
 obtain ⟨y,qb,q⟩:=bind_some q
 obtain ⟨z,qc,q⟩:=bind_some q
 split at q
 . rename_i ks ds i _ _
   refine hd G0 H0 G H σ ρ _ _ e qa fun u G1 H1 x1 r1=>?_
   cases r1 with
   | @dic a _ vs _ h hl r=>
     refine ⟨a,rfl,.inl ⟨_,h⟩,hk G0 H0 G1 H1 σ ρ _ _ (e.grow x1) qb fun v G2 H2 x2 r2=>?_⟩
     cases r2
     refine hx G0 H0 G2 H2 σ ρ _ z ((e.grow x1).grow x2) qc fun w G3 H3 x3 r3=>?_
     cases q
     have h':=(h.same x2.hh).same x3.hh
     have r':=(r.mono x2.gg).mono x3.gg
     obtain ⟨l1,l2⟩:=jh6 r' i hl
     refine ⟨_,.inl ⟨_,Sum.inl i,h',rfl,rfl⟩,?_⟩
     cases hz:Jd ks ds i with
     | none=>rw [l2 hz];exact k _ G3 H3 ((x1.trans x2).trans x3) (by rw [hz];exact r3)
     | some d'=>obtain ⟨v',hv,rv⟩:=l1 d' hz;rw [hv];exact k _ G3 H3 ((x1.trans x2).trans x3) (by rw [hz];exact rv)
 . cases q
end
end L2
set_option Elab.async false
set_option linter.all false
set_option maxRecDepth 100000
set_option maxHeartbeats 1000000
namespace L2
open PySem PySem.Spec PyProof.Rows
section
variable {M:Fm} {o e f:Expr} {fa fb fx:L2.Env->Option D}
theorem jhB {p1 apos pos2 pos1 kp cp:Pos} (hg:∀j,Gl (M.X j) "sorted") (hm : ∀ j, (M.X j).mg "sorted" = none) (ha : WT M o fa) (hbase : autoParam (∀ j, attributeBase o "items" (M.X j).env (eval o (M.X j).env) = eval o (M.X j).env) QA.a3._auto_1) (hline : autoParam ((apos.endLine == pos2.line) = true) QA.a4._auto_1) :
 WO M (.Call (.Name "sorted" p1) [.Call (.Attribute o "items" apos) [] [] pos2] [⟨some "reverse", .Constant (.bool true) 0 cp, kp⟩] pos1) (jaX fa) :=
 let ⟨_,h1,h2⟩:=ha.h;⟨_,fun j=>jg1 (M.calm j) (hg j) (hm j) (h1 j) (hbase j) hline (by rw [j3 rfl];rfl),@jiv M.fr _ _ h2⟩
theorem jjU {apos cpos:Pos} (hu:∀j,(M.X j).A.units+64<cLine) (ha:WT M o fa) (hb:WT M e fb) (hx:WE M f fx) (h':autoParam (jX e=false) QA.a4._auto_1) (h'':autoParam (jX f=false) QA.a4._auto_1)
 (hbase:autoParam (∀j,attributeBase o "get" (M.X j).env (eval o (M.X j).env) = eval o (M.X j).env) QA.a3._auto_1) (hline : autoParam ((apos.endLine == cpos.line) = true) QA.a4._auto_1) : WE M (.Call (.Attribute o "get" apos) [e, f] [] cpos) (Z9 fa fb fx) :=
 let ⟨_,h1,h2⟩:=ha.h;let ⟨_,k1,k2⟩:=hb.h;let ⟨_,l1,l2⟩:=hx.h;⟨_,fun j=>jiq (jiB (hu j)) (h1 j) (k1 j) (l1 j) ⟨hbase j,by rw [j3 h',j3 h''];rfl,hline,by rw [j3 h',j3 h''];rfl⟩,@jjv M.fr _ _ _ _ _ _ h2 k2 l2⟩
end
end L2
set_option Elab.async false
set_option linter.all false
set_option maxRecDepth 100000
set_option maxHeartbeats 4000000
namespace Q
open PySem PySem.Spec PyProof.Rows L2
noncomputable def Jk:FS:=(jr (Qf (zJ (jj dLt (ja 1) (jg j5 (jc (ja 0) jk))))
 (qJ (jj jN (ja 0) (ja 1))) ql)
 (qJ (eC (.int 0))))
noncomputable def jT:List D->Option D:=qX 2 2 Jk
noncomputable def Qj:FS:=(jr (jB 3 (jj qO (jj jW (ja 0) (eC (.int 6))) (eC (.int 2))))
 (jr (jB 4 (jj qd (jj qd (ja 3) (eC (.int 1))) (jj jW (jj qR (ja 0) (eC (.int 6))) (eC (.int 5)))))
 (jr (Qf (zJ (jj dEq (ja 2) (eC (.int 1))))
 (jr (jB 3 (jj qO (jj jW (ja 0) (eC (.int 50))) (eC (.int 25))))
 (jB 4 (jj qd (jj qd (ja 3) (eC (.int 1))) (jj jW (jj qR (ja 0) (eC (.int 50))) (eC (.int 40)))))) ql)
 (jr (Qf (zJ (jj dEq (ja 2) (eC (.int 2))))
 (jr (jB 3 (jj qw (jj qO (jj jW (jj qw (ja 0) (eC (.int 1103515245))) (eC (.int 2147483647))) (jj Ju (eC (.int 10)) (eC (.int 9)))) (jj Ju (eC (.int 10)) (eC (.int 5)))))
 (jB 4 (jj qd (jj qd (ja 3) (eC (.int 1))) (jj qw (jj jW (jj qw (ja 0) (eC (.int 1664525013))) (eC (.int 2147483629))) (jj Ju (eC (.int 10)) (eC (.int 5))))))) ql)
 (jr (jB 5 (jj jN (jL (zw (jc (eC (.int 2)) (jc (eC (.int 1)) (jc (eC (.int 3)) (jc (eC (.int 5)) (jc (jj Ju (eC (.int 10)) (eC (.int 15))) (jc (jj qd (eC (.int 1)) (jj jW (jj qR (ja 1) (eC (.int 8))) (eC (.int 50)))) (jc (eC (.int 0)) (jc (eC (.int 4)) jk)))))))))) (jj jW (ja 1) (eC (.int 8)))))
 (jr (jB 6 (jj jW (jj qw (ja 1) (eC (.int 1103515245))) (eC (.int 2147483647))))
 (jr (jB 7 (jj qw (ja 5) (jj qO (ja 4) (ja 3))))
 (jr (jB 8 (jj jN (jL (zw (jc (jj qR (jj qw (ja 7) (jj jW (ja 6) (eC (.int 17)))) (eC (.int 16))) (jc (jj jW (ja 6) (jj qd (ja 7) (eC (.int 1)))) (jc (jg QV (jc (ja 7) (jc (jj jW (ja 6) (eC (.int 9))) jk))) (jc (jF 7) jk)))))) (jj jW (jj qR (ja 6) (eC (.int 17))) (eC (.int 4)))))
 (qJ (jbd (jc (jF 3) (jc (jF 4) (jc (jF 8) (jc (jF 5) jk))))))))))))))
noncomputable def qY:List D->Option D:=qX 3 9 Qj
noncomputable def zY:FS:=(jr (jB 2 (jg jT (jc (jF 0) (jc (jF 1) jk))))
 (jr (Jg 3 (zw jk))
 (jr (zW (J4 (jc (jj jN (jL (zw (jc (eC (.int 3)) (jc (eC (.int 4)) (jc (eC (.int 2)) (jc (eC (.int 4)) (jc (eC (.int 1)) (jc (eC (.int 3)) (jc (eC (.int 0)) (jc (eC (.int 4)) jk)))))))))) (jj jW (ja 2) (eC (.int 8)))) jk)) (jG 4)
 (jr (jB 5 (jg jT (jc (jF 0) (jc (jj qd (jj qd (ja 1) (eC (.int 1))) (jj qw (eC (.int 2)) (ja 4))) jk))))
 (JJ 3 (jg qY (jc (jF 5) (jc (jg jT (jc (jF 0) (jc (jj qd (jj qd (ja 1) (eC (.int 2))) (jj qw (eC (.int 2)) (ja 4))) jk))) (jc (jj jW (jj qR (ja 2) (eC (.int 8))) (eC (.int 3))) jk)))))))
 (jr (Qf (Z3 (zJ (jj dGt (jg j5 (jc (ja 3) jk)) (eC (.int 1)))) (zJ (jj dEq (jj jW (jj qR (ja 2) (eC (.int 24))) (eC (.int 4))) (eC (.int 1)))))
 (jb3 3 (jed (eC (.int 1))) (jj jN (ja 3) (eC (.int 0)))) ql)
 (QR 3)))))
noncomputable def zT:List D->Option (List D):=Jv 2 6 zY
noncomputable def zU:FS:=(jr (jB 1 (jL (jg jd1 (jc (jL (jj jca (jL (QN (j8 (ja 0)) (jG 0) (fun _=>some true) (jj jN (ja 0) (eC (.int 0))) 1 [])) (jL (QN (j8 (ja 0)) (jG 0) (fun _=>some true) (jj jN (ja 0) (eC (.int 1))) 1 [])))) jk))))
 (Jf (QN (J4 (jc (jj qO (jg j5 (jc (ja 1) jk)) (eC (.int 1))) jk)) (jG 0) (zJ (jj dLt (jj jN (ja 1) (ja 0)) (jj jN (ja 1) (jj qd (ja 0) (eC (.int 1)))))) (jbd (jc (jj jN (ja 1) (ja 0)) (jc (jj jN (ja 1) (jj qd (ja 0) (eC (.int 1)))) jk))) 1 [1])))
noncomputable def zV:List D->Option (List D):=Jv 1 2 zU
noncomputable def zO:FS:=(jr (Jg 2 (zw jk))
 (jr (zW (j8 (jF 1)) (Zb 2 (qK (jG 3) (qK (jG 4) ZL)))
 (Qf (Z3 (zJ (jj dLe (jj jN (ja 0) (eC (.int 0))) (ja 3))) (zJ (jj dLe (ja 4) (jj jN (ja 0) (eC (.int 1))))))
 (JJ 2 (jj qw (jj jN (ja 0) (eC (.int 3))) (jj qO (ja 4) (ja 3)))) (JJ 2 (eC (.int 0)))))
 (QR 2)))
noncomputable def zP:List D->Option (List D):=Jv 2 5 zO
noncomputable def Jo:FS:=(jr (jB 2 (jL (jg zV (jc (jF 0) jk))))
 (jr (Jg 3 (zw jk))
 (jr (zW (J4 (jc (jg j5 (jc (ja 0) jk)) jk)) (jG 4)
 (jr (jB 5 (jL (jg zP (jc (jj jN (ja 0) (ja 4)) (jc (jF 2) jk)))))
 (jr (jB 6 (jj jN (jj jN (ja 0) (ja 4)) (eC (.int 2))))
 (jr (Jg 7 (zw jk))
 (jr (zW (J4 (jc (jg j5 (jc (ja 2) jk)) jk)) (jG 8)
 (jr (jB 9 (jj jN (ja 1) (jj jW (jj qd (jj qw (ja 4) (jg j5 (jc (ja 2) jk))) (ja 8)) (jg j5 (jc (ja 1) jk)))))
 (jr (jB 10 (jj jN (jL (zw (jc (eC (.int 0)) (jc (jj jN (ja 5) (ja 8)) (jc (jj qR (jj qw (jj jN (ja 5) (ja 8)) (jj jW (jj qR (ja 9) (eC (.int 4))) (eC (.int 9)))) (eC (.int 8))) (jc (jj jW (jj qR (ja 9) (eC (.int 4))) (jj qd (jj jN (ja 5) (ja 8)) (eC (.int 1)))) jk)))))) (jj jW (ja 9) (eC (.int 4)))))
 (jr (JJ 7 (jg jan (jc (ja 6) (jc (jj jN (ja 5) (ja 8)) (jc (ja 10) jk)))))
 (jB 6 (jj qO (ja 6) (jj jN (ja 7) (ja 8))))))))
 (jr (zW (J4 (jc (jg j5 (jc (ja 2) jk)) jk)) (jG 8)
 (jr (jB 11 (jj jW (jj qd (ja 8) (jj jN (ja 1) (jj jW (ja 4) (jg j5 (jc (ja 1) jk))))) (jg j5 (jc (ja 2) jk))))
 (jr (jB 12 (jg QV (jc (ja 6) (jc (jj qO (jj jN (ja 5) (ja 11)) (jj jN (ja 7) (ja 11))) jk))))
 (jr (jb3 7 (jF 11) (jj qd (jj jN (ja 7) (ja 11)) (ja 12)))
 (jB 6 (jj qO (ja 6) (ja 12)))))))
 (jey 7 (JJ 3 (jF 7)))))))))
 (QR 3))))
noncomputable def Qs:List D->Option (List D):=Jv 2 13 Jo
noncomputable def zF:FS:=(jr (jB 1 (jg jT (jc (jF 0) (jc (eC (.int 0)) jk))))
 (jr (jB 2 (jj jN (jL (zw (jc (jj jW (jj qR (ja 1) (eC (.int 4))) (eC (.int 10))) (jc (jj jW (jj qR (ja 1) (eC (.int 4))) (jj Ju (eC (.int 10)) (eC (.int 30)))) (jc (jj qO (eC (.int 0)) (jj jW (jj qR (ja 1) (eC (.int 4))) (eC (.int 10)))) (jc (jj qO (eC (.int 0)) (jj jW (jj qR (ja 1) (eC (.int 4))) (jj Ju (eC (.int 10)) (eC (.int 30))))) jk)))))) (jj jW (ja 1) (eC (.int 4)))))
 (jr (Jg 3 (zw (jc (jF 2) jk)))
 (jr (jB 4 (jj qR (jg jT (jc (jF 0) (jc (eC (.int 1)) jk))) (eC (.int 60))))
 (jr (zW (J4 (jc (jj jW (jg jT (jc (jF 0) (jc (eC (.int 1)) jk))) (eC (.int 60))) jk)) (jG 5)
 (jr (jB 2 (jj qd (ja 2) (jj jN (jL (zw (jc (eC (.int 0)) (jc (jj qd (eC (.int 1)) (jj jW (jj qR (ja 4) (eC (.int 3))) (eC (.int 5)))) (jc (jj jW (jj qR (ja 4) (eC (.int 3))) (jj Ju (eC (.int 10)) (eC (.int 20)))) jk))))) (jj jW (ja 4) (eC (.int 3))))))
 (jr (JJ 3 (jF 2))
 (jB 4 (jj qR (ja 4) (eC (.int 30)))))))
 (QR 3))))))
noncomputable def Jz:List D->Option (List D):=Jv 1 6 zF
noncomputable def jbx:FS:=(qJ (jbh (jaO "int" (ja 0)) (jgu (jaO "bool" (ja 0)))))
noncomputable def zD:List D->Option D:=qX 1 1 jbx
noncomputable def jag:FS:=(jr (Qf (bOr (QK (zJ (jaO "tuple" (ja 0)))) (zJ (jj dNe (jg j5 (jc (ja 0) jk)) (eC (.int 4)))))
 (qJ (eC (.bl false))) ql)
 (jr (Qf (QK (zJ (jg jb7 (jc (jL (QN (jak (jF 0)) (jG 0) (fun _=>some true) (jg zD (jc (jF 0) jk)) 1 [])) jk))))
 (qJ (eC (.bl false))) ql)
 (jr (jB 1 (jj qO (jj jN (ja 0) (eC (.int 1))) (jj jN (ja 0) (eC (.int 0)))))
 (qJ (jbh (jj dGt (ja 1) (eC (.int 0))) (jbh (jj dGe (jj jN (ja 0) (eC (.int 3))) (eC (.int 0))) (Jb dLe dLe (eC (.int 0)) (jj jN (ja 0) (eC (.int 2))) (jj qw (jj jN (ja 0) (eC (.int 3))) (ja 1)))))))))
noncomputable def JO:List D->Option D:=qX 1 2 jag
noncomputable def Zd:FS:=(qJ (jbh (jaO "list" (ja 0)) (jg jb7 (jc (jL (QN (j8 (ja 0)) (jG 0) (fun _ => some true) (jg JO (jc (jF 0) jk)) 1 [])) jk))))
noncomputable def J7:List D->Option D:=qX 1 1 Zd
noncomputable def zK:FS:=(Qf (QK (zJ (jg J7 (jc (jF 0) jk))))
 (fun _=>.fail) ql)
noncomputable def qU:List D->Option D:=qX 1 1 zK
noncomputable def ZR:FS:=(jr (jB 1 (jL (QN (j8 (ja 0)) (jG 0) (fun _=>some true) (jj jN (ja 0) (eC (.int 0))) 1 [])))
 (jr (jB 2 (jL (QN (j8 (ja 0)) (jG 0) (fun _=>some true) (jj jN (ja 0) (eC (.int 1))) 1 [])))
 (Jf (jdO (jc (jL (jj jca (ja 1) (ja 2))) jk)))))
noncomputable def jbP:List D->Option (List D):=Jv 1 3 ZR
noncomputable def Js:FS:=(jr (jB 1 (jL (jg jbP (jc (jF 0) jk))))
 (Jf (eLZ (jc (ja 1) (jc (jL (eSl (ja 1) (pSo (eC (.int 1))) pNo)) jk)))))
noncomputable def Jr:List D->Option (List D):=Jv 1 2 Js
noncomputable def jb0:FS:=(qJ (jj qO (jj jN (ja 0) (eC (.int 1))) (jj jN (ja 0) (eC (.int 0)))))
noncomputable def Qo:List D->Option D:=qX 1 1 jb0
noncomputable def jeV:FS:=(jr (Qf (Z3 (zJ (jj dLe (jj jN (ja 0) (eC (.int 0))) (jj jN (ja 1) (eC (.int 0))))) (zJ (jj dLe (jj jN (ja 1) (eC (.int 1))) (jj jN (ja 0) (eC (.int 1))))))
 (qJ (jj qw (jj jN (ja 0) (eC (.int 3))) (jg Qo (jc (jF 1) jk)))) ql)
 (qJ (eC (.int 0))))
noncomputable def jb4:List D->Option D:=qX 2 2 jeV
noncomputable def JW:FS:=(jr (Qf (bOr (QK (zJ (jaO "list" (ja 2)))) (zJ (jj dNe (jg j5 (jc (ja 2) jk)) (jg j5 (jc (ja 1) jk)))))
 (qJ (eC (.bl false))) ql)
 (jr (Qf (QK (zJ (jg jb7 (jc (jL (QN (j8 (ja 2)) (jG 0) (fun _=>some true) (jg zD (jc (jF 0) jk)) 1 [])) jk))))
 (qJ (eC (.bl false))) ql)
 (jr (Qf (QK (zJ (jg jb7 (jc (jL (QN (jbi (jc (ja 1) (jc (ja 2) jk))) (Zb 2 (qK (jG 0) (qK (jG 1) ZL))) (fun _=>some true) (Jb dLe dLe (eC (.int 0)) (ja 1) (jg jb4 (jc (jF 2) (jc (jF 0) jk)))) 2 [0])) jk))))
 (qJ (eC (.bl false))) ql)
 (qJ (jj dEq (jg Q6 (jc (ja 2) jk)) (jj jN (ja 0) (eC (.int 2))))))))
noncomputable def J0:List D->Option D:=qX 3 3 JW
noncomputable def Qz:FS:=(jr (Qf (bOr (QK (zJ (jaO "list" (ja 1)))) (zJ (jj dNe (jg j5 (jc (ja 1) jk)) (jg j5 (jc (ja 0) jk)))))
 (qJ (eC (.bl false))) ql)
 (jr (jB 2 (jL (jg Jr (jc (jF 0) jk))))
 (qJ (jg jb7 (jc (jL (QN (jbi (jc (ja 0) (jc (ja 1) jk))) (Zb 2 (qK (jG 0) (qK (jG 1) ZL))) (fun _=>some true) (jg J0 (jc (jF 0) (jc (jF 2) (jc (jF 1) jk)))) 2 [2])) jk)))))
noncomputable def Z5:List D->Option D:=qX 2 3 Qz
noncomputable def Jj:FS:=(jr (Zw (jg qU (jc (jF 0) jk)))
 (Qf (QK (zJ (jg Z5 (jc (jF 0) (jc (jF 1) jk)))))
 (fun _=>.fail) ql))
noncomputable def zo:List D->Option D:=qX 2 2 Jj
noncomputable def Jc:FS:=(jr (jB 2 (jg Zq (jc (jj qO (ja 0) (jg j5 (jc (ja 1) jk))) (jc (eC (.int 0)) jk))))
 (qJ (jj qd (jg Q6 (jc (jL (eSl (ja 1) pNo (pSo (ja 0)))) jk)) (jj qw (ja 2) (jj jN (ja 1) (jed (eC (.int 1))))))))
noncomputable def zm:List D->Option D:=qX 2 3 Jc
noncomputable def Q3:FS:=(jr (jB 2 (jj qR (ja 0) (ja 1)))
 (jr (jB 3 (jj jW (ja 0) (ja 1)))
 (jr (Jg 4 (zw (jc (jbd (jc (jF 2) (jc (jj qO (ja 1) (ja 3)) jk))) jk)))
 (jr (Qf (zJ (jj dGt (ja 3) (eC (.int 0))))
 (JJ 4 (jbd (jc (jj qd (ja 2) (eC (.int 1))) (jc (jF 3) jk)))) ql)
 (QR 4)))))
noncomputable def JV:List D->Option (List D):=Jv 2 5 Q3
noncomputable def jcQ:FS:=(qJ (jg Q6 (jc (jL (QN (j8 (ja 0)) (jG 0) (fun _=>some true) (jj jN (ja 0) (ja 1)) 1 [1])) jk)))
noncomputable def jaY:List D->Option D:=qX 2 2 jcQ
noncomputable def Zk:FS:=(jr (jfD 2 jit)
 (jr (zW (jba (jc (jL (jg Jr (jc (jF 0) jk))) jk)) (Zb 2 (qK (jG 3) (qK (jG 4) ZL)))
 (zW (j8 (jL (jg JV (jc (jg jaY (jc (jF 1) (jc (jF 3) jk))) (jc (jg Qo (jc (jF 4) jk)) jk))))) (Zb 2 (qK (jG 5) (qK (jG 6) ZL)))
 (jbf 2 (jF 5) (jj qd (Z9 (ja 2) (ja 5) (eC (.int 0))) (ja 6)))))
 (Jf (jaX (ja 2)))))
noncomputable def jbu:List D->Option (List D):=Jv 2 7 Zk
noncomputable def jfi:FS:=(jr (Zw (jg zo (jc (jF 0) (jc (jF 1) jk))))
 (qJ (jg Q6 (jc (jL (QN (j8 (jL (jg jbu (jc (jF 0) (jc (jF 1) jk))))) (Zb 2 (qK (jG 0) (qK (jG 1) ZL))) (fun _=>some true) (jj qw (ja 1) (jg zm (jc (jF 0) (jc (jF 2) jk)))) 2 [2])) jk))))
noncomputable def jbz:List D->Option D:=qX 3 3 jfi
noncomputable def JB:FS:=(Jf (QN (J4 (jc (jg j5 (jc (ja 0) jk)) jk)) (jG 0) (fun _=>some true) (jg Q6 (jc (jL (QN (j8 (ja 1)) (jG 0) (fun _=>some true) (jj jN (ja 0) (ja 1)) 1 [0])) jk)) 1 [1]))
noncomputable def JC:List D->Option (List D):=Jv 2 2 JB
noncomputable def zX:FS:=(jr (jB 3 (eC (.int 0)))
 (jr (jB 4 (jL (jg JC (jc (jF 0) (jc (jF 1) jk)))))
 (jr (zW (J4 (jc (jg j5 (jc (ja 0) jk)) jk)) (jG 5)
 (jB 3 (jj qd (ja 3) (jg Zq (jc (eC (.int 0)) (jc (jj qO (jj jN (ja 4) (ja 5)) (jj qw (ja 2) (jj qO (jj jN (jj jN (ja 0) (ja 5)) (eC (.int 1))) (jj jN (jj jN (ja 0) (ja 5)) (eC (.int 0)))))) jk))))))
 (qJ (jF 3)))))
noncomputable def J1:List D->Option D:=qX 3 6 zX
noncomputable def jgb:FS:=(jr (jB 1 (jL (jg zT (jc (jF 0) (jc (eC (.int 3)) jk)))))
 (jr (jB 2 (jL (jg zV (jc (jF 1) jk))))
 (jr (jB 3 (jL (jg Qs (jc (jF 1) (jc (jL (jj jca (jL (eSl (ja 0) (pSo (eC (.int 12))) (pSo (eC (.int 54))))) (jL (zw (jc (eC (.int 0)) jk))))) jk)))))
 (jr (jB 4 (jL (jg Jz (jc (jF 0) jk))))
 (jr (jB 5 (jL (QN (j8 (ja 3)) (jG 0) (fun _=>some true) (jL (jg Qm (jc (ja 0) jk))) 1 [])))
 (jr (jB 6 (jL (jg Qm (jc (ja 4) jk))))
 (jr (jB 7 (jL (jg Qm (jc (ja 1) jk))))
 (jr (jB 8 (jg jbz (jc (jF 7) (jc (jF 5) (jc (jF 6) jk)))))
 (jr (Qf (bOr (zJ (jj dNe (ja 7) (ja 1))) (bOr (zJ (jj dNe (ja 5) (ja 3))) (zJ (jj dNe (ja 6) (ja 4)))))
 (qJ (eC (.bl false))) ql)
 (jr (jB 9 (jj qw (jj jN (ja 4) (eC (.int 0))) (jg Q6 (jc (jL (QN (j8 (ja 1)) (jG 0) (fun _=>some true) (jj jN (ja 0) (eC (.int 2))) 1 [])) jk))))
 (jr (zW (jhV (jc (eC (.int 1)) (jc (jg j5 (jc (ja 4) jk)) jk))) (jG 10)
 (jr (jB 11 (jj qO (jj jN (ja 4) (ja 10)) (jj jN (ja 4) (jj qO (ja 10) (eC (.int 1))))))
 (jB 9 (jj qd (ja 9) (jj qw (ja 11) (jg J1 (jc (jF 2) (jc (jF 3) (jc (jF 10) jk)))))))))
 (jr (Qf (bOr (QK (zJ (jaO "int" (ja 8)))) (bOr (zJ (jaO "bool" (ja 8))) (zJ (jj dNe (ja 8) (ja 9)))))
 (qJ (eC (.bl false))) ql)
 (qJ (jj dEq (jg jbz (jc (jF 7) (jc (jF 5) (jc (jL (eSl (ja 4) pNo (pSo (eC (.int 1))))) jk)))) (jj qw (jj jN (ja 4) (eC (.int 0))) (jg Q6 (jc (jL (QN (j8 (ja 1)) (jG 0) (fun _=>some true) (jj jN (ja 0) (eC (.int 2))) 1 [])) jk)))))))))))))))))
noncomputable def jkw:List D->Option D:=qX 1 12 jgb
local macro_rules | `(tactic| walk_at "ev") => `(tactic| simp (disch := omega) only [qX, Jv, jch, jaJ, qh, jr, Qf, jB, Jg, qJ, Jf, QR, ql, jhr, jey, frz, JJ, jns, jb3, jhD, Zw, jF, ja, eC, jj, jg, jk, jc, zw, jbd, jL, zJ, Z3, bOr, QK, jed, jgu, jbh, eOr, eIf, jG, ZL, qK, Zb, jm7, jkz, jmY, jnN, qI, eSl, pSo, pNo,
 jK,j2,Je,Jy,jV,jC,jfZ,jiY,jiJ,jew,jiP,jda,Z1,jbn,jfe,jik,jlb,jnw,jnu,j5,jY,QV,Zq,Qm,jkT,dIs,jkN,Jb,J3,JZ,ZW,jaa,jiN,jhx,jiR,jhL,jaO,jaD,jbD,jai,jal,jaj,jat,Zl,jap,ZM,Zv,ZA,Zx,jaw,jbJ,jaB,jaC,jar,jav,ZT,jax,ZJ,ZQ,ZK,Zs,QU,Zf,QZ,QW,Q0,QX,
 List.map_cons,List.map_nil,List.length_cons,List.length_nil,List.replicate_succ,List.replicate_zero,List.cons_append,List.nil_append,List.getElem?_cons_zero,List.getElem?_cons_succ,List.set_cons_zero,List.set_cons_succ,Option.bind_some,Option.map_some,Nat.reduceAdd,Nat.reduceSub,Nat.reduceLT,Nat.reduceLeDiff,if_true,if_false,reduceIte,Bool.false_eq_true,Bool.true_eq_false,Nat.zero_add,Nat.add_zero,Nat.sub_self,Nat.reduceEqDiff,decide_true,decide_false,Bool.not_true,Bool.not_false,Int.reduceEq,Int.reduceLT,Int.reduceLE,Int.reduceNeg,Int.reduceSub,Int.reduceAdd,Int.reduceMul,Int.cast_ofNat_Int,Int.natCast_zero,Int.natCast_one])
local macro_rules | `(tactic| walk_at "evh") => `(tactic| simp (disch := omega) only [*, qX, Jv, jch, jaJ, qh, jr, Qf, jB, Jg, qJ, Jf, QR, ql, jhr, jey, frz, JJ, jns, jb3, jhD, Zw, jF, ja, eC, jj, jg, jk, jc, zw, jbd, jL, zJ, Z3, bOr, QK, jed, jgu, jbh, eOr, eIf, jG, ZL, qK, Zb, jm7, jkz, jmY, jnN, qI, eSl, pSo, pNo,
 jK,j2,Je,Jy,jV,jC,jfZ,jiY,jiJ,jew,jiP,jda,Z1,jbn,jfe,jik,jlb,jnw,jnu,j5,jY,QV,Zq,Qm,jkT,dIs,jkN,Jb,J3,JZ,ZW,jaa,jiN,jhx,jiR,jhL,jaO,jaD,jbD,jai,jal,jaj,jat,Zl,jap,ZM,Zv,ZA,Zx,jaw,jbJ,jaB,jaC,jar,jav,ZT,jax,ZJ,ZQ,ZK,Zs,QU,Zf,QZ,QW,Q0,QX,
 List.map_cons,List.map_nil,List.length_cons,List.length_nil,List.replicate_succ,List.replicate_zero,List.cons_append,List.nil_append,List.getElem?_cons_zero,List.getElem?_cons_succ,List.set_cons_zero,List.set_cons_succ,Option.bind_some,Option.map_some,Nat.reduceAdd,Nat.reduceSub,Nat.reduceLT,Nat.reduceLeDiff,if_true,if_false,reduceIte,Bool.false_eq_true,Bool.true_eq_false,Nat.zero_add,Nat.add_zero,Nat.sub_self,Nat.reduceEqDiff,decide_true,decide_false,Bool.not_true,Bool.not_false,Int.reduceEq,Int.reduceLT,Int.reduceLE,Int.reduceNeg,Int.reduceSub,Int.reduceAdd,Int.reduceMul,Int.cast_ofNat_Int,Int.natCast_zero,Int.natCast_one])
noncomputable def cell (ns:List Int) (k:Int):Int:=ns.getD k.toNat 0
theorem jbk (ns:List Int) (k:Int) (h:0<=k):jT [.scr ns,.int k]=some (.int (cell ns k)):=by
 unfold jT Jk
 simp (disch:=omega) only [qX,List.length_cons,List.length_nil,Nat.zero_add,Nat.reduceAdd,jch,jr,Qf,zJ,jj,ja,qh,List.map_cons,List.map_nil,Nat.sub_self,List.replicate_zero,List.cons_append,List.nil_append,List.getElem?_cons_succ,List.getElem?_cons_zero,jg,jc,jk,Option.map_some,Option.bind_some,j5,jda,qJ,ql,eC,if_true]
 by_cases hk:k<ns.length
 . have e:jN (.scr ns) (.int k)=some (.int (cell ns k)):=by
    show (atI ns k).map D.int=_
    unfold atI ixN
    rw [if_pos h,if_pos hk]
    have hi:k.toNat<ns.length:=by omega
    simp [cell,hi,List.getD_eq_getElem?_getD]
   simp only [hk,decide_true,e]
 . have e:cell ns k=0:=by
    unfold cell
    rw [List.getD_eq_getElem?_getD,List.getElem?_eq_none (by omega)]
    rfl
   simp only [hk,decide_false,e]
noncomputable def ji (s:Ship):D:=.tup [.int s.b,.int s.e,.int s.n,.int s.m]
theorem jam {ns:List Int} {i:Int} (h0:0<=i) (h1:i<ns.length):∃m,m∈ns/\jN (.lst (ns.map D.int)) (.int i)=some (.int m):=by
 obtain ⟨d,hd,e⟩:=jm8 (ds:=ns.map D.int) h0 (by rw [List.length_map];exact h1)
 obtain ⟨m,hm,rfl⟩:=List.mem_map.mp hd
 exact ⟨m,hm,e⟩
theorem jmq {f x:Int} (h0:0<=f) (h1:0<=x) (h2:x<=16):0<=f*x/16/\f*x/16<=f:=by
 have a:0<=f*x:=Int.mul_nonneg h0 h1
 have b:f*x<=f*16:=Int.mul_le_mul_of_nonneg_left h2 h0
 omega
section
variable {β:Type} {ρ:L2.Env}
theorem jy {f:List D->Option β} {fa:L2.Env->Option (List D)} {ds:List D} {x:β} (ha:fa ρ=some ds) (h:f ds=some x):jg f fa ρ=some x:=by unfold jg;rw [ha];exact h
theorem jn {g:D->D->Option β} {fa fb:L2.Env->Option D} {x y:D} {z:β} (h1:fa ρ=some x) (h2:fb ρ=some y) (h3:g x y=some z):jj g fa fb ρ=some z:=by unfold jj;rw [h1,h2];exact h3
theorem qi {fe:L2.Env->Option D} {i:Nat} {d:D} (h:fe ρ=some d):jB i fe ρ=.next (ρ.set i (.sh d)):=by unfold jB;rw [h]
theorem zr {fo:L2.Env->Option (List D)} {l:List D} (h:fo ρ=some l):jL fo ρ=some (.lst l):=by unfold jL;rw [h];rfl
theorem js {fa:L2.Env->Option D} {fs:L2.Env->Option (List D)} {d:D} {ds:List D} (h1:fa ρ=some d) (h2:fs ρ=some ds):jc fa fs ρ=some (d::ds):=by unfold jc;rw [h1,h2];rfl
theorem qx {fa:L2.Env->Option D} {b:Bool} (h:fa ρ=some (.bl b)):zJ fa ρ=some b:=by unfold zJ;rw [h]
theorem Jn {fc:L2.Env->Option Bool} {F:FS} (h:fc ρ=some false):Qf fc F ql ρ=.next ρ:=by unfold Qf;rw [h];rfl
theorem jiO {fc:L2.Env->Option Bool} {F F':FS} (h:fc ρ=some true):Qf fc F F' ρ=F ρ:=by unfold Qf;rw [h]
theorem jbN {ga gb:L2.Env->Option Bool} {b:Bool} (h:ga ρ=some false) (h2:gb ρ=some b):bOr ga gb ρ=some b:=by unfold bOr;rw [h];exact h2
theorem Zy {ga:L2.Env->Option Bool} {b:Bool} (h:ga ρ=some b):QK ga ρ=some (!b):=by unfold QK;rw [h];rfl
theorem jaE {fe:L2.Env->Option D} {d:D} (h:fe ρ=some d):qJ fe ρ=.ret d:=by unfold qJ;rw [h]
theorem jfj {fa fb:L2.Env->Option D} {d:D} (h:fa ρ=some (.bl true)) (h2:fb ρ=some d):jbh fa fb ρ=some d:=by unfold jbh;rw [qx h];exact h2
theorem jjT {i j:Int} (h:i=j):dEq (.int i) (.int j)=some (.bl true):=by rw [jik,decide_eq_true h]
theorem jjD {i j:Int} (h:i=j):dNe (.int i) (.int j)=some (.bl false):=by rw [jlb,decide_eq_true h];rfl
theorem ZH {C:Res->Prop} {F:FS} {r:Res} (h:F ρ=r) (k:C r):C (F ρ):=by rw [h];exact k
theorem zk {F F':FS} {ρ':L2.Env} (h:F ρ=.next ρ'):jr F F' ρ=F' ρ':=by unfold jr;rw [h]
theorem jiW {ga gb:L2.Env->Option Bool} {b c:Bool} (h:ga ρ=some b) (h2:gb ρ=some c):Z3 ga gb ρ=some (b && c):=by unfold Z3;rw [h];cases b <;> simp [h2]
theorem jn0 {fc:L2.Env->Option Bool} {F F':FS} {b:Bool} (h:fc ρ=some b):Qf fc F F' ρ=if b=true then F ρ else F' ρ:=by unfold Qf;rw [h];cases b <;> rfl
theorem jgd {i j:Int} (h:¬i=j):dEq (.int i) (.int j)=some (.bl false):=by rw [jik,decide_eq_false h]
theorem jhF {fs:L2.Env->Option (List D)} {l:List D} (h:fs ρ=some l) (h2:l.length<16777216):zw fs ρ=some l:=by unfold zw;rw [h];show (if zM l.length=true then _ else _)=_;rw [if_pos (jY h2)]
theorem jmy {fs:L2.Env->Option (List D)} {l:List D} (h:fs ρ=some l) (h2:l.length<16777216):jbd fs ρ=some (.tup l):=by unfold jbd;rw [h];show (if zM l.length=true then _ else _)=_;rw [if_pos (jY h2)]
end
theorem jiw {ρ:L2.Env} {i:Nat} {fa:L2.Env->Option D} {ds:List D} {d:D} (h:ρ[i]?=some (.ow ds)) (hf:fa ρ=some d) (hs:ds.length<16777216):JJ i fa ρ=.next (ρ.set i (.ow (ds++[d]))):=by
 unfold JJ
 rw [h,hf]
 show (if zM ds.length=true then _ else _)=_
 rw [if_pos (jY hs)]
theorem zZ {a n:Nat} {m:FS} {ds:List D} {ρ:L2.Env} {d:D} (h1:ds.length=a) (h2:qh n ds=ρ) (h:∀C:Res->Prop,C (.ret d)->C (m ρ)):qX a n m ds=some d:=by
 unfold qX
 rw [if_pos h1,h2]
 exact h (fun r=>jch r=some d) rfl
theorem jI {C:Res->Prop} {F F':FS} {ρ:L2.Env} (ρ':L2.Env) (h:F ρ=.next ρ') (k:C (F' ρ')):C (jr F F' ρ):=by unfold jr;rw [h];exact k
structure Ok0 (s:Ship):Prop where
 ok:s.Ok
 long:s.e-s.b<=214748362800001
 lo:-100000000000000<=s.b
 hi:s.b<=114748364600000
theorem jjC (one two kind:Int):∃s:Ship,Ok0 s/\qY [.int one,.int two,.int kind]=some (ji s):=by
 have key:∃b e:Int,b<e/\e-b<=214748362800001 /\ -100000000000000<=b/\b<=114748364600000/\∀R:FS,
  (jr (jB 3 (jj qO (jj jW (ja 0) (eC (.int 6))) (eC (.int 2)))) (jr (jB 4 (jj qd (jj qd (ja 3) (eC (.int 1))) (jj jW (jj qR (ja 0) (eC (.int 6))) (eC (.int 5))))) (jr (Qf (zJ (jj dEq (ja 2) (eC (.int 1))))
  (jr (jB 3 (jj qO (jj jW (ja 0) (eC (.int 50))) (eC (.int 25))))
  (jB 4 (jj qd (jj qd (ja 3) (eC (.int 1))) (jj jW (jj qR (ja 0) (eC (.int 50))) (eC (.int 40)))))) ql)
  (jr (Qf (zJ (jj dEq (ja 2) (eC (.int 2))))
  (jr (jB 3 (jj qw (jj qO (jj jW (jj qw (ja 0) (eC (.int 1103515245))) (eC (.int 2147483647))) (jj Ju (eC (.int 10)) (eC (.int 9)))) (jj Ju (eC (.int 10)) (eC (.int 5)))))
  (jB 4 (jj qd (jj qd (ja 3) (eC (.int 1))) (jj qw (jj jW (jj qw (ja 0) (eC (.int 1664525013))) (eC (.int 2147483629))) (jj Ju (eC (.int 10)) (eC (.int 5))))))) ql) R))))
    [.sh (.int one),.sh (.int two),.sh (.int kind),.un,.un,.un,.un,.un,.un]=R [.sh (.int one),.sh (.int two),.sh (.int kind),.sh (.int b),.sh (.int e),.un,.un,.un,.un]:=by
  by_cases h1:kind=1
  . exact ⟨one%50-25,one%50-25+1+one/50%40,by omega,by omega,by omega,by omega,fun R=>
      (zk (qi (jn (jn rfl rfl (jC (by decide))) rfl j2))).trans ((zk (qi (jn (jn rfl rfl jK) (jn (jn rfl rfl (jV (by decide) (by decide))) rfl (jC (by decide))) jK))).trans
      ((zk ((jiO (qx (jn rfl rfl (jjT h1)))).trans ((zk (qi (jn (jn rfl rfl (jC (by decide))) rfl j2))).trans (qi (jn (jn rfl rfl jK) (jn (jn rfl rfl (jV (by decide) (by decide))) rfl (jC (by decide))) jK))))).trans
      (zk (Jn (qx (jn rfl rfl (jgd (by omega))))))))⟩
  . by_cases h2:kind=2
    . exact ⟨(one*1103515245%2147483647-1000000000)*100000,(one*1103515245%2147483647-1000000000)*100000+1+one*1664525013%2147483629*100000,by omega,by omega,by omega,by omega,fun R=>
       (zk (qi (jn (jn rfl rfl (jC (by decide))) rfl j2))).trans ((zk (qi (jn (jn rfl rfl jK) (jn (jn rfl rfl (jV (by decide) (by decide))) rfl (jC (by decide))) jK))).trans
       ((zk (Jn (qx (jn rfl rfl (jgd h1))))).trans
       (zk ((jiO (qx (jn rfl rfl (jjT h2)))).trans ((zk (qi (jn (jn (jn (jn rfl rfl (Jy (by decide) (by decide))) rfl (jC (by decide))) (jn rfl rfl jiY) j2) (jn rfl rfl jfZ) (Jy (by decide) (by decide))))).trans (qi (jn (jn rfl rfl jK) (jn (jn (jn rfl rfl (Jy (by decide) (by decide))) rfl (jC (by decide))) (jn rfl rfl jfZ) (Jy (by decide) (by decide))) jK)))))))⟩
    . exact ⟨one%6-2,one%6-2+1+one/6%5,by omega,by omega,by omega,by omega,fun R=>
       (zk (qi (jn (jn rfl rfl (jC (by decide))) rfl j2))).trans ((zk (qi (jn (jn rfl rfl jK) (jn (jn rfl rfl (jV (by decide) (by decide))) rfl (jC (by decide))) jK))).trans
       ((zk (Jn (qx (jn rfl rfl (jgd h1))))).trans (zk (Jn (qx (jn rfl rfl (jgd h2)))))))⟩
 obtain ⟨b,e,h1,h2,h3,h4,hk⟩:=key
 obtain ⟨m,hm,em⟩:=jam (ns:=[2,1,3,5,1000000000000000,1+two/8%50,0,4]) (i:=two%8) (by omega) (by show two%8<8;omega)
 have m01:0<=m/\m<=1000000000000000:=by
  simp only [List.mem_cons,List.not_mem_nil,or_false] at hm
  omega
 clear hm
 obtain ⟨m0,m1⟩:=m01
 have full0:0<=m*(e-b):=Int.mul_nonneg m0 (by omega)
 obtain ⟨x,hx,hx0⟩:∃x,two*1103515245%2147483647=x/\0<=x:=⟨_,rfl,by omega⟩
 obtain ⟨f,hf⟩:∃f,m*(e-b)=f:=⟨_,rfl⟩
 rw [hf] at full0
 obtain ⟨n,hn,en⟩:=jam (ns:=[f*(x%17)/16,x%(f+1),if x%9<f then x%9 else f,f]) (i:=x/17%4) (by omega) (by show x/17%4<4;omega)
 have n01:0<=n/\n<=f:=by
  have a1:=jmq full0 (x:=x%17) (by omega) (by omega)
  have a2:0<=x%(f+1):=Int.emod_nonneg _ (by omega)
  have a3:x%(f+1)<f+1:=Int.emod_lt_of_pos _ (by omega)
  simp only [List.mem_cons,List.not_mem_nil,or_false] at hn
  rcases hn with rfl | rfl | rfl | rfl
  . exact a1
  . omega
  . split <;> omega
  . omega
 clear hn
 refine ⟨⟨b,e,n,m⟩,⟨⟨h1,by show e-b<=_;omega,by show _<=b;omega,by show b<=_;omega,m0,m1,n01.1,by show n<=m*(e-b);rw [hf];exact n01.2⟩,h2,h3,h4⟩,?_⟩
 unfold qY
 refine zZ (ρ:=[.sh (.int one),.sh (.int two),.sh (.int kind),.un,.un,.un,.un,.un,.un]) rfl rfl fun C fin=>?_
 unfold Qj
 rw [hk]
 refine jI [.sh (.int one),.sh (.int two),.sh (.int kind),.sh (.int b),.sh (.int e),.sh (.int m),.un,.un,.un] (qi (jn (zr (jhF (js rfl (js rfl (js rfl (js rfl (js (jn rfl rfl jew) (js (jn rfl (jn (jn rfl rfl (jV (by decide) (by decide))) rfl (jC (by decide))) jK) (js rfl (js rfl rfl)))))))) (show 8<16777216 by decide))) (jn rfl rfl (jC (by decide))) em)) ?_
 refine jI [.sh (.int one),.sh (.int two),.sh (.int kind),.sh (.int b),.sh (.int e),.sh (.int m),.sh (.int x),.un,.un] (hx ▸ qi (jn (jn rfl rfl (Jy (by decide) (by decide))) rfl (jC (by decide)))) ?_
 refine jI [.sh (.int one),.sh (.int two),.sh (.int kind),.sh (.int b),.sh (.int e),.sh (.int m),.sh (.int x),.sh (.int f),.un] (hf ▸ qi (jn rfl (jn rfl rfl j2) (Je (by omega) (by omega)))) ?_
 refine jI [.sh (.int one),.sh (.int two),.sh (.int kind),.sh (.int b),.sh (.int e),.sh (.int m),.sh (.int x),.sh (.int f),.sh (.int n)] (qi (jn (zr (jhF (js (jn (jn rfl (jn rfl rfl (jC (by decide))) (Jy (by omega) (by omega))) rfl (jV (by decide) (by decide))) (js (jn rfl (jn rfl rfl jK) (jC (by omega))) (js (jy (js rfl (js (jn rfl rfl (jC (by decide))) rfl)) rfl) (js rfl rfl)))) (show 4<16777216 by decide))) (jn (jn rfl rfl (jV (by decide) (by decide))) rfl (jC (by decide))) en)) ?_
 exact ZH (jaE (jmy (l:=[.int b,.int e,.int n,.int m]) (js rfl (js rfl (js rfl (js rfl rfl)))) (show 4<16777216 by decide))) fin
theorem jlN (one two kind:Int):∃s:Ship,s.Ok/\qY [.int one,.int two,.int kind]=some (ji s):=let ⟨s,h,e⟩:=jjC one two kind;⟨s,h.ok,e⟩
theorem jgj {m:D->L2.Env->Option L2.Env} {B:FS} (P:List D->L2.Env->Prop) (hs:∀d ds ρ,P (d::ds) ρ->∃ρ1 ρ2,m d ρ=some ρ1/\B ρ1=.next ρ2/\P ds ρ2):∀(ds:List D) (ρ:L2.Env),P ds ρ->∃ρ',zH m B ds ρ=.next ρ'/\P [] ρ'
 | [],ρ,h=>⟨ρ,rfl,h⟩
 | d::ds,ρ,h=>by
   obtain ⟨ρ1,ρ2,h1,h2,h3⟩:=hs d ds ρ h
   obtain ⟨ρ',h4,h5⟩:=jgj P hs ds ρ2 h3
   exact ⟨ρ',by simp only [zH,h1,h2];exact h4,h5⟩
theorem jcL {C:Res->Prop} {fi:L2.Env->Option (List D)} {m:D->L2.Env->Option L2.Env} {B F':FS} {ρ:L2.Env} (ds:List D) (P:List D->L2.Env->Prop) (hi:fi ρ=some ds) (h0:P ds ρ)
 (hs:∀d ds ρ,P (d::ds) ρ->∃ρ1 ρ2,m d ρ=some ρ1/\B ρ1=.next ρ2/\P ds ρ2) (k:∀ρ',P [] ρ'->C (F' ρ')):C (jr (zW fi m B) F' ρ):=by
 obtain ⟨ρ',h1,h2⟩:=jgj P hs ds ρ h0
 exact jI ρ' (by unfold zW;rw [hi];exact h1) (k ρ' h2)
theorem qT (lo:Int) (n:Nat):rng lo (n+1)=.int lo::rng (lo+1) n:=by
 unfold rng
 rw [List.range_succ_eq_map,List.map_cons,List.map_map]
 simp only [Int.natCast_zero,Int.add_zero,List.cons.injEq,true_and]
 refine List.map_congr_left fun i _=>?_
 simp only [Function.comp,Nat.succ_eq_add_one,Int.natCast_add,Int.natCast_one,D.int.injEq]
 omega
theorem J2 {fa:L2.Env->Option (List D)} {ρ:L2.Env} {j:Int} (h:fa ρ=some [.int j]) (h0:0<=j) (h1:j<4611686018427387904):J4 fa ρ=some (rng 0 j.toNat):=by
 unfold J4;rw [h];simp only;rw [if_pos ⟨by omega,by omega⟩]
theorem jif {Pr:Ship->Prop} (hP:∀one two kind:Int,∃s:Ship,Pr s/\qY [.int one,.int two,.int kind]=some (ji s)) (ns:List Int) (st:Int) (h0:0<=st):∃fl:List Ship,(∀s∈fl,Pr s)/\fl.length<=4/\zT [.scr ns,.int st]=some (fl.map ji):=by
 suffices main:∀C:Res->Prop,(∀fl:List Ship,(∀s∈fl,Pr s)->fl.length<=4->C (.retO (fl.map ji)))->C (zY [.sh (.scr ns),.sh (.int st),.un,.un,.un,.un]) by
  exact main (fun r=>∃fl:List Ship,(∀s∈fl,Pr s)/\fl.length<=4/\jaJ r=some (fl.map ji)) fun fl h1 h2=>⟨fl,h1,h2,rfl⟩
 intro C fin
 unfold zY
 have ec:=jbk ns st h0
 generalize cell ns st=c at ec
 refine jI [.sh (.scr ns),.sh (.int st),.sh (.int c),.un,.un,.un] (qi (jy rfl ec)) ?_
 refine jI [.sh (.scr ns),.sh (.int st),.sh (.int c),.ow [],.un,.un] rfl ?_
 obtain ⟨n,hn,en⟩:=jam (ns:=[3,4,2,4,1,3,0,4]) (i:=c%8) (by omega) (by show c%8<8;omega)
 have n01:0<=n/\n<=4:=by
  simp only [List.mem_cons,List.not_mem_nil,or_false] at hn
  omega
 clear hn
 refine jcL (rng 0 n.toNat) (fun ds ρ=>∃(fl:List Ship) (k:Nat) (lo:Int) (x y:Slot),ds=rng lo k/\0<=lo/\fl.length+k<=4/\(∀s∈fl,Pr s)/\ρ=[.sh (.scr ns),.sh (.int st),.sh (.int c),.ow (fl.map ji),x,y])
  (J2 (js (jn (zr (jhF (l:=[3,4,2,4,1,3,0,4].map D.int) rfl (show 8<16777216 by decide))) (jn rfl rfl (jC (by decide))) en) rfl) n01.1 (by omega)) ⟨[],n.toNat,0,.un,.un,rfl,by omega,by simp;omega,by simp,rfl⟩ ?_ ?_
 . rintro d ds ρ ⟨fl,k,lo,x,y,hd,hlo,hl,hok,rfl⟩
   cases k with
   | zero=>cases hd
   | succ k=>
     rw [qT] at hd
     cases hd
     obtain ⟨s,hs,es⟩:=hP (cell ns (st+1+2*lo)) (cell ns (st+2+2*lo)) (c/8%3)
     refine ⟨_,[.sh (.scr ns),.sh (.int st),.sh (.int c),.ow ((fl++[s]).map ji),.sh (.int lo),.sh (.int (cell ns (st+1+2*lo)))],rfl,?_,⟨fl++[s],k,lo+1,_,_,rfl,by omega,by simp;omega,fun s' h'=>?_,rfl⟩⟩
     . rw [List.map_append]
       exact (zk (qi (jy (js rfl (js (jn (jn rfl rfl jK) (jn rfl rfl (Je (by decide) (by decide))) jK) rfl)) (jbk ns (st+1+2*lo) (by omega))))).trans (jiw (ds:=fl.map ji) rfl (jy (js rfl (js (jy (js rfl (js (jn (jn rfl rfl jK) (jn rfl rfl (Je (by decide) (by decide))) jK) rfl)) (jbk ns (st+2+2*lo) (by omega))) (js (jn (jn rfl rfl (jV (by decide) (by decide))) rfl (jC (by decide))) rfl))) es) (by rw [List.length_map];omega))
     . rcases List.mem_append.mp h' with h' | h'
       . exact hok s' h'
       . rw [List.mem_singleton.mp h'];exact hs
 . rintro ρ ⟨fl,k,lo,x,y,hd,hlo,hl,hok,rfl⟩
   have hk:k=0:=by
    cases k with
    | zero=>rfl
    | succ k=>rw [qT] at hd;cases hd
   subst hk
   have el:j5 [.lst (fl.map ji)]=some (.int (fl.length:Int)):=by show some (D.int ((fl.map ji).length:Int))=_;rw [List.length_map]
   have hif:∀(ρ:L2.Env) (F:FS),ρ=[.sh (.scr ns),.sh (.int st),.sh (.int c),.ow (fl.map ji),x,y]->Qf (Z3 (zJ (jj dGt (jg j5 (jc (ja 3) jk)) (eC (.int 1)))) (zJ (jj dEq (jj jW (jj qR (ja 2) (eC (.int 24))) (eC (.int 4))) (eC (.int 1))))) F ql ρ=if (decide (1<(fl.length:Int)) && decide (c/24%4=1))=true then F ρ else ql ρ:=fun ρ F hρ=>by
    subst hρ
    exact jn0 (jiW (qx (jn (jy rfl el) rfl jbn)) (qx (jn (jn (jn rfl rfl (jV (by decide) (by decide))) rfl (jC (by decide))) rfl jik)))
   by_cases hb:1<(fl.length:Int)/\c/24%4=1
   . cases fl with
     | nil=>simp at hb
     | cons s fl=>
       rw [List.length_cons] at hb
       refine jI [.sh (.scr ns),.sh (.int st),.sh (.int c),.ow (((s::fl).set fl.length s).map ji),x,y] ?_ ?_
       . have e0:jN (.lst (ji s::fl.map ji)) (.int 0)=some (ji s):=ZY (by decide) rfl
         have e1:ixN (fl.length+1) (-1)=some fl.length:=by
           unfold ixN
           rw [if_neg (by decide),if_pos (by omega)]
           congr 1
           omega
         rw [hif _ _ rfl,if_pos (by rw [decide_eq_true (by rw [List.length_cons];exact hb.1),decide_eq_true hb.2];rfl)]
         simp (disch:=omega) only [jj,ja,List.map_cons,List.getElem?_cons_succ,List.getElem?_cons_zero,Option.bind_some,List.length_cons,eC,jb3,jed,Int.reduceNeg,List.set_cons_succ,List.set_cons_zero]
         simp only [List.length_cons,List.length_map,e0,e1,List.map_set,List.map_cons]
       . refine fin ((s::fl).set fl.length s) (fun s' h'=>?_) (by simpa using hl)
         rcases List.mem_or_eq_of_mem_set h' with h' | h'
         . exact hok s' h'
         . rw [h'];exact hok s List.mem_cons_self
   . refine jI [.sh (.scr ns),.sh (.int st),.sh (.int c),.ow (fl.map ji),x,y] ?_ (fin fl hok (by omega))
     rw [hif _ _ rfl,if_neg (fun q=>hb ⟨of_decide_eq_true (Bool.and_eq_true_iff.mp q).1,of_decide_eq_true (Bool.and_eq_true_iff.mp q).2⟩)]
     rfl
theorem jj5 (ns:List Int) (st:Int) (h0:0<=st):∃fl:List Ship,(∀s∈fl,s.Ok)/\fl.length<=4/\zT [.scr ns,.int st]=some (fl.map ji):=jif jlN ns st h0
theorem jfa {m:D->L2.Env->Option L2.Env} {ft:L2.Env->Option Bool} {fe:L2.Env->Option D} {ρ:L2.Env} (g:D->D):∀(ds:List D),(∀d∈ds,∃ρ1,m d ρ=some ρ1/\ft ρ1=some true/\fe ρ1=some (g d))->Zg m ft fe ρ ds=some (ds.map g)
 | [],_=>rfl
 | d::ds,h=>by
   obtain ⟨ρ1,h1,h2,h3⟩:=h d List.mem_cons_self
   simp only [Zg,h1,h2,h3,Option.bind_some,if_true,jfa g ds fun x hx=>h x (List.mem_cons_of_mem _ hx),Option.map_some,List.map_cons]
theorem jcy {m:D->L2.Env->Option L2.Env} {ft:L2.Env->Option Bool} {fe:L2.Env->Option D} {ρ:L2.Env} (p:D->Bool) (g:D->D):∀(ds:List D),(∀d∈ds,∃ρ1,m d ρ=some ρ1/\ft ρ1=some (p d)/\(p d=true->fe ρ1=some (g d)))->Zg m ft fe ρ ds=some ((ds.filter p).map g)
 | [],_=>rfl
 | d::ds,h=>by
   obtain ⟨ρ1,h1,h2,h3⟩:=h d List.mem_cons_self
   have ih:=jcy p g ds fun x hx=>h x (List.mem_cons_of_mem _ hx)
   cases hp:p d with
   | true=>simp only [Zg,h1,h2,hp,h3 hp,Option.bind_some,if_true,ih,Option.map_some,List.filter_cons,List.map_cons]
   | false=>simp only [Zg,h1,h2,hp,Option.bind_some,Bool.false_eq_true,if_false,ih,List.filter_cons]
theorem zy {fi:L2.Env->Option (List D)} {m:D->L2.Env->Option L2.Env} {ft:L2.Env->Option Bool} {fe:L2.Env->Option D} {n:Nat} {ix:List Nat} {ρ:L2.Env} {ds es:List D} (h1:fi ρ=some ds) (h2:ds.length<16777216) (h3:Zg m ft fe (JT n ix ρ) ds=some es):QN fi m ft fe n ix ρ=some es:=by
 unfold QN
 rw [h1,Option.bind_some,if_pos (jY h2),h3]
theorem jc8 (bs:List Bool):jb7 [.lst (bs.map D.bl)]=some (.bl (bs.all id)):=by
 show ((jgZ (bs.map D.bl)).map fun ns=>D.bl (ns.all id))=_
 rw [jdW];rfl
theorem jaV (bs:List Int):Q6 [.lst (bs.map D.int)]=some (.int bs.sum):=by
 show ((Qr (bs.map D.int)).map fun ns=>D.int ns.sum)=_
 rw [JQ];rfl
theorem jhR {fe:L2.Env->Option D} {ρ:L2.Env} {l:List D} (h:fe ρ=some (.tup l)):jak fe ρ=some l:=by unfold jak;rw [h]
theorem qS {fe:L2.Env->Option D} {ρ:L2.Env} {l:List D} (h:fe ρ=some (.lst l)):j8 fe ρ=some l:=by unfold j8;rw [h]
noncomputable def plain:Nat->D->Prop
 | n+1,.lst l=>∀d∈l,plain n d
 | n+1,.tup l=>∀d∈l,plain n d
 | _,.lst _=>False
 | _,.tup _=>False
 | _,.scr _=>False
 | _,.dic _ _=>False
 | _,_=>True
theorem ZV {f:D->D->Option Bool}:∀(l:List D),(∀d∈l,f d d=some true)->Ze f l l=some true
 | [],_=>rfl
 | d::l,h=>by
   simp only [Ze,h d List.mem_cons_self,Option.bind_some,ZV l fun x hx=>h x (List.mem_cons_of_mem _ hx),Option.map_some,Bool.and_self]
theorem Qq {d:D} (f:qI d=true):eqB d d=some true:=by
 unfold eqB
 rw [if_pos f,if_pos f]
 cases d <;> first | exact absurd (show false=true from f) Bool.false_ne_true | rfl | simp [vOf,eqV]
theorem jbU:∀(n:Nat) (d:D),plain n d->ZU n d d=some true
 | 0,d,h=>by
   cases d <;> first | exact h.elim | exact Qq rfl
 | n+1,d,h=>by
   cases d with
   | lst l=>
     show (if l.length=l.length then Ze (ZU n) l l else some false)=_
     rw [if_pos rfl]
     exact ZV l fun d hd=>jbU n d (h d hd)
   | tup l=>
     show (Ze (ZU n) l l).map (· && l.length == l.length)=_
     rw [ZV l fun d hd=>jbU n d (h d hd)]
     simp
   | scr l=>exact h.elim
   | dic l m=>exact h.elim
   | int i=>exact Qq rfl
   | bl i=>exact Qq rfl
   | non=>exact Qq rfl
   | str i=>exact Qq rfl
theorem jbg {l:List D} (h:plain 40 (.lst l)):dNe (.lst l) (.lst l)=some (.bl false):=by
 show (ZU 40 (.lst l) (.lst l)).map (fun b=>D.bl (!b))=_
 rw [jbU 40 _ h];rfl
theorem jc7 {α:Type} {f:α->D} {l:List α} {k:Int} {a:α} (h0:0<=k) (h:l[k.toNat]?=some a):jN (.lst (l.map f)) (.int k)=some (f a):=ZY h0 (by rw [List.getElem?_map,h];rfl)
noncomputable def jm (p:Int×Int):D:=.tup [.int p.1,.int p.2]
theorem jfx (k:Int):∀l:List Int,(ins k l).length<=l.length+1
 | []=>by simp [ins]
 | x::l=>by
   have:=jfx k l
   unfold ins
   split
   . simp
   . split
     . simp
     . simp;omega
theorem jfX:∀l:List Int,(srt l).length<=l.length
 | []=>by simp [srt]
 | x::l=>by
   have h1:=jfX l
   have h2:=jfx x (srt l)
   show (ins x (srt l)).length<=l.length+1
   omega
theorem Zi (fl:List Ship):(JE fl).length<=2*fl.length:=by
 have:=jfX (hrs fl)
 unfold JE
 simp [hrs] at this ⊢
 omega
theorem Qx {fl:List Ship} (k:Int) (g:Ship->Int) (hg:∀s,jN (ji s) (.int k)=some (.int (g s))) (ρ:L2.Env) (i:Nat) (hi:ja i ρ=some (.lst (fl.map ji))) (hl:fl.length<1000) :
 QN (j8 (ja i)) (jG 0) (fun _=>some true) (jj jN (ja 0) (eC (.int k))) 1 [] ρ=some ((fl.map g).map D.int):=by
 refine zy (qS hi) (by rw [List.length_map];omega) ?_
 rw [jfa (fun d=>match jN d (.int k) with | some x=>x | none=>.non) _ fun d hd=>?_]
 . rw [List.map_map,List.map_map]
   congr 1
   refine List.map_congr_left fun s _=>?_
   show (match jN (ji s) (.int k) with | some x=>x | none=>D.non)=_
   rw [hg s];rfl
 . obtain ⟨s,_,rfl⟩:=List.mem_map.mp hd
   refine ⟨[.sh (ji s)],rfl,rfl,?_⟩
   show jN (ji s) (.int k)=_
   rw [hg s]
theorem jdG (fl:List Ship) (hl:fl.length<20):jbP [.lst (fl.map ji)]=some ((JE fl).map D.int):=by
 suffices main:∀C:Res->Prop,C (.retO ((JE fl).map D.int))->C (ZR [.sh (.lst (fl.map ji)),.un,.un]) by
  exact main (fun r=>jaJ r=some ((JE fl).map D.int)) rfl
 intro C fin
 unfold ZR
 refine jI [.sh (.lst (fl.map ji)),.sh (.lst ((fl.map (·.b)).map D.int)),.un] (by
  unfold jB jL;rw [Qx 0 (·.b) (fun s=>J3) _ 0 rfl (by omega)];rfl) ?_
 refine jI [.sh (.lst (fl.map ji)),.sh (.lst ((fl.map (·.b)).map D.int)),.sh (.lst ((fl.map (·.e)).map D.int))] (by
  unfold jB jL;rw [Qx 1 (·.e) (fun s=>JZ) _ 0 rfl (by omega)];rfl) ?_
 have last:∀r,r=Res.retO ((JE fl).map D.int)->C r:=fun r h=>by rw [h];exact fin
 refine last _ ?_
 have hcat:jca (.lst ((fl.map (·.b)).map D.int)) (.lst ((fl.map (·.e)).map D.int))=some ((hrs fl).map D.int):=by
  show (if _ then some _ else none)=_
  rw [if_pos (by simp only [List.length_map];show fl.length+fl.length<=2 ^ 24;omega),<- List.map_append]
  rfl
 unfold Jf jdO
 simp (disch:=omega) only [jc,jL,jj,ja,List.getElem?_cons_succ,List.getElem?_cons_zero,Option.bind_some,jk,Option.map_some]
 rw [hcat]
 simp (disch:=omega) only [Option.map_some,Option.bind_some]
 rw [JQ,Option.bind_some,if_pos (by simp [hrs];omega)]
 rfl
theorem jiM {l:List D}:L2.jaM l (some 1) none=l.tail:=by
 unfold L2.jaM
 rw [HT.sIx_none,show (1:Int)=((1:Nat):Int) from rfl,HT.sIx_nat]
 cases l with
 | nil=>rfl
 | cons d l=>simp
theorem Qp (fl:List Ship) (hl:fl.length<20):Jr [.lst (fl.map ji)]=some ((jq fl).map jm):=by
 suffices main:∀C:Res->Prop,C (.retO ((jq fl).map jm))->C (Js [.sh (.lst (fl.map ji)),.un]) by
  exact main (fun r=>jaJ r=some ((jq fl).map jm)) rfl
 intro C fin
 unfold Js
 refine jI [.sh (.lst (fl.map ji)),.sh (.lst ((JE fl).map D.int))] (by simp (disch:=omega) only [jB,jL,jg,jc,jF,List.getElem?_cons_zero,jk,Option.map_some,Option.bind_some,List.set_cons_succ,List.set_cons_zero];simp only [jdG fl hl];simp (disch:=omega) only [Option.map_some]) ?_
 have last:∀r,r=Res.retO ((jq fl).map jm)->C r:=fun r h=>by rw [h];exact fin
 refine last _ ?_
 have hb:=Zi fl
 unfold Jf eLZ
 simp (disch:=omega) only [jc,ja,List.getElem?_cons_succ,List.getElem?_cons_zero,jL,eSl,pSo,eC,pNo,Option.map_some,jk,Option.bind_some]
 rw [jiM]
 simp only [List.length_map]
 rw [jY (by omega)]
 unfold jbO jq
 rw [<-List.map_tail,List.zip_map,List.map_map]
 rfl
theorem jcP (fl:List Ship):(JE fl).Pairwise (· < ·):=Qa
theorem mem_bnds {fl:List Ship} {k:Int}:k∈JE fl ↔ k∈hrs fl:=jaZ
theorem ja4:∀{l:List Int},l.Pairwise (· < ·)->∀p∈l.zip l.tail,p.1<p.2/\p.1∈l/\p.2∈l
 | [],_,p,hp=>by simp at hp
 | [x],_,p,hp=>by simp at hp
 | x::y::l,h,p,hp=>by
   have h':=List.pairwise_cons.mp h
   simp only [List.tail_cons,List.zip_cons_cons,List.mem_cons] at hp
   rcases hp with rfl | hp
   . exact ⟨h'.1 y List.mem_cons_self,List.mem_cons_self,List.mem_cons_of_mem _ List.mem_cons_self⟩
   . obtain ⟨a,b,c⟩:=ja4 h'.2 p hp
     exact ⟨a,List.mem_cons_of_mem _ b,List.mem_cons_of_mem _ c⟩
theorem jeq {fl:List Ship} {p:Int×Int} (h:p∈jq fl):p.1<p.2/\p.1∈JE fl/\p.2∈JE fl:=ja4 (jcP fl) p h
theorem jcx {x:Int} {l:List Int} (h:(x::l).Pairwise (· < ·)):∀y∈x::l,x<=y:=fun y hy=>by
 rcases List.mem_cons.mp hy with rfl | hy
 . exact Int.le_refl _
 . exact Int.le_of_lt ((List.pairwise_cons.mp h).1 y hy)
noncomputable def jci:Int->List Int->Int
 | x,[]=>x
 | _,y::l=>jci y l
theorem jea:∀(x:Int) (l:List Int),(x::l).Pairwise (· < ·)->∀y∈x::l,y<=jci x l
 | x,[],_,y,hy=>by simp at hy;subst hy;exact Int.le_refl _
 | x,z::l,h,y,hy=>by
   have h':=List.pairwise_cons.mp h
   have ih:=jea z l h'.2
   show y<=jci z l
   rcases List.mem_cons.mp hy with rfl | hy
   . have:=h'.1 z List.mem_cons_self
     have:=ih z List.mem_cons_self
     omega
   . exact ih y hy
noncomputable def inS (h:Int) (p:Int×Int):Bool:=decide (p.1<=h) && decide (h<p.2)
theorem jlf (h:Int):∀(x:Int) (l:List Int),(x::l).Pairwise (· < ·)->(((x::l).zip l).filter (inS h)).length=if x<=h/\h<jci x l then 1 else 0
 | x,[],_=>by
   show 0=if x<=h/\h<x then 1 else 0
   rw [if_neg (by omega)]
 | x,y::l,hr=>by
   have h':=List.pairwise_cons.mp hr
   have ih:=jlf h y l h'.2
   have xy:=h'.1 y List.mem_cons_self
   have yl:=jea y l h'.2 y List.mem_cons_self
   show _=if x<=h/\h<jci y l then 1 else 0
   generalize jci y l=z at *
   rw [List.zip_cons_cons,List.filter_cons]
   by_cases c:x<=h/\h<y
   . have e1:inS h (x,y)=true:=by simp [inS,c.1,c.2]
     have e2:¬(y<=h/\h<z):=by omega
     rw [if_neg e2] at ih
     rw [if_pos e1,if_pos ⟨c.1,by omega⟩,List.length_cons,ih]
   . have e1:¬inS h (x,y)=true:=by simp [inS];omega
     rw [if_neg e1,ih]
     by_cases d:y<=h/\h<z
     . rw [if_pos d,if_pos ⟨by omega,d.2⟩]
     . rw [if_neg d,if_neg (by omega)]
theorem jdl (l:List Int):(l.zip l.tail).length=l.length-1:=by simp <;> omega
noncomputable def nb:List Int->List (Int×Int)
 | x::y::l=>if x<y then (x,y)::nb (y::l) else nb (y::l)
 | _=>[]
noncomputable def ded:List Int->List Int
 | x::y::l=>if x<y then x::ded (y::l) else ded (y::l)
 | l=>l
theorem jd6 (x:Int):∀l:List Int,(x::l).Pairwise (· <= ·)->∃r,ded (x::l)=x::r
 | [],_=>⟨[],rfl⟩
 | y::l,h=>by
   have h':=List.pairwise_cons.mp h
   obtain ⟨r,hr⟩:=jd6 y l h'.2
   by_cases c:x<y
   . exact ⟨ded (y::l),by simp [ded,c]⟩
   . have e:x=y:=by have:=h'.1 y List.mem_cons_self;omega
     subst e
     exact ⟨r,by simp [ded];exact hr⟩
theorem jht:∀l:List Int,l.Pairwise (· <= ·)->nb l=(ded l).zip (ded l).tail
 | [],_=>rfl
 | [x],_=>rfl
 | x::y::l,h=>by
   have h':=List.pairwise_cons.mp h
   have ih:=jht (y::l) h'.2
   obtain ⟨r,hr⟩:=jd6 y l h'.2
   by_cases c:x<y
   . simp only [nb,ded,c,if_true]
     rw [ih,hr]
     rfl
   . simp only [nb,ded,c,if_false]
     exact ih
theorem jdi:∀(l:List Int),l.Pairwise (· <= ·)->∀k,k∈ded l ↔ k∈l
 | [],_,k=>Iff.rfl
 | [x],_,k=>Iff.rfl
 | x::y::l,h,k=>by
   have h':=List.pairwise_cons.mp h
   have ih:=jdi (y::l) h'.2 k
   by_cases c:x<y
   . simp only [ded,c,if_true,List.mem_cons (a:=k) (b:=x),ih]
   . have e:x=y:=by have:=h'.1 y List.mem_cons_self;omega
     subst e
     simp only [ded,c,if_false,ih]
     simp
theorem jdz:∀(l:List Int),l.Pairwise (· <= ·)->(ded l).Pairwise (· < ·)
 | [],_=>by simp [ded]
 | [x],_=>by simp [ded]
 | x::y::l,h=>by
   have h':=List.pairwise_cons.mp h
   have ih:=jdz (y::l) h'.2
   by_cases c:x<y
   . simp only [ded,c,if_true]
     refine List.pairwise_cons.mpr ⟨fun z hz=>?_,ih⟩
     have hz':=(jdi (y::l) h'.2 z).mp hz
     rcases List.mem_cons.mp hz' with rfl | hz'
     . exact c
     . have:=(List.pairwise_cons.mp h'.2).1 z hz';omega
   . simp only [ded,c,if_false];exact ih
theorem jjB (l:List Int):nb (JX l)=(srt l).zip (srt l).tail:=by
 rw [jht _ (zG l)]
 have e:ded (JX l)=srt l:=Q5 (jdz _ (zG l)) Qa fun k=>by
  rw [jdi _ (zG l),(JL l).mem_iff,jaZ]
 rw [e]
noncomputable def nbI (l:List Int) (i:Nat):Bool:=decide (l.getD i 0<l.getD (i+1) 0)
theorem jd0:∀l:List Int,((List.range (l.length-1)).filter (nbI l)).map (fun i=>(l.getD i 0,l.getD (i+1) 0))=nb l
 | []=>rfl
 | [x]=>rfl
 | x::y::l=>by
   have ih:=jd0 (y::l)
   simp only [List.length_cons,Nat.add_sub_cancel] at ih ⊢
   rw [List.range_succ_eq_map,List.filter_cons,List.filter_map]
   have e1:(nbI (x::y::l)∘Nat.succ)=nbI (y::l):=by funext i;simp [nbI,Function.comp]
   have e2:((fun i=>((x::y::l).getD i 0,(x::y::l).getD (i+1) 0))∘Nat.succ)=fun i=>((y::l).getD i 0,(y::l).getD (i+1) 0):=by funext i;simp [Function.comp]
   by_cases c:x<y
   . have:nbI (x::y::l) 0=true:=by simp [nbI,c]
     rw [if_pos this,List.map_cons,List.map_map,e1,e2,ih]
     simp [nb,c]
   . have:¬nbI (x::y::l) 0=true:=by simp [nbI,c]
     rw [if_neg this,List.map_map,e1,e2,ih]
     simp [nb,c]
theorem J5 {l:List Int} {i:Nat} (h:i<l.length):jN (.lst (l.map D.int)) (.int i)=some (.int (l.getD i 0)):=by
 refine ZY (by omega) ?_
 rw [Int.toNat_natCast,List.getElem?_map,List.getElem?_eq_getElem h,List.getD_eq_getElem?_getD,List.getElem?_eq_getElem h];rfl
theorem jbe (fl:List Ship) (hl:fl.length<20):zV [.lst (fl.map ji)]=some ((jq fl).map jm):=by
 suffices main:∀C:Res->Prop,C (.retO ((jq fl).map jm))->C (zU [.sh (.lst (fl.map ji)),.un]) by
  exact main (fun r=>jaJ r=some ((jq fl).map jm)) rfl
 intro C fin
 unfold zU
 have hcat:jca (.lst ((fl.map (·.b)).map D.int)) (.lst ((fl.map (·.e)).map D.int))=some ((hrs fl).map D.int):=by
  show (if _ then some _ else none)=_
  rw [if_pos (by simp only [List.length_map];show fl.length+fl.length<=2 ^ 24;omega),<- List.map_append]
  rfl
 have hhl:(hrs fl).length<64:=by simp [hrs];omega
 have hsort:jd1 [.lst ((hrs fl).map D.int)]=some ((JX (hrs fl)).map D.int):=by
  show ((Qr ((hrs fl).map D.int)).bind fun ns=>if ns.length<64 then some ((JX ns).map D.int) else none)=_
  rw [JQ,Option.bind_some,if_pos hhl]
 have q1:=Qx (fl:=fl) 0 (·.b) (fun s=>J3) [.sh (.lst (fl.map ji)),.un] 0 rfl (by omega)
 have q2:=Qx (fl:=fl) 1 (·.e) (fun s=>JZ) [.sh (.lst (fl.map ji)),.un] 0 rfl (by omega)
 refine jI [.sh (.lst (fl.map ji)),.sh (.lst ((JX (hrs fl)).map D.int))] (by
  simp (disch:=omega) only [jB,jL,jg,jc,jj,jk,Option.map_some,List.set_cons_succ,List.set_cons_zero]
  simp only [q1,q2]
  simp (disch:=omega) only [Option.map_some,Option.bind_some]
  simp only [hcat]
  simp (disch:=omega) only [Option.map_some,Option.bind_some]
  simp only [hsort]
  simp (disch:=omega) only [Option.map_some]) ?_
 have last:∀r,r=Res.retO ((jq fl).map jm)->C r:=fun r h=>by rw [h];exact fin
 refine last _ ?_
 have hsl:(JX (hrs fl)).length=(hrs fl).length:=(JL _).length_eq
 have hsp:jq fl=nb (JX (hrs fl)):=by rw [jjB];rfl
 rw [hsp,<- jd0]
 generalize JX (hrs fl)=l at *
 have hr:J4 (jc (jj qO (jg j5 (jc (ja 1) jk)) (eC (.int 1))) jk) [.sh (.lst (fl.map ji)),.sh (.lst (l.map D.int))]=some (rng 0 ((l.length:Int)-1).toNat):=by
  unfold J4
  simp (disch:=omega) only [jc,jj,jg,ja,List.getElem?_cons_succ,List.getElem?_cons_zero,jk,Option.map_some,Option.bind_some,j5,eC,j2]
  simp only [List.length_map]
  rw [if_pos ⟨by omega,by omega⟩]
 have hn:((l.length:Int)-1).toNat=l.length-1:=by omega
 rw [hn] at hr
 unfold Jf
 rw [zy hr (by simp [rng];omega) (jcy (fun d=>match d with | .int i=>nbI l i.toNat | _=>false) (fun d=>match d with | .int i=>jm (l.getD i.toNat 0,l.getD (i.toNat+1) 0) | _=>.non) _ fun d hd=>?_)]
 . simp only [rng,List.filter_map,List.map_map]
   congr 1
   have e1:((fun d=>match d with | D.int i=>nbI l i.toNat | _=>false)∘fun (i:Nat)=>D.int (0+(i:Int)))=nbI l:=by funext i;simp [Function.comp]
   rw [e1]
   refine List.map_congr_left fun i _=>?_
   simp [Function.comp]
 . unfold rng at hd
   obtain ⟨i,hi,rfl⟩:=List.mem_map.mp hd
   rw [List.mem_range] at hi
   have z:(0:Int)+(i:Int)=i:=by omega
   rw [z]
   have d0:=J5 (l:=l) (i:=i) (by omega)
   have d1:=J5 (l:=l) (i:=i+1) (by omega)
   have ec:((i+1:Nat):Int)=(i:Int)+1:=by omega
   rw [ec] at d1
   refine ⟨[.sh (.int i),.sh (.lst (l.map D.int))],rfl,?_,fun _=>?_⟩
   . show zJ _ _=_
     simp (disch:=omega) only [zJ,jj,ja,List.getElem?_cons_succ,List.getElem?_cons_zero,Option.bind_some,eC,jK]
     simp only [d0,d1]
     simp (disch:=omega) only [Option.bind_some,jda]
     rfl
   . simp (disch:=omega) only [jbd,jc,jj,ja,List.getElem?_cons_succ,List.getElem?_cons_zero,Option.bind_some,eC,jK,jk,Option.map_some]
     simp only [d0,d1]
     simp (disch:=omega) only [Option.bind_some,Option.map_some,List.length_cons,List.length_nil,Nat.zero_add,Nat.reduceAdd,jY,if_true]
     rfl
noncomputable def qF (s:Ship) (p:Int×Int):Int:=if s.b<=p.1/\p.2<=s.e then s.m*(p.2-p.1) else 0
noncomputable def jE (r:List Int):D:=.lst (r.map D.int)
theorem jcr (s:Ship):∀(x:Int) (l:List Int),(x::l).Pairwise (· < ·)->(((x::l).zip l).map (qF s)).sum=s.m*(((((x::l).zip l).filter fun p=>decide (s.b<=p.1/\p.2<=s.e)).map fun p=>p.2-p.1).sum)
 | x,[],_=>by simp
 | x,y::l,h=>by
   have h':=List.pairwise_cons.mp h
   have ih:=jcr s y l h'.2
   rw [List.zip_cons_cons,List.map_cons,List.sum_cons,ih,List.filter_cons]
   by_cases c:s.b<=x/\y<=s.e
   . rw [if_pos (by simpa using c),List.map_cons,List.sum_cons,Int.mul_add]
     simp [qF,c]
   . rw [if_neg (by simpa using c)]
     simp [qF,c]
theorem jdS (b e:Int):∀(x:Int) (l:List Int),(x::l).Pairwise (· < ·)->b<=x->x<=e->e∈x::l->((((x::l).zip l).filter fun p=>decide (b<=p.1/\p.2<=e)).map fun p=>p.2-p.1).sum=e-x
 | x,[],_,_,_,he=>by simp at he;subst he;simp
 | x,y::l,h,hb,hxe,he=>by
   have h':=List.pairwise_cons.mp h
   have hxy:=h'.1 y List.mem_cons_self
   rw [List.zip_cons_cons,List.filter_cons]
   by_cases c:y<=e
   . have he':e∈y::l:=by
       rcases List.mem_cons.mp he with z | z
       . omega
       . exact z
     have ih:=jdS b e y l h'.2 (by omega) c he'
     rw [if_pos (by simp;exact ⟨hb,c⟩),List.map_cons,List.sum_cons,ih]
     show y-x+(e-y)=e-x
     omega
   . have hx:e=x:=by
       rcases List.mem_cons.mp he with z | z
       . exact z
       . have:=jcx h'.2 e z;omega
     rw [if_neg (by simp;intro _;omega)]
     have:(((y::l).zip l).filter fun p=>decide (b<=p.1/\p.2<=e))=[]:=List.filter_eq_nil_iff.mpr fun p hp=>by
       have q:=ja4 h'.2 p (by simpa using hp)
       have:=jcx h'.2 p.1 q.2.1
       simp
       intro _
       omega
     rw [this,hx]
     simp
theorem jfC (b e:Int) (hbe:b<=e):∀(l:List Int),l.Pairwise (· < ·)->b∈l->e∈l->(((l.zip l.tail).filter fun p=>decide (b<=p.1/\p.2<=e)).map fun p=>p.2-p.1).sum=e-b
 | [],_,hb,_=>by cases hb
 | x::l,h,hb,he=>by
   by_cases c:b=x
   . subst c
     exact jdS b e b l h (Int.le_refl _) hbe he
   . have hb':b∈l:=by rcases List.mem_cons.mp hb with z | z;exact absurd z c;exact z
     have h':=List.pairwise_cons.mp h
     have hxb:=h'.1 b hb'
     have he':e∈l:=by rcases List.mem_cons.mp he with z | z;omega;exact z
     have ih:=jfC b e hbe l h'.2 hb' he'
     cases l with
     | nil=>cases hb'
     | cons y l=>
       rw [List.tail_cons,List.zip_cons_cons,List.filter_cons,if_neg (by simp;intro z;omega)]
       exact ih
theorem jgW {fl:List Ship} {s:Ship} (hs:s∈fl) (hk:s.Ok):((jq fl).map (qF s)).sum=s.m*(s.e-s.b):=by
 have hb:s.b∈JE fl:=mem_bnds.mpr (List.mem_append_left _ (List.mem_map_of_mem hs))
 have he:s.e∈JE fl:=mem_bnds.mpr (List.mem_append_right _ (List.mem_map_of_mem hs))
 have hr:=jcP fl
 unfold jq
 have e1:=jfC s.b s.e (by have:=hk.lt;omega) (JE fl) hr hb he
 cases hl:JE fl with
 | nil=>rw [hl] at hb;cases hb
 | cons x l=>
   rw [hl] at e1 hr
   rw [List.tail_cons] at e1 ⊢
   rw [jcr s x l hr,e1]
theorem jeA {s:Ship} (hs:s.Ok) {l:List (Int×Int)} (hl:l.length<1000):zP [ji s,.lst (l.map jm)]=some ((l.map (qF s)).map D.int):=by
 suffices main:∀C:Res->Prop,C (.retO ((l.map (qF s)).map D.int))->C (zO [.sh (ji s),.sh (.lst (l.map jm)),.un,.un,.un]) by
  exact main (fun r=>jaJ r=some ((l.map (qF s)).map D.int)) rfl
 intro C fin
 unfold zO
 have m0:=hs.m0
 have m1:=hs.m1
 refine jI [.sh (ji s),.sh (.lst (l.map jm)),.ow [],.un,.un] (by simp (disch:=omega) only [Jg,zw,jk,Option.bind_some,List.length_nil,jY,if_true,List.set_cons_succ,List.set_cons_zero]) ?_
 refine jcL (l.map jm) (fun ds ρ=>∃(pre q:List (Int×Int)) (x y:Slot),pre++q=l/\ds=q.map jm/\ρ=[.sh (ji s),.sh (.lst (l.map jm)),.ow ((pre.map (qF s)).map D.int),x,y]) (qS rfl) ⟨[],l,.un,.un,rfl,rfl,rfl⟩ ?_ ?_
 . rintro d ds ρ ⟨pre,q,x,y,hpq,hds,rfl⟩
   cases q with
   | nil=>cases hds
   | cons p q=>
     cases hds
     have hpl:pre.length<1000:=by rw [<-hpq] at hl;simp at hl;omega
     refine ⟨[.sh (ji s),.sh (.lst (l.map jm)),.ow ((pre.map (qF s)).map D.int),.sh (.int p.1),.sh (.int p.2)],[.sh (ji s),.sh (.lst (l.map jm)),.ow (((pre++[p]).map (qF s)).map D.int),.sh (.int p.1),.sh (.int p.2)],rfl,?_,pre++[p],q,_,_,by simpa using hpq,rfl,rfl⟩
     unfold ji
     simp (disch:=omega) only [Qf,Z3,zJ,jj,ja,List.getElem?_cons_zero,eC,Option.bind_some,J3,List.getElem?_cons_succ,Z1,JZ,JJ,jaa,j2,Je,List.set_cons_succ,List.set_cons_zero]
     simp only [List.length_map,List.map_append,List.map_cons,List.map_nil]
     rw [jY (by omega)]
     unfold qF
     by_cases c1:s.b<=p.1
     . by_cases c2:p.2<=s.e
       . simp only [c1,c2,decide_true,and_self,if_true]
       . simp only [c1,c2,decide_true,decide_false,and_false,if_false]
         try simp (disch:=omega) only [if_true]
     . simp only [c1,decide_false,false_and,if_false]
       try simp (disch:=omega) only [if_true]
 . rintro ρ ⟨pre,q,x,y,hpq,hds,rfl⟩
   have hq:q=[]:=by cases q with | nil=>rfl | cons _ _=>cases hds
   subst hq
   rw [List.append_nil] at hpq
   subst hpq
   exact fin
theorem jfU:∀(l:List Int) (i:Nat) (a v:Int),l[i]?=some a->(l.set i v).sum=l.sum-a+v
 | [],_,_,_,h=>by simp at h
 | x::l,0,a,v,h=>by simp at h;subst h;simp;omega
 | x::l,i+1,a,v,h=>by
   have:=jfU l i a v (by simpa using h)
   simp only [List.set_cons_succ,List.sum_cons,this]
   omega
structure RowOk (S:List (Int×Int)) (s:Ship) (r:List Int):Prop where
 len:r.length=S.length
 bd:∀(j:Nat) x p,r[j]?=some x->S[j]?=some p->0<=x/\x<=qF s p
 sum:r.sum=s.n
structure PlanOk (fl:List Ship) (P:List (List Int)):Prop where
 len:P.length=fl.length
 row:∀(i:Nat) r s,P[i]?=some r->fl[i]?=some s->RowOk (jq fl) s r
theorem jia {s:Ship} (hs:s.Ok) {p:Int×Int} (h:p.1<p.2):0<=qF s p:=by
 unfold qF
 split
 . exact Int.mul_nonneg hs.m0 (by omega)
 . omega
theorem jcY {l:List Int} {k:Int} {x:Int} (h0:0<=k) (h:l[k.toNat]?=some x):jN (.lst (l.map D.int)) (.int k)=some (.int x):=jc7 h0 h
theorem jkb (a b c:Int):jbw a b c<=a/\jbw a b c<=b/\jbw a b c<=c:=by unfold jbw;split <;> split <;> omega
theorem jjs {a b c:Int} (h1:0<=a) (h2:0<=b) (h3:0<=c):0<=jbw a b c:=by unfold jbw;split <;> split <;> omega
theorem jnP {z0 z3 e f g h w:Slot} {cells Mo R:List Int} {parts:List D} {i left m cl sm x:Int} {j:Nat} (hi:0<=i) (hi':i<1000) (hc:0<cells.length) (hj:j<1000) (hRj:R.length=j)
 (ec:jN (.lst (cells.map D.int)) (.int ((i*parts.length+j)%cells.length))=some (.int cl)) (dm:jN (.lst (Mo.map D.int)) (.int j)=some (.int m)) (hm:0<=m)
 (es:jN (.lst [.int 0,.int m,.int (m*(cl/4%9)/8),.int (cl/4%(m+1))]) (.int (cl%4))=some (.int sm)) (dmin:jan [.int left,.int m,.int sm]=some (.int x))
 (dr:jN (.lst (R.map D.int++[.int x])) (.int j)=some (.int x)) :
 (jr (jB 9 (jj jN (ja 1) (jj jW (jj qd (jj qw (ja 4) (jg j5 (jc (ja 2) jk))) (ja 8)) (jg j5 (jc (ja 1) jk)))))
  (jr (jB 10 (jj jN (jL (zw (jc (eC (.int 0)) (jc (jj jN (ja 5) (ja 8)) (jc (jj qR (jj qw (jj jN (ja 5) (ja 8)) (jj jW (jj qR (ja 9) (eC (.int 4))) (eC (.int 9)))) (eC (.int 8))) (jc (jj jW (jj qR (ja 9) (eC (.int 4))) (jj qd (jj jN (ja 5) (ja 8)) (eC (.int 1)))) jk)))))) (jj jW (ja 9) (eC (.int 4)))))
  (jr (JJ 7 (jg jan (jc (ja 6) (jc (jj jN (ja 5) (ja 8)) (jc (ja 10) jk)))))
  (jB 6 (jj qO (ja 6) (jj jN (ja 7) (ja 8)))))))
  [z0,.sh (.lst (cells.map D.int)),.sh (.lst parts),z3,.sh (.int i),.sh (.lst (Mo.map D.int)),.sh (.int left),.ow (R.map D.int),.sh (.int j),f,g,h,w] =
 .next [z0,.sh (.lst (cells.map D.int)),.sh (.lst parts),z3,.sh (.int i),.sh (.lst (Mo.map D.int)),.sh (.int (left-x)),.ow (R.map D.int++[.int x]),.sh (.int j),.sh (.int cl),.sh (.int sm),h,w]:=by
 refine JM (ρ':=[z0,.sh (.lst (cells.map D.int)),.sh (.lst parts),z3,.sh (.int i),.sh (.lst (Mo.map D.int)),.sh (.int left),.ow (R.map D.int),.sh (.int j),.sh (.int cl),g,h,w]) (by simp (disch:=omega) only [jB,jj,ja,List.getElem?_cons_succ,List.getElem?_cons_zero,jg,jc,jk,Option.map_some,Option.bind_some,j5,Je,jK,List.set_cons_succ,List.set_cons_zero];simp only [List.length_map];simp (disch:=omega) only [jC,Option.bind_some];simp only [ec]) ?_
 refine JM (ρ':=[z0,.sh (.lst (cells.map D.int)),.sh (.lst parts),z3,.sh (.int i),.sh (.lst (Mo.map D.int)),.sh (.int left),.ow (R.map D.int),.sh (.int j),.sh (.int cl),.sh (.int sm),h,w]) (by simp (disch:=omega) only [jB,jj,jL,zw,jc,eC,ja,List.getElem?_cons_succ,List.getElem?_cons_zero,Option.bind_some,jV,jC,jk,Option.map_some,List.set_cons_succ,List.set_cons_zero];simp only [dm];simp (disch:=omega) only [Option.bind_some,Jy,jV,jK,jC,Option.map_some,List.length_cons,List.length_nil,Nat.zero_add,Nat.reduceAdd,jY,if_true];simp only [es]) ?_
 refine JM (ρ':=[z0,.sh (.lst (cells.map D.int)),.sh (.lst parts),z3,.sh (.int i),.sh (.lst (Mo.map D.int)),.sh (.int left),.ow (R.map D.int++[.int x]),.sh (.int j),.sh (.int cl),.sh (.int sm),h,w]) (by
  simp (disch:=omega) only [JJ,List.getElem?_cons_succ,List.getElem?_cons_zero,jg,jc,ja,jj,Option.bind_some,jk,Option.map_some,List.set_cons_succ,List.set_cons_zero];simp only [dm];simp (disch:=omega) only [Option.bind_some,Option.map_some];simp only [dmin,List.length_map];rw [jY (by omega)];rfl) ?_
 simp (disch:=omega) only [jB,jj,ja,List.getElem?_cons_succ,List.getElem?_cons_zero,Option.bind_some,List.set_cons_succ,List.set_cons_zero]
 simp only [dr]
 simp (disch:=omega) only [Option.bind_some,j2]
theorem jmN {z0 z3 f g h w:Slot} {cells Mo R:List Int} {parts:List D} {i left c m y x:Int} {j a:Nat} (hi:0<=i) (hc:0<cells.length) (hp:0<parts.length)
 (ec:jN (.lst (cells.map D.int)) (.int (i%cells.length))=some (.int c)) (ha:((j:Int)+c)%parts.length=a) (dm:jN (.lst (Mo.map D.int)) (.int a)=some (.int m)) (dr:jN (.lst (R.map D.int)) (.int a)=some (.int y))
 (hx:(if m-y<left then m-y else left)=x) (hal:a<R.length) :
 (jr (jB 11 (jj jW (jj qd (ja 8) (jj jN (ja 1) (jj jW (ja 4) (jg j5 (jc (ja 1) jk))))) (jg j5 (jc (ja 2) jk))))
  (jr (jB 12 (jg QV (jc (ja 6) (jc (jj qO (jj jN (ja 5) (ja 11)) (jj jN (ja 7) (ja 11))) jk))))
  (jr (jb3 7 (jF 11) (jj qd (jj jN (ja 7) (ja 11)) (ja 12)))
  (jB 6 (jj qO (ja 6) (ja 12))))))
  [z0,.sh (.lst (cells.map D.int)),.sh (.lst parts),z3,.sh (.int i),.sh (.lst (Mo.map D.int)),.sh (.int left),.ow (R.map D.int),.sh (.int j),f,g,h,w] =
 .next [z0,.sh (.lst (cells.map D.int)),.sh (.lst parts),z3,.sh (.int i),.sh (.lst (Mo.map D.int)),.sh (.int (left-x)),.ow ((R.set a (y+x)).map D.int),.sh (.int j),f,g,.sh (.int a),.sh (.int x)]:=by
 refine JM (ρ':=[z0,.sh (.lst (cells.map D.int)),.sh (.lst parts),z3,.sh (.int i),.sh (.lst (Mo.map D.int)),.sh (.int left),.ow (R.map D.int),.sh (.int j),f,g,.sh (.int a),w]) (by simp (disch:=omega) only [jB,jj,ja,List.getElem?_cons_succ,List.getElem?_cons_zero,jg,jc,jk,Option.map_some,Option.bind_some,j5,List.set_cons_succ,List.set_cons_zero];simp only [List.length_map];simp (disch:=omega) only [jC,Option.bind_some];simp only [ec];simp (disch:=omega) only [Option.bind_some,jK,jC];rw [ha]) ?_
 refine JM (ρ':=[z0,.sh (.lst (cells.map D.int)),.sh (.lst parts),z3,.sh (.int i),.sh (.lst (Mo.map D.int)),.sh (.int left),.ow (R.map D.int),.sh (.int j),f,g,.sh (.int a),.sh (.int x)]) (by simp (disch:=omega) only [jB,jg,jc,ja,List.getElem?_cons_succ,List.getElem?_cons_zero,jj,Option.bind_some,jk,Option.map_some,List.set_cons_succ,List.set_cons_zero];simp only [dm,dr];simp (disch:=omega) only [Option.bind_some,j2,Option.map_some,QV];rw [hx]) ?_
 refine JM (ρ':=[z0,.sh (.lst (cells.map D.int)),.sh (.lst parts),z3,.sh (.int i),.sh (.lst (Mo.map D.int)),.sh (.int left),.ow ((R.set a (y+x)).map D.int),.sh (.int j),f,g,.sh (.int a),.sh (.int x)]) (by
  have hix:ixN R.length (a:Int)=some a:=by unfold ixN;rw [if_pos (by omega),if_pos (by omega),Int.toNat_natCast]
  simp (disch:=omega) only [jb3,List.getElem?_cons_succ,List.getElem?_cons_zero,jj,ja,Option.bind_some,jF,List.set_cons_succ,List.set_cons_zero];simp only [dr];simp (disch:=omega) only [Option.bind_some,jK];simp only [List.length_map,hix,List.map_set]) ?_
 simp (disch:=omega) only [jB,jj,ja,List.getElem?_cons_succ,List.getElem?_cons_zero,Option.bind_some,j2,List.set_cons_succ,List.set_cons_zero]
theorem jhd (fl:List Ship) (hfl:∀s∈fl,s.Ok) (hlen:fl.length<=8) (cells:List Int) (hc0:cells≠[]) (hc1:cells.length<1000):∃P,PlanOk fl P/\Qs [.lst (fl.map ji),.lst (cells.map D.int)]=some (P.map jE):=by
 suffices main:∀C:Res->Prop,(∀P,PlanOk fl P->C (.retO (P.map jE)))->C (Jo [.sh (.lst (fl.map ji)),.sh (.lst (cells.map D.int)),.un,.un,.un,.un,.un,.un,.un,.un,.un,.un,.un]) by
  exact main (fun r=>∃P,PlanOk fl P/\jaJ r=some (P.map jE)) fun P hP=>⟨P,hP,rfl⟩
 intro C fin
 have eparts:=jbe fl (by omega)
 have hSlen:(jq fl).length<=16:=by
  have:=Zi fl
  have:=jdl (JE fl)
  unfold jq
  omega
 have hSlt:∀p∈jq fl,p.1<p.2:=fun p hp=>(jeq hp).1
 have hrooms:∀s∈fl,((jq fl).map (qF s)).sum=s.m*(s.e-s.b):=fun s hs=>jgW hs (hfl s hs)
 generalize hS:jq fl=S at *
 have hcl:0<cells.length:=List.length_pos_iff.mpr hc0
 unfold Jo
 refine jI [.sh (.lst (fl.map ji)),.sh (.lst (cells.map D.int)),.sh (.lst (S.map jm)),.un,.un,.un,.un,.un,.un,.un,.un,.un,.un] (by simp (disch:=omega) only [jB,jL,jg,jc,jF,List.getElem?_cons_zero,jk,Option.map_some,Option.bind_some,List.set_cons_succ,List.set_cons_zero];simp only [eparts];simp (disch:=omega) only [Option.map_some]) ?_
 refine jI [.sh (.lst (fl.map ji)),.sh (.lst (cells.map D.int)),.sh (.lst (S.map jm)),.ow [],.un,.un,.un,.un,.un,.un,.un,.un,.un] (by simp (disch:=omega) only [Jg,zw,jk,Option.bind_some,List.length_nil,jY,if_true,List.set_cons_succ,List.set_cons_zero]) ?_
 refine jcL (rng 0 (fl.length:Int).toNat) (fun ds ρ=>∃(P:List (List Int)) (k:Nat) (lo:Int) (a b c d e f g h:Slot) (w:Slot),ds=rng lo k/\lo=P.length/\P.length+k=fl.length/\(∀(i:Nat) r s,P[i]?=some r->fl[i]?=some s->RowOk S s r) /\
  ρ=[.sh (.lst (fl.map ji)),.sh (.lst (cells.map D.int)),.sh (.lst (S.map jm)),.ow (P.map jE),a,b,c,d,e,f,g,h,w])
  (J2 (by simp (disch:=omega) only [jc,jg,ja,List.getElem?_cons_zero,jk,Option.map_some,Option.bind_some,j5];simp only [List.length_map]) (by omega) (by omega)) ⟨[],fl.length,0,.un,.un,.un,.un,.un,.un,.un,.un,.un,by simp,rfl,by simp,by simp,rfl⟩ ?_ ?_
 . rintro d ds ρ ⟨P,k,lo,a,b,c,d',e,f,g,h,w,hds,hlo,hPk,hP,rfl⟩
   cases k with
   | zero=>cases hds
   | succ k=>
     rw [qT] at hds
     cases hds
     subst hlo
     have hi:P.length<fl.length:=by omega
     have gs:fl[P.length]?=some fl[P.length]:=List.getElem?_eq_getElem hi
     generalize hsh:fl[P.length]=s at gs
     have hsm:s∈fl:=List.mem_of_getElem? gs
     have hs:=hfl s hsm
     have hm0:=hs.m0
     have hm1:=hs.m1
     have hn0:=hs.n0
     have dsh:jN (.lst (fl.map ji)) (.int P.length)=some (ji s):=jc7 (by omega) (by rw [Int.toNat_natCast];exact gs)
     have erooms:=jeA hs (l:=S) (by omega)
     have hsum:=hrooms s hsm
     have hneed:s.n<=s.m*(s.e-s.b):=hs.n1
     generalize hMo:S.map (qF s)=Mo at *
     have hMl:Mo.length=S.length:=by rw [<-hMo,List.length_map]
     have hMn:∀(j:Nat) x,Mo[j]?=some x->0<=x:=fun j x hx=>by
       rw [<-hMo,List.getElem?_map] at hx
       obtain ⟨p,h1,h2⟩:=map_some hx
       subst h2
       exact jia hs (hSlt p (List.mem_of_getElem? h1))
     suffices turn:∀C':Res->Prop,(∀r ρ',RowOk S s r->(∃a b c d e f g h w,ρ'=[.sh (.lst (fl.map ji)),.sh (.lst (cells.map D.int)),.sh (.lst (S.map jm)),.ow ((P++[r]).map jE),a,b,c,d,e,f,g,h,w])->C' (.next ρ'))->C' ((jr (jB 5 (jL (jg zP (jc (jj jN (ja 0) (ja 4)) (jc (jF 2) jk)))))
     (jr (jB 6 (jj jN (jj jN (ja 0) (ja 4)) (eC (.int 2))))
     (jr (Jg 7 (zw jk))
     (jr (zW (J4 (jc (jg j5 (jc (ja 2) jk)) jk)) (jG 8)
     (jr (jB 9 (jj jN (ja 1) (jj jW (jj qd (jj qw (ja 4) (jg j5 (jc (ja 2) jk))) (ja 8)) (jg j5 (jc (ja 1) jk)))))
     (jr (jB 10 (jj jN (jL (zw (jc (eC (.int 0)) (jc (jj jN (ja 5) (ja 8)) (jc (jj qR (jj qw (jj jN (ja 5) (ja 8)) (jj jW (jj qR (ja 9) (eC (.int 4))) (eC (.int 9)))) (eC (.int 8))) (jc (jj jW (jj qR (ja 9) (eC (.int 4))) (jj qd (jj jN (ja 5) (ja 8)) (eC (.int 1)))) jk)))))) (jj jW (ja 9) (eC (.int 4)))))
     (jr (JJ 7 (jg jan (jc (ja 6) (jc (jj jN (ja 5) (ja 8)) (jc (ja 10) jk)))))
     (jB 6 (jj qO (ja 6) (jj jN (ja 7) (ja 8))))))))
     (jr (zW (J4 (jc (jg j5 (jc (ja 2) jk)) jk)) (jG 8)
     (jr (jB 11 (jj jW (jj qd (ja 8) (jj jN (ja 1) (jj jW (ja 4) (jg j5 (jc (ja 1) jk))))) (jg j5 (jc (ja 2) jk))))
     (jr (jB 12 (jg QV (jc (ja 6) (jc (jj qO (jj jN (ja 5) (ja 11)) (jj jN (ja 7) (ja 11))) jk))))
     (jr (jb3 7 (jF 11) (jj qd (jj jN (ja 7) (ja 11)) (ja 12)))
     (jB 6 (jj qO (ja 6) (ja 12)))))))
     (jey 7 (JJ 3 (jF 7)))))))) [.sh (.lst (fl.map ji)),.sh (.lst (cells.map D.int)),.sh (.lst (S.map jm)),.ow (P.map jE),.sh (.int P.length),b,c,d',e,f,g,h,w]) by
       obtain ⟨ρ2,h1,r,hr,a2,b2,c2,d2,e2,f2,g2,h2,w2,rfl⟩:=turn (fun res=>∃ρ',res=.next ρ'/\∃r,RowOk S s r/\∃a b c d e f g h w,ρ'=[.sh (.lst (fl.map ji)),.sh (.lst (cells.map D.int)),.sh (.lst (S.map jm)),.ow ((P++[r]).map jE),a,b,c,d,e,f,g,h,w]) fun r ρ' hr hρ=>⟨ρ',rfl,r,hr,hρ⟩
       refine ⟨_,_,rfl,h1,P++[r],k,P.length+1,a2,b2,c2,d2,e2,f2,g2,h2,w2,rfl,by simp,by simp;omega,fun i r' s' q1 q2=>?_,rfl⟩
       by_cases hiP:i<P.length
       . rw [List.getElem?_append_left hiP] at q1
         exact hP i r' s' q1 q2
       . rw [List.getElem?_append_right (by omega)] at q1
         have:i=P.length:=by
           rcases Nat.lt_or_ge (i-P.length) 1 with z | z
           . omega
           . rw [List.getElem?_eq_none (by simpa using z)] at q1;cases q1
         subst this
         simp at q1
         subst q1
         rw [gs] at q2
         cases q2
         exact hr
     intro C' fin'
     clear fin C eparts
     -- most, left, row
     refine jI [.sh (.lst (fl.map ji)),.sh (.lst (cells.map D.int)),.sh (.lst (S.map jm)),.ow (P.map jE),.sh (.int P.length),.sh (.lst (Mo.map D.int)),c,d',e,f,g,h,w] (by simp (disch:=omega) only [jB,jL,jg,jc,jj,ja,List.getElem?_cons_zero,List.getElem?_cons_succ,Option.bind_some,jF,jk,Option.map_some,List.set_cons_succ,List.set_cons_zero];simp only [dsh];simp (disch:=omega) only [Option.bind_some];simp only [erooms];simp (disch:=omega) only [Option.map_some]) ?_
     refine jI [.sh (.lst (fl.map ji)),.sh (.lst (cells.map D.int)),.sh (.lst (S.map jm)),.ow (P.map jE),.sh (.int P.length),.sh (.lst (Mo.map D.int)),.sh (.int s.n),d',e,f,g,h,w] (by simp (disch:=omega) only [jB,jj,ja,List.getElem?_cons_zero,List.getElem?_cons_succ,Option.bind_some,eC,List.set_cons_succ,List.set_cons_zero];simp only [dsh];unfold ji;simp (disch:=omega) only [Option.bind_some,ZW]) ?_
     refine jI [.sh (.lst (fl.map ji)),.sh (.lst (cells.map D.int)),.sh (.lst (S.map jm)),.ow (P.map jE),.sh (.int P.length),.sh (.lst (Mo.map D.int)),.sh (.int s.n),.ow [],e,f,g,h,w] (by simp (disch:=omega) only [Jg,zw,jk,Option.bind_some,List.length_nil,jY,if_true,List.set_cons_succ,List.set_cons_zero]) ?_
     -- first round
     refine jcL (rng 0 (S.length:Int).toNat) (fun ds ρ=>∃(R:List Int) (k:Nat) (left:Int) (e f g:Slot),ds=rng R.length k/\R.length+k=S.length/\left=s.n-R.sum/\0<=left/\(∀(j:Nat) x m,R[j]?=some x->Mo[j]?=some m->0<=x/\x<=m) /\
      ρ=[.sh (.lst (fl.map ji)),.sh (.lst (cells.map D.int)),.sh (.lst (S.map jm)),.ow (P.map jE),.sh (.int P.length),.sh (.lst (Mo.map D.int)),.sh (.int left),.ow (R.map D.int),e,f,g,h,w])
       (J2 (by simp (disch:=omega) only [jc,jg,ja,List.getElem?_cons_succ,List.getElem?_cons_zero,jk,Option.map_some,Option.bind_some,j5];simp only [List.length_map]) (by omega) (by omega)) ⟨[],S.length,s.n,e,f,g,by simp,by simp,by simp,hn0,by simp,rfl⟩ ?_ ?_
     . rintro d ds ρ ⟨R,k,left,e,f,g,hds,hRk,hleft,hl0,hR,rfl⟩
       cases k with
       | zero=>cases hds
       | succ k=>
         rw [qT] at hds
         cases hds
         have hj:R.length<Mo.length:=by omega
         have gm:Mo[R.length]?=some Mo[R.length]:=List.getElem?_eq_getElem hj
         generalize Mo[R.length]=m at gm
         have hm:=hMn _ _ gm
         have dm:jN (.lst (Mo.map D.int)) (.int R.length)=some (.int m):=jcY (by omega) (by rw [Int.toNat_natCast];exact gm)
         obtain ⟨cl,_,ec⟩:=jam (ns:=cells) (i:=((P.length:Int)*S.length+R.length)%cells.length) (Int.emod_nonneg _ (by omega)) (Int.emod_lt_of_pos _ (by omega))
         have cm:0<=cl/4%(m+1):=Int.emod_nonneg _ (by omega)
         have cm':cl/4%(m+1)<m+1:=Int.emod_lt_of_pos _ (by omega)
         obtain ⟨sm,hsm',es⟩:=jam (ns:=[0,m,m*(cl/4%9)/8,cl/4%(m+1)]) (i:=cl%4) (by omega) (by show cl%4<4;omega)
         have sm0:0<=sm:=by
          have:0<=m*(cl/4%9):=Int.mul_nonneg hm (by omega)
          simp only [List.mem_cons,List.not_mem_nil,or_false] at hsm'
          rcases hsm' with rfl | rfl | rfl | rfl
          . omega
          . exact hm
          . omega
          . exact cm
         simp only [List.map_cons,List.map_nil] at es
         generalize hx:jbw left m sm=x
         have x0:0<=x:=by rw [<-hx];exact jjs hl0 hm sm0
         obtain ⟨x1,x2,_⟩:=jkb left m sm
         rw [hx] at x1 x2
         refine ⟨_,[.sh (.lst (fl.map ji)),.sh (.lst (cells.map D.int)),.sh (.lst (S.map jm)),.ow (P.map jE),.sh (.int P.length),.sh (.lst (Mo.map D.int)),.sh (.int (left-x)),.ow ((R++[x]).map D.int),.sh (.int R.length),.sh (.int cl),.sh (.int sm),h,w],rfl,?_,R++[x],k,left-x,_,_,_,by simp,by simp;omega,by simp;omega,by omega,fun j y m' q1 q2=>?_,rfl⟩
         . have dr:jN (.lst (R.map D.int++[.int x])) (.int R.length)=some (.int x):=ZY (by omega) (by rw [Int.toNat_natCast,List.getElem?_append_right (by simp)];simp)
           have dmin:jan [.int left,.int m,.int sm]=some (.int x):=by rw [<-hx];rfl
           rw [List.map_append]
           have hSl:(S.map jm).length=S.length:=List.length_map _
           have ec':=ec
           rw [<-hSl] at ec'
           exact jnP (e:=.un) (by omega) (by omega) hcl (by omega) rfl ec' dm hm es dmin dr
         . by_cases hjR:j<R.length
           . rw [List.getElem?_append_left hjR] at q1
             exact hR j y m' q1 q2
           . rw [List.getElem?_append_right (by omega)] at q1
             have:j=R.length:=by
               rcases Nat.lt_or_ge (j-R.length) 1 with z | z
               . omega
               . rw [List.getElem?_eq_none (by simpa using z)] at q1;cases q1
             subst this
             simp at q1
             subst q1
             rw [gm] at q2
             cases q2
             exact ⟨x0,x2⟩
     obtain ⟨cc,_,ecc⟩:=jam (ns:=cells) (i:=(P.length:Int)%cells.length) (Int.emod_nonneg _ (by omega)) (Int.emod_lt_of_pos _ (by omega))
     rintro ρ ⟨R0,k0,left0,e,f,g,hds,hRk,hleft,hl0,hR,rfl⟩
     have hk0:k0=0:=by
       cases k0 with
       | zero=>rfl
       | succ k=>rw [qT] at hds;cases hds
     subst hk0
     clear hds
     -- second round
     refine jcL (rng 0 (S.length:Int).toNat) (fun ds ρ=>∃(R:List Int) (k t:Nat) (left:Int) (e h w:Slot),ds=rng t k/\t+k=S.length/\R.length=S.length/\left=s.n-R.sum/\0<=left/\(∀(j:Nat) x m,R[j]?=some x->Mo[j]?=some m->0<=x/\x<=m) /\
      (∀q:Nat,q<t->0<left->∀(a:Nat),((q:Int)+cc)%S.length=a->R[a]?=Mo[a]?) /\
      ρ=[.sh (.lst (fl.map ji)),.sh (.lst (cells.map D.int)),.sh (.lst (S.map jm)),.ow (P.map jE),.sh (.int P.length),.sh (.lst (Mo.map D.int)),.sh (.int left),.ow (R.map D.int),e,f,g,h,w])
       (J2 (by simp (disch:=omega) only [jc,jg,ja,List.getElem?_cons_succ,List.getElem?_cons_zero,jk,Option.map_some,Option.bind_some,j5];simp only [List.length_map]) (by omega) (by omega)) ⟨R0,S.length,0,left0,e,h,w,by simp,by simp,by omega,hleft,hl0,hR,by simp,rfl⟩ ?_ ?_
     . rintro d ds ρ ⟨R,k,t,left,e,h,w,hds,htk,hRl,hleft,hl0,hR,hvis,rfl⟩
       cases k with
       | zero=>cases hds
       | succ k=>
         rw [qT] at hds
         cases hds
         have hpos:(0:Int)<S.length:=by omega
         have a0:=Int.emod_nonneg ((t:Int)+cc) (Int.ne_of_gt hpos)
         have a1:=Int.emod_lt_of_pos ((t:Int)+cc) hpos
         obtain ⟨a,ha⟩:∃a:Nat,((t:Int)+cc)%S.length=a:=⟨(((t:Int)+cc)%S.length).toNat,by omega⟩
         rw [ha] at a0 a1
         have haM:a<Mo.length:=by omega
         have haR:a<R.length:=by omega
         have gm:Mo[a]?=some Mo[a]:=List.getElem?_eq_getElem haM
         have gr:R[a]?=some R[a]:=List.getElem?_eq_getElem haR
         generalize Mo[a]=m at gm
         generalize R[a]=y at gr
         obtain ⟨y0,ym⟩:=hR a y m gr gm
         have dm:jN (.lst (Mo.map D.int)) (.int a)=some (.int m):=jcY (by omega) (by rw [Int.toNat_natCast];exact gm)
         have dr:jN (.lst (R.map D.int)) (.int a)=some (.int y):=jcY (by omega) (by rw [Int.toNat_natCast];exact gr)
         generalize hx:(if m-y<left then m-y else left)=x
         have hx1:0<=x/\x<=left/\x<=m-y/\(x=m-y\/x=left):=by
          rw [<-hx];split <;> omega
         obtain ⟨x0,xl,xm,xx⟩:=hx1
         have tn:=jmN (z0:=.sh (.lst (fl.map ji))) (z3:=.ow (P.map jE)) (f:=f) (g:=g) (h:=h) (w:=w) (parts:=S.map jm) (j:=t) (by omega) hcl (by rw [List.length_map];omega) ecc (by rw [List.length_map];exact ha) dm dr hx haR
         refine ⟨_,_,rfl,tn,R.set a (y+x),k,t+1,left-x,_,_,_,by simp,by omega,by simp [hRl],?_,by omega,?_,?_,rfl⟩
         . rw [jfU R a y (y+x) gr];omega
         . intro j z m' q1 q2
           by_cases hja:a=j
           . subst hja
             rw [List.getElem?_set_self haR] at q1
             rw [gm] at q2
             cases q1
             cases q2
             omega
           . rw [List.getElem?_set_ne hja] at q1
             exact hR j z m' q1 q2
         . intro q hq hpos' b hb
           by_cases hqt:q=t
           . subst hqt
             have hab:b=a:=by omega
             subst hab
             rw [List.getElem?_set_self haR,gm]
             congr 1
             omega
           . have old:=hvis q (by omega) (by omega) b hb
             by_cases hab:a=b
             . subst hab
               rw [gr,gm] at old
               have:=Option.some.inj old
               rw [List.getElem?_set_self haR,gm]
               congr 1
               omega
             . rw [List.getElem?_set_ne hab];exact old
     . rintro ρ ⟨R,k,t,left,e,h,w,hds,htk,hRl,hleft,hl0',hR,hvis,rfl⟩
       have hk:k=0:=by
        cases k with
        | zero=>rfl
        | succ k=>rw [qT] at hds;cases hds
       subst hk
       have hz:left=0:=by
        refine Classical.byContradiction fun hz=>?_
        have hpos:0<left:=by omega
        have hRM:R=Mo:=by
         refine List.ext_getElem? fun j=>?_
         rcases Nat.lt_or_ge j S.length with hj | hj
         . have hn:(0:Int)<S.length:=by omega
           have q0:=Int.emod_nonneg ((j:Int)-cc) (Int.ne_of_gt hn)
           have q1:=Int.emod_lt_of_pos ((j:Int)-cc) hn
           have q2:(((j:Int)-cc)%S.length+cc)%S.length=j:=by
             rw [Int.emod_add_emod,Int.sub_add_cancel]
             exact Int.emod_eq_of_lt (by omega) (by omega)
           refine hvis (((j:Int)-cc)%S.length).toNat (by omega) hpos j ?_
           rw [Int.toNat_of_nonneg q0]
           exact q2
         . rw [List.getElem?_eq_none (by omega),List.getElem?_eq_none (by omega)]
        rw [hRM,hsum] at hleft
        omega
       have last:∀r ρ',r=Res.next ρ'->C' (.next ρ')->C' r:=fun r ρ' h1 h2=>by rw [h1];exact h2
       refine last _ [.sh (.lst (fl.map ji)),.sh (.lst (cells.map D.int)),.sh (.lst (S.map jm)),.ow ((P++[R]).map jE),.sh (.int P.length),.sh (.lst (Mo.map D.int)),.sh (.int left),.sh (jE R),e,f,g,h,w] ?_ (fin' R _ ⟨hRl,fun j x p q1 q2=>?_,by omega⟩ ⟨_,_,_,_,_,_,_,_,_,rfl⟩)
       . clear hvis hR hneed hsum hrooms
         simp (disch:=omega) only [jey,JJ,frz,List.getElem?_cons_succ,List.getElem?_cons_zero,List.set_cons_succ,List.set_cons_zero,jF]
         simp only [List.length_map]
         rw [jY (by omega)]
         simp only [List.map_append,List.map_cons,List.map_nil]
         rfl
       . exact hR j x (qF s p) q1 (by rw [<-hMo,List.getElem?_map,q2];rfl)
 . rintro ρ ⟨P,k,lo,a,b,c,d,e,f,g,h,w,hds,hlo,hPk,hP,rfl⟩
   have hk:k=0:=by
    cases k with
    | zero=>rfl
    | succ k=>rw [qT] at hds;cases hds
   subst hk
   exact fin P ⟨by omega,by rw [hS];exact hP⟩
theorem jaq (p:Int×Int):Qo [jm p]=some (.int (p.2-p.1)):=by
 unfold Qo jb0 jm
 simp (disch:=omega) only [qX,List.length_cons,List.length_nil,Nat.zero_add,jch,qJ,jj,ja,qh,List.map_cons,List.map_nil,Nat.sub_self,List.replicate_zero,List.cons_append,List.nil_append,List.getElem?_cons_zero,eC,Option.bind_some,JZ,J3,j2,if_true]
noncomputable def zq (P:List (List Int)) (j:Nat):Int:=(P.map fun r=>r.getD j 0).sum
theorem jfc {P:List (List Int)} {j:Nat} (hj:∀r∈P,j<r.length) (hl:P.length<1000):jaY [.lst (P.map jE),.int j]=some (.int (zq P j)):=by
 have lc:QN (j8 (ja 0)) (jG 0) (fun _=>some true) (jj jN (ja 0) (ja 1)) 1 [1] [.sh (.lst (P.map jE)),.sh (.int j)]=some ((P.map fun r=>r.getD j 0).map D.int):=by
  refine zy (qS rfl) (by rw [List.length_map];omega) ?_
  rw [jfa (fun d=>match jN d (.int j) with | some x=>x | none=>.non) _ fun d hd=>?_]
  . rw [List.map_map,List.map_map]
    congr 1
    refine List.map_congr_left fun r hr=>?_
    show (match jN (jE r) (.int j) with | some x=>x | none=>D.non)=_
    unfold jE
    rw [J5 (hj r hr)];rfl
  . obtain ⟨r,hr,rfl⟩:=List.mem_map.mp hd
    refine ⟨[.sh (jE r),.sh (.int j)],rfl,rfl,?_⟩
    show jN (jE r) (.int j)=_
    unfold jE
    rw [J5 (hj r hr)]
 unfold jaY jcQ
 simp (disch:=omega) only [qX,List.length_cons,List.length_nil,Nat.zero_add,Nat.reduceAdd,jch,qJ,jg,jc,jL,qh,List.map_cons,List.map_nil,Nat.sub_self,List.replicate_zero,List.cons_append,List.nil_append,jk,Option.map_some,if_true]
 simp only [lc]
 simp (disch:=omega) only [Option.map_some,Option.bind_some]
 rw [jaV]
 rfl
/-- the stretch in which an hour lies -/
theorem PlanOk.rows {fl:List Ship} {P:List (List Int)} (hP:PlanOk fl P):∀r∈P,r.length=(jq fl).length:=fun r hr=>by
 obtain ⟨i,hi,e⟩:=List.getElem_of_mem hr
 have g1:P[i]?=some r:=by rw [List.getElem?_eq_getElem hi,e]
 have hi':i<fl.length:=by rw [<-hP.len];exact hi
 exact (hP.row i r fl[i] g1 (List.getElem?_eq_getElem hi')).len
theorem jir (ns:List Int) (lo hi:Option Int):∃cs:List Int,L2.jaM (ns.map D.int) lo hi=cs.map D.int/\cs.length<=ns.length:=by
 unfold L2.jaM
 rw [<-List.map_drop,<- List.map_take]
 exact ⟨_,rfl,by rw [List.length_take,List.length_drop];omega⟩
theorem joL {cs:List Int} (h:cs.length<1000):jca (.lst (cs.map D.int)) (.lst [.int 0])=some ((cs++[0]).map D.int):=by
 unfold jca
 rw [List.map_append]
 exact if_pos (Nat.le_of_lt (of_decide_eq_true (jY (by rw [List.length_map];simp;omega))))
theorem zQ {i:Nat} {fo:L2.Env->Option (List D)} {ρ:L2.Env} {l:List D} (h:fo ρ=some l):jB i (jL fo) ρ=.next (ρ.set i (.sh (.lst l))):=by
 unfold jB jL;rw [h];rfl
noncomputable def jP (f:Nat->Int):Nat->Int
 | 0=>0
 | n+1=>jP f n+f n
theorem qv {f g:Nat->Int}:∀{n:Nat},(∀j,j<n->f j=g j)->jP f n=jP g n
 | 0,_=>rfl
 | n+1,h=>by
   unfold jP
   rw [qv fun j hj=>h j (by omega),h n (by omega)]
theorem Qy {f g:Nat->Int}:∀{n:Nat},(∀j,j<n->f j<=g j)->jP f n<=jP g n
 | 0,_=>Int.le_refl _
 | n+1,h=>by
   unfold jP
   have:=Qy (n:=n) fun j hj=>h j (by omega)
   have:=h n (by omega)
   omega
theorem jdp {f g:Nat->Int}:∀{n:Nat},jP (fun j=>f j+g j) n=jP f n+jP g n
 | 0=>rfl
 | n+1=>by
   unfold jP
   rw [jdp]
   omega
theorem jcH {f:Nat->Int} {n:Nat} (h:∀j,j<n->f j=0):jP f n=0:=by
 rw [qv (g:=fun _=>0) h]
 induction n with
 | zero=>rfl
 | succ n ih=>
   unfold jP
   rw [ih fun j hj=>h j (by omega)]
   rfl
theorem jgh {f:Nat->Int} {n:Nat} (h:∀j,j<n->0<=f j):0<=jP f n:=by
 rw [<-jcH (f:=fun _=>0) (n:=n) fun _ _=>rfl]
 exact Qy h
theorem Z6 {f:Nat->Int}:∀{n:Nat},jP f (n+1)=f 0+jP (fun j=>f (j+1)) n
 | 0=>by simp [jP]
 | n+1=>by
   have:=Z6 (f:=f) (n:=n)
   show jP f (n+1)+f (n+1)=f 0+(jP (fun j=>f (j+1)) n+f (n+1))
   omega
theorem jdN:∀(l:List Int),l.sum=jP (fun j=>l.getD j 0) l.length
 | []=>rfl
 | x::l=>by
   rw [List.sum_cons,List.length_cons,Z6,jdN l]
   rfl
theorem ja1 {α:Type} (f:α->Int) (d:α):∀(l:List α),(l.map f).sum=jP (fun j=>f (l.getD j d)) l.length
 | []=>rfl
 | x::l=>by
   rw [List.map_cons,List.sum_cons,List.length_cons,Z6,ja1 f d l]
   rfl
theorem jnR {C:Res->Prop} {fi:L2.Env->Option (List D)} {m:D->L2.Env->Option L2.Env} {B F':FS} {ρ:L2.Env} (n:Nat) (P:Nat->L2.Env->Prop) (hi:fi ρ=some (rng 0 n)) (h0:P 0 ρ)
 (hs:∀(j:Nat) ρ,j<n->P j ρ->∃ρ1 ρ2,m (.int (j:Int)) ρ=some ρ1/\B ρ1=.next ρ2/\P (j+1) ρ2) (k:∀ρ',P n ρ'->C (F' ρ')):C (jr (zW fi m B) F' ρ):=by
 refine jcL (rng 0 n) (fun ds ρ=>∃j k:Nat,ds=rng (j:Int) k/\j+k=n/\P j ρ) hi ⟨0,n,rfl,by omega,h0⟩ ?_ ?_
 . rintro d ds ρ ⟨j,k,hd,hjk,hP⟩
   cases k with
   | zero=>cases hd
   | succ k=>
     rw [qT] at hd
     cases hd
     obtain ⟨ρ1,ρ2,h1,h2,h3⟩:=hs j ρ (by omega) hP
     exact ⟨ρ1,ρ2,h1,h2,j+1,k,rfl,by omega,h3⟩
 . rintro ρ ⟨j,k',hd,hjk,hP⟩
   cases k' with
   | zero=>
     have e:j=n:=by omega
     subst e
     exact k ρ hP
   | succ k=>rw [qT] at hd;cases hd
theorem Qn {α:Type} {m:D->L2.Env->Option L2.Env} {ft:L2.Env->Option Bool} {fe:L2.Env->Option D} {ρ:L2.Env} (src g:α->D):∀(l:List α),(∀a∈l,∃ρ1,m (src a) ρ=some ρ1/\ft ρ1=some true/\fe ρ1=some (g a))->Zg m ft fe ρ (l.map src)=some (l.map g)
 | [],_=>rfl
 | d::ds,h=>by
   obtain ⟨ρ1,h1,h2,h3⟩:=h d List.mem_cons_self
   simp only [List.map_cons,Zg,h1,h2,h3,Option.bind_some,if_true,Qn src g ds fun x hx=>h x (List.mem_cons_of_mem _ hx),Option.map_some]
theorem jf1 {α β:Type} (f:α->D) (g:β->D) (xs:List α) (ys:List β):jbO (xs.map f) (ys.map g)=(xs.zip ys).map fun q=>.tup [f q.1,g q.2]:=by
 unfold jbO
 rw [List.zip_map,List.map_map]
 rfl
theorem jbF {l:List Int}:Q6 [.lst (l.map D.int)]=some (.int l.sum):=jaV l
theorem jjM {a n:Nat} {m:FS} {ds l:List D} {ρ:L2.Env} (h1:ds.length=a) (h2:qh n ds=ρ) (h:m ρ=.retO l):Jv a n m ds=some l:=by
 unfold Jv
 rw [if_pos h1,h2,h]
 rfl
theorem jjQ {a n:Nat} {m:FS} {ds l:List D} {ρ:L2.Env} (h1:ds.length=a) (h2:qh n ds=ρ) (h:∀C:Res->Prop,C (.retO l)->C (m ρ)):Jv a n m ds=some l:=by
 unfold Jv
 rw [if_pos h1,h2]
 exact h (fun r=>jaJ r=some l) rfl
theorem jec {fe:L2.Env->Option (List D)} {ρ:L2.Env} {l:List D} (h:fe ρ=some l):Jf fe ρ=.retO l:=by unfold Jf;rw [h]
noncomputable def spn (fl:List Ship) (j:Nat):Int×Int:=(jq fl).getD j (0,0)
noncomputable def zv (fl:List Ship) (j:Nat):Int:=(spn fl j).2-(spn fl j).1
noncomputable def qy (x:Int):Int:=if x>0 then x else 0
noncomputable def Sm (s:Ship):Prop:=0<=s.m/\s.m<=1000000000000000
theorem jm4 {s:Ship} (h:s.Ok):Sm s:=⟨h.m0,h.m1⟩
theorem jbR {fl:List Ship} {j:Nat} (h:j<(jq fl).length):(jq fl)[j]?=some (spn fl j):=by
 unfold spn
 rw [List.getD_eq_getElem?_getD,List.getElem?_eq_getElem h]
 rfl
theorem jjA {fl:List Ship} {j:Nat} (h:j<(jq fl).length):spn fl j∈jq fl:=List.mem_of_getElem? (jbR h)
theorem jnB {fl:List Ship} {j:Nat} (h:j<(jq fl).length):jN (.lst ((jq fl).map jm)) (.int j)=some (jm (spn fl j)):=jc7 (by omega) (by rw [Int.toNat_natCast];exact jbR h)
theorem QJ {fl:List Ship} (h:fl.length<20):(jq fl).length<40:=by
 have:=Zi fl
 have:=jdl (JE fl)
 unfold jq
 omega
theorem Jl {fl:List Ship} (hfl:∀s∈fl,s.Ok) {j:Nat} (h:j<(jq fl).length):0<zv fl j/\zv fl j<2000000000000000:=by
 obtain ⟨h1,h2,h3⟩:=jeq (jjA h)
 have bd:∀k∈JE fl,-500000000000000<=k/\k<=1000000000000000:=fun k hk=>by
  rcases List.mem_append.mp (mem_bnds.mp hk) with z | z
  . obtain ⟨s,hs,rfl⟩:=List.mem_map.mp z
    have:=(hfl s hs).lo
    have:=(hfl s hs).hi
    omega
  . obtain ⟨s,hs,rfl⟩:=List.mem_map.mp z
    have:=(hfl s hs).lo
    have:=(hfl s hs).hi
    have:=(hfl s hs).lt
    have:=(hfl s hs).long
    omega
 have:=bd _ h2
 have:=bd _ h3
 unfold zv
 omega
theorem jhW (n:Nat):rng 0 n=(List.range n).map fun j:Nat=>D.int (j:Int):=by
 unfold rng
 refine List.map_congr_left fun i _=>?_
 rw [Int.zero_add]
noncomputable def at2 (P:List (List Int)) (i s:Nat):Int:=(P.getD i []).getD s 0
noncomputable def Shape (n m:Nat) (P:List (List Int)):Prop:=P.length=n/\∀r∈P,r.length=m
theorem Shape.row {n m:Nat} {P:List (List Int)} (h:Shape n m P) {i:Nat} (hi:i<n):P[i]?=some (P.getD i [])/\(P.getD i []).length=m:=by
 have hi':i<P.length:=by rw [h.1];exact hi
 have e:P[i]?=some (P.getD i []):=by rw [List.getD_eq_getElem?_getD,List.getElem?_eq_getElem hi'];rfl
 exact ⟨e,h.2 _ (List.mem_of_getElem? e)⟩
theorem jov {n m:Nat} {P:List (List Int)} (h:Shape n m P) {i:Nat} (hi:i<n):jN (.lst (P.map jE)) (.int i)=some (jE (P.getD i [])):=by
 refine ZY (by omega) ?_
 rw [Int.toNat_natCast,List.getElem?_map,(h.row hi).1];rfl
theorem jiI {α:Type} (src:α->D) (d:α) (l:List α):jbE (l.map src)=(List.range l.length).map fun j:Nat=>.tup [.int (j:Int),src (l.getD j d)]:=by
 unfold jbE
 apply List.ext_getElem?
 intro i
 rw [List.getElem?_map,List.getElem?_zipIdx,List.getElem?_map,List.getElem?_map]
 by_cases hi:i<l.length
 . rw [List.getElem?_eq_getElem hi,List.getElem?_range hi]
   simp [List.getElem?_eq_getElem hi,List.getD_eq_getElem?_getD]
 . rw [List.getElem?_eq_none (by omega),List.getElem?_eq_none (by simp;omega)];rfl
theorem jfT {m:D->L2.Env->Option L2.Env} {B:FS} (g:Nat->D) (n:Nat) (P:Nat->L2.Env->Prop) (R:D->Prop)
 (hs:∀(j:Nat) ρ,j<n->P j ρ->∃ρ1,m (g j) ρ=some ρ1/\((∃ρ2,B ρ1=.next ρ2/\P (j+1) ρ2)\/∃d,B ρ1=.ret d/\R d)):∀(k j:Nat) (ρ:L2.Env),j+k=n->P j ρ->
 (∃ρ',zH m B ((List.range' j k).map g) ρ=.next ρ'/\P n ρ')\/∃d,zH m B ((List.range' j k).map g) ρ=.ret d/\R d
 | 0,j,ρ,hj,hP=>.inl ⟨ρ,rfl,(show j=n by omega) ▸ hP⟩
 | k+1,j,ρ,hj,hP=>by
   obtain ⟨ρ1,h1,h2⟩:=hs j ρ (by omega) hP
   rw [List.range'_succ,List.map_cons]
   rcases h2 with ⟨ρ2,h2,h3⟩ | ⟨d,h2,h3⟩
   . rcases jfT g n P R hs k (j+1) ρ2 (by omega) h3 with h | h
     . obtain ⟨ρ',e,p⟩:=h
       exact .inl ⟨ρ',by simp only [zH,h1,h2];exact e,p⟩
     . obtain ⟨d,e,p⟩:=h
       exact .inr ⟨d,by simp only [zH,h1,h2];exact e,p⟩
   . exact .inr ⟨d,by simp only [zH,h1,h2],h3⟩
theorem jlV {fi:L2.Env->Option (List D)} {m:D->L2.Env->Option L2.Env} {B:FS} {ρ:L2.Env} (g:Nat->D) (n:Nat) (P:Nat->L2.Env->Prop) (R:D->Prop) (hi:fi ρ=some ((List.range n).map g)) (h0:P 0 ρ)
 (hs:∀(j:Nat) ρ,j<n->P j ρ->∃ρ1,m (g j) ρ=some ρ1/\((∃ρ2,B ρ1=.next ρ2/\P (j+1) ρ2)\/∃d,B ρ1=.ret d/\R d)) :
 (∃ρ',zW fi m B ρ=.next ρ'/\P n ρ')\/∃d,zW fi m B ρ=.ret d/\R d:=by
 unfold zW
 rw [hi,List.range_eq_range']
 exact jfT g n P R hs n 0 ρ (by omega) h0
theorem jme {fi:L2.Env->Option (List D)} {m:D->L2.Env->Option L2.Env} {B:FS} {ρ:L2.Env} (g:Nat->D) (n:Nat) (P:Nat->L2.Env->Prop) (hi:fi ρ=some ((List.range n).map g)) (h0:P 0 ρ)
 (hs:∀(j:Nat) ρ,j<n->P j ρ->∃ρ1 ρ2,m (g j) ρ=some ρ1/\B ρ1=.next ρ2/\P (j+1) ρ2):∃ρ',zW fi m B ρ=.next ρ'/\P n ρ':=by
 rcases jlV g n P (fun _=>False) hi h0 (fun j ρ hj hP=>let ⟨ρ1,ρ2,h1,h2,h3⟩:=hs j ρ hj hP;⟨ρ1,h1,.inl ⟨ρ2,h2,h3⟩⟩) with h | ⟨d,_,h⟩
 . exact h
 . exact h.elim
theorem jeE {C:Res->Prop} {fi:L2.Env->Option (List D)} {m:D->L2.Env->Option L2.Env} {B F':FS} {ρ:L2.Env} (g:Nat->D) (n:Nat) (P:Nat->L2.Env->Prop) (hi:fi ρ=some ((List.range n).map g)) (h0:P 0 ρ)
 (hs:∀(j:Nat) ρ,j<n->P j ρ->∃ρ1 ρ2,m (g j) ρ=some ρ1/\B ρ1=.next ρ2/\P (j+1) ρ2) (k:∀ρ',P n ρ'->C (F' ρ')):C (jr (zW fi m B) F' ρ):=
 let ⟨ρ',e,h⟩:=jme g n P hi h0 hs;jI ρ' e (k ρ' h)
section
variable {ρ:L2.Env}
end
noncomputable def jfq (P:List (List Int)) (n:Nat):List Int:=(List.range n).map (zq P)
theorem jgv {S:List (Int×Int)} (hS:S.length<1000) {P:List (List Int)} (hr:∀r∈P,r.length=S.length) (hPl:P.length<=8):QN (J4 (jc (jg j5 (jc (ja 0) jk)) jk)) (jG 0) (fun _=>some true) (jg Q6 (jc (jL (QN (j8 (ja 1)) (jG 0) (fun _=>some true) (jj jN (ja 0) (ja 1)) 1 [0])) jk)) 1 [1] [.sh (.lst (S.map jm)),.sh (.lst (P.map jE))]=some ((jfq P S.length).map D.int):=by
 have hz:J4 (jc (jg j5 (jc (ja 0) jk)) jk) [.sh (.lst (S.map jm)),.sh (.lst (P.map jE))]=some ((List.range S.length).map fun j:Nat=>D.int (j:Int)):=by
  rw [J2 (j:=(S.length:Int)) (by simp (disch:=omega) only [jc,jg,ja,List.getElem?_cons_zero,jk,Option.map_some,Option.bind_some,j5];simp only [List.length_map]) (by omega) (by omega),Int.toNat_natCast,jhW]
 have hc:∀j,j<S.length->(jg Q6 (jc (jL (QN (j8 (ja 1)) (jG 0) (fun _=>some true) (jj jN (ja 0) (ja 1)) 1 [0])) jk)) [.sh (.int (j:Int)),.sh (.lst (P.map jE))]=some (.int (zq P j)):=fun j hj'=>by
  have lc:=zy (fi:=j8 (ja 1)) (ρ:=[.sh (.int j),.sh (.lst (P.map jE))]) (m:=jG 0) (ft:=fun _=>some true) (fe:=jj jN (ja 0) (ja 1)) (n:=1) (ix:=[0]) (qS rfl) (by rw [List.length_map];omega)
   (Qn jE (fun r=>.int (r.getD j 0)) P fun r h=>⟨[.sh (jE r),.sh (.int j)],rfl,rfl,by
     have:=J5 (l:=r) (i:=j) (by rw [hr r h];exact hj')
     unfold jE
     simp (disch:=omega) only [jj,ja,List.getElem?_cons_zero,List.getElem?_cons_succ,Option.bind_some]
     exact this⟩)
  have s1:=jaV (P.map fun r=>r.getD j 0)
  rw [List.map_map] at s1
  clear hz hr
  simp (disch:=omega) only [jg,jc,jL,jk,Option.map_some]
  simp only [lc]
  simp (disch:=omega) only [Option.map_some,Option.bind_some]
  exact s1
 unfold jfq
 rw [List.map_map]
 exact zy hz (by rw [List.length_map,List.length_range];omega) (Qn (fun j:Nat=>D.int (j:Int)) (fun j=>.int (zq P j)) _ fun j hj=>⟨[.sh (.int j),.sh (.lst (P.map jE))],rfl,rfl,hc j (List.mem_range.mp hj)⟩)
theorem jdX {S:List (Int×Int)} (hS:S.length<1000) {P:List (List Int)} (hr:∀r∈P,r.length=S.length) (hPl:P.length<=8):JC [.lst (S.map jm),.lst (P.map jE)]=some ((jfq P S.length).map D.int):=
 jjM (m:=JB) (ρ:=[.sh (.lst (S.map jm)),.sh (.lst (P.map jE))]) rfl rfl (jec (jgv hS hr hPl))
theorem jnE {P:List (List Int)} {n j:Nat} (h:j<n):jN (.lst ((jfq P n).map D.int)) (.int j)=some (.int (zq P j)):=by
 refine ZY (by omega) ?_
 unfold jfq
 rw [Int.toNat_natCast,List.getElem?_map,List.getElem?_map,List.getElem?_range h]
 rfl
noncomputable def j4 (fl:List Ship) (P:List (List Int)) (k:Int):Int:=jP (fun j=>qy (zq P j-k*zv fl j)) (jq fl).length
theorem jer {z1:Slot} {parts tots:D} {k f j T:Int} {p:Int×Int} (dp:jN parts (.int j)=some (jm p)) (dt:jN tots (.int j)=some (.int T)) (h1:0<p.2-p.1) (h2:p.2-p.1<2000000000000000) :
 (jB 3 (jj qd (ja 3) (jg Zq (jc (eC (.int 0)) (jc (jj qO (jj jN (ja 4) (ja 5)) (jj qw (ja 2) (jj qO (jj jN (jj jN (ja 0) (ja 5)) (eC (.int 1))) (jj jN (jj jN (ja 0) (ja 5)) (eC (.int 0)))))) jk)))))
  [.sh parts,z1,.sh (.int k),.sh (.int f),.sh tots,.sh (.int j)]=.next [.sh parts,z1,.sh (.int k),.sh (.int (f+qy (T-k*(p.2-p.1)))),.sh tots,.sh (.int j)]:=by
 simp (disch:=omega) only [jB,jj,ja,List.getElem?_cons_succ,List.getElem?_cons_zero,jg,jc,eC,Option.bind_some,jk,Option.map_some,List.set_cons_succ,List.set_cons_zero]
 simp only [dp,dt]
 unfold jm
 simp (disch:=omega) only [Option.bind_some,JZ,J3,j2,Jy,Option.map_some,Zq,jK]
 rfl
theorem jd5 {fl:List Ship} (hfl:∀s∈fl,s.Ok) (hlen:fl.length<=8) {P:List (List Int)} (hr:∀r∈P,r.length=(jq fl).length) (hPl:P.length<=8) (k:Int):J1 [.lst ((jq fl).map jm),.lst (P.map jE),.int k]=some (.int (j4 fl P k)):=by
 have hSl:=QJ (fl:=fl) (by omega)
 have et:=jdX (S:=jq fl) (by omega) hr hPl
 refine zZ (m:=zX) (ρ:=[.sh (.lst ((jq fl).map jm)),.sh (.lst (P.map jE)),.sh (.int k),.un,.un,.un]) rfl rfl ?_
 intro C fin
 unfold zX
 refine jI [.sh (.lst ((jq fl).map jm)),.sh (.lst (P.map jE)),.sh (.int k),.sh (.int 0),.un,.un] (by simp (disch:=omega) only [jB,eC,List.set_cons_succ,List.set_cons_zero]) ?_
 refine jI [.sh (.lst ((jq fl).map jm)),.sh (.lst (P.map jE)),.sh (.int k),.sh (.int 0),.sh (.lst ((jfq P (jq fl).length).map D.int)),.un] (zQ (jy rfl et)) ?_
 refine jnR (jq fl).length (fun j ρ=>∃y,ρ=[.sh (.lst ((jq fl).map jm)),.sh (.lst (P.map jE)),.sh (.int k),.sh (.int (jP (fun j=>qy (zq P j-k*zv fl j)) j)),.sh (.lst ((jfq P (jq fl).length).map D.int)),y])
  (by rw [J2 (j:=((jq fl).length:Int)) (by simp (disch:=omega) only [jc,jg,ja,List.getElem?_cons_zero,jk,Option.map_some,Option.bind_some,j5];simp only [List.length_map]) (by omega) (by omega),Int.toNat_natCast]) ⟨_,rfl⟩ ?_ ?_
 . rintro j ρ hj ⟨y,rfl⟩
   have hL:=Jl hfl hj
   unfold zv at hL
   exact ⟨_,_,rfl,jer (jnB hj) (jnE hj) hL.1 hL.2,_,rfl⟩
 . rintro ρ ⟨y,rfl⟩
   exact fin
theorem jgY {P:List (List Int)} (h:P.length<1000) {ρ:L2.Env} {i:Nat} (hi:ja i ρ=some (.lst (P.map jE))):QN (j8 (ja i)) (jG 0) (fun _=>some true) (jL (jg Qm (jc (ja 0) jk))) 1 [] ρ=some (P.map jE):=
 zy (qS hi) (by rw [List.length_map];omega) (Qn jE jE P fun r _=>⟨[.sh (jE r)],rfl,rfl,rfl⟩)
noncomputable def jnD (P:List (List Int)) (i:Nat):Int:=(P.getD i []).sum
theorem jjL {n m:Nat} {P:List (List Int)} (h:Shape n m P) {i:Nat} (hi:i<n):jnD P i=jP (fun s=>at2 P i s) m:=by
 unfold jnD
 rw [jdN,(h.row hi).2]
 rfl
theorem jf3 {n m:Nat} {P:List (List Int)} (h:Shape n m P) (s:Nat):zq P s=jP (fun i=>at2 P i s) n:=by
 unfold zq
 rw [ja1 (fun r:List Int=>r.getD s 0) [],h.1]
 rfl
theorem jco {f:Nat->Nat->Int} {m:Nat}:∀n,jP (fun i=>jP (fun s=>f i s) m) n=jP (fun s=>jP (fun i=>f i s) n) m
 | 0=>by
   show (0:Int)=_
   rw [jcH]
   intro j _
   rfl
 | n+1=>by
   show jP _ n+jP (fun s=>f n s) m=_
   rw [jco n,<- jdp]
   rfl
theorem jgH {s:Ship} (hs:Sm s) (p:Int×Int):jb4 [ji s,jm p]=some (.int (qF s p)):=by
 have h1:=hs.1
 have h2:=hs.2
 have el:=jaq p
 unfold jb4 jeV qF
 unfold jm at el ⊢
 unfold ji
 simp (disch:=omega) only [qX,List.length_cons,List.length_nil,Nat.zero_add,Nat.reduceAdd,jch,jr,Qf,Z3,zJ,jj,ja,qh,List.map_cons,List.map_nil,Nat.sub_self,List.replicate_zero,List.cons_append,List.nil_append,List.getElem?_cons_zero,eC,Option.bind_some,J3,List.getElem?_cons_succ,Z1,JZ,qJ,jaa,jg,jc,jF,jk,Option.map_some,ql,if_true]
 by_cases c1:s.b<=p.1
 . by_cases c2:p.2<=s.e
   . simp only [c1,c2,decide_true,and_self,if_true,el]
     simp (disch:=omega) only [Option.bind_some,Je]
   . simp only [c1,c2,decide_true,decide_false,and_false,if_false]
 . simp only [c1,decide_false,false_and,if_false]
noncomputable def jh9 (fl:List Ship):List (List Int):=fl.map fun s=>(jq fl).map (qF s)
noncomputable def jix (fl:List Ship):List Int:=fl.map (·.n)
noncomputable def shp (fl:List Ship) (i:Nat):Ship:=fl.getD i ⟨0,0,0,0⟩
theorem jbL {fl:List Ship} {i:Nat} (h:i<fl.length):fl[i]?=some (shp fl i):=by
 unfold shp
 rw [List.getD_eq_getElem?_getD,List.getElem?_eq_getElem h];rfl
theorem jc6 {fl:List Ship} {i:Nat} (h:i<fl.length):shp fl i∈fl:=List.mem_of_getElem? (jbL h)
theorem jf0 {fl:List Ship} {i j:Nat} (hi:i<fl.length) (hj:j<(jq fl).length):at2 (jh9 fl) i j=qF (shp fl i) (spn fl j):=by
 unfold at2 jh9
 have e:(fl.map fun s=>(jq fl).map (qF s)).getD i []=(jq fl).map (qF (shp fl i)):=by
  rw [List.getD_eq_getElem?_getD,List.getElem?_map,jbL hi];rfl
 rw [e,List.getD_eq_getElem?_getD,List.getElem?_map,jbR hj];rfl
theorem jfw {fl:List Ship} {i:Nat} (hi:i<fl.length):(jix fl).getD i 0=(shp fl i).n:=by
 unfold jix
 rw [List.getD_eq_getElem?_getD,List.getElem?_map,jbL hi];rfl
theorem jd8 {fl:List Ship} {P:List (List Int)} (h:PlanOk fl P):Shape fl.length (jq fl).length P/\(∀i,i<fl.length->jP (at2 P i) (jq fl).length=(jix fl).getD i 0)/\∀i s,i<fl.length->s<(jq fl).length->0<=at2 P i s/\at2 P i s<=at2 (jh9 fl) i s:=by
 have sh:Shape fl.length (jq fl).length P:=⟨h.len,h.rows⟩
 refine ⟨sh,fun i hi=>?_,fun i s hi hs=>?_⟩
 . rw [<-jjL sh hi,jfw hi]
   exact (h.row i _ _ (sh.row hi).1 (jbL hi)).sum
 . rw [jf0 hi hs]
   refine (h.row i _ _ (sh.row hi).1 (jbL hi)).bd s _ _ ?_ (jbR hs)
   unfold at2
   rw [List.getD_eq_getElem?_getD (l:=P.getD i []),List.getElem?_eq_getElem (by rw [(sh.row hi).2];exact hs)];rfl
theorem jcc (i:Int):zD [.int i]=some (.bl true):=rfl
theorem jbo {α:Type} (l:List α):jb7 [.lst (l.map fun _=>D.bl true)]=some (.bl true):=by
 have:=jc8 (l.map fun _=>true)
 rw [List.map_map] at this
 refine this.trans ?_
 rw [show (l.map fun _=>true).all id=true by simp]
theorem jdL {ρ:L2.Env} {x y:Int} {fb fc:L2.Env->Option D} (h1:fb ρ=some (.int x)) (h2:fc ρ=some (.int y)) (h3:0<=x) (h4:x<=y):Jb dLe dLe (eC (.int 0)) fb fc ρ=some (.bl true):=by
 unfold Jb eC
 simp only [h1,h2,Option.bind_some,Z1,decide_eq_true h3,decide_eq_true h4]
theorem jfp {S:List (Int×Int)} {s:Ship} (hs:Sm s) {r:List Int} (h:RowOk S s r) (hS:S.length<1000):J0 [ji s,.lst (S.map jm),jE r]=some (.bl true):=by
 have hrl:=h.len
 refine zZ (m:=JW) (ρ:=[.sh (ji s),.sh (.lst (S.map jm)),.sh (.lst (r.map D.int))]) rfl rfl ?_
 intro C fin
 unfold JW
 refine jI [.sh (ji s),.sh (.lst (S.map jm)),.sh (.lst (r.map D.int))] (Jn (jbN (by walk_at "ev") (qx (jn (jy rfl rfl) (jy rfl rfl) (jjD (by simp only [List.length_map, hrl])))))) ?_
 have lc1:=zy (fi:=j8 (ja 2)) (ρ:=[.sh (ji s),.sh (.lst (S.map jm)),.sh (.lst (r.map D.int))]) (m:=jG 0) (ft:=fun _=>some true) (fe:=jg zD (jc (jF 0) jk)) (n:=1) (ix:=[]) (qS rfl) (by rw [List.length_map];omega)
  (Qn D.int (fun _=>.bl true) r fun x _=>⟨[.sh (.int x)],rfl,rfl,jy rfl (jcc x)⟩)
 refine jI [.sh (ji s),.sh (.lst (S.map jm)),.sh (.lst (r.map D.int))] (Jn (Zy (qx (jy (js (zr lc1) rfl) (jbo r))))) ?_
 have hz:jbi (jc (ja 1) (jc (ja 2) jk)) [.sh (ji s),.sh (.lst (S.map jm)),.sh (.lst (r.map D.int))]=some ((S.zip r).map fun q=>.tup [jm q.1,.int q.2]):=by
  have e:=jf1 jm D.int S r
  rw [<-e]
  rfl
 have lc2:=zy (m:=Zb 2 (qK (jG 0) (qK (jG 1) ZL))) (ft:=fun _=>some true) (fe:=Jb dLe dLe (eC (.int 0)) (ja 1) (jg jb4 (jc (jF 2) (jc (jF 0) jk)))) (n:=2) (ix:=[0]) hz (by simp;omega)
  (Qn (fun q:(Int×Int)×Int=>.tup [jm q.1,.int q.2]) (fun _=>.bl true) (S.zip r) fun q hq=>⟨[.sh (jm q.1),.sh (.int q.2),.sh (ji s)],rfl,rfl,by
   obtain ⟨j,hj⟩:=List.mem_iff_getElem?.mp hq
   rw [List.getElem?_zip_eq_some] at hj
   have b:=h.bd j q.2 q.1 hj.2 hj.1
   exact jdL rfl (jy rfl (jgH hs q.1)) b.1 b.2⟩)
 refine jI [.sh (ji s),.sh (.lst (S.map jm)),.sh (.lst (r.map D.int))] (Jn (Zy (qx (jy (js (zr lc2) rfl) (jbo (S.zip r)))))) ?_
 exact ZH (jaE (jn (jy rfl (jaV r)) (jn rfl rfl ZW) (jjT h.sum))) fin
theorem jdT {fl:List Ship} (hs:∀s∈fl,Sm s) (hl:fl.length<20) {P:List (List Int)} (hP:PlanOk fl P):Z5 [.lst (fl.map ji),.lst (P.map jE)]=some (.bl true):=by
 have est:=Qp fl hl
 have hSl:=QJ hl
 have hPl:=hP.len
 refine zZ (m:=Qz) (ρ:=[.sh (.lst (fl.map ji)),.sh (.lst (P.map jE)),.un]) rfl rfl ?_
 intro C fin
 unfold Qz
 refine jI [.sh (.lst (fl.map ji)),.sh (.lst (P.map jE)),.un] (Jn (jbN (by walk_at "ev") (qx (jn (jy rfl rfl) (jy rfl rfl) (jjD (by simp only [List.length_map, hPl])))))) ?_
 refine jI [.sh (.lst (fl.map ji)),.sh (.lst (P.map jE)),.sh (.lst ((jq fl).map jm))] (zQ (jy rfl est)) ?_
 have hz:jbi (jc (ja 0) (jc (ja 1) jk)) [.sh (.lst (fl.map ji)),.sh (.lst (P.map jE)),.sh (.lst ((jq fl).map jm))]=some ((fl.zip P).map fun q=>.tup [ji q.1,jE q.2]):=by
  have e:=jf1 ji jE fl P
  rw [<-e]
  rfl
 have lc:=zy (m:=Zb 2 (qK (jG 0) (qK (jG 1) ZL))) (ft:=fun _=>some true) (fe:=jg J0 (jc (jF 0) (jc (jF 2) (jc (jF 1) jk)))) (n:=2) (ix:=[2]) hz (by simp;omega)
  (Qn (fun q:Ship×List Int=>.tup [ji q.1,jE q.2]) (fun _=>.bl true) (fl.zip P) fun q hq=>⟨[.sh (ji q.1),.sh (jE q.2),.sh (.lst ((jq fl).map jm))],rfl,rfl,by
   obtain ⟨j,hj⟩:=List.mem_iff_getElem?.mp hq
   rw [List.getElem?_zip_eq_some] at hj
   exact jy rfl (jfp (hs q.1 (List.mem_of_getElem? hj.1)) (hP.row j q.2 q.1 hj.2 hj.1) (by omega))⟩)
 exact ZH (jaE (jy (js (zr lc) rfl) (jbo (fl.zip P)))) fin
theorem jlI {ρ:L2.Env} {x y:Int} {fb fc:L2.Env->Option D} (h1:fb ρ=some (.int x)) (h2:fc ρ=some (.int y)) (h3:0<=x) (h4:x<=y):Jb dLe dLe (eC (.int 0)) fb fc ρ=some (.bl true):=by
 unfold Jb eC
 simp only [h1,h2,Option.bind_some,Z1,decide_eq_true h3,decide_eq_true h4]
theorem jdM {s:Ship} (hs:s.Ok):JO [ji s]=some (.bl true):=by
 have h1:=hs.lt
 have h2:=hs.n0
 have h3:=hs.m0
 have h4:=hs.n1
 have h5:=hs.m1
 unfold JO
 refine zZ (ρ:=[.sh (ji s),.un]) rfl rfl fun C fin=>?_
 unfold jag
 refine jI [.sh (ji s),.un] (Jn (jbN (Zy (b:=true) (qx rfl)) (qx (jn (jy rfl rfl) rfl (jjD rfl))))) ?_
 have lc:QN (jak (jF 0)) (jG 0) (fun _=>some true) (jg zD (jc (jF 0) jk)) 1 [] [.sh (ji s),.un]=some ([true,true,true,true].map D.bl):=by
  refine zy (jhR rfl) (by show 4<16777216;decide) ?_
  exact Qn D.int (fun _=>D.bl true) [s.b,s.e,s.n,s.m] fun i _=>⟨[.sh (.int i)],rfl,rfl,rfl⟩
 refine jI [.sh (ji s),.un] (Jn (Zy (b:=true) (qx (jy (js (zr lc) rfl) (jc8 _))))) ?_
 refine jI [.sh (ji s),.sh (.int (s.e-s.b))] (qi (jn (jn rfl rfl JZ) (jn rfl rfl J3) rfl)) ?_
 refine ZH (jaE (jfj ((jn rfl rfl jbn).trans (by rw [decide_eq_true (by omega)])) (jfj ((jn (jn rfl rfl jaa) rfl jfe).trans (by rw [decide_eq_true (by omega)])) (d:=.bl true) ?_))) fin
 exact jlI (jn rfl rfl ZW) (jn (jn rfl rfl jaa) rfl (Je (by omega) (by omega))) (by omega) (by omega)
theorem jc9 {fl:List Ship} (hfl:∀s∈fl,s.Ok) (hl:fl.length<1000):J7 [.lst (fl.map ji)]=some (.bl true):=by
 unfold J7
 refine zZ (ρ:=[.sh (.lst (fl.map ji))]) rfl rfl fun C fin=>?_
 unfold Zd
 have lc:QN (j8 (ja 0)) (jG 0) (fun _=>some true) (jg JO (jc (jF 0) jk)) 1 [] [.sh (.lst (fl.map ji))]=some ((fl.map fun _=>true).map D.bl):=by
  refine zy (qS rfl) (by rw [List.length_map];omega) ?_
  rw [List.map_map]
  exact Qn ji (D.bl∘fun _=>true) fl fun s hs=>⟨[.sh (ji s)],rfl,rfl,jy rfl (jdM (hfl s hs))⟩
 refine ZH (jaE (jfj rfl (jy (js (zr lc) rfl) (jc8 _)))) ?_
 have:(fl.map fun _=>true).all id=true:=by simp
 rw [this]
 exact fin
theorem jb2 {fl:List Ship} (hfl:∀s∈fl,s.Ok) (hl:fl.length<1000):qU [.lst (fl.map ji)]=some .non:=by
 unfold qU qX
 rw [if_pos (show ([.lst (fl.map ji)]:List D).length=1 from rfl)]
 unfold zK
 show jch (Qf _ _ ql [.sh (.lst (fl.map ji))])=_
 rw [Jn (Zy (b:=true) (qx (jy rfl (jc9 hfl hl))))]
 rfl
noncomputable def Jm (T l:Int):List (Int×Int):=(T/l,l-T%l)::if T%l>0 then [(T/l+1,T%l)] else []
theorem jmS {i j:Int}:dGt (.int i) (.int j)=some (.bl (decide (i>j))):=jbn
theorem jfl {T l:Int} (hl:0<l) (hl2:l<2000000000000000):JV [.int T,.int l]=some ((Jm T l).map jm):=by
 unfold JV
 refine jjQ (ρ:=[.sh (.int T),.sh (.int l),.un,.un,.un]) rfl rfl fun C fin=>?_
 unfold Q3
 refine jI [.sh (.int T),.sh (.int l),.sh (.int (T/l)),.un,.un] (qi (jn rfl rfl (jV hl (by omega)))) ?_
 refine jI [.sh (.int T),.sh (.int l),.sh (.int (T/l)),.sh (.int (T%l)),.un] (qi (jn rfl rfl (jC hl))) ?_
 refine jI [.sh (.int T),.sh (.int l),.sh (.int (T/l)),.sh (.int (T%l)),.ow [jm (T/l,l-T%l)]] rfl ?_
 have tc:zJ (jj dGt (ja 3) (eC (.int 0))) [.sh (.int T),.sh (.int l),.sh (.int (T/l)),.sh (.int (T%l)),.ow [jm (T/l,l-T%l)]]=some (decide (T%l>0)):=qx (jn rfl rfl jmS)
 by_cases c:T%l>0
 . rw [decide_eq_true c] at tc
   refine jI [.sh (.int T),.sh (.int l),.sh (.int (T/l)),.sh (.int (T%l)),.ow [jm (T/l,l-T%l),jm (T/l+1,T%l)]] ((jiO tc).trans ((jiw (ds:=[jm (T/l,l-T%l)]) rfl rfl (by show 1<16777216;decide)).trans rfl)) ?_
   unfold Jm at fin
   rw [if_pos c] at fin
   exact fin
 . rw [decide_eq_false c] at tc
   refine jI [.sh (.int T),.sh (.int l),.sh (.int (T/l)),.sh (.int (T%l)),.ow [jm (T/l,l-T%l)]] (Jn tc) ?_
   unfold Jm at fin
   rw [if_neg c] at fin
   exact fin
noncomputable def JA:List (Int×Int)->Int->Int->List (Int×Int)
 | [],k,h=>[(k,h)]
 | p::R,k,h=>if p.1=k then (p.1,p.2+h)::R else p::JA R k h
noncomputable def jM (R:List (Int×Int)):List Int:=R.map (·.1)
noncomputable def qE (R:List (Int×Int)):List D:=R.map fun p=>.int p.2
noncomputable def qg (f:Int->Int) (R:List (Int×Int)):Int:=(R.map fun p=>f p.1*p.2).sum
theorem jQ (f:Int->Int) (p:Int×Int) (R:List (Int×Int)):qg f (p::R)=f p.1*p.2+qg f R:=by unfold qg;rw [List.map_cons,List.sum_cons]
theorem jdQ (f:Int->Int) (k h:Int):∀R,qg f (JA R k h)=qg f R+f k*h
 | []=>by unfold JA;rw [jQ];show f k*h+0=0+f k*h;omega
 | p::R=>by
   unfold JA
   by_cases c:p.1=k
   . rw [if_pos c,jQ,jQ,c,Int.mul_add]
     show f k*p.2+f k*h+qg f R=_
     omega
   . rw [if_neg c,jQ,jQ,jdQ f k h R]
     omega
theorem jbI {k h:Int} {q:Int×Int}:∀{R:List (Int×Int)},q∈JA R k h->q∈R\/(q=(k,h)/\k∉jM R)\/∃p∈R,p.1=k/\q=(p.1,p.2+h)
 | [],hq=>by
   have:=List.mem_singleton.mp hq
   exact .inr (.inl ⟨this,List.not_mem_nil⟩)
 | p::R,hq=>by
   unfold JA at hq
   by_cases c:p.1=k
   . rw [if_pos c] at hq
     rcases List.mem_cons.mp hq with e | e
     . exact .inr (.inr ⟨p,List.mem_cons_self,c,e⟩)
     . exact .inl (List.mem_cons_of_mem _ e)
   . rw [if_neg c] at hq
     rcases List.mem_cons.mp hq with e | e
     . exact .inl (by rw [e];exact List.mem_cons_self)
     . rcases jbI e with z | ⟨z,w⟩ | ⟨r,hr,z⟩
       . exact .inl (List.mem_cons_of_mem _ z)
       . refine .inr (.inl ⟨z,fun y=>?_⟩)
         rcases List.mem_cons.mp y with y | y
         . exact c y.symm
         . exact w y
       . exact .inr (.inr ⟨r,List.mem_cons_of_mem _ hr,z⟩)
theorem QE (k h:Int):∀R,jM (JA R k h)=JF (jM R) k
 | []=>by unfold JA JF;rw [if_neg (show k∉jM [] from List.not_mem_nil)];rfl
 | p::R=>by
   have ih:=QE k h R
   unfold JA JF
   by_cases c:p.1=k
   . rw [if_pos c,if_pos (by rw [<-c];exact List.mem_cons_self)];rfl
   . rw [if_neg c]
     show p.1::jM (JA R k h)=_
     rw [ih]
     unfold JF
     by_cases m:k∈jM R
     . rw [if_pos m,if_pos (show k∈jM (p::R) from List.mem_cons_of_mem _ m)];rfl
     . rw [if_neg m,if_neg (show k∉jM (p::R) from fun z=>by rcases List.mem_cons.mp z with z | z;exact c z.symm;exact m z)];rfl
theorem jgx {k:Int}:∀{R:List (Int×Int)},k∉jM R->Jd (jM R) (qE R) k=none
 | [],_=>rfl
 | p::R,h=>by
   show (if p.1=k then _ else _)=_
   rw [if_neg fun z=>h (by rw [<-z];exact List.mem_cons_self)]
   exact jgx fun z=>h (List.mem_cons_of_mem _ z)
theorem jfH {k:Int} {e:D}:∀{R:List (Int×Int)},k∉jM R->jcO (jM R) (qE R) k e=qE R
 | [],_=>rfl
 | p::R,h=>by
   show (if p.1=k then e else .int p.2)::jcO (jM R) (qE R) k e=_
   rw [if_neg fun z=>h (by rw [<-z];exact List.mem_cons_self),jfH fun z=>h (List.mem_cons_of_mem _ z)]
   rfl
theorem jck (k h:Int):∀R,(jM R).Nodup->∃x,(Jd (jM R) (qE R) k).getD (.int 0)=.int x/\jcn (jM R) (qE R) k (.int (x+h))=qE (JA R k h)
 | [],_=>⟨0,rfl,by unfold jcn;rw [if_neg (show k∉jM [] from List.not_mem_nil),Int.zero_add];rfl⟩
 | p::R,nd=>by
   have nd':=List.nodup_cons.mp (show (p.1::jM R).Nodup from nd)
   by_cases c:p.1=k
   . refine ⟨p.2,?_,?_⟩
     . show (if p.1=k then some (D.int p.2) else _).getD _=_
       rw [if_pos c];rfl
     . unfold jcn JA
       rw [if_pos (show k∈jM (p::R) by rw [<-c];exact List.mem_cons_self),if_pos c]
       show (if p.1=k then D.int (p.2+h) else .int p.2)::jcO (jM R) (qE R) k _=D.int (p.2+h)::qE R
       rw [if_pos c,jfH (by rw [<-c];exact nd'.1)]
   . obtain ⟨x,h1,h2⟩:=jck k h R nd'.2
     refine ⟨x,?_,?_⟩
     . show (if p.1=k then some (D.int p.2) else Jd (jM R) (qE R) k).getD _=_
       rw [if_neg c];exact h1
     . unfold JA
       rw [if_neg c]
       show _=D.int p.2::qE (JA R k h)
       rw [<-h2]
       unfold jcn
       by_cases m:k∈jM R
       . rw [if_pos m,if_pos (show k∈jM (p::R) from List.mem_cons_of_mem _ m)]
         show (if p.1=k then _ else D.int p.2)::_=_
         rw [if_neg c]
         rfl
       . rw [if_neg m,if_neg (show k∉jM (p::R) from fun z=>by rcases List.mem_cons.mp z with z | z;exact c z.symm;exact m z)]
         rfl
theorem jgq {ks:List Int} (h:ks.Nodup) (k:Int):(JF ks k).Nodup:=by
 unfold JF
 by_cases m:k∈ks
 . rw [if_pos m];exact h
 . rw [if_neg m]
   refine List.nodup_append.mpr ⟨h,by simp,fun a ha b hb z=>?_⟩
   rw [List.mem_singleton.mp hb] at z
   exact m (by rw [<-z];exact ha)
theorem jkh (ks:List Int) (k:Int):(JF ks k).length<=ks.length+1:=by
 unfold JF
 split
 . omega
 . rw [List.length_append];simp
structure Cnt (Pk:Int->Prop) (R:List (Int×Int)) (n:Nat):Prop where
 nd:(jM R).Nodup
 pos:∀p∈R,1<=p.2
 nn:∀p∈R,Pk p.1
 len:R.length<=n
theorem Cnt.add {Pk:Int->Prop} {R:List (Int×Int)} {n:Nat} (c:Cnt Pk R n) {k h:Int} (hh:1<=h) (hk:Pk k):Cnt Pk (JA R k h) (n+1):=by
 refine ⟨by rw [QE];exact jgq c.nd k,fun q hq=>?_,fun q hq=>?_,?_⟩
 . rcases jbI hq with z | ⟨z,_⟩ | ⟨p,hp,_,z⟩
   . exact c.pos q z
   . rw [z];exact hh
   . rw [z];have:=c.pos p hp;show 1<=p.2+h;omega
 . rcases jbI hq with z | ⟨z,_⟩ | ⟨p,hp,_,z⟩
   . exact c.nn q z
   . rw [z];exact hk
   . rw [z];exact c.nn p hp
 . have e:(JA R k h).length=(JF (jM R) k).length:=by rw [<-QE k h];unfold jM;rw [List.length_map]
   have:=jkh (jM R) k
   have:(jM R).length=R.length:=by unfold jM;rw [List.length_map]
   have:=c.len
   omega
theorem jgE {Pk:Int->Prop} {z0 z1 z3 z4:Slot} {R:List (Int×Int)} {n:Nat} (c:Cnt Pk R n) (hn:n<1000) (k h:Int) :
 jbf 2 (jF 5) (jj qd (Z9 (ja 2) (ja 5) (eC (.int 0))) (ja 6)) [z0,z1,.od (jM R) (qE R),z3,z4,.sh (.int k),.sh (.int h)]=.next [z0,z1,.od (jM (JA R k h)) (qE (JA R k h)),z3,z4,.sh (.int k),.sh (.int h)]:=by
 obtain ⟨x,h1,h2⟩:=jck k h R c.nd
 have e:jj qd (Z9 (ja 2) (ja 5) (eC (.int 0))) (ja 6) [z0,z1,.od (jM R) (qE R),z3,z4,.sh (.int k),.sh (.int h)]=some (.int (x+h)):=by
  refine jn (x:=.int x) ?_ rfl jK
  show some ((Jd (jM R) (qE R) k).getD (.int 0))=_
  rw [h1]
 have hl:(jM R).length=R.length:=by unfold jM;rw [List.length_map]
 have hc:=c.len
 unfold jbf
 rw [e]
 show (if zM (jM R).length=true then Res.next _ else _)=_
 rw [if_pos (jY (by omega)),<- QE,h2]
 rfl
noncomputable def Qt (f:Int->Int) (T l:Int):Int:=f (T/l)*(l-T%l)+f (T/l+1)*(T%l)
noncomputable def jeO (R:List (Int×Int)):List (Int×Int)->List (Int×Int)
 | []=>R
 | q::l=>jeO (JA R q.1 q.2) l
theorem jep (f:Int->Int):∀(l R:List (Int×Int)),qg f (jeO R l)=qg f R+qg f l
 | [],R=>by show qg f R=qg f R+0;omega
 | q::l,R=>by
   show qg f (jeO (JA R q.1 q.2) l)=_
   rw [jep f l,jdQ,jQ]
   omega
theorem jhc (f:Int->Int) (T l:Int) (hl:0<l):qg f (Jm T l)=Qt f T l:=by
 unfold Jm Qt
 have:=Int.emod_nonneg T (show l≠0 by omega)
 by_cases c:T%l>0
 . rw [if_pos c,jQ,jQ]
   show _+(_+0)=_
   rw [Int.add_zero]
 . have e:T%l=0:=by omega
   rw [if_neg c,jQ,e]
   show _+0=_
   rw [Int.mul_zero]
theorem jhj {m:D->L2.Env->Option L2.Env} {B:FS} {d:D} {ds:List D} {ρ ρ1 ρ2:L2.Env} (h1:m d ρ=some ρ1) (h2:B ρ1=.next ρ2):zH m B (d::ds) ρ=zH m B ds ρ2:=by simp only [zH,h1,h2]
theorem jiV {l m:List Int} (h:l.Perm m):l.sum=m.sum:=by
 induction h with
 | nil=>rfl
 | cons x _ ih=>rw [List.sum_cons,List.sum_cons,ih]
 | swap x y l=>simp only [List.sum_cons];omega
 | trans _ _ a b=>rw [a,b]
theorem jgN {Pk:Int->Prop} {fl:List Ship} (hfl:∀s∈fl,s.Ok) (hlen:fl.length<=8) {P:List (List Int)} (hr:∀r∈P,r.length=(jq fl).length) (hPl:P.length<=8) (hn:∀j,j<(jq fl).length->Pk (zq P j/zv fl j)/\Pk (zq P j/zv fl j+1)) :
 ∃R:List (Int×Int),jbu [.lst (fl.map ji),.lst (P.map jE)]=some (R.map jm)/\R.Pairwise (fun a b=>b.1<a.1)/\(∀p∈R,Pk p.1/\1<=p.2)/\R.length<64/\∀f:Int->Int,qg f R=jP (fun j=>Qt f (zq P j) (zv fl j)) (jq fl).length:=by
 have hsl:(jq fl).length<=16:=by
  have:=Zi fl
  have:=jdl (JE fl)
  unfold jq
  omega
 have est:=Qp fl (by omega)
 suffices main:∀C:Res->Prop,(∀R:List (Int×Int),Cnt Pk R (2*(jq fl).length)->(∀f:Int->Int,qg f R=jP (fun j=>Qt f (zq P j) (zv fl j)) (jq fl).length)->C (.retO ((jc5 R).map jm)))->C (Zk [.sh (.lst (fl.map ji)),.sh (.lst (P.map jE)),.un,.un,.un,.un,.un]) by
  refine main (fun r=>∃R:List (Int×Int),jaJ r=some (R.map jm)/\R.Pairwise (fun a b=>b.1<a.1)/\(∀p∈R,Pk p.1/\1<=p.2)/\R.length<64/\∀f:Int->Int,qg f R=jP (fun j=>Qt f (zq P j) (zv fl j)) (jq fl).length) fun R c hf=>?_
  have pm:=QI R
  refine ⟨jc5 R,rfl,Z2 c.nd,fun p hp=>⟨c.nn p (pm.mem_iff.mp hp),c.pos p (pm.mem_iff.mp hp)⟩,by rw [pm.length_eq];have:=c.len;omega,fun f=>?_⟩
  rw [<-hf f]
  exact jiV (pm.map fun p=>f p.1*p.2)
 intro C fin
 unfold Zk
 refine jI [.sh (.lst (fl.map ji)),.sh (.lst (P.map jE)),.od (jM []) (qE []),.un,.un,.un,.un] rfl ?_
 refine jeE (fun j:Nat=>D.tup [.int (j:Int),jm (spn fl j)]) (jq fl).length (fun j ρ=>∃(R:List (Int×Int)) (z3 z4 z5 z6:Slot),Cnt Pk R (2*j)/\(∀f:Int->Int,qg f R=jP (fun j=>Qt f (zq P j) (zv fl j)) j)/\ρ=[.sh (.lst (fl.map ji)),.sh (.lst (P.map jE)),.od (jM R) (qE R),z3,z4,z5,z6])
  ?_ ⟨[],_,_,_,_,⟨List.nodup_nil,fun p hp=>absurd hp List.not_mem_nil,fun p hp=>absurd hp List.not_mem_nil,Nat.zero_le _⟩,fun f=>rfl,rfl⟩ ?_ ?_
 . unfold jba
   rw [js (zr (jy rfl est)) rfl]
   show some (jbE ((jq fl).map jm))=_
   rw [jiI jm (0,0)]
   rfl
 . rintro j ρ hj ⟨R,z3,z4,z5,z6,c,hf,rfl⟩
   have hL:=Jl hfl hj
   have et:=jfc (P:=P) (j:=j) (fun r h=>by rw [hr r h];exact hj) (by omega)
   have el:=jaq (spn fl j)
   have eo:=jfl (T:=zq P j) hL.1 hL.2
   have m0:=Int.emod_nonneg (zq P j) (show zv fl j≠0 by omega)
   have m1:=Int.emod_lt_of_pos (zq P j) hL.1
   have d0:=hn j hj
   refine ⟨[.sh (.lst (fl.map ji)),.sh (.lst (P.map jE)),.od (jM R) (qE R),.sh (.int j),.sh (jm (spn fl j)),z5,z6],?_⟩
   have hgo:∀(l R:List (Int×Int)) (n:Nat) (z5 z6:Slot),Cnt Pk R n->n+l.length<1000->(∀q∈l,Pk q.1/\1<=q.2)->∃y5 y6,zH (Zb 2 (qK (jG 5) (qK (jG 6) ZL))) (jbf 2 (jF 5) (jj qd (Z9 (ja 2) (ja 5) (eC (.int 0))) (ja 6))) (l.map jm) [.sh (.lst (fl.map ji)),.sh (.lst (P.map jE)),.od (jM R) (qE R),.sh (.int j),.sh (jm (spn fl j)),z5,z6]=.next [.sh (.lst (fl.map ji)),.sh (.lst (P.map jE)),.od (jM (jeO R l)) (qE (jeO R l)),.sh (.int j),.sh (jm (spn fl j)),y5,y6]/\Cnt Pk (jeO R l) (n+l.length):=by
    intro l
    induction l with
    | nil=>intro R n z5 z6 c _ _;exact ⟨z5,z6,rfl,c⟩
    | cons q l ih=>
      intro R n z5 z6 c hn hq
      have hq0:=hq q List.mem_cons_self
      rw [List.length_cons] at hn
      obtain ⟨y5,y6,e,c'⟩:=ih (JA R q.1 q.2) (n+1) (.sh (.int q.1)) (.sh (.int q.2)) (c.add hq0.2 hq0.1) (by omega) fun x hx=>hq x (List.mem_cons_of_mem _ hx)
      refine ⟨y5,y6,?_,by rw [List.length_cons];rw [show n+(l.length+1)=n+1+l.length by omega];exact c'⟩
      exact (jhj (ρ1:=[.sh (.lst (fl.map ji)),.sh (.lst (P.map jE)),.od (jM R) (qE R),.sh (.int j),.sh (jm (spn fl j)),.sh (.int q.1),.sh (.int q.2)]) rfl (jgE c (by omega) q.1 q.2)).trans e
   have hql:∀q∈Jm (zq P j) (zv fl j),Pk q.1/\1<=q.2:=fun q hq=>by
    unfold Jm at hq
    rcases List.mem_cons.mp hq with rfl | hq
    . exact ⟨d0.1,by show 1<=zv fl j-_;omega⟩
    . split at hq
      . rw [List.mem_singleton.mp hq]
        exact ⟨d0.2,by show 1<=zq P j%zv fl j;omega⟩
      . cases hq
   have hll:(Jm (zq P j) (zv fl j)).length<=2:=by
    unfold Jm
    rw [List.length_cons]
    split
    . exact Nat.le_refl 2
    . exact Nat.le_succ 1
   obtain ⟨y5,y6,e,c'⟩:=hgo (Jm (zq P j) (zv fl j)) R (2*j) z5 z6 c (by omega) hql
   refine ⟨_,rfl,?_,jeO R (Jm (zq P j) (zv fl j)),.sh (.int j),.sh (jm (spn fl j)),y5,y6,⟨c'.nd,c'.pos,c'.nn,by have:=c'.len;omega⟩,fun f=>?_,rfl⟩
   . unfold zW
     rw [qS (zr (jy (js (jy rfl et) (js (jy rfl el) rfl)) eo))]
     exact e
   . rw [jep,hf f,jhc f _ _ hL.1]
     rfl
 . rintro ρ ⟨R,z3,z4,z5,z6,c,hf,rfl⟩
   refine ZH (jec (l:=(jc5 R).map jm) ?_) (fin R c hf)
   have hk:(jM R).length=R.length:=by unfold jM;rw [List.length_map]
   have hc:=c.len
   have hz:(jM R).zip (R.map (·.2))=R:=by
    unfold jM
    rw [List.zip_map']
    exact List.map_id' R
   show (Qr (qE R)).bind _=_
   rw [show qE R=(R.map (·.2)).map D.int by unfold qE;rw [List.map_map];rfl,JQ,Option.bind_some,if_pos ⟨by rw [hk,List.length_map],c.nd,by omega⟩,hz]
   rfl
theorem jff {T l k:Int} (hl:0<l):Qt (fun h=>qy (h-k)) T l=qy (T-k*l):=by
 have e:=Int.mul_ediv_add_emod T l
 have m0:=Int.emod_nonneg T (show l≠0 by omega)
 have m1:=Int.emod_lt_of_pos T hl
 unfold Qt
 dsimp only
 generalize T/l=q at e
 generalize T%l=r at e m0 m1
 have e2:T-k*l=l*(q-k)+r:=by
  rw [<-e,Int.mul_sub,Int.mul_comm k l]
  omega
 rw [e2]
 by_cases c:k<=q
 . have p1:qy (q-k)=q-k:=by unfold qy;split <;> omega
   have p2:qy (q+1-k)=q-k+1:=by unfold qy;split <;> omega
   have nn:=Int.mul_nonneg (Int.le_of_lt hl) (show 0<=q-k by omega)
   have p3:qy (l*(q-k)+r)=l*(q-k)+r:=by unfold qy;split <;> omega
   rw [p1,p2,p3,Int.mul_sub,Int.add_mul,Int.one_mul,Int.mul_comm (q-k) l]
   omega
 . have p1:qy (q-k)=0:=by unfold qy;split <;> omega
   have p2:qy (q+1-k)=0:=by unfold qy;split <;> omega
   have nn:=Int.mul_le_mul_of_nonneg_left (show q-k <= -1 by omega) (Int.le_of_lt hl)
   have p3:qy (l*(q-k)+r)=0:=by unfold qy;split <;> omega
   rw [p1,p2,p3,Int.zero_mul,Int.zero_mul]
   rfl
theorem jcz {fl:List Ship} (hfl:∀s∈fl,s.Ok) {P:List (List Int)} {R:List (Int×Int)} (h:∀f:Int->Int,qg f R=jP (fun j=>Qt f (zq P j) (zv fl j)) (jq fl).length) (k:Int):qg (fun h=>qy (h-k)) R=j4 fl P k:=by
 rw [h]
 exact qv fun j hj=>jff (Jl hfl hj).1
theorem jgM {fl:List Ship} {P:List (List Int)} {R:List (Int×Int)} (h:∀f:Int->Int,qg f R=jP (fun j=>Qt f (zq P j) (zv fl j)) (jq fl).length):qg (fun _=>1) R=jP (zv fl) (jq fl).length:=by
 rw [h]
 refine qv fun j _=>?_
 unfold Qt
 dsimp only
 omega
theorem jji {R:List (Int×Int)} (h:∀p∈R,0<=p.1/\1<=p.2):∀p∈R,p.2<=qg (fun _=>1) R:=by
 induction R with
 | nil=>intro p hp;cases hp
 | cons q R ih=>
   intro p hp
   have ih':=ih fun x hx=>h x (List.mem_cons_of_mem _ hx)
   have hq:=(h q List.mem_cons_self).2
   have nn:0<=qg (fun _=>1) R:=by
    cases R with
    | nil=>exact Int.le_refl _
    | cons r R=>
      have:=ih' r List.mem_cons_self
      have:=(h r (List.mem_cons_of_mem _ List.mem_cons_self)).2
      omega
   rw [jQ]
   rcases List.mem_cons.mp hp with rfl | hp
   . omega
   . have:=ih' p hp
     omega
theorem JY (c:Int):∀n:Nat,jP (fun _=>c) n=n*c
 | 0=>by simp [jP]
 | n+1=>by
   show jP (fun _=>c) n+c=_
   rw [JY c n,show ((n+1:Nat):Int)=(n:Int)+1 from by omega,Int.add_mul,Int.one_mul]
theorem jdo {fl:List Ship} (hfl:∀s∈fl,s.Ok) (hlen:fl.length<=8):jP (zv fl) (jq fl).length<18446744073709551616:=by
 have hsl:(jq fl).length<40:=QJ (by omega)
 refine Int.lt_of_le_of_lt (Qy (g:=fun _=>2000000000000000) fun s hs=>Int.le_of_lt (Jl hfl hs).2) ?_
 rw [JY]
 omega
theorem jfW {fl:List Ship} {P:List (List Int)} (hP:PlanOk fl P) {j:Nat} (hj:j<(jq fl).length):0<=zq P j:=by
 unfold zq
 have:∀r∈P,0<=r.getD j 0:=fun r hr=>by
  obtain ⟨i,hi,rfl⟩:=List.getElem_of_mem hr
  have hrl:=hP.rows _ (List.getElem_mem hi)
  have hif:i<fl.length:=by rw [<-hP.len];exact hi
  have ro:=hP.row i _ _ (List.getElem?_eq_getElem hi) (List.getElem?_eq_getElem hif)
  have:=ro.bd j (P[i].getD j 0) (spn fl j) (by rw [List.getD_eq_getElem?_getD,List.getElem?_eq_getElem (by rw [hrl];exact hj)];rfl) (jbR hj)
  exact this.1
 generalize P=Q at this
 induction Q with
 | nil=>exact Int.le_refl _
 | cons r Q ih=>
   have:=ih fun x hx=>this x (List.mem_cons_of_mem _ hx)
   have:=‹∀x∈r::Q,0<=x.getD j 0› r List.mem_cons_self
   rw [List.map_cons,List.sum_cons]
   omega
noncomputable def JS (Q:List Int):Int:=Q.getLastD 0
noncomputable def JG (Q:List Int) (h:Int):Int:=(Q.take h.toNat).sum+(if 0>h-Q.length then 0 else h-Q.length)*JS Q
noncomputable def zd (Q:List Int) (g:Int->Int):Int:=jP (fun i=>(Q.getD (i+1) 0-Q.getD i 0)*g ((i:Int)+1)) (Q.length-1)
theorem jhH (Q:List Int) (q:Int):JS (Q++[q])=q:=by unfold JS;simp
theorem jfA {Q:List Int} (h:Q≠[]):JS Q=Q.getD (Q.length-1) 0:=by
 have hp:=List.length_pos_iff.mpr h
 unfold JS
 rw [List.getLastD_eq_getLast?,List.getLast?_eq_getElem?,List.getD_eq_getElem?_getD]
theorem jhw (q h:Int) (h0:0<=h):JG [q] h=q*h:=by
 unfold JG
 have e:JS [q]=q:=rfl
 rw [e]
 show _+(if 0>h-1 then 0 else h-1)*q=_
 by_cases c:h=0
 . subst c
   show 0+0*q=q*0
   omega
 . rw [if_neg (by omega),List.take_of_length_le (by show 1<=h.toNat;omega)]
   show q+0+(h-1)*q=_
   rw [Int.sub_mul,Int.one_mul,Int.mul_comm h q]
   omega
theorem ji6 {Q:List Int} (hQ:Q≠[]) (q h:Int) (h0:0<=h):JG (Q++[q]) h=JG Q h+(q-JS Q)*qy (h-Q.length):=by
 unfold JG
 rw [jhH,List.length_append]
 show _+(if 0>h-((Q.length+1:Nat):Int) then 0 else h-((Q.length+1:Nat):Int))*q=_
 have ec:((Q.length+1:Nat):Int)=(Q.length:Int)+1:=by omega
 rw [ec]
 by_cases c:h<=Q.length
 . have p:qy (h-Q.length)=0:=by unfold qy;rw [if_neg (by omega)]
   rw [p,Int.mul_zero,if_pos (by omega),List.take_append_of_le_length (by omega),Int.zero_mul]
   by_cases d:h=Q.length
   . rw [if_neg (by omega),d,Int.sub_self,Int.zero_mul]
     omega
   . rw [if_pos (by omega),Int.zero_mul]
     omega
 . have p:qy (h-Q.length)=h-Q.length:=by unfold qy;rw [if_pos (by omega)]
   rw [p,if_neg (by omega),if_neg (by omega),List.take_of_length_le (by rw [List.length_append];show Q.length+1<=_;omega),List.take_of_length_le (by omega),List.sum_append]
   show Q.sum+(q+0)+(h-(Q.length+1))*q=Q.sum+(h-Q.length)*JS Q+(q-JS Q)*(h-Q.length)
   rw [Int.mul_comm (q-JS Q),Int.mul_sub,Int.sub_mul h,Int.sub_mul h,Int.add_mul,Int.one_mul,Int.sub_mul h]
   omega
theorem jdc {Q l:List Int} {i:Nat} (h:i<Q.length):(Q++l).getD i 0=Q.getD i 0:=by
 rw [List.getD_eq_getElem?_getD,List.getD_eq_getElem?_getD,List.getElem?_append_left h]
theorem jlX {Q:List Int} {q:Int}:(Q++[q]).getD Q.length 0=q:=by
 rw [List.getD_eq_getElem?_getD,List.getElem?_append_right (Nat.le_refl _),Nat.sub_self];rfl
theorem jil {Q:List Int} (hQ:Q≠[]) (q:Int) (g:Int->Int):zd (Q++[q]) g=zd Q g+(q-JS Q)*g Q.length:=by
 have hp:=List.length_pos_iff.mpr hQ
 unfold zd
 rw [List.length_append,show Q.length + [q].length-1=Q.length-1+1 by show Q.length+1-1=_;omega]
 show jP _ (Q.length-1)+_=_
 have e1:jP (fun i=>((Q++[q]).getD (i+1) 0-(Q++[q]).getD i 0)*g ((i:Int)+1)) (Q.length-1)=jP (fun i=>(Q.getD (i+1) 0-Q.getD i 0)*g ((i:Int)+1)) (Q.length-1):=qv fun i hi=>by
  rw [jdc (by omega),jdc (by omega)]
 have e2:(Q++[q]).getD (Q.length-1+1) 0=q:=by
  rw [show Q.length-1+1=Q.length by omega]
  exact jlX
 have e3:(Q++[q]).getD (Q.length-1) 0=JS Q:=by rw [jdc (by omega),jfA hQ]
 dsimp only
 rw [e1,e2,e3,show ((Q.length-1:Nat):Int)+1=Q.length by omega]
theorem ji5 {P:List Int->Prop} (h1:∀q,P [q]) (h2:∀Q q,Q≠[]->P Q->P (Q++[q])):∀Q:List Int,Q≠[]->P Q:=by
 intro Q
 have main:∀n (Q:List Int),Q.length=n->Q≠[]->P Q:=by
  intro n
  induction n with
  | zero=>intro Q hl hn;exact absurd (List.eq_nil_of_length_eq_zero hl) hn
  | succ n ih=>
    intro Q hl hn
    have e:=List.dropLast_concat_getLast hn
    have hd:Q.dropLast.length=n:=by rw [List.length_dropLast,hl];rfl
    by_cases c:Q.dropLast=[]
    . rw [<-e,c];exact h1 _
    . rw [<-e];exact h2 _ _ c (ih _ hd c)
 exact main Q.length Q rfl
theorem jeH {Q:List Int} (hQ:Q≠[]) {h:Int} (h0:0<=h):JG Q h=Q.getD 0 0*h+zd Q (fun j=>qy (h-j)):=by
 refine ji5 (P:=fun Q=>JG Q h=Q.getD 0 0*h+zd Q (fun j=>qy (h-j))) (fun q=>?_) (fun Q q hn ih=>?_) Q hQ
 . rw [jhw q h h0]
   show q*h=q*h+0
   omega
 . have hp:=List.length_pos_iff.mpr hn
   rw [ji6 hn q h h0,jil hn,jdc hp,ih]
   omega
theorem ja7 {f g:Int->Int}:∀{R:List (Int×Int)},(∀p∈R,f p.1=g p.1)->qg f R=qg g R
 | [],_=>rfl
 | q::R,h=>by
   rw [jQ,jQ,h q List.mem_cons_self,ja7 fun p hp=>h p (List.mem_cons_of_mem _ hp)]
theorem jbZ (f g:Int->Int):∀R:List (Int×Int),qg (fun h=>f h+g h) R=qg f R+qg g R
 | []=>rfl
 | q::R=>by
   rw [jQ,jQ,jQ,jbZ f g R,Int.add_mul]
   omega
theorem ZC (c:Int) (f:Int->Int):∀R:List (Int×Int),qg (fun h=>c*f h) R=c*qg f R
 | []=>by show (0:Int)=c*0;omega
 | q::R=>by
   rw [jQ,jQ,ZC c f R,Int.mul_add,Int.mul_assoc]
theorem jcu (f:Nat->Int->Int) (R:List (Int×Int)):∀n,qg (fun h=>jP (fun i=>f i h) n) R=jP (fun i=>qg (f i) R) n
 | 0=>by
   show qg (fun _=>0) R=0
   rw [show (fun _:Int=>(0:Int))=(fun h=>0*(fun _=>0) h) from by funext h;omega,ZC]
   omega
 | n+1=>by
   show qg (fun h=>jP (fun i=>f i h) n+f n h) R=jP (fun i=>qg (f i) R) n+qg (f n) R
   rw [jbZ,jcu f R n]
theorem jg5 (Q:List Int) (R:List (Int×Int)):qg (fun h=>zd Q (fun j=>qy (h-j))) R=zd Q (fun j=>qg (fun h=>qy (h-j)) R):=by
 unfold zd
 rw [jcu (fun i h=>(Q.getD (i+1) 0-Q.getD i 0)*qy (h-((i:Int)+1))) R]
 exact qv fun i _=>ZC _ (fun h=>qy (h-((i:Int)+1))) R
theorem jhu {Q:List Int} (hQ:Q≠[]) {R:List (Int×Int)} (h0:∀p∈R,0<=p.1):qg (JG Q) R=Q.getD 0 0*qg (fun h=>qy (h-0)) R+zd Q (fun j=>qg (fun h=>qy (h-j)) R):=by
 rw [ja7 (g:=fun h=>Q.getD 0 0*qy (h-0)+zd Q (fun j=>qy (h-j))) fun p hp=>?_,jbZ,ZC,jg5]
 have:=h0 p hp
 rw [jeH hQ this]
 congr 2
 unfold qy
 split <;> omega
theorem jh7 {l:List D} (i:Nat):L2.jaM l none (some (i:Int))=l.take i:=by
 unfold L2.jaM
 rw [HT.sIx_none,HT.sIx_nat]
 show (l.drop 0).take (min i l.length-0)=_
 rw [List.drop_zero,Nat.sub_zero]
 rcases Nat.le_total i l.length with h | h
 . rw [Nat.min_eq_left h]
 . rw [Nat.min_eq_right h,List.take_of_length_le (Nat.le_refl _),List.take_of_length_le h]
theorem jlZ {Q:List Int} (h:Q≠[]):jN (.lst (Q.map D.int)) (.int (-1))=some (.int (JS Q)):=by
 have hp:=List.length_pos_iff.mpr h
 have e:ixN (Q.map D.int).length (-1)=some (Q.length-1):=by
  unfold ixN
  rw [if_neg (by decide),if_pos (by rw [List.length_map];omega),List.length_map]
  congr 1
  omega
 show atI (Q.map D.int) (-1)=_
 unfold atI
 rw [e,Option.bind_some,List.getElem?_map,jfA h,List.getD_eq_getElem?_getD,List.getElem?_eq_getElem (by omega)]
 rfl
theorem jg4 {Q:List Int} (hQ:Q≠[]) (hl:Q.length<1000) {h:Int} (h0:0<=h) (h1:h<1000000000000000000):zm [.int h,.lst (Q.map D.int)]=some (.int (JG Q h)):=by
 unfold zm
 refine zZ (ρ:=[.sh (.int h),.sh (.lst (Q.map D.int)),.un]) rfl rfl fun C fin=>?_
 unfold Jc
 have ln:j5 [.lst (Q.map D.int)]=some (.int (Q.length:Int)):=by show some (D.int ((Q.map D.int).length:Int))=_;rw [List.length_map]
 refine jI [.sh (.int h),.sh (.lst (Q.map D.int)),.sh (.int (if 0>h-Q.length then 0 else h-Q.length))] (qi (jy (js (jn rfl (jy rfl ln) j2) (js rfl rfl)) rfl)) ?_
 have sl:eSl (ja 1) pNo (pSo (ja 0)) [.sh (.int h),.sh (.lst (Q.map D.int)),.sh (.int (if 0>h-Q.length then 0 else h-Q.length))]=some ((Q.take h.toNat).map D.int):=by
  have e:h=((h.toNat:Nat):Int):=by omega
  have q:=jh7 (l:=Q.map D.int) h.toNat
  rw [<-e,<- List.map_take] at q
  show some (L2.jaM (Q.map D.int) none (some h))=_
  rw [q]
 have b1:-18446744073709551616<(if 0>h-(Q.length:Int) then 0 else h-(Q.length:Int))/\(if 0>h-(Q.length:Int) then 0 else h-(Q.length:Int))<18446744073709551616:=by split <;> omega
 exact ZH (jaE (jn (jy (js (zr sl) rfl) jbF) (jn rfl (jn rfl rfl (jlZ hQ)) (Je b1.1 b1.2)) jK)) fin
theorem jcb {fl:List Ship} (hfl:∀s∈fl,s.Ok) (hl:fl.length<=8) {P:List (List Int)} (hP:PlanOk fl P):zo [.lst (fl.map ji),.lst (P.map jE)]=some .non:=by
 have em:=jb2 hfl (by omega)
 have ep:=jdT (fun s hs=>jm4 (hfl s hs)) (by omega) hP
 unfold zo qX
 rw [if_pos (show ([.lst (fl.map ji),.lst (P.map jE)]:List D).length=2 from rfl)]
 unfold Jj
 show jch (jr _ _ [.sh (.lst (fl.map ji)),.sh (.lst (P.map jE))])=_
 rw [zk (ρ':=[.sh (.lst (fl.map ji)),.sh (.lst (P.map jE))]) (by unfold Zw;rw [jy rfl em]),Jn (Zy (b:=true) (qx (jy rfl ep)))]
 rfl
theorem jeG {fl:List Ship} (hfl:∀s∈fl,s.Ok) (hlen:fl.length<=8) {P:List (List Int)} (hP:PlanOk fl P) {j:Nat} (hj:j<(jq fl).length):zq P j<=8000000000000000*zv fl j:=by
 obtain ⟨sh,_,cell⟩:=jd8 hP
 have hL:=Jl hfl hj
 rw [jf3 sh]
 refine Int.le_trans (Qy (g:=fun _=>1000000000000000*zv fl j) fun i hi=>?_) ?_
 . refine Int.le_trans (cell i j hi hj).2 ?_
   rw [jf0 hi hj]
   have ok:=hfl _ (jc6 hi)
   have m1:=Int.mul_le_mul_of_nonneg_right ok.m1 (Int.le_of_lt hL.1)
   unfold qF
   split
   . exact m1
   . have:=Int.mul_nonneg (show (0:Int)<=1000000000000000 by decide) (Int.le_of_lt hL.1)
     omega
 . rw [JY]
   have:(fl.length:Int)*(1000000000000000*zv fl j)<=8*(1000000000000000*zv fl j):=Int.mul_le_mul_of_nonneg_right (by omega) (Int.mul_nonneg (by decide) (Int.le_of_lt hL.1))
   omega
theorem jhl {T l:Int} (hl:0<l) (h0:0<=T) (h:T<=8000000000000000*l):0<=T/l/\T/l<=8000000000000000:=by
 refine ⟨Int.ediv_nonneg h0 (Int.le_of_lt hl),?_⟩
 have:=Int.ediv_le_ediv hl h
 rwa [Int.mul_ediv_cancel _ (by omega)] at this
theorem jcD {fl:List Ship} (hfl:∀s∈fl,s.Ok) (hlen:fl.length<=8) {P:List (List Int)} (hP:PlanOk fl P) {Q:List Int} (hQ:Q≠[]) (hl:Q.length<1000) :
 jbz [.lst (fl.map ji),.lst (P.map jE),.lst (Q.map D.int)]=some (.int (Q.getD 0 0*j4 fl P 0+zd Q (j4 fl P))):=by
 have hPl:=hP.len
 have em:=jcb hfl hlen hP
 obtain ⟨R,eR,_,pos,hRl,hf⟩:=jgN (Pk:=fun k=>0<=k/\k<=8000000000000001) hfl hlen hP.rows (by omega) fun j hj=>by
  have:=jhl (Jl hfl hj).1 (jfW hP hj) (jeG hfl hlen hP hj)
  omega
 have hh:=jgM hf
 have hs:=jdo hfl hlen
 have pos':∀p∈R,0<=p.1/\1<=p.2:=fun p hp=>⟨(pos p hp).1.1,(pos p hp).2⟩
 have zM:∀p∈R,p.2<18446744073709551616:=fun p hp=>by have:=jji pos' p hp;omega
 have key:qg (JG Q) R=Q.getD 0 0*j4 fl P 0+zd Q (j4 fl P):=by
  rw [jhu hQ fun p hp=>(pos p hp).1.1,jcz hfl hf 0]
  congr 1
  unfold zd
  exact qv fun i _=>by dsimp only;rw [jcz hfl hf]
 unfold jbz
 refine zZ (ρ:=[.sh (.lst (fl.map ji)),.sh (.lst (P.map jE)),.sh (.lst (Q.map D.int))]) rfl rfl fun C fin=>?_
 unfold jfi
 refine jI [.sh (.lst (fl.map ji)),.sh (.lst (P.map jE)),.sh (.lst (Q.map D.int))] (by unfold Zw;rw [jy rfl em]) ?_
 refine ZH (jaE (jy (js (zr (l:=(R.map fun p=>p.2*JG Q p.1).map D.int) (zy (qS (zr (jy rfl eR))) (by rw [List.length_map];omega) ?_)) rfl) jbF)) ?_
 . rw [List.map_map]
   refine Qn jm _ R fun p hp=>⟨[.sh (.int p.1),.sh (.int p.2),.sh (.lst (Q.map D.int))],rfl,rfl,jn rfl (jy rfl (jg4 hQ hl (pos p hp).1.1 (by have:=(pos p hp).1.2;omega))) (Je ?_ (zM p hp))⟩
   have:=(pos p hp).2
   omega
 . have e:(R.map fun p=>p.2*JG Q p.1).sum=qg (JG Q) R:=by
    unfold qg
    congr 1
    exact List.map_congr_left fun p _=>Int.mul_comm _ _
   rw [e,key]
   exact fin
theorem jde (fl:List Ship):plain 40 (.lst (fl.map ji)):=fun x hx=>by
 obtain ⟨s,_,rfl⟩:=List.mem_map.mp hx
 intro y hy
 rcases List.mem_cons.mp hy with rfl | hy
 . trivial
 rcases List.mem_cons.mp hy with rfl | hy
 . trivial
 rcases List.mem_cons.mp hy with rfl | hy
 . trivial
 rw [List.mem_singleton.mp hy];trivial
theorem jeQ (l:List Int):plain 40 (.lst (l.map D.int)):=fun x hx=>by
 obtain ⟨i,_,rfl⟩:=List.mem_map.mp hx
 trivial
theorem jeX (P:List (List Int)):plain 40 (.lst (P.map jE)):=fun d hd=>by
 obtain ⟨r,_,rfl⟩:=List.mem_map.mp hd
 intro y hy
 obtain ⟨i,_,rfl⟩:=List.mem_map.mp hy
 trivial
theorem jkE:Ju (.int 10) (.int 30)=some (.int 1000000000000000000000000000000):=by rw [J9 (by unfold jaN;omega)];rfl
theorem jmU:Ju (.int 10) (.int 20)=some (.int 100000000000000000000):=by rw [J9 (by unfold jaN;omega)];rfl
theorem jdw (ns:List Int):∃Q:List Int,Jz [.scr ns]=some (Q.map D.int)/\Q≠[]/\Q.length<=60/\∀q∈Q,-10000000000000000000000000000000<=q/\q<=10000000000000000000000000000000:=by
 suffices main:∀C:Res->Prop,(∀Q:List Int,Q≠[]->Q.length<=60->(∀q∈Q,-10000000000000000000000000000000<=q/\q<=10000000000000000000000000000000)->C (.retO (Q.map D.int)))->C (zF [.sh (.scr ns),.un,.un,.un,.un,.un]) by
  exact main (fun r=>∃Q:List Int,jaJ r=some (Q.map D.int)/\Q≠[]/\Q.length<=60/\∀q∈Q,-10000000000000000000000000000000<=q/\q<=10000000000000000000000000000000) fun Q h1 h2 h3=>⟨Q,rfl,h1,h2,h3⟩
 intro C fin
 have ec:=jbk ns 0 (by omega)
 have ec1:=jbk ns 1 (by omega)
 generalize cell ns 0=c at ec
 generalize cell ns 1=d at ec1
 unfold zF
 refine jI [.sh (.scr ns),.sh (.int c),.un,.un,.un,.un] (qi (jy rfl ec)) ?_
 obtain ⟨p,hp,ep⟩:=jam (ns:=[c/4%10,c/4%1000000000000000000000000000000,0-c/4%10,0-c/4%1000000000000000000000000000000]) (i:=c%4) (by omega) (by show c%4<4;omega)
 have hp':-1000000000000000000000000000000<=p/\p<=1000000000000000000000000000000:=by
  simp only [List.mem_cons,List.not_mem_nil,or_false] at hp
  omega
 clear hp
 refine jI [.sh (.scr ns),.sh (.int c),.sh (.int p),.un,.un,.un] (qi (jn (zr (by unfold zw;rw [js (jn (jn rfl rfl (jV (by decide) (by decide))) rfl (jC (by decide))) (js (jn (jn rfl rfl (jV (by decide) (by decide))) (jn rfl rfl jkE) (jC (by decide))) (js (jn rfl (jn (jn rfl rfl (jV (by decide) (by decide))) rfl (jC (by decide))) j2) (js (jn rfl (jn (jn rfl rfl (jV (by decide) (by decide))) (jn rfl rfl jkE) (jC (by decide))) j2) rfl)))];rfl)) (jn rfl rfl (jC (by decide))) ep)) ?_
 refine jI [.sh (.scr ns),.sh (.int c),.sh (.int p),.ow ([p].map D.int),.un,.un] rfl ?_
 refine jI [.sh (.scr ns),.sh (.int c),.sh (.int p),.ow ([p].map D.int),.sh (.int (d/60)),.un] (qi (jn (jy rfl ec1) rfl (jV (by decide) (by decide)))) ?_
 refine jeE (fun j:Nat=>D.int (j:Int)) (d%60).toNat (fun j ρ=>∃(Q:List Int) (p r:Int) (z:Slot),Q≠[]/\Q.length=1+j/\(-1000000000000000000000000000000<=p/\p<=1000000000000000000000000000000+j*100000000000000000000)/\(∀q∈Q,-10000000000000000000000000000000<=q/\q<=10000000000000000000000000000000)/\ρ=[.sh (.scr ns),.sh (.int c),.sh (.int p),.ow (Q.map D.int),.sh (.int r),z])
  (by rw [J2 (j:=d%60) (js (jn (jy rfl ec1) rfl (jC (by decide))) rfl) (by omega) (by omega),jhW]) ⟨[p],p,_,_,by simp,rfl,by omega,fun q hq=>by rw [List.mem_singleton.mp hq];omega,rfl⟩ ?_ ?_
 . rintro j ρ hj ⟨Q,p,r,z,h1,h2,h3,h4,rfl⟩
   obtain ⟨x,hx,ex⟩:=jam (ns:=[0,1+r/3%5,r/3%100000000000000000000]) (i:=r%3) (by omega) (by show r%3<3;omega)
   have hx':0<=x/\x<=100000000000000000000:=by
    simp only [List.mem_cons,List.not_mem_nil,or_false] at hx
    omega
   clear hx
   refine ⟨[.sh (.scr ns),.sh (.int c),.sh (.int p),.ow (Q.map D.int),.sh (.int r),.sh (.int (j:Int))],[.sh (.scr ns),.sh (.int c),.sh (.int (p+x)),.ow ((Q++[p+x]).map D.int),.sh (.int (r/30)),.sh (.int (j:Int))],rfl,?_,Q++[p+x],p+x,r/30,_,by simp,by rw [List.length_append,h2];rfl,by omega,fun q hq=>?_,rfl⟩
   . refine (zk (qi (jn rfl (jn (zr (by unfold zw;rw [js rfl (js (jn rfl (jn (jn rfl rfl (jV (by decide) (by decide))) rfl (jC (by decide))) jK) (js (jn (jn rfl rfl (jV (by decide) (by decide))) (jn rfl rfl jmU) (jC (by decide))) rfl))];rfl)) (jn rfl rfl (jC (by decide))) ex) jK))).trans ((zk (jiw (ds:=Q.map D.int) rfl rfl (by rw [List.length_map];omega))).trans ((qi (jn rfl rfl (jV (by decide) (by decide)))).trans ?_))
     rw [List.map_append]
     rfl
   . rcases List.mem_append.mp hq with hq | hq
     . exact h4 q hq
     . rw [List.mem_singleton.mp hq];omega
 . rintro ρ ⟨Q,p,r,z,h1,h2,h3,h4,rfl⟩
   exact fin Q h1 (by omega) h4
theorem ja8 {fl:List Ship} {P:List (List Int)} (hP:PlanOk fl P):j4 fl P 0=(fl.map (·.n)).sum:=by
 obtain ⟨sh,row,_⟩:=jd8 hP
 unfold j4
 have e1:jP (fun j=>qy (zq P j-0*zv fl j)) (jq fl).length=jP (fun s=>jP (fun i=>at2 P i s) fl.length) (jq fl).length:=qv fun j hj=>by
  have:=jfW hP hj
  rw [<-jf3 sh,Int.zero_mul,Int.sub_zero]
  unfold qy
  split <;> omega
 rw [e1,<- jco]
 have e2:=ja1 (fun s:Ship=>s.n) ⟨0,0,0,0⟩ fl
 rw [e2]
 exact qv fun i hi=>by rw [row i hi,jfw hi];rfl
theorem jbY {fl:List Ship} (hfl:∀s∈fl,s.Ok) (hlen:fl.length<=8):0<=(fl.map (·.n)).sum/\(fl.map (·.n)).sum<=8000000000000000000000000000000:=by
 have e:=ja1 (fun s:Ship=>s.n) ⟨0,0,0,0⟩ fl
 rw [e]
 refine ⟨jgh fun i hi=>(hfl _ (jc6 hi)).n0,Int.le_trans (Qy (g:=fun _=>1000000000000000000000000000000) fun i hi=>?_) ?_⟩
 . have ok:=hfl _ (jc6 hi)
   have a:=Int.mul_le_mul_of_nonneg_left ok.long ok.m0
   have b:=ok.m1
   have c:=ok.n1
   show (shp fl i).n<=_
   omega
 . rw [JY]
   omega
theorem jhY {fl:List Ship} (hfl:∀s∈fl,s.Ok) (hlen:fl.length<=8) {P:List (List Int)} (hP:PlanOk fl P) {k:Int} (hk:0<=k):0<=j4 fl P k/\j4 fl P k<=8000000000000000000000000000000:=by
 refine ⟨jgh fun j _=>by unfold qy;split <;> omega,Int.le_trans ?_ (jbY hfl hlen).2⟩
 rw [<-ja8 hP]
 refine Qy fun j hj=>?_
 have:=Int.mul_nonneg hk (Int.le_of_lt (Jl hfl hj).1)
 rw [Int.zero_mul]
 unfold qy
 split <;> split <;> omega
theorem big {x:Int} (h1:-100000000000000000000000000000000<=x) (h2:x<=100000000000000000000000000000000):x.natAbs<2 ^ 400:=by
 have:(100000000000000000000000000000000:Nat)<2 ^ 400:=by decide
 omega
theorem jfR {fl:List Ship} (hl:fl.length<=8) {ρ:L2.Env} (h:ja 1 ρ=some (.lst (fl.map ji))):jg Q6 (jc (jL (QN (j8 (ja 1)) (jG 0) (fun _=>some true) (jj jN (ja 0) (eC (.int 2))) 1 [])) jk) ρ=some (.int (fl.map (·.n)).sum):=by
 refine jy (js (zr (l:=(fl.map (·.n)).map D.int) (zy (qS h) (by rw [List.length_map];omega) ?_)) rfl) jbF
 rw [List.map_map]
 exact Qn ji _ fl fun s _=>⟨[.sh (ji s)],rfl,rfl,jn rfl rfl ZW⟩
theorem jjx {Q:List Int} {B:Int} (hB:0<=B) (h:∀q∈Q,-B<=q/\q<=B) (i:Nat):-B<=Q.getD i 0/\Q.getD i 0<=B:=by
 rw [List.getD_eq_getElem?_getD]
 by_cases hi:i<Q.length
 . rw [List.getElem?_eq_getElem hi]
   exact h _ (List.getElem_mem hi)
 . rw [List.getElem?_eq_none (by omega)]
   exact ⟨by show -B<=0;omega,hB⟩
theorem jiF (ns:List Int) (hns:ns.length<=63):jkw [.scr ns]=some (.bl true):=by
 obtain ⟨fl,hfl,hlen,efl⟩:=jj5 ns 3 (by decide)
 obtain ⟨cs,ecs,hcs⟩:=jir ns (some 12) (some 54)
 obtain ⟨P,hP,epl⟩:=jhd fl hfl (by omega) (cs++[0]) (by simp) (by rw [List.length_append];simp;omega)
 have epa:=jbe fl (by omega)
 have hPl:=hP.len
 have hr:=hP.rows
 obtain ⟨Q,eQ,hQ,hQl,hQb⟩:=jdw ns
 have ecat:=joL (cs:=cs) (by omega)
 have hSl:=QJ (fl:=fl) (by omega)
 have eco:=jcD hfl (by omega) hP hQ (by omega)
 have ec1:=jcD hfl (by omega) hP (Q:=[Q.getD 0 0]) (by simp) (by simp)
 have hbd:=jjx (by omega) hQb
 have hN:=jbY hfl (by omega)
 have hz:=ja8 hP
 rw [hz] at eco ec1
 have hm:qw (.int (Q.getD 0 0)) (.int (fl.map (·.n)).sum)=some (.int (Q.getD 0 0*(fl.map (·.n)).sum)):=jhQ (big (by have:=hbd 0;omega) (by have:=hbd 0;omega)) (big (by omega) (by omega))
 have hp:0<Q.length:=List.length_pos_iff.mpr hQ
 refine zZ (m:=jgb) (ρ:=[.sh (.scr ns),.un,.un,.un,.un,.un,.un,.un,.un,.un,.un,.un]) rfl rfl ?_
 intro C fin
 unfold jgb
 refine jI [.sh (.scr ns),.sh (.lst (fl.map ji)),.un,.un,.un,.un,.un,.un,.un,.un,.un,.un] (zQ (jy rfl efl)) ?_
 refine jI [.sh (.scr ns),.sh (.lst (fl.map ji)),.sh (.lst ((jq fl).map jm)),.un,.un,.un,.un,.un,.un,.un,.un,.un] (zQ (jy rfl epa)) ?_
 refine jI [.sh (.scr ns),.sh (.lst (fl.map ji)),.sh (.lst ((jq fl).map jm)),.sh (.lst (P.map jE)),.un,.un,.un,.un,.un,.un,.un,.un] (zQ (jy (js rfl (js (zr (jn (zr (by simp (disch:=omega) only [eSl,ja,List.getElem?_cons_zero,pSo,eC,Option.bind_some,Option.map_some];rw [ecs])) rfl ecat)) rfl)) epl)) ?_
 refine jI [.sh (.scr ns),.sh (.lst (fl.map ji)),.sh (.lst ((jq fl).map jm)),.sh (.lst (P.map jE)),.sh (.lst (Q.map D.int)),.un,.un,.un,.un,.un,.un,.un] (zQ (jy rfl eQ)) ?_
 refine jI [.sh (.scr ns),.sh (.lst (fl.map ji)),.sh (.lst ((jq fl).map jm)),.sh (.lst (P.map jE)),.sh (.lst (Q.map D.int)),.sh (.lst (P.map jE)),.un,.un,.un,.un,.un,.un] (zQ (jgY (by omega) rfl)) ?_
 refine jI [.sh (.scr ns),.sh (.lst (fl.map ji)),.sh (.lst ((jq fl).map jm)),.sh (.lst (P.map jE)),.sh (.lst (Q.map D.int)),.sh (.lst (P.map jE)),.sh (.lst (Q.map D.int)),.un,.un,.un,.un,.un] (zQ (jy (f:=Qm) rfl rfl)) ?_
 refine jI [.sh (.scr ns),.sh (.lst (fl.map ji)),.sh (.lst ((jq fl).map jm)),.sh (.lst (P.map jE)),.sh (.lst (Q.map D.int)),.sh (.lst (P.map jE)),.sh (.lst (Q.map D.int)),.sh (.lst (fl.map ji)),.un,.un,.un,.un] (zQ (jy (f:=Qm) rfl rfl)) ?_
 refine jI [.sh (.scr ns),.sh (.lst (fl.map ji)),.sh (.lst ((jq fl).map jm)),.sh (.lst (P.map jE)),.sh (.lst (Q.map D.int)),.sh (.lst (P.map jE)),.sh (.lst (Q.map D.int)),.sh (.lst (fl.map ji)),.sh (.int (Q.getD 0 0*(fl.map (·.n)).sum+zd Q (j4 fl P))),.un,.un,.un] (qi (jy rfl eco)) ?_
 refine jI [.sh (.scr ns),.sh (.lst (fl.map ji)),.sh (.lst ((jq fl).map jm)),.sh (.lst (P.map jE)),.sh (.lst (Q.map D.int)),.sh (.lst (P.map jE)),.sh (.lst (Q.map D.int)),.sh (.lst (fl.map ji)),.sh (.int (Q.getD 0 0*(fl.map (·.n)).sum+zd Q (j4 fl P))),.un,.un,.un] (Jn (jbN (qx (jn rfl rfl (jbg (jde fl)))) (jbN (qx (jn rfl rfl (jbg (jeX P)))) (qx (jn rfl rfl (jbg (jeQ Q))))))) ?_
 refine jI [.sh (.scr ns),.sh (.lst (fl.map ji)),.sh (.lst ((jq fl).map jm)),.sh (.lst (P.map jE)),.sh (.lst (Q.map D.int)),.sh (.lst (P.map jE)),.sh (.lst (Q.map D.int)),.sh (.lst (fl.map ji)),.sh (.int (Q.getD 0 0*(fl.map (·.n)).sum+zd Q (j4 fl P))),.sh (.int (Q.getD 0 0*(fl.map (·.n)).sum)),.un,.un] (qi (jn (jn rfl rfl (J5 hp)) (jfR (by omega) rfl) hm)) ?_
 refine jeE (fun j:Nat=>D.int (1+(j:Int))) (Q.length-1) (fun j ρ=>∃(y z:Slot),ρ=[.sh (.scr ns),.sh (.lst (fl.map ji)),.sh (.lst ((jq fl).map jm)),.sh (.lst (P.map jE)),.sh (.lst (Q.map D.int)),.sh (.lst (P.map jE)),.sh (.lst (Q.map D.int)),.sh (.lst (fl.map ji)),.sh (.int (Q.getD 0 0*(fl.map (·.n)).sum+zd Q (j4 fl P))),.sh (.int (Q.getD 0 0*(fl.map (·.n)).sum+jP (fun i=>(Q.getD (i+1) 0-Q.getD i 0)*j4 fl P ((i:Int)+1)) j)),y,z]) ?_ ⟨.un,.un,by rw [show jP _ 0=0 from rfl,Int.add_zero]⟩ ?_ ?_
 . unfold jhV
   rw [js rfl (js (jy (ds:=[.lst (Q.map D.int)]) (f:=j5) rfl (show j5 [.lst (Q.map D.int)]=some (.int (Q.length:Int)) from by show some (D.int ((Q.map D.int).length:Int))=_;rw [List.length_map])) rfl)]
   dsimp only
   rw [if_pos ⟨by omega,by omega,by omega,by omega⟩,show ((Q.length:Int)-1).toNat=Q.length-1 by omega]
   rfl
 . rintro j ρ hj ⟨y,z,rfl⟩
   have e1:=J5 (l:=Q) (i:=j+1) (by omega)
   have e0:=J5 (l:=Q) (i:=j) (by omega)
   rw [show ((j+1:Nat):Int)=1+(j:Int) by omega] at e1
   rw [show (j:Int)=1+(j:Int)-1 by omega] at e0
   have b1:=hbd (j+1)
   have b0:=hbd j
   have el:=jd5 hfl (by omega) hr (by omega) (1+(j:Int))
   have ab:=jhY hfl (by omega) hP (k:=1+(j:Int)) (by omega)
   refine ⟨[.sh (.scr ns),.sh (.lst (fl.map ji)),.sh (.lst ((jq fl).map jm)),.sh (.lst (P.map jE)),.sh (.lst (Q.map D.int)),.sh (.lst (P.map jE)),.sh (.lst (Q.map D.int)),.sh (.lst (fl.map ji)),.sh (.int (Q.getD 0 0*(fl.map (·.n)).sum+zd Q (j4 fl P))),.sh (.int (Q.getD 0 0*(fl.map (·.n)).sum+jP (fun i=>(Q.getD (i+1) 0-Q.getD i 0)*j4 fl P ((i:Int)+1)) j)),.sh (.int (1+(j:Int))),z],[.sh (.scr ns),.sh (.lst (fl.map ji)),.sh (.lst ((jq fl).map jm)),.sh (.lst (P.map jE)),.sh (.lst (Q.map D.int)),.sh (.lst (P.map jE)),.sh (.lst (Q.map D.int)),.sh (.lst (fl.map ji)),.sh (.int (Q.getD 0 0*(fl.map (·.n)).sum+zd Q (j4 fl P))),.sh (.int (Q.getD 0 0*(fl.map (·.n)).sum+jP (fun i=>(Q.getD (i+1) 0-Q.getD i 0)*j4 fl P ((i:Int)+1)) j+(Q.getD (j+1) 0-Q.getD j 0)*j4 fl P (1+(j:Int)))),.sh (.int (1+(j:Int))),.sh (.int (Q.getD (j+1) 0-Q.getD j 0))],rfl,?_,.sh (.int (1+(j:Int))),.sh (.int (Q.getD (j+1) 0-Q.getD j 0)),?_⟩
   . exact (zk (qi (jn (jn rfl rfl e1) (jn rfl (jn rfl rfl j2) e0) j2))).trans (qi (jn rfl (jn rfl (jy rfl el) (jhQ (big (by omega) (by omega)) (big (by omega) (by omega)))) jK))
   . rw [show jP (fun i:Nat=>(Q.getD (i+1) 0-Q.getD i 0)*j4 fl P ((i:Int)+1)) (j+1)=jP (fun i=>(Q.getD (i+1) 0-Q.getD i 0)*j4 fl P ((i:Int)+1)) j+(Q.getD (j+1) 0-Q.getD j 0)*j4 fl P ((j:Int)+1) from rfl,Int.add_comm (j:Int) 1,Int.add_assoc]
 rintro ρ ⟨y,z,rfl⟩
 refine jI [.sh (.scr ns),.sh (.lst (fl.map ji)),.sh (.lst ((jq fl).map jm)),.sh (.lst (P.map jE)),.sh (.lst (Q.map D.int)),.sh (.lst (P.map jE)),.sh (.lst (Q.map D.int)),.sh (.lst (fl.map ji)),.sh (.int (Q.getD 0 0*(fl.map (·.n)).sum+zd Q (j4 fl P))),.sh (.int (Q.getD 0 0*(fl.map (·.n)).sum+jP (fun i=>(Q.getD (i+1) 0-Q.getD i 0)*j4 fl P ((i:Int)+1)) (Q.length-1))),y,z] (Jn (jbN (Zy (b:=true) (qx rfl)) (jbN (qx rfl) (qx (jn rfl rfl (jjD rfl)))))) ?_
 refine ZH (jaE (jn (jy (js rfl (js rfl (js (zr (l:=[Q.getD 0 0].map D.int) ?_) rfl))) ec1) (jn (jn rfl rfl (J5 hp)) (jfR (by omega) rfl) hm) (jjT ?_))) fin
 . have q:=jh7 (l:=Q.map D.int) 1
   unfold eSl
   show some (L2.jaM (Q.map D.int) none (some 1))=_
   rw [show (1:Int)=((1:Nat):Int) from rfl,q]
   cases Q with
   | nil=>exact absurd rfl hQ
   | cons a l=>rfl
 . show _*_+jP _ 0=_
   exact Int.add_zero _
end Q
section
set_option Elab.async false
set_option linter.all false
set_option maxRecDepth 100000
set_option maxHeartbeats 4000000
namespace Q
open PySem PySem.Spec PyProof.Rows L2
noncomputable def top (i:Nat):Stmt:=PySem.Challenge.pw_evenquay_k63_what_a_plan_costs.main.body.getD i (.Pass ⟨0,0,0,0⟩)
noncomputable abbrev qu:Stmt:=top 30
noncomputable abbrev ze:Stmt:=top 31
noncomputable abbrev qM:Stmt:=top 32
noncomputable abbrev jO:Stmt:=top 33
noncomputable abbrev qL:Stmt:=top 34
noncomputable abbrev za:Stmt:=top 35
noncomputable abbrev qC:Stmt:=top 38
noncomputable abbrev zA:Stmt:=top 11
noncomputable abbrev zb:Stmt:=top 12
noncomputable abbrev qH:Stmt:=top 13
noncomputable abbrev qf:Stmt:=top 14
noncomputable abbrev qQ:Stmt:=top 15
noncomputable abbrev zc:Stmt:=top 16
noncomputable abbrev JH:Stmt:=top 17
noncomputable abbrev Z0:Stmt:=top 18
noncomputable abbrev qk:Stmt:=top 21
noncomputable abbrev zg:Stmt:=top 20
noncomputable abbrev qq:Stmt:=top 22
noncomputable abbrev qt:Stmt:=top 27
noncomputable abbrev zC:Stmt:=top 24
noncomputable abbrev Jq:Stmt:=top 23
noncomputable abbrev JK:Stmt:=top 25
noncomputable abbrev Qi:Stmt:=top 28
noncomputable abbrev jS:Stmt:=top 36
noncomputable abbrev qP:Stmt:=top 37
noncomputable abbrev Qd:Stmt:=top 39
theorem ar1 {α:Type} {P:List α->Prop} (h:∀v0:α,P [v0]):∀us:List α,us.length=1->P us
 | [v0],_=>h v0
theorem ar2 {α:Type} {P:List α->Prop} (h:∀v0 v1:α,P [v0,v1]):∀us:List α,us.length=2->P us
 | [v0,v1],_=>h v0 v1
theorem ar3 {α:Type} {P:List α->Prop} (h:∀v0 v1 v2:α,P [v0,v1,v2]):∀us:List α,us.length=3->P us
 | [v0,v1,v2],_=>h v0 v1 v2
set_option genSizeOf false
set_option genInjectivity false
structure Adr where
 a__law_cell_at:Addr
 d__law_cell_at:FuncData
 a__law_ship:Addr
 d__law_ship:FuncData
 a__law_fleet:Addr
 d__law_fleet:FuncData
 a__law_parts:Addr
 d__law_parts:FuncData
 a__law_rooms:Addr
 d__law_rooms:FuncData
 a__law_plan:Addr
 d__law_plan:FuncData
 a__law_prices:Addr
 d__law_prices:FuncData
 a_is_whole:Addr
 d_is_whole:FuncData
 a_is_ship:Addr
 d_is_ship:FuncData
 a_is_fleet:Addr
 d_is_fleet:FuncData
 a_must_be_fleet:Addr
 d_must_be_fleet:FuncData
 a_bounds:Addr
 d_bounds:FuncData
 a_stretches:Addr
 d_stretches:FuncData
 a_length:Addr
 d_length:FuncData
 a_room:Addr
 d_room:FuncData
 a_is_share:Addr
 d_is_share:FuncData
 a_is_plan:Addr
 d_is_plan:FuncData
 a_must_be_plan:Addr
 d_must_be_plan:FuncData
 a_cost_of_hour:Addr
 d_cost_of_hour:FuncData
 a_loads_in:Addr
 d_loads_in:FuncData
 a_total:Addr
 d_total:FuncData
 a_row_of:Addr
 d_row_of:FuncData
 a_cost:Addr
 d_cost:FuncData
 a__law_totals:Addr
 d__law_totals:FuncData
 a__law_above:Addr
 d__law_above:FuncData
 a_law:Addr
 d_law:FuncData
 t_NEED:Tok
 t_MOST:Tok
 t_END:Tok
 t_BEGIN:Tok
 t_TO:Tok
 t_FROM:Tok
structure Txt (K:PySem.W.Frag) (mg:Str->Option Value) (A:Adr):Prop where
 F__law_cell_at:Fun K "_law_cell_at" "_law_cell_at" qu A.a__law_cell_at A.d__law_cell_at
 B__law_cell_at:Binds K A.d__law_cell_at ["script", "k"] []
 M__law_cell_at:mg "_law_cell_at" = some (.ref A.a__law_cell_at)
 F__law_ship:Fun K "_law_ship" "_law_ship" ze A.a__law_ship A.d__law_ship
 B__law_ship:Binds K A.d__law_ship ["one", "two", "kind"] []
 M__law_ship:mg "_law_ship" = some (.ref A.a__law_ship)
 F__law_fleet:Fun K "_law_fleet" "_law_fleet" qM A.a__law_fleet A.d__law_fleet
 B__law_fleet:Binds K A.d__law_fleet ["script", "start"] []
 M__law_fleet:mg "_law_fleet" = some (.ref A.a__law_fleet)
 F__law_parts:Fun K "_law_parts" "_law_parts" jO A.a__law_parts A.d__law_parts
 B__law_parts:Binds K A.d__law_parts ["fleet"] []
 M__law_parts:mg "_law_parts" = some (.ref A.a__law_parts)
 F__law_rooms:Fun K "_law_rooms" "_law_rooms" qL A.a__law_rooms A.d__law_rooms
 B__law_rooms:Binds K A.d__law_rooms ["ship", "parts"] []
 M__law_rooms:mg "_law_rooms" = some (.ref A.a__law_rooms)
 F__law_plan:Fun K "_law_plan" "_law_plan" za A.a__law_plan A.d__law_plan
 B__law_plan:Binds K A.d__law_plan ["fleet", "cells"] []
 M__law_plan:mg "_law_plan" = some (.ref A.a__law_plan)
 F__law_prices:Fun K "_law_prices" "_law_prices" qC A.a__law_prices A.d__law_prices
 B__law_prices:Binds K A.d__law_prices ["script"] []
 M__law_prices:mg "_law_prices" = some (.ref A.a__law_prices)
 F_is_whole:Fun K "is_whole" "is_whole" zA A.a_is_whole A.d_is_whole
 B_is_whole:Binds K A.d_is_whole ["thing"] []
 M_is_whole:mg "is_whole" = some (.ref A.a_is_whole)
 F_is_ship:Fun K "is_ship" "is_ship" zb A.a_is_ship A.d_is_ship
 B_is_ship:Binds K A.d_is_ship ["thing"] []
 M_is_ship:mg "is_ship" = some (.ref A.a_is_ship)
 F_is_fleet:Fun K "is_fleet" "is_fleet" qH A.a_is_fleet A.d_is_fleet
 B_is_fleet:Binds K A.d_is_fleet ["thing"] []
 M_is_fleet:mg "is_fleet" = some (.ref A.a_is_fleet)
 F_must_be_fleet:Fun K "must_be_fleet" "must_be_fleet" qf A.a_must_be_fleet A.d_must_be_fleet
 B_must_be_fleet:Binds K A.d_must_be_fleet ["thing"] []
 M_must_be_fleet:mg "must_be_fleet" = some (.ref A.a_must_be_fleet)
 F_bounds:Fun K "bounds" "bounds" qQ A.a_bounds A.d_bounds
 B_bounds:Binds K A.d_bounds ["fleet"] []
 M_bounds:mg "bounds" = some (.ref A.a_bounds)
 F_stretches:Fun K "stretches" "stretches" zc A.a_stretches A.d_stretches
 B_stretches:Binds K A.d_stretches ["fleet"] []
 M_stretches:mg "stretches" = some (.ref A.a_stretches)
 F_length:Fun K "length" "length" JH A.a_length A.d_length
 B_length:Binds K A.d_length ["stretch"] []
 M_length:mg "length" = some (.ref A.a_length)
 F_room:Fun K "room" "room" Z0 A.a_room A.d_room
 B_room:Binds K A.d_room ["ship", "stretch"] []
 M_room:mg "room" = some (.ref A.a_room)
 F_is_share:Fun K "is_share" "is_share" qk A.a_is_share A.d_is_share
 B_is_share:Binds K A.d_is_share ["ship", "spans", "thing"] []
 M_is_share:mg "is_share" = some (.ref A.a_is_share)
 F_is_plan:Fun K "is_plan" "is_plan" zg A.a_is_plan A.d_is_plan
 B_is_plan:Binds K A.d_is_plan ["fleet", "thing"] []
 M_is_plan:mg "is_plan" = some (.ref A.a_is_plan)
 F_must_be_plan:Fun K "must_be_plan" "must_be_plan" qq A.a_must_be_plan A.d_must_be_plan
 B_must_be_plan:Binds K A.d_must_be_plan ["fleet", "thing"] []
 M_must_be_plan:mg "must_be_plan" = some (.ref A.a_must_be_plan)
 F_cost_of_hour:Fun K "cost_of_hour" "cost_of_hour" qt A.a_cost_of_hour A.d_cost_of_hour
 B_cost_of_hour:Binds K A.d_cost_of_hour ["height", "prices"] []
 M_cost_of_hour:mg "cost_of_hour" = some (.ref A.a_cost_of_hour)
 F_loads_in:Fun K "loads_in" "loads_in" zC A.a_loads_in A.d_loads_in
 B_loads_in:Binds K A.d_loads_in ["many", "hours"] []
 M_loads_in:mg "loads_in" = some (.ref A.a_loads_in)
 F_total:Fun K "total" "total" Jq A.a_total A.d_total
 B_total:Binds K A.d_total ["plan", "place"] []
 M_total:mg "total" = some (.ref A.a_total)
 F_row_of:Fun K "row_of" "row_of" JK A.a_row_of A.d_row_of
 B_row_of:Binds K A.d_row_of ["fleet", "plan"] []
 M_row_of:mg "row_of" = some (.ref A.a_row_of)
 F_cost:Fun K "cost" "cost" Qi A.a_cost A.d_cost
 B_cost:Binds K A.d_cost ["fleet", "plan", "prices"] []
 M_cost:mg "cost" = some (.ref A.a_cost)
 F__law_totals:Fun K "_law_totals" "_law_totals" jS A.a__law_totals A.d__law_totals
 B__law_totals:Binds K A.d__law_totals ["parts", "plan"] []
 M__law_totals:mg "_law_totals" = some (.ref A.a__law_totals)
 F__law_above:Fun K "_law_above" "_law_above" qP A.a__law_above A.d__law_above
 B__law_above:Binds K A.d__law_above ["parts", "plan", "k"] []
 M__law_above:mg "_law_above" = some (.ref A.a__law_above)
 F_law:Fun K "law" "law" Qd A.a_law A.d_law
 B_law:Binds K A.d_law ["script"] []
 M_law:mg "law" = some (.ref A.a_law)
 g_NEED:mg "NEED" = some (.int 2 A.t_NEED)
 g_MOST:mg "MOST" = some (.int 3 A.t_MOST)
 g_END:mg "END" = some (.int 1 A.t_END)
 g_BEGIN:mg "BEGIN" = some (.int 0 A.t_BEGIN)
 g_TO:mg "TO" = some (.int 1 A.t_TO)
 g_FROM:mg "FROM" = some (.int 0 A.t_FROM)
 b_len:mg "len" = none
 b_min:mg "min" = none
 b_range:mg "range" = none
 b_sorted:mg "sorted" = none
 b_isinstance:mg "isinstance" = none
 b_bool:mg "bool" = none
 b_int:mg "int" = none
 b_all:mg "all" = none
 b_tuple:mg "tuple" = none
 b_list:mg "list" = none
 b_set:mg "set" = none
 b_zip:mg "zip" = none
 b_sum:mg "sum" = none
 b_max:mg "max" = none
 b_enumerate:mg "enumerate" = none
theorem jaR:FnScope ["script", "k"] ["script", "k"] (jd qu) := ⟨rfl, rfl, rfl, by decide +kernel, rfl, by decide +kernel, by decide +kernel⟩
theorem sc__law_ship:FnScope ["one", "two", "kind", "begin", "end", "most", "mixed", "full", "need"] ["one", "two", "kind"] (jd ze) := ⟨rfl, rfl, rfl, by decide +kernel, rfl, by decide +kernel, by decide +kernel⟩
theorem sc__law_fleet:FnScope ["script", "start", "cell", "fleet", "k", "one"] ["script", "start"] (jd qM) := ⟨rfl, rfl, rfl, by decide +kernel, rfl, by decide +kernel, by decide +kernel⟩
theorem sc__law_parts:FnScope ["fleet", "hours"] ["fleet"] (jd jO) := ⟨rfl, rfl, rfl, by decide +kernel, rfl, by decide +kernel, by decide +kernel⟩
theorem sc__law_rooms:FnScope ["ship", "parts", "found", "begin", "end"] ["ship", "parts"] (jd qL) := ⟨rfl, rfl, rfl, by decide +kernel, rfl, by decide +kernel, by decide +kernel⟩
theorem sc__law_plan:FnScope ["fleet", "cells", "parts", "plan", "i", "most", "left", "row", "s", "cell", "some", "at", "more"] ["fleet", "cells"] (jd za) := ⟨rfl, rfl, rfl, by decide +kernel, rfl, by decide +kernel, by decide +kernel⟩
theorem sc__law_prices:FnScope ["script", "cell", "price", "prices", "rest", "k"] ["script"] (jd qC) := ⟨rfl, rfl, rfl, by decide +kernel, rfl, by decide +kernel, by decide +kernel⟩
theorem jdV:FnScope ["thing"] ["thing"] (jd zA) := ⟨rfl, rfl, rfl, by decide +kernel, rfl, by decide +kernel, by decide +kernel⟩
theorem sc_is_ship:FnScope ["thing", "hours"] ["thing"] (jd zb) := ⟨rfl, rfl, rfl, by decide +kernel, rfl, by decide +kernel, by decide +kernel⟩
theorem jd3:FnScope ["thing"] ["thing"] (jd qH) := ⟨rfl, rfl, rfl, by decide +kernel, rfl, by decide +kernel, by decide +kernel⟩
theorem jaf:FnScope ["thing"] ["thing"] (jd qf) := ⟨rfl, rfl, rfl, by decide +kernel, rfl, by decide +kernel, by decide +kernel⟩
theorem sc_bounds:FnScope ["fleet", "begins", "ends"] ["fleet"] (jd qQ) := ⟨rfl, rfl, rfl, by decide +kernel, rfl, by decide +kernel, by decide +kernel⟩
theorem sc_stretches:FnScope ["fleet", "rising"] ["fleet"] (jd zc) := ⟨rfl, rfl, rfl, by decide +kernel, rfl, by decide +kernel, by decide +kernel⟩
theorem jgG:FnScope ["stretch"] ["stretch"] (jd JH) := ⟨rfl, rfl, rfl, by decide +kernel, rfl, by decide +kernel, by decide +kernel⟩
theorem jjp:FnScope ["ship", "stretch"] ["ship", "stretch"] (jd Z0) := ⟨rfl, rfl, rfl, by decide +kernel, rfl, by decide +kernel, by decide +kernel⟩
theorem jds:FnScope ["ship", "spans", "thing"] ["ship", "spans", "thing"] (jd qk) := ⟨rfl, rfl, rfl, by decide +kernel, rfl, by decide +kernel, by decide +kernel⟩
theorem sc_is_plan:FnScope ["fleet", "thing", "spans"] ["fleet", "thing"] (jd zg) := ⟨rfl, rfl, rfl, by decide +kernel, rfl, by decide +kernel, by decide +kernel⟩
theorem jaG:FnScope ["fleet", "thing"] ["fleet", "thing"] (jd qq) := ⟨rfl, rfl, rfl, by decide +kernel, rfl, by decide +kernel, by decide +kernel⟩
theorem sc_cost_of_hour:FnScope ["height", "prices", "beyond"] ["height", "prices"] (jd qt) := ⟨rfl, rfl, rfl, by decide +kernel, rfl, by decide +kernel, by decide +kernel⟩
theorem sc_loads_in:FnScope ["many", "hours", "least", "fuller", "counted"] ["many", "hours"] (jd zC) := ⟨rfl, rfl, rfl, by decide +kernel, rfl, by decide +kernel, by decide +kernel⟩
theorem jis:FnScope ["plan", "place"] ["plan", "place"] (jd Jq) := ⟨rfl, rfl, rfl, by decide +kernel, rfl, by decide +kernel, by decide +kernel⟩
theorem sc_row_of:FnScope ["fleet", "plan", "hours_by_load", "place", "span", "load", "hours"] ["fleet", "plan"] (jd JK) := ⟨rfl, rfl, rfl, by decide +kernel, rfl, by decide +kernel, by decide +kernel⟩
theorem jjF:FnScope ["fleet", "plan", "prices"] ["fleet", "plan", "prices"] (jd Qi) := ⟨rfl, rfl, rfl, by decide +kernel, rfl, by decide +kernel, by decide +kernel⟩
theorem jbB:FnScope ["parts", "plan"] ["parts", "plan"] (jd jS) := ⟨rfl, rfl, rfl, by decide +kernel, rfl, by decide +kernel, by decide +kernel⟩
theorem sc__law_above:FnScope ["parts", "plan", "k", "found", "told", "s"] ["parts", "plan", "k"] (jd qP) := ⟨rfl, rfl, rfl, by decide +kernel, rfl, by decide +kernel, by decide +kernel⟩
theorem sc_law:FnScope ["script", "fleet", "parts", "plan", "prices", "handed", "listed", "ships", "found", "due", "j", "step"] ["script"] (jd Qd) := ⟨rfl, rfl, rfl, by decide +kernel, rfl, by decide +kernel, by decide +kernel⟩
section
variable {P:Program} {w:World} {K:PySem.W.Frag} {mg:Str->Option Value} {base:Heap} {A:Adr}
theorem qe (T:Txt K mg A):FnOk P w K mg base Qc 1 A.a__law_cell_at A.d__law_cell_at ["script", "k"] (@spS ⟨K⟩ jT) :=
 zN (m:=Jk) T.F__law_cell_at jaR rfl rfl fun cdv Ar outer s H E hr=>
  (jf (zI (zx jmQ (jb 1) (WE.toT (qG b_len (fun _=>rfl) (fun _=>T.b_len) PySem.boot_len (jl (jb 0) jt))))
   (jo (j6 (jU (jb 0) (jb 1)))) qm)
   (jo (j6 jh)))
theorem jcW (T:Txt K mg A):FnOk P w K mg base Qc 1 A.a__law_ship A.d__law_ship ["one", "two", "kind"] (@spS ⟨K⟩ qY) :=
 zN (m:=Qj) T.F__law_ship sc__law_ship rfl rfl fun cdv Ar outer s H E hr=>
  (jf (jD (i:=3) (zp (WE.toT (j7 (jb 0) (WE.toT jh))) (WE.toT jh)) (fun _=>sc__law_ship.nd) rfl (fun _=>Or.inl rfl) (fun _=>Or.inl rfl))
   (jf (jD (i:=4) (qA (WE.toT (qA (jb 3) (WE.toT jh))) (WE.toT (j7 (WE.toT (zt (jb 0) (WE.toT jh))) (WE.toT jh)))) (fun _=>sc__law_ship.nd) rfl (fun _=>Or.inl rfl) (fun _=>Or.inl rfl))
   (jf (zI (zx (jiZ fun _=>hr.units) (jb 2) (WE.toT jh))
   (jf (jD (i:=3) (zp (WE.toT (j7 (jb 0) (WE.toT jh))) (WE.toT jh)) (fun _=>sc__law_ship.nd) rfl (fun _=>Or.inl rfl) (fun _=>Or.inl rfl))
   (jo (jD (i:=4) (qA (WE.toT (qA (jb 3) (WE.toT jh))) (WE.toT (j7 (WE.toT (zt (jb 0) (WE.toT jh))) (WE.toT jh)))) (fun _=>sc__law_ship.nd) rfl (fun _=>Or.inl rfl) (fun _=>Or.inl rfl)))) qm)
   (jf (zI (zx (jiZ fun _=>hr.units) (jb 2) (WE.toT jh))
   (jf (jD (i:=3) (qZ (WE.toT (zp (WE.toT (j7 (WE.toT (qZ (jb 0) (WE.toT jh))) (WE.toT jh))) (WE.toT (ja9 (WE.toT jh) (WE.toT jh))))) (WE.toT (ja9 (WE.toT jh) (WE.toT jh)))) (fun _=>sc__law_ship.nd) rfl (fun _=>Or.inl rfl) (fun _=>Or.inl rfl))
   (jo (jD (i:=4) (qA (WE.toT (qA (jb 3) (WE.toT jh))) (WE.toT (qZ (WE.toT (j7 (WE.toT (qZ (jb 0) (WE.toT jh))) (WE.toT jh))) (WE.toT (ja9 (WE.toT jh) (WE.toT jh)))))) (fun _=>sc__law_ship.nd) rfl (fun _=>Or.inl rfl) (fun _=>Or.inl rfl)))) qm)
   (jf (jD (i:=5) (jU (WE.toT (WO.toE (JN (je jh (je jh (je jh (je jh (je (ja9 (WE.toT jh) (WE.toT jh)) (je (qA (WE.toT jh) (WE.toT (j7 (WE.toT (zt (jb 1) (WE.toT jh))) (WE.toT jh)))) (je jh (je jh ju))))))))))) (WE.toT (j7 (jb 1) (WE.toT jh)))) (fun _=>sc__law_ship.nd) rfl (fun _=>Or.inl rfl) (fun _=>Or.inl rfl))
   (jf (jD (i:=6) (j7 (WE.toT (qZ (jb 1) (WE.toT jh))) (WE.toT jh)) (fun _=>sc__law_ship.nd) rfl (fun _=>Or.inl rfl) (fun _=>Or.inl rfl))
   (jf (jD (i:=7) (qZ (jb 5) (WE.toT (zp (jb 4) (jb 3)))) (fun _=>sc__law_ship.nd) rfl (fun _=>Or.inl rfl) (fun _=>Or.inl rfl))
   (jf (jD (i:=8) (jU (WE.toT (WO.toE (JN (je (zt (WE.toT (qZ (jb 7) (WE.toT (j7 (jb 6) (WE.toT jh))))) (WE.toT jh)) (je (j7 (jb 6) (WE.toT (qA (jb 7) (WE.toT jh)))) (je (qG ji3 (fun _=>rfl) (fun _=>T.b_min) boot_min (jl (jb 7) (jl (WE.toT (j7 (jb 6) (WE.toT jh))) jt))) (je (jA 7) ju))))))) (WE.toT (j7 (WE.toT (zt (jb 6) (WE.toT jh))) (WE.toT jh)))) (fun _=>sc__law_ship.nd) rfl (fun _=>Or.inl rfl) (fun _=>Or.inl rfl))
   (jo (j6 (jfS (je (jA 3) (je (jA 4) (je (jA 8) (je (jA 5) ju)))))))))))))))
theorem jb9 (T:Txt K mg A):FnOk P w K mg base Qc 2 A.a__law_fleet A.d__law_fleet ["script", "start"] (@spO ⟨K⟩ zT) :=
 QT (m:=zY) T.F__law_fleet sc__law_fleet rfl rfl fun cdv Ar outer s H E hr=>
  (jf (jD (i:=2) (j9 (fun _=>qe T) (fun _=>hr.mono (by decide)) (fun _=>rfl) (fun _=>T.M__law_cell_at) (fun _=>T.F__law_cell_at.kp) (fun _=>T.B__law_cell_at) (je (jA 0) (je (jA 1) ju))) (fun _=>sc__law_fleet.nd) rfl (fun _=>Or.inl rfl) (fun _=>Or.inl rfl))
   (jf (Qu (i:=3) (JN ju) (fun _=>sc__law_fleet.nd) rfl (fun _=>Or.inl rfl) (fun _=>Or.inl rfl))
   (jf (Jt (Jp (fun _=>rfl) (fun _=>T.b_range) (jl (WE.toT (jU (WE.toT (WO.toE (JN (je jh (je jh (je jh (je jh (je jh (je jh (je jh (je jh ju))))))))))) (WE.toT (j7 (jb 2) (WE.toT jh))))) jt)) (qN (i:=4) (fun _=>sc__law_fleet.nd) rfl (fun _=>Or.inl rfl) (fun _=>Or.inl rfl))
   (jf (jD (i:=5) (j9 (fun _=>qe T) (fun _=>hr.mono (by decide)) (fun _=>rfl) (fun _=>T.M__law_cell_at) (fun _=>T.F__law_cell_at.kp) (fun _=>T.B__law_cell_at) (je (jA 0) (je (qA (WE.toT (qA (jb 1) (WE.toT jh))) (WE.toT (qZ (WE.toT jh) (jb 4)))) ju))) (fun _=>sc__law_fleet.nd) rfl (fun _=>Or.inl rfl) (fun _=>Or.inl rfl))
   (jo (Q9 (i:=3) rfl (fun _=>Or.inl rfl) (j9 (fun _=>jcW T) (fun _=>hr.mono (by decide)) (fun _=>rfl) (fun _=>T.M__law_ship) (fun _=>T.F__law_ship.kp) (fun _=>T.B__law_ship) (je (jA 5) (je (j9 (fun _=>qe T) (fun _=>hr.mono (by decide)) (fun _=>rfl) (fun _=>T.M__law_cell_at) (fun _=>T.F__law_cell_at.kp) (fun _=>T.B__law_cell_at) (je (jA 0) (je (qA (WE.toT (qA (jb 1) (WE.toT jh))) (WE.toT (qZ (WE.toT jh) (jb 4)))) ju))) (je (j7 (WE.toT (zt (jb 2) (WE.toT jh))) (WE.toT jh)) ju))))))))
   (jf (zI (WW.toC (jhX (zx jlB (WE.toT (qG b_len (fun _=>rfl) (fun _=>T.b_len) PySem.boot_len (jl (jb 3) jt))) (WE.toT jh)) (jfo (zx (jiZ fun _=>hr.units) (WE.toT (j7 (WE.toT (zt (jb 2) (WE.toT jh))) (WE.toT jh))) (WE.toT jh)))))
   (jo (jhP (i:=3) rfl (fun _=>Or.inl rfl) (jkG (WE.toT jh)) (jU (jb 3) (WE.toT jh)))) qm)
   (jo (ZP 3))))))
theorem Q1 (T:Txt K mg A):FnOk P w K mg base Qc 1 A.a__law_parts A.d__law_parts ["fleet"] (@spO ⟨K⟩ zV) :=
 QT (m:=zU) T.F__law_parts sc__law_parts rfl rfl fun cdv Ar outer s H E hr=>
  (jf (jD (i:=1) (WO.toE (jmC jlL (fun _=>rfl) (fun _=>T.b_sorted) boot_sorted (jl (WE.toT (WO.toE (ji0 (WE.toT (WO.toE (ZS (sc:=jd jO) (Lc:=["ship"]) (Fn := []) (ix := []) (fun _ => rfl) (show LcOk (jd jO) ["fleet", "hours"] _ [] [] from by decide +kernel) (qB (jb 0)) (qD (i := 0) (fun _ => show List.Nodup (["ship"] : List Str) from by decide +kernel) rfl (by decide) (fun _ => Or.inl rfl) (fun _ => Or.inr rfl)) qp (jU (jb 0) (WE.toT jh))))) (WE.toT (WO.toE (ZS (sc := jd jO) (Lc := ["ship"]) (Fn := []) (ix := []) (fun _ => rfl) (show LcOk (jd jO) ["fleet", "hours"] _ [] [] from by decide +kernel) (qB (jb 0)) (qD (i := 0) (fun _ => show List.Nodup (["ship"] : List Str) from by decide +kernel) rfl (by decide) (fun _ => Or.inl rfl) (fun _ => Or.inr rfl)) qp (jU (jb 0) (WE.toT jh)))))))) jt))) (fun _ => sc__law_parts.nd) rfl (fun _ => Or.inr rfl) (fun _ => Or.inl rfl))
   (jo (Zh (ZS (sc:=jd jO) (Lc:=["k"]) (Fn := ["hours"]) (ix := [1]) (fun _ => rfl) (show LcOk (jd jO) ["fleet", "hours"] _ ["hours"] [1] from by decide +kernel) (WI.toT (Jp (fun _ => rfl) (fun _ => T.b_range) (jl (WE.toT (zp (WE.toT (qG b_len (fun _ => rfl) (fun _ => T.b_len) PySem.boot_len (jl (jb 1) jt))) (WE.toT jh))) jt))) (qD (i := 0) (fun _ => show List.Nodup (["k", "hours"] : List Str) from by decide +kernel) rfl (by decide) (fun _ => Or.inl rfl) (fun _ => Or.inr rfl)) (jjz (zx jmQ (WE.toT (jU (jb 1) (jb 0))) (WE.toT (jU (jb 1) (WE.toT (qA (jb 0) (WE.toT jh))))))) (jfS (je (jU (jb 1) (jb 0)) (je (jU (jb 1) (WE.toT (qA (jb 0) (WE.toT jh)))) ju)))))))
theorem jb5 (T:Txt K mg A):FnOk P w K mg base Qc 1 A.a__law_rooms A.d__law_rooms ["ship", "parts"] (@spO ⟨K⟩ zP) :=
 QT (m:=zO) T.F__law_rooms sc__law_rooms rfl rfl fun cdv Ar outer s H E hr=>
  (jf (Qu (i:=2) (JN ju) (fun _=>sc__law_rooms.nd) rfl (fun _=>Or.inl rfl) (fun _=>Or.inl rfl))
   (jf (Jt (jf2 (jA 1)) (jeN (Qw (qN (i:=3) (fun _=>sc__law_rooms.nd) rfl (fun _=>Or.inl rfl) (fun _=>Or.inl rfl)) (Qw (qN (i:=4) (fun _=>sc__law_rooms.nd) rfl (fun _=>Or.inl rfl) (fun _=>Or.inl rfl)) jeD)))
   (jo (zI (WW.toC (jhX (zx jdC (WE.toT (jU (jb 0) (WE.toT jh))) (jb 3)) (jfo (zx jdC (jb 4) (WE.toT (jU (jb 0) (WE.toT jh)))))))
   (jo (Q9 (i:=2) rfl (fun _=>Or.inl rfl) (qZ (WE.toT (jU (jb 0) (WE.toT jh))) (WE.toT (zp (jb 4) (jb 3)))))) (jo (Q9 (i:=2) rfl (fun _=>Or.inl rfl) jh)))))
   (jo (ZP 2))))
theorem jdj (T:Txt K mg A):FnOk P w K mg base Qc 2 A.a__law_plan A.d__law_plan ["fleet", "cells"] (@spO ⟨K⟩ Qs) :=
 QT (m:=Jo) T.F__law_plan sc__law_plan rfl rfl fun cdv Ar outer s H E hr=>
  (jf (jD (i:=2) (WO.toE (qV (fun _=>Q1 T) (fun _=>hr.mono (by decide)) (fun _=>rfl) (fun _=>T.M__law_parts) (fun _=>T.F__law_parts.kp) (fun _=>T.B__law_parts) (je (jA 0) ju))) (fun _=>sc__law_plan.nd) rfl (fun _=>Or.inl rfl) (fun _=>Or.inl rfl))
   (jf (Qu (i:=3) (JN ju) (fun _=>sc__law_plan.nd) rfl (fun _=>Or.inl rfl) (fun _=>Or.inl rfl))
   (jf (Jt (Jp (fun _=>rfl) (fun _=>T.b_range) (jl (WE.toT (qG b_len (fun _=>rfl) (fun _=>T.b_len) PySem.boot_len (jl (jb 0) jt))) jt)) (qN (i:=4) (fun _=>sc__law_plan.nd) rfl (fun _=>Or.inl rfl) (fun _=>Or.inl rfl))
   (jf (jD (i:=5) (WO.toE (qV (fun _=>jb5 T) (fun _=>hr.mono (by decide)) (fun _=>rfl) (fun _=>T.M__law_rooms) (fun _=>T.F__law_rooms.kp) (fun _=>T.B__law_rooms) (je (jU (jb 0) (jb 4)) (je (jA 2) ju)))) (fun _=>sc__law_plan.nd) rfl (fun _=>Or.inl rfl) (fun _=>Or.inl rfl))
   (jf (jD (i:=6) (jU (WE.toT (jU (jb 0) (jb 4))) (WE.toT jh)) (fun _=>sc__law_plan.nd) rfl (fun _=>Or.inl rfl) (fun _=>Or.inl rfl))
   (jf (Qu (i:=7) (JN ju) (fun _=>sc__law_plan.nd) rfl (fun _=>Or.inl rfl) (fun _=>Or.inl rfl))
   (jf (Jt (Jp (fun _=>rfl) (fun _=>T.b_range) (jl (WE.toT (qG b_len (fun _=>rfl) (fun _=>T.b_len) PySem.boot_len (jl (jb 2) jt))) jt)) (qN (i:=8) (fun _=>sc__law_plan.nd) rfl (fun _=>Or.inl rfl) (fun _=>Or.inl rfl))
   (jf (jD (i:=9) (jU (jb 1) (WE.toT (j7 (WE.toT (qA (WE.toT (qZ (jb 4) (WE.toT (qG b_len (fun _=>rfl) (fun _=>T.b_len) PySem.boot_len (jl (jb 2) jt))))) (jb 8))) (WE.toT (qG b_len (fun _=>rfl) (fun _=>T.b_len) PySem.boot_len (jl (jb 1) jt)))))) (fun _=>sc__law_plan.nd) rfl (fun _=>Or.inl rfl) (fun _=>Or.inl rfl))
   (jf (jD (i:=10) (jU (WE.toT (WO.toE (JN (je jh (je (jU (jb 5) (jb 8)) (je (zt (WE.toT (qZ (WE.toT (jU (jb 5) (jb 8))) (WE.toT (j7 (WE.toT (zt (jb 9) (WE.toT jh))) (WE.toT jh))))) (WE.toT jh)) (je (j7 (WE.toT (zt (jb 9) (WE.toT jh))) (WE.toT (qA (WE.toT (jU (jb 5) (jb 8))) (WE.toT jh)))) ju))))))) (WE.toT (j7 (jb 9) (WE.toT jh)))) (fun _=>sc__law_plan.nd) rfl (fun _=>Or.inl rfl) (fun _=>Or.inl rfl))
   (jf (Q9 (i:=7) rfl (fun _=>Or.inl rfl) (qG jlW (fun _=>rfl) (fun _=>T.b_min) boot_min (jl (jb 6) (jl (WE.toT (jU (jb 5) (jb 8))) (jl (jb 10) jt)))))
   (jo (jD (i:=6) (zp (jb 6) (WE.toT (jU (jb 7) (jb 8)))) (fun _=>sc__law_plan.nd) rfl (fun _=>Or.inl rfl) (fun _=>Or.inl rfl)))))))
   (jf (Jt (Jp (fun _=>rfl) (fun _=>T.b_range) (jl (WE.toT (qG b_len (fun _=>rfl) (fun _=>T.b_len) PySem.boot_len (jl (jb 2) jt))) jt)) (qN (i:=8) (fun _=>sc__law_plan.nd) rfl (fun _=>Or.inl rfl) (fun _=>Or.inl rfl))
   (jf (jD (i:=11) (j7 (WE.toT (qA (jb 8) (WE.toT (jU (jb 1) (WE.toT (j7 (jb 4) (WE.toT (qG b_len (fun _=>rfl) (fun _=>T.b_len) PySem.boot_len (jl (jb 1) jt))))))))) (WE.toT (qG b_len (fun _=>rfl) (fun _=>T.b_len) PySem.boot_len (jl (jb 2) jt)))) (fun _=>sc__law_plan.nd) rfl (fun _=>Or.inl rfl) (fun _=>Or.inl rfl))
   (jf (jD (i:=12) (qG ji3 (fun _=>rfl) (fun _=>T.b_min) boot_min (jl (jb 6) (jl (WE.toT (zp (WE.toT (jU (jb 5) (jb 11))) (WE.toT (jU (jb 7) (jb 11))))) jt))) (fun _=>sc__law_plan.nd) rfl (fun _=>Or.inl rfl) (fun _=>Or.inl rfl))
   (jf (jhP (i:=7) rfl (fun _=>Or.inl rfl) (jA 11) (qA (WE.toT (jU (jb 7) (jb 11))) (jb 12)))
   (jo (jD (i:=6) (zp (jb 6) (jb 12)) (fun _=>sc__law_plan.nd) rfl (fun _=>Or.inl rfl) (fun _=>Or.inl rfl)))))))
   (jo (jlD 7 (Q9 (i:=3) rfl (fun _=>Or.inl rfl) (jA 7))))))))))
   (jo (ZP 3)))))
theorem jbm (T:Txt K mg A):FnOk P w K mg base Qc 2 A.a__law_prices A.d__law_prices ["script"] (@spO ⟨K⟩ Jz) :=
 QT (m:=zF) T.F__law_prices sc__law_prices rfl rfl fun cdv Ar outer s H E hr=>
  (jf (jD (i:=1) (j9 (fun _=>qe T) (fun _=>hr.mono (by decide)) (fun _=>rfl) (fun _=>T.M__law_cell_at) (fun _=>T.F__law_cell_at.kp) (fun _=>T.B__law_cell_at) (je (jA 0) (je jh ju))) (fun _=>sc__law_prices.nd) rfl (fun _=>Or.inl rfl) (fun _=>Or.inl rfl))
   (jf (jD (i:=2) (jU (WE.toT (WO.toE (JN (je (j7 (WE.toT (zt (jb 1) (WE.toT jh))) (WE.toT jh)) (je (j7 (WE.toT (zt (jb 1) (WE.toT jh))) (WE.toT (ja9 (WE.toT jh) (WE.toT jh)))) (je (zp (WE.toT jh) (WE.toT (j7 (WE.toT (zt (jb 1) (WE.toT jh))) (WE.toT jh)))) (je (zp (WE.toT jh) (WE.toT (j7 (WE.toT (zt (jb 1) (WE.toT jh))) (WE.toT (ja9 (WE.toT jh) (WE.toT jh)))))) ju))))))) (WE.toT (j7 (jb 1) (WE.toT jh)))) (fun _=>sc__law_prices.nd) rfl (fun _=>Or.inl rfl) (fun _=>Or.inl rfl))
   (jf (Qu (i:=3) (JN (je (jA 2) ju)) (fun _=>sc__law_prices.nd) rfl (fun _=>Or.inl rfl) (fun _=>Or.inl rfl))
   (jf (jD (i:=4) (zt (WE.toT (j9 (fun _=>qe T) (fun _=>hr.mono (by decide)) (fun _=>rfl) (fun _=>T.M__law_cell_at) (fun _=>T.F__law_cell_at.kp) (fun _=>T.B__law_cell_at) (je (jA 0) (je jh ju)))) (WE.toT jh)) (fun _=>sc__law_prices.nd) rfl (fun _=>Or.inl rfl) (fun _=>Or.inl rfl))
   (jf (Jt (Jp (fun _=>rfl) (fun _=>T.b_range) (jl (WE.toT (j7 (WE.toT (j9 (fun _=>qe T) (fun _=>hr.mono (by decide)) (fun _=>rfl) (fun _=>T.M__law_cell_at) (fun _=>T.F__law_cell_at.kp) (fun _=>T.B__law_cell_at) (je (jA 0) (je jh ju)))) (WE.toT jh))) jt)) (qN (i:=5) (fun _=>sc__law_prices.nd) rfl (fun _=>Or.inl rfl) (fun _=>Or.inl rfl))
   (jf (jD (i:=2) (qA (jb 2) (WE.toT (jU (WE.toT (WO.toE (JN (je jh (je (qA (WE.toT jh) (WE.toT (j7 (WE.toT (zt (jb 4) (WE.toT jh))) (WE.toT jh)))) (je (j7 (WE.toT (zt (jb 4) (WE.toT jh))) (WE.toT (ja9 (WE.toT jh) (WE.toT jh)))) ju)))))) (WE.toT (j7 (jb 4) (WE.toT jh)))))) (fun _=>sc__law_prices.nd) rfl (fun _=>Or.inl rfl) (fun _=>Or.inl rfl))
   (jf (Q9 (i:=3) rfl (fun _=>Or.inl rfl) (jA 2))
   (jo (jD (i:=4) (zt (jb 4) (WE.toT jh)) (fun _=>sc__law_prices.nd) rfl (fun _=>Or.inl rfl) (fun _=>Or.inl rfl))))))
   (jo (ZP 3)))))))
theorem jas (T:Txt K mg A):FnOk P w K mg base Qc 1 A.a_is_whole A.d_is_whole ["thing"] (@spS ⟨K⟩ zD) :=
 zN (m:=jbx) T.F_is_whole jdV rfl rfl fun cdv Ar outer s H E hr=>
  (jo (j6 (jfJ (WE.toT (jay (fun _=>rfl) (fun _=>T.b_isinstance) (fun _=>rfl) (fun _=>T.b_int) boot_int (by decide) (jb 0))) (jhU (w_not (WE.toT (jay (fun _=>rfl) (fun _=>T.b_isinstance) (fun _=>rfl) (fun _=>T.b_bool) boot_bool (by decide) (jb 0))))))))
theorem jeL (T:Txt K mg A):FnOk P w K mg base Qc 2 A.a_is_ship A.d_is_ship ["thing"] (@spS ⟨K⟩ JO) :=
 zN (m:=jag) T.F_is_ship sc_is_ship rfl rfl fun cdv Ar outer s H E hr=>
  (jf (zI (WW.toC (jeR (Zz (QP (WE.toT (jay (fun _=>rfl) (fun _=>T.b_isinstance) (fun _=>rfl) (fun _=>T.b_tuple) boot_tuple (by decide) (jb 0))))) (jel (zx (je7 fun _=>hr.units) (WE.toT (qG b_len (fun _=>rfl) (fun _=>T.b_len) PySem.boot_len (jl (jb 0) jt))) (WE.toT jh)))))
   (jo (j6 jdy)) qm)
   (jf (zI (Zz (QP (WE.toT (qG b_all (fun _=>rfl) (fun _=>T.b_all) boot_all (jl (WE.toT (WO.toE (ZS (sc:=jd zb) (Lc:=["part"]) (Fn := []) (ix := []) (fun _ => rfl) (show LcOk (jd zb) ["thing", "hours"] _ [] [] from by decide +kernel) (WI.toT (jlF (jA 0))) (qD (i := 0) (fun _ => show List.Nodup (["part"] : List Str) from by decide +kernel) rfl (by decide) (fun _ => Or.inl rfl) (fun _ => Or.inr rfl)) qp (j9 (fun _ => jas T) (fun _ => hr.mono (by decide)) (fun _ => rfl) (fun _ => T.M_is_whole) (fun _ => T.F_is_whole.kp) (fun _ => T.B_is_whole) (je (jA 0) ju))))) jt)))))
   (jo (j6 jdy)) qm)
   (jf (jD (i:=1) (zp (WE.toT (jU (jb 0) (WE.toT (qW (fun _=>rfl) (fun _=>T.g_END))))) (WE.toT (jU (jb 0) (WE.toT (qW (fun _=>rfl) (fun _=>T.g_BEGIN)))))) (fun _=>sc_is_ship.nd) rfl (fun _=>Or.inl rfl) (fun _=>Or.inl rfl))
   (jo (j6 (jfJ (WE.toT (jfN jlB (jb 1) (WE.toT jh))) (jfJ (WE.toT (jfN joK (WE.toT (jU (jb 0) (WE.toT (qW (fun _=>rfl) (fun _=>T.g_MOST))))) (WE.toT jh))) (jhU (jgc jdC jdC (WE.toT jh) (WE.toT (jU (jb 0) (WE.toT (qW (fun _=>rfl) (fun _=>T.g_NEED))))) (WE.toT (qZ (WE.toT (jU (jb 0) (WE.toT (qW (fun _=>rfl) (fun _=>T.g_MOST))))) (jb 1))))))))))))
theorem jek (T:Txt K mg A):FnOk P w K mg base Qc 3 A.a_is_fleet A.d_is_fleet ["thing"] (@spS ⟨K⟩ J7) :=
 zN (m:=Zd) T.F_is_fleet jd3 rfl rfl fun cdv Ar outer s H E hr=>
  (jo (j6 (jfJ (WE.toT (jay (fun _=>rfl) (fun _=>T.b_isinstance) (fun _=>rfl) (fun _=>T.b_list) boot_list (by decide) (jb 0))) (jhU (qG b_all (fun _=>rfl) (fun _=>T.b_all) boot_all (jl (WE.toT (WO.toE (ZS (sc:=jd qH) (Lc:=["ship"]) (Fn := []) (ix := []) (fun _ => rfl) (show LcOk (jd qH) ["thing"] _ [] [] from by decide +kernel) (qB (jb 0)) (qD (i := 0) (fun _ => show List.Nodup (["ship"] : List Str) from by decide +kernel) rfl (by decide) (fun _ => Or.inl rfl) (fun _ => Or.inr rfl)) qp (j9 (fun _ => jeL T) (fun _ => hr.mono (by decide)) (fun _ => rfl) (fun _ => T.M_is_ship) (fun _ => T.F_is_ship.kp) (fun _ => T.B_is_ship) (je (jA 0) ju))))) jt))))))
theorem ZX (T:Txt K mg A):FnOk P w K mg base Qc 4 A.a_must_be_fleet A.d_must_be_fleet ["thing"] (@spS ⟨K⟩ qU) :=
 zN (m:=zK) T.F_must_be_fleet jaf rfl rfl fun cdv Ar outer s H E hr=>
  (jo (zI (Zz (QP (WE.toT (j9 (fun _=>jek T) (fun _=>hr.mono (by decide)) (fun _=>rfl) (fun _=>T.M_is_fleet) (fun _=>T.F_is_fleet.kp) (fun _=>T.B_is_fleet) (je (jA 0) ju)))))
   (jo jd9) qm))
theorem jgR (T:Txt K mg A):FnOk P w K mg base Qc 1 A.a_bounds A.d_bounds ["fleet"] (@spO ⟨K⟩ jbP) :=
 QT (m:=ZR) T.F_bounds sc_bounds rfl rfl fun cdv Ar outer s H E hr=>
  (jf (jhO (i:=1) (fun _=>sc_bounds.nd) rfl (fun _=>rfl) (sc:=jd qQ) (Lc:=["ship"]) (Fn := []) (ix := []) (fun _ => rfl) (show LcOk (jd qQ) ["fleet", "begins", "ends"] _ [] [] from by decide +kernel) (qB (jb 0)) (qD (i := 0) (fun _ => show List.Nodup (["ship"] : List Str) from by decide +kernel) rfl (by decide) (fun _ => Or.inl rfl) (fun _ => Or.inr rfl)) qp (jU (jb 0) (WE.toT (qW (fun _ => rfl) (fun _ => T.g_BEGIN)))))
   (jf (jhO (i:=2) (fun _=>sc_bounds.nd) rfl (fun _=>rfl) (sc:=jd qQ) (Lc:=["ship"]) (Fn := []) (ix := []) (fun _ => rfl) (show LcOk (jd qQ) ["fleet", "begins", "ends"] _ [] [] from by decide +kernel) (qB (jb 0)) (qD (i := 0) (fun _ => show List.Nodup (["ship"] : List Str) from by decide +kernel) rfl (by decide) (fun _ => Or.inl rfl) (fun _ => Or.inr rfl)) qp (jU (jb 0) (WE.toT (qW (fun _ => rfl) (fun _ => T.g_END)))))
   (jo (Zh (jlv (fun _=>rfl) (fun _=>T.b_sorted) (fun _=>rfl) (fun _=>T.b_set) (jl (WE.toT (WO.toE (ji0 (jb 1) (jb 2)))) jt) (sub:=fun _ _=>⟨rfl,rfl⟩) (j0:=()))))))
theorem ZE (T:Txt K mg A):FnOk P w K mg base Qc 2 A.a_stretches A.d_stretches ["fleet"] (@spO ⟨K⟩ Jr) :=
 QT (m:=Js) T.F_stretches sc_stretches rfl rfl fun cdv Ar outer s H E hr=>
  (jf (jD (i:=1) (WO.toE (qV (fun _=>jgR T) (fun _=>hr.mono (by decide)) (fun _=>rfl) (fun _=>T.M_bounds) (fun _=>T.F_bounds.kp) (fun _=>T.B_bounds) (je (jA 0) ju))) (fun _=>sc_stretches.nd) rfl (fun _=>Or.inl rfl) (fun _=>Or.inl rfl))
   (jo (Zh (jor (fun _=>rfl) (fun _=>T.b_list) (fun _=>rfl) (fun _=>T.b_zip) (jl (jb 1) (jl (WE.toT (WO.toE (jjl (jb 1) (jd7 (WE.toT jh)) jij))) jt))))))
theorem jcp (T:Txt K mg A):FnOk P w K mg base Qc 1 A.a_length A.d_length ["stretch"] (@spS ⟨K⟩ Qo) :=
 zN (m:=jb0) T.F_length jgG rfl rfl fun cdv Ar outer s H E hr=>
  (jo (j6 (zp (WE.toT (jU (jb 0) (WE.toT (qW (fun _=>rfl) (fun _=>T.g_TO))))) (WE.toT (jU (jb 0) (WE.toT (qW (fun _=>rfl) (fun _=>T.g_FROM))))))))
theorem jjH (T:Txt K mg A):FnOk P w K mg base Qc 2 A.a_room A.d_room ["ship", "stretch"] (@spS ⟨K⟩ jb4) :=
 zN (m:=jeV) T.F_room jjp rfl rfl fun cdv Ar outer s H E hr=>
  (jf (zI (WW.toC (jhX (zx jdC (WE.toT (jU (jb 0) (WE.toT (qW (fun _=>rfl) (fun _=>T.g_BEGIN))))) (WE.toT (jU (jb 1) (WE.toT (qW (fun _=>rfl) (fun _=>T.g_FROM)))))) (jfo (zx jdC (WE.toT (jU (jb 1) (WE.toT (qW (fun _=>rfl) (fun _=>T.g_TO))))) (WE.toT (jU (jb 0) (WE.toT (qW (fun _=>rfl) (fun _=>T.g_END)))))))))
   (jo (j6 (qZ (WE.toT (jU (jb 0) (WE.toT (qW (fun _=>rfl) (fun _=>T.g_MOST))))) (WE.toT (j9 (fun _=>jcp T) (fun _=>hr.mono (by decide)) (fun _=>rfl) (fun _=>T.M_length) (fun _=>T.F_length.kp) (fun _=>T.B_length) (je (jA 1) ju)))))) qm)
   (jo (j6 jh)))
theorem jdu (T:Txt K mg A):FnOk P w K mg base Qc 3 A.a_is_share A.d_is_share ["ship", "spans", "thing"] (@spS ⟨K⟩ J0) :=
 zN (m:=JW) T.F_is_share jds rfl rfl fun cdv Ar outer s H E hr=>
  (jf (zI (WW.toC (jeR (Zz (QP (WE.toT (jay (fun _=>rfl) (fun _=>T.b_isinstance) (fun _=>rfl) (fun _=>T.b_list) boot_list (by decide) (jb 2))))) (jel (zx (je7 fun _=>hr.units) (WE.toT (qG b_len (fun _=>rfl) (fun _=>T.b_len) PySem.boot_len (jl (jb 2) jt))) (WE.toT (qG b_len (fun _=>rfl) (fun _=>T.b_len) PySem.boot_len (jl (jb 1) jt)))))))
   (jo (j6 jdy)) qm)
   (jf (zI (Zz (QP (WE.toT (qG b_all (fun _=>rfl) (fun _=>T.b_all) boot_all (jl (WE.toT (WO.toE (ZS (sc:=jd qk) (Lc:=["many"]) (Fn := []) (ix := []) (fun _ => rfl) (show LcOk (jd qk) ["ship", "spans", "thing"] _ [] [] from by decide +kernel) (qB (jb 2)) (qD (i := 0) (fun _ => show List.Nodup (["many"] : List Str) from by decide +kernel) rfl (by decide) (fun _ => Or.inl rfl) (fun _ => Or.inr rfl)) qp (j9 (fun _ => jas T) (fun _ => hr.mono (by decide)) (fun _ => rfl) (fun _ => T.M_is_whole) (fun _ => T.F_is_whole.kp) (fun _ => T.B_is_whole) (je (jA 0) ju))))) jt)))))
   (jo (j6 jdy)) qm)
   (jf (zI (Zz (QP (WE.toT (qG b_all (fun _=>rfl) (fun _=>T.b_all) boot_all (jl (WE.toT (WO.toE (ZS (sc:=jd qk) (Lc:=["span", "many"]) (Fn := ["ship"]) (ix := [0]) (fun _ => rfl) (show LcOk (jd qk) ["ship", "spans", "thing"] _ ["ship"] [0] from by decide +kernel) (jfv (fun _ => rfl) (fun _ => T.b_zip) (jl (jb 1) (jl (jb 2) jt))) (jex (QG (i := 0) (fun _ => show List.Nodup (["span", "many", "ship"] : List Str) from by decide +kernel) rfl (by decide) (fun _ => Or.inl rfl) (fun _ => Or.inr rfl) (QG (i := 1) (fun _ => show List.Nodup (["span", "many", "ship"] : List Str) from by decide +kernel) rfl (by decide) (fun _ => Or.inl rfl) (fun _ => Or.inr rfl) jeZ))) qp (jgc jdC jdC (WE.toT jh) (jb 1) (WE.toT (j9 (fun _ => jjH T) (fun _ => hr.mono (by decide)) (fun _ => rfl) (fun _ => T.M_room) (fun _ => T.F_room.kp) (fun _ => T.B_room) (je (jA 2) (je (jA 0) ju)))))))) jt)))))
   (jo (j6 jdy)) qm)
   (jo (j6 (jfN (jiZ fun _=>hr.units) (WE.toT (qG b_sum (fun _=>rfl) (fun _=>T.b_sum) boot_sum (jl (jb 2) jt))) (WE.toT (jU (jb 0) (WE.toT (qW (fun _=>rfl) (fun _=>T.g_NEED)))))))))))
theorem je5 (T:Txt K mg A):FnOk P w K mg base Qc 4 A.a_is_plan A.d_is_plan ["fleet", "thing"] (@spS ⟨K⟩ Z5) :=
 zN (m:=Qz) T.F_is_plan sc_is_plan rfl rfl fun cdv Ar outer s H E hr=>
  (jf (zI (WW.toC (jeR (Zz (QP (WE.toT (jay (fun _=>rfl) (fun _=>T.b_isinstance) (fun _=>rfl) (fun _=>T.b_list) boot_list (by decide) (jb 1))))) (jel (zx (je7 fun _=>hr.units) (WE.toT (qG b_len (fun _=>rfl) (fun _=>T.b_len) PySem.boot_len (jl (jb 1) jt))) (WE.toT (qG b_len (fun _=>rfl) (fun _=>T.b_len) PySem.boot_len (jl (jb 0) jt)))))))
   (jo (j6 jdy)) qm)
   (jf (jD (i:=2) (WO.toE (qV (fun _=>ZE T) (fun _=>hr.mono (by decide)) (fun _=>rfl) (fun _=>T.M_stretches) (fun _=>T.F_stretches.kp) (fun _=>T.B_stretches) (je (jA 0) ju))) (fun _=>sc_is_plan.nd) rfl (fun _=>Or.inr rfl) (fun _=>Or.inl rfl))
   (jo (j6 (qG b_all (fun _=>rfl) (fun _=>T.b_all) boot_all (jl (WE.toT (WO.toE (ZS (sc:=jd zg) (Lc:=["ship", "share"]) (Fn := ["spans"]) (ix := [2]) (fun _ => rfl) (show LcOk (jd zg) ["fleet", "thing", "spans"] _ ["spans"] [2] from by decide +kernel) (jfv (fun _ => rfl) (fun _ => T.b_zip) (jl (jb 0) (jl (jb 1) jt))) (jex (QG (i := 0) (fun _ => show List.Nodup (["ship", "share", "spans"] : List Str) from by decide +kernel) rfl (by decide) (fun _ => Or.inl rfl) (fun _ => Or.inr rfl) (QG (i := 1) (fun _ => show List.Nodup (["ship", "share", "spans"] : List Str) from by decide +kernel) rfl (by decide) (fun _ => Or.inl rfl) (fun _ => Or.inr rfl) jeZ))) qp (j9 (fun _ => jdu T) (fun _ => hr.mono (by decide)) (fun _ => rfl) (fun _ => T.M_is_share) (fun _ => T.F_is_share.kp) (fun _ => T.B_is_share) (je (jA 0) (je (jA 2) (je (jA 1) ju))))))) jt))))))
theorem jaL (T:Txt K mg A):FnOk P w K mg base Qc 5 A.a_must_be_plan A.d_must_be_plan ["fleet", "thing"] (@spS ⟨K⟩ zo) :=
 zN (m:=Jj) T.F_must_be_plan jaG rfl rfl fun cdv Ar outer s H E hr=>
  (jf (jgl (WE.toT (j9 (fun _=>ZX T) (fun _=>hr.mono (by decide)) (fun _=>rfl) (fun _=>T.M_must_be_fleet) (fun _=>T.F_must_be_fleet.kp) (fun _=>T.B_must_be_fleet) (je (jA 0) ju))))
   (jo (zI (Zz (QP (WE.toT (j9 (fun _=>je5 T) (fun _=>hr.mono (by decide)) (fun _=>rfl) (fun _=>T.M_is_plan) (fun _=>T.F_is_plan.kp) (fun _=>T.B_is_plan) (je (jA 0) (je (jA 1) ju))))))
   (jo jd9) qm)))
theorem jaK (T:Txt K mg A):FnOk P w K mg base Qc 1 A.a_cost_of_hour A.d_cost_of_hour ["height", "prices"] (@spS ⟨K⟩ zm) :=
 zN (m:=Jc) T.F_cost_of_hour sc_cost_of_hour rfl rfl fun cdv Ar outer s H E hr=>
  (jf (jD (i:=2) (qG jhM (fun _=>rfl) (fun _=>T.b_max) boot_max (jl (WE.toT (zp (jb 0) (WE.toT (qG b_len (fun _=>rfl) (fun _=>T.b_len) PySem.boot_len (jl (jb 1) jt))))) (jl (WE.toT jh) jt))) (fun _=>sc_cost_of_hour.nd) rfl (fun _=>Or.inl rfl) (fun _=>Or.inl rfl))
   (jo (j6 (qA (WE.toT (qG b_sum (fun _=>rfl) (fun _=>T.b_sum) boot_sum (jl (WE.toT (WO.toE (jjl (jb 1) jij (jd7 (jb 0))))) jt))) (WE.toT (qZ (jb 2) (WE.toT (jU (jb 1) (WE.toT (jkG (WE.toT jh)))))))))))
theorem jdU (T:Txt K mg A):FnOk P w K mg base Qc 1 A.a_loads_in A.d_loads_in ["many", "hours"] (@spO ⟨K⟩ JV) :=
 QT (m:=Q3) T.F_loads_in sc_loads_in rfl rfl fun cdv Ar outer s H E hr=>
  (jf (jD (i:=2) (zt (jb 0) (jb 1)) (fun _=>sc_loads_in.nd) rfl (fun _=>Or.inl rfl) (fun _=>Or.inl rfl))
   (jf (jD (i:=3) (j7 (jb 0) (jb 1)) (fun _=>sc_loads_in.nd) rfl (fun _=>Or.inl rfl) (fun _=>Or.inl rfl))
   (jf (Qu (i:=4) (JN (je (jfS (je (jA 2) (je (zp (jb 1) (jb 3)) ju))) ju)) (fun _=>sc_loads_in.nd) rfl (fun _=>Or.inl rfl) (fun _=>Or.inl rfl))
   (jf (zI (zx jlB (jb 3) (WE.toT jh))
   (jo (Q9 (i:=4) rfl (fun _=>Or.inl rfl) (jfS (je (qA (jb 2) (WE.toT jh)) (je (jA 3) ju))))) qm)
   (jo (ZP 4))))))
theorem jiK (T:Txt K mg A):FnOk P w K mg base Qc 1 A.a_total A.d_total ["plan", "place"] (@spS ⟨K⟩ jaY) :=
 zN (m:=jcQ) T.F_total jis rfl rfl fun cdv Ar outer s H E hr=>
  (jo (j6 (qG b_sum (fun _=>rfl) (fun _=>T.b_sum) boot_sum (jl (WE.toT (WO.toE (ZS (sc:=jd Jq) (Lc:=["share"]) (Fn := ["place"]) (ix := [1]) (fun _ => rfl) (show LcOk (jd Jq) ["plan", "place"] _ ["place"] [1] from by decide +kernel) (qB (jb 0)) (qD (i := 0) (fun _ => show List.Nodup (["share", "place"] : List Str) from by decide +kernel) rfl (by decide) (fun _ => Or.inl rfl) (fun _ => Or.inr rfl)) qp (jU (jb 0) (jb 1))))) jt))))
theorem jha (T:Txt K mg A):FnOk P w K mg base Qc 3 A.a_row_of A.d_row_of ["fleet", "plan"] (@spO ⟨K⟩ jbu) :=
 QT (m:=Zk) T.F_row_of sc_row_of rfl rfl fun cdv Ar outer s H E hr=>
  (jf (jj8 (i:=2) jkW (fun _=>sc_row_of.nd) rfl (fun _=>Or.inl rfl) (fun _=>Or.inl rfl))
   (jf (Jt (jjX (fun _=>rfl) (fun _=>T.b_enumerate) (je (WO.toE (qV (fun _=>ZE T) (fun _=>hr.mono (by decide)) (fun _=>rfl) (fun _=>T.M_stretches) (fun _=>T.F_stretches.kp) (fun _=>T.B_stretches) (je (jA 0) ju))) ju)) (jeN (Qw (qN (i:=3) (fun _=>sc_row_of.nd) rfl (fun _=>Or.inl rfl) (fun _=>Or.inl rfl)) (Qw (qN (i:=4) (fun _=>sc_row_of.nd) rfl (fun _=>Or.inl rfl) (fun _=>Or.inl rfl)) jeD)))
   (jo (Jt (jf2 (WO.toE (qV (fun _=>jdU T) (fun _=>hr.mono (by decide)) (fun _=>rfl) (fun _=>T.M_loads_in) (fun _=>T.F_loads_in.kp) (fun _=>T.B_loads_in) (je (j9 (fun _=>jiK T) (fun _=>hr.mono (by decide)) (fun _=>rfl) (fun _=>T.M_total) (fun _=>T.F_total.kp) (fun _=>T.B_total) (je (jA 1) (je (jA 3) ju))) (je (j9 (fun _=>jcp T) (fun _=>hr.mono (by decide)) (fun _=>rfl) (fun _=>T.M_length) (fun _=>T.F_length.kp) (fun _=>T.B_length) (je (jA 4) ju)) ju))))) (jeN (Qw (qN (i:=5) (fun _=>sc_row_of.nd) rfl (fun _=>Or.inl rfl) (fun _=>Or.inl rfl)) (Qw (qN (i:=6) (fun _=>sc_row_of.nd) rfl (fun _=>Or.inl rfl) (fun _=>Or.inl rfl)) jeD)))
   (jo (jjI (i:=2) (fun _=>hr.units) rfl (fun _=>Or.inl rfl) (jA 5) (qA (WE.toT (jjU (fun _=>hr.units) (jb 2) (jb 5) jh)) (jb 6)))))))
   (jo (Zh (jhB (fun _=>rfl) (fun _=>T.b_sorted) (jb 2))))))
theorem jgi (T:Txt K mg A):FnOk P w K mg base Qc 6 A.a_cost A.d_cost ["fleet", "plan", "prices"] (@spS ⟨K⟩ jbz) :=
 zN (m:=jfi) T.F_cost jjF rfl rfl fun cdv Ar outer s H E hr=>
  (jf (jgl (WE.toT (j9 (fun _=>jaL T) (fun _=>hr.mono (by decide)) (fun _=>rfl) (fun _=>T.M_must_be_plan) (fun _=>T.F_must_be_plan.kp) (fun _=>T.B_must_be_plan) (je (jA 0) (je (jA 1) ju)))))
   (jo (j6 (qG b_sum (fun _=>rfl) (fun _=>T.b_sum) boot_sum (jl (WE.toT (WO.toE (ZS (sc:=jd Qi) (Lc:=["height", "hours"]) (Fn := ["prices"]) (ix := [2]) (fun _ => rfl) (show LcOk (jd Qi) ["fleet", "plan", "prices"] _ ["prices"] [2] from by decide +kernel) (qB (WE.toT (WO.toE (qV (fun _ => jha T) (fun _ => hr.mono (by decide)) (fun _ => rfl) (fun _ => T.M_row_of) (fun _ => T.F_row_of.kp) (fun _ => T.B_row_of) (je (jA 0) (je (jA 1) ju)))))) (jex (QG (i := 0) (fun _ => show List.Nodup (["height", "hours", "prices"] : List Str) from by decide +kernel) rfl (by decide) (fun _ => Or.inl rfl) (fun _ => Or.inr rfl) (QG (i := 1) (fun _ => show List.Nodup (["height", "hours", "prices"] : List Str) from by decide +kernel) rfl (by decide) (fun _ => Or.inl rfl) (fun _ => Or.inr rfl) jeZ))) qp (qZ (jb 1) (WE.toT (j9 (fun _ => jaK T) (fun _ => hr.mono (by decide)) (fun _ => rfl) (fun _ => T.M_cost_of_hour) (fun _ => T.F_cost_of_hour.kp) (fun _ => T.B_cost_of_hour) (je (jA 0) (je (jA 2) ju)))))))) jt)))))
theorem jbv (T:Txt K mg A):FnOk P w K mg base Qc 1 A.a__law_totals A.d__law_totals ["parts", "plan"] (@spO ⟨K⟩ JC) :=
 QT (m:=JB) T.F__law_totals jbB rfl rfl fun cdv Ar outer s H E hr=>
  (jo (Zh (ZS (sc:=jd jS) (Lc:=["s"]) (Fn := ["plan"]) (ix := [1]) (fun _ => rfl) (show LcOk (jd jS) ["parts", "plan"] _ ["plan"] [1] from by decide +kernel) (WI.toT (Jp (fun _ => rfl) (fun _ => T.b_range) (jl (WE.toT (qG b_len (fun _ => rfl) (fun _ => T.b_len) PySem.boot_len (jl (jb 0) jt))) jt))) (qD (i := 0) (fun _ => show List.Nodup (["s", "plan"] : List Str) from by decide +kernel) rfl (by decide) (fun _ => Or.inr rfl) (fun _ => Or.inl rfl)) qp (qG b_sum (fun _ => rfl) (fun _ => T.b_sum) boot_sum (jl (WE.toT (WO.toE (jna (sc := jd jS) (Lc := ["row"]) (Fn := ["s"]) (ix := [0]) (fun _ => rfl) (show LcOk (jhJ (jd jS) _) ["s", "plan"] _ ["s"] [0] from by decide +kernel) (qB (jb 1)) (qD (i := 0) (fun _ => show List.Nodup (["row", "s"] : List Str) from by decide +kernel) rfl (by decide) (fun _ => Or.inl rfl) (fun _ => Or.inr rfl)) qp (jU (jb 0) (jb 1))))) jt)))))
theorem jb8 (T:Txt K mg A):FnOk P w K mg base Qc 2 A.a__law_above A.d__law_above ["parts", "plan", "k"] (@spS ⟨K⟩ J1) :=
 zN (m:=zX) T.F__law_above sc__law_above rfl rfl fun cdv Ar outer s H E hr=>
  (jf (jD (i:=3) jh (fun _=>sc__law_above.nd) rfl (fun _=>Or.inl rfl) (fun _=>Or.inl rfl))
   (jf (jD (i:=4) (WO.toE (qV (fun _=>jbv T) (fun _=>hr.mono (by decide)) (fun _=>rfl) (fun _=>T.M__law_totals) (fun _=>T.F__law_totals.kp) (fun _=>T.B__law_totals) (je (jA 0) (je (jA 1) ju)))) (fun _=>sc__law_above.nd) rfl (fun _=>Or.inl rfl) (fun _=>Or.inl rfl))
   (jf (Jt (Jp (fun _=>rfl) (fun _=>T.b_range) (jl (WE.toT (qG b_len (fun _=>rfl) (fun _=>T.b_len) PySem.boot_len (jl (jb 0) jt))) jt)) (qN (i:=5) (fun _=>sc__law_above.nd) rfl (fun _=>Or.inl rfl) (fun _=>Or.inl rfl))
   (jo (jD (i:=3) (qA (jb 3) (WE.toT (qG jhM (fun _=>rfl) (fun _=>T.b_max) boot_max (jl (WE.toT jh) (jl (WE.toT (zp (WE.toT (jU (jb 4) (jb 5))) (WE.toT (qZ (jb 2) (WE.toT (zp (WE.toT (jU (WE.toT (jU (jb 0) (jb 5))) (WE.toT jh))) (WE.toT (jU (WE.toT (jU (jb 0) (jb 5))) (WE.toT jh))))))))) jt))))) (fun _=>sc__law_above.nd) rfl (fun _=>Or.inl rfl) (fun _=>Or.inl rfl))))
   (jo (j6 (jA 3))))))
theorem jk3 (T:Txt K mg A):FnOk P w K mg base Qc 7 A.a_law A.d_law ["script"] (@spS ⟨K⟩ jkw) :=
 zN (m:=jgb) T.F_law sc_law rfl rfl fun cdv Ar outer s H E hr=>
  (jf (jD (i:=1) (WO.toE (qV (fun _=>jb9 T) (fun _=>hr.mono (by decide)) (fun _=>rfl) (fun _=>T.M__law_fleet) (fun _=>T.F__law_fleet.kp) (fun _=>T.B__law_fleet) (je (jA 0) (je jh ju)))) (fun _=>sc_law.nd) rfl (fun _=>Or.inl rfl) (fun _=>Or.inl rfl))
   (jf (jD (i:=2) (WO.toE (qV (fun _=>Q1 T) (fun _=>hr.mono (by decide)) (fun _=>rfl) (fun _=>T.M__law_parts) (fun _=>T.F__law_parts.kp) (fun _=>T.B__law_parts) (je (jA 1) ju))) (fun _=>sc_law.nd) rfl (fun _=>Or.inl rfl) (fun _=>Or.inl rfl))
   (jf (jD (i:=3) (WO.toE (qV (fun _=>jdj T) (fun _=>hr.mono (by decide)) (fun _=>rfl) (fun _=>T.M__law_plan) (fun _=>T.F__law_plan.kp) (fun _=>T.B__law_plan) (je (jA 1) (je (WO.toE (ji0 (WE.toT (WO.toE (jjl (jb 0) (jd7 (WE.toT jh)) (jd7 (WE.toT jh))))) (WE.toT (WO.toE (JN (je jh ju)))))) ju)))) (fun _=>sc_law.nd) rfl (fun _=>Or.inl rfl) (fun _=>Or.inl rfl))
   (jf (jD (i:=4) (WO.toE (qV (fun _=>jbm T) (fun _=>hr.mono (by decide)) (fun _=>rfl) (fun _=>T.M__law_prices) (fun _=>T.F__law_prices.kp) (fun _=>T.B__law_prices) (je (jA 0) ju))) (fun _=>sc_law.nd) rfl (fun _=>Or.inl rfl) (fun _=>Or.inl rfl))
   (jf (jhO (i:=5) (fun _=>sc_law.nd) rfl (fun _=>rfl) (sc:=jd Qd) (Lc:=["row"]) (Fn := []) (ix := []) (fun _ => rfl) (show LcOk (jd Qd) ["script", "fleet", "parts", "plan", "prices", "handed", "listed", "ships", "found", "due", "j", "step"] _ [] [] from by decide +kernel) (qB (jb 3)) (qD (i := 0) (fun _ => show List.Nodup (["row"] : List Str) from by decide +kernel) rfl (by decide) (fun _ => Or.inl rfl) (fun _ => Or.inr rfl)) qp (WO.toE (jii b_list (fun _ => rfl) (fun _ => T.b_list) boot_list (jl (jb 0) jt))))
   (jf (jD (i:=6) (WO.toE (jii b_list (fun _=>rfl) (fun _=>T.b_list) boot_list (jl (jb 4) jt))) (fun _=>sc_law.nd) rfl (fun _=>Or.inl rfl) (fun _=>Or.inl rfl))
   (jf (jD (i:=7) (WO.toE (jii b_list (fun _=>rfl) (fun _=>T.b_list) boot_list (jl (jb 1) jt))) (fun _=>sc_law.nd) rfl (fun _=>Or.inl rfl) (fun _=>Or.inl rfl))
   (jf (jD (i:=8) (j9 (fun _=>jgi T) (fun _=>hr.mono (by decide)) (fun _=>rfl) (fun _=>T.M_cost) (fun _=>T.F_cost.kp) (fun _=>T.B_cost) (je (jA 7) (je (jA 5) (je (jA 6) ju)))) (fun _=>sc_law.nd) rfl (fun _=>Or.inl rfl) (fun _=>Or.inl rfl))
   (jf (zI (WW.toC (jeR (zx (je7 fun _=>hr.units) (jb 7) (jb 1)) (jeR (zx (je7 fun _=>hr.units) (jb 5) (jb 3)) (jel (zx (je7 fun _=>hr.units) (jb 6) (jb 4))))))
   (jo (j6 jdy)) qm)
   (jf (jD (i:=9) (qZ (WE.toT (jU (jb 4) (WE.toT jh))) (WE.toT (qG b_sum (fun _=>rfl) (fun _=>T.b_sum) boot_sum (jl (WE.toT (WO.toE (ZS (sc:=jd Qd) (Lc:=["ship"]) (Fn := []) (ix := []) (fun _ => rfl) (show LcOk (jd Qd) ["script", "fleet", "parts", "plan", "prices", "handed", "listed", "ships", "found", "due", "j", "step"] _ [] [] from by decide +kernel) (qB (jb 1)) (qD (i := 0) (fun _ => show List.Nodup (["ship"] : List Str) from by decide +kernel) rfl (by decide) (fun _ => Or.inl rfl) (fun _ => Or.inr rfl)) qp (jU (jb 0) (WE.toT jh))))) jt)))) (fun _ => sc_law.nd) rfl (fun _ => Or.inl rfl) (fun _ => Or.inl rfl))
   (jf (Jt (jjk (fun _=>rfl) (fun _=>T.b_range) (jl (WE.toT jh) (jl (WE.toT (qG b_len (fun _=>rfl) (fun _=>T.b_len) PySem.boot_len (jl (jb 4) jt))) jt))) (qN (i:=10) (fun _=>sc_law.nd) rfl (fun _=>Or.inl rfl) (fun _=>Or.inl rfl))
   (jf (jD (i:=11) (zp (WE.toT (jU (jb 4) (jb 10))) (WE.toT (jU (jb 4) (WE.toT (zp (jb 10) (WE.toT jh)))))) (fun _=>sc_law.nd) rfl (fun _=>Or.inl rfl) (fun _=>Or.inl rfl))
   (jo (jD (i:=9) (qA (jb 9) (WE.toT (qZ (jb 11) (WE.toT (j9 (fun _=>jb8 T) (fun _=>hr.mono (by decide)) (fun _=>rfl) (fun _=>T.M__law_above) (fun _=>T.F__law_above.kp) (fun _=>T.B__law_above) (je (jA 2) (je (jA 3) (je (jA 10) ju)))))))) (fun _=>sc_law.nd) rfl (fun _=>Or.inl rfl) (fun _=>Or.inl rfl)))))
   (jf (zI (WW.toC (jeR (Zz (QP (WE.toT (jay (fun _=>rfl) (fun _=>T.b_isinstance) (fun _=>rfl) (fun _=>T.b_int) boot_int (by decide) (jb 8))))) (jeR (QP (WE.toT (jay (fun _=>rfl) (fun _=>T.b_isinstance) (fun _=>rfl) (fun _=>T.b_bool) boot_bool (by decide) (jb 8)))) (jel (zx (je7 fun _=>hr.units) (jb 8) (jb 9))))))
   (jo (j6 jdy)) qm)
   (jo (j6 (jfN (jiZ fun _=>hr.units) (WE.toT (j9 (fun _=>jgi T) (fun _=>hr.mono (by decide)) (fun _=>rfl) (fun _=>T.M_cost) (fun _=>T.F_cost.kp) (fun _=>T.B_cost) (je (jA 7) (je (jA 5) (je (WO.toE (jjl (jb 4) jij (jd7 (WE.toT jh)))) ju))))) (WE.toT (qZ (WE.toT (jU (jb 4) (WE.toT jh))) (WE.toT (qG b_sum (fun _=>rfl) (fun _=>T.b_sum) boot_sum (jl (WE.toT (WO.toE (ZS (sc:=jd Qd) (Lc:=["ship"]) (Fn := []) (ix := []) (fun _ => rfl) (show LcOk (jd Qd) ["script", "fleet", "parts", "plan", "prices", "handed", "listed", "ships", "found", "due", "j", "step"] _ [] [] from by decide +kernel) (qB (jb 1)) (qD (i := 0) (fun _ => show List.Nodup (["ship"] : List Str) from by decide +kernel) rfl (by decide) (fun _ => Or.inl rfl) (fun _ => Or.inr rfl)) qp (jU (jb 0) (WE.toT jh))))) jt))))))))))))))))))))
end
noncomputable def jga (K:PySem.W.Frag):Sp:=fun vs H Q _=>∃(a:Addr) (ns:List Int),vs=[.ref a]/\zB K H a (ns.map V.int)/\ns.length<=63/\∀H',Q (.bl true) H'
theorem jkl {P:Program} {w:World} {K:PySem.W.Frag} {mg:Str → Option Value} {base:Heap} {A:Adr} (T:Txt K mg A):FnOk P w K mg base Qc 7 A.a_law A.d_law ["script"] (jga K) := by
 letI:Fr:=⟨K⟩
 refine (jk3 T).imp fun vs H Q E h=>?_
 obtain ⟨a,ns,rfl,hs,hl,q⟩:=h
 exact ⟨H,[.scr ns],.bl true,.refl _,.cons (.scr hs) .nil,jiF ns hl,fun v G' H' x r=>by cases r;exact q _⟩
set_option maxHeartbeats 4000000 in
theorem jlU {l:PySem.W.OpenLaw} {w:World} {K:PySem.W.Frag} {h:Heap} {mg:Str → Option Value} {fa:Addr} (X:K.In h) (G:h.Ns mainGlobals mg) (hfa:mg "law" = some (.ref fa))
 {f0 f1 f2 f3 f4 f5 f6 f7 f8 f9 f10 f11 f12 f13 f14 f15 f16 f17 f18 f19 f20 f21 f22 f23 f24 f25:Addr}
 {od0 od1 od2 od3 od4 od5 od6 od7 od8 od9 od10 od11 od12 od13 od14 od15 od16 od17 od18 od19 od20 od21 od22 od23 od24 od25:Option Addr}
 {an0 an1 an2 an3 an4 an5 an6 an7 an8 an9 an10 an11 an12 an13 an14 an15 an16 an17 an18 an19 an20 an21 an22 an23 an24 an25:Option Addr}
 {sl0 sl1 sl2 sl3 sl4 sl5 sl6 sl7 sl8 sl9 sl10 sl11 sl12 sl13 sl14 sl15 sl16 sl17 sl18 sl19 sl20 sl21 sl22 sl23 sl24 sl25:Array (Option Value)}
 {oc0 oc1 oc2 oc3 oc4 oc5 oc6 oc7 oc8 oc9 oc10 oc11 oc12 oc13 oc14 oc15 oc16 oc17 oc18 oc19 oc20 oc21 oc22 oc23 oc24 oc25:Value}
 {kV0 kV1 kV2 kV3 kV4 kV5 kV6 kV7 kV8 kV9 kV10 kV11 kV12 kV13 kV14 kV15 kV16 kV17 kV18 kV19 kV20 kV21 kV22 kV23 kV24 kV25:Value}
 {dc0 dc1 dc2 dc3 dc4 dc5 dc6 dc7 dc8 dc9 dc10 dc11 dc12 dc13 dc14 dc15 dc16 dc17 dc18 dc19 dc20 dc21 dc22 dc23 dc24 dc25:Value}
 {pm0 pm1 pm2 pm3 pm4 pm5 pm6 pm7 pm8 pm9 pm10 pm11 pm12 pm13 pm14 pm15 pm16 pm17 pm18 pm19 pm20 pm21 pm22 pm23 pm24 pm25:Value}
 {cd0 cd1 cd2 cd3 cd4 cd5 cd6 cd7 cd8 cd9 cd10 cd11 cd12 cd13 cd14 cd15 cd16 cd17 cd18 cd19 cd20 cd21 cd22 cd23 cd24 cd25:Value}
 {ct0 ct1 ct2 ct3 ct4 ct5 ct6 ct7 ct8 ct9 ct10 ct11 ct12 ct13 ct14 ct15 ct16 ct17 ct18 ct19 ct20 ct21 ct22 ct23 ct24 ct25:Value}
 {t0:Tok}
 {t1:Tok}
 {t2:Tok}
 {t3:Tok}
 {t4:Tok}
 {t5:Tok}
 (a0:PySem.W.nsIn K mainGlobals "_law_cell_at" = some (some (.ref f0))) (l0 : K.lookup f0 = some ⟨oc0, od0, .func (PySem.W.fnOf "_law_cell_at" "_law_cell_at" (jJ qu) (jH qu) (jd qu) .none kV0 dc0 pm0 an0 cd0 ct0), sl0⟩) (c0 : PySem.W.codeIn K cd0 "_law_cell_at" = true) (k0 : PySem.W.keepIn K (.ref f0) = true)
 (a1:PySem.W.nsIn K mainGlobals "_law_ship" = some (some (.ref f1))) (l1 : K.lookup f1 = some ⟨oc1, od1, .func (PySem.W.fnOf "_law_ship" "_law_ship" (jJ ze) (jH ze) (jd ze) .none kV1 dc1 pm1 an1 cd1 ct1), sl1⟩) (c1 : PySem.W.codeIn K cd1 "_law_ship" = true) (k1 : PySem.W.keepIn K (.ref f1) = true)
 (a2:PySem.W.nsIn K mainGlobals "_law_fleet" = some (some (.ref f2))) (l2 : K.lookup f2 = some ⟨oc2, od2, .func (PySem.W.fnOf "_law_fleet" "_law_fleet" (jJ qM) (jH qM) (jd qM) .none kV2 dc2 pm2 an2 cd2 ct2), sl2⟩) (c2 : PySem.W.codeIn K cd2 "_law_fleet" = true) (k2 : PySem.W.keepIn K (.ref f2) = true)
 (a3:PySem.W.nsIn K mainGlobals "_law_parts" = some (some (.ref f3))) (l3 : K.lookup f3 = some ⟨oc3, od3, .func (PySem.W.fnOf "_law_parts" "_law_parts" (jJ jO) (jH jO) (jd jO) .none kV3 dc3 pm3 an3 cd3 ct3), sl3⟩) (c3 : PySem.W.codeIn K cd3 "_law_parts" = true) (k3 : PySem.W.keepIn K (.ref f3) = true)
 (a4:PySem.W.nsIn K mainGlobals "_law_rooms" = some (some (.ref f4))) (l4 : K.lookup f4 = some ⟨oc4, od4, .func (PySem.W.fnOf "_law_rooms" "_law_rooms" (jJ qL) (jH qL) (jd qL) .none kV4 dc4 pm4 an4 cd4 ct4), sl4⟩) (c4 : PySem.W.codeIn K cd4 "_law_rooms" = true) (k4 : PySem.W.keepIn K (.ref f4) = true)
 (a5:PySem.W.nsIn K mainGlobals "_law_plan" = some (some (.ref f5))) (l5 : K.lookup f5 = some ⟨oc5, od5, .func (PySem.W.fnOf "_law_plan" "_law_plan" (jJ za) (jH za) (jd za) .none kV5 dc5 pm5 an5 cd5 ct5), sl5⟩) (c5 : PySem.W.codeIn K cd5 "_law_plan" = true) (k5 : PySem.W.keepIn K (.ref f5) = true)
 (a6:PySem.W.nsIn K mainGlobals "_law_prices" = some (some (.ref f6))) (l6 : K.lookup f6 = some ⟨oc6, od6, .func (PySem.W.fnOf "_law_prices" "_law_prices" (jJ qC) (jH qC) (jd qC) .none kV6 dc6 pm6 an6 cd6 ct6), sl6⟩) (c6 : PySem.W.codeIn K cd6 "_law_prices" = true) (k6 : PySem.W.keepIn K (.ref f6) = true)
 (a7:PySem.W.nsIn K mainGlobals "is_whole" = some (some (.ref f7))) (l7 : K.lookup f7 = some ⟨oc7, od7, .func (PySem.W.fnOf "is_whole" "is_whole" (jJ zA) (jH zA) (jd zA) .none kV7 dc7 pm7 an7 cd7 ct7), sl7⟩) (c7 : PySem.W.codeIn K cd7 "is_whole" = true) (k7 : PySem.W.keepIn K (.ref f7) = true)
 (a8:PySem.W.nsIn K mainGlobals "is_ship" = some (some (.ref f8))) (l8 : K.lookup f8 = some ⟨oc8, od8, .func (PySem.W.fnOf "is_ship" "is_ship" (jJ zb) (jH zb) (jd zb) .none kV8 dc8 pm8 an8 cd8 ct8), sl8⟩) (c8 : PySem.W.codeIn K cd8 "is_ship" = true) (k8 : PySem.W.keepIn K (.ref f8) = true)
 (a9:PySem.W.nsIn K mainGlobals "is_fleet" = some (some (.ref f9))) (l9 : K.lookup f9 = some ⟨oc9, od9, .func (PySem.W.fnOf "is_fleet" "is_fleet" (jJ qH) (jH qH) (jd qH) .none kV9 dc9 pm9 an9 cd9 ct9), sl9⟩) (c9 : PySem.W.codeIn K cd9 "is_fleet" = true) (k9 : PySem.W.keepIn K (.ref f9) = true)
 (a10:PySem.W.nsIn K mainGlobals "must_be_fleet" = some (some (.ref f10))) (l10 : K.lookup f10 = some ⟨oc10, od10, .func (PySem.W.fnOf "must_be_fleet" "must_be_fleet" (jJ qf) (jH qf) (jd qf) .none kV10 dc10 pm10 an10 cd10 ct10), sl10⟩) (c10 : PySem.W.codeIn K cd10 "must_be_fleet" = true) (k10 : PySem.W.keepIn K (.ref f10) = true)
 (a11:PySem.W.nsIn K mainGlobals "bounds" = some (some (.ref f11))) (l11 : K.lookup f11 = some ⟨oc11, od11, .func (PySem.W.fnOf "bounds" "bounds" (jJ qQ) (jH qQ) (jd qQ) .none kV11 dc11 pm11 an11 cd11 ct11), sl11⟩) (c11 : PySem.W.codeIn K cd11 "bounds" = true) (k11 : PySem.W.keepIn K (.ref f11) = true)
 (a12:PySem.W.nsIn K mainGlobals "stretches" = some (some (.ref f12))) (l12 : K.lookup f12 = some ⟨oc12, od12, .func (PySem.W.fnOf "stretches" "stretches" (jJ zc) (jH zc) (jd zc) .none kV12 dc12 pm12 an12 cd12 ct12), sl12⟩) (c12 : PySem.W.codeIn K cd12 "stretches" = true) (k12 : PySem.W.keepIn K (.ref f12) = true)
 (a13:PySem.W.nsIn K mainGlobals "length" = some (some (.ref f13))) (l13 : K.lookup f13 = some ⟨oc13, od13, .func (PySem.W.fnOf "length" "length" (jJ JH) (jH JH) (jd JH) .none kV13 dc13 pm13 an13 cd13 ct13), sl13⟩) (c13 : PySem.W.codeIn K cd13 "length" = true) (k13 : PySem.W.keepIn K (.ref f13) = true)
 (a14:PySem.W.nsIn K mainGlobals "room" = some (some (.ref f14))) (l14 : K.lookup f14 = some ⟨oc14, od14, .func (PySem.W.fnOf "room" "room" (jJ Z0) (jH Z0) (jd Z0) .none kV14 dc14 pm14 an14 cd14 ct14), sl14⟩) (c14 : PySem.W.codeIn K cd14 "room" = true) (k14 : PySem.W.keepIn K (.ref f14) = true)
 (a15:PySem.W.nsIn K mainGlobals "is_share" = some (some (.ref f15))) (l15 : K.lookup f15 = some ⟨oc15, od15, .func (PySem.W.fnOf "is_share" "is_share" (jJ qk) (jH qk) (jd qk) .none kV15 dc15 pm15 an15 cd15 ct15), sl15⟩) (c15 : PySem.W.codeIn K cd15 "is_share" = true) (k15 : PySem.W.keepIn K (.ref f15) = true)
 (a16:PySem.W.nsIn K mainGlobals "is_plan" = some (some (.ref f16))) (l16 : K.lookup f16 = some ⟨oc16, od16, .func (PySem.W.fnOf "is_plan" "is_plan" (jJ zg) (jH zg) (jd zg) .none kV16 dc16 pm16 an16 cd16 ct16), sl16⟩) (c16 : PySem.W.codeIn K cd16 "is_plan" = true) (k16 : PySem.W.keepIn K (.ref f16) = true)
 (a17:PySem.W.nsIn K mainGlobals "must_be_plan" = some (some (.ref f17))) (l17 : K.lookup f17 = some ⟨oc17, od17, .func (PySem.W.fnOf "must_be_plan" "must_be_plan" (jJ qq) (jH qq) (jd qq) .none kV17 dc17 pm17 an17 cd17 ct17), sl17⟩) (c17 : PySem.W.codeIn K cd17 "must_be_plan" = true) (k17 : PySem.W.keepIn K (.ref f17) = true)
 (a18:PySem.W.nsIn K mainGlobals "cost_of_hour" = some (some (.ref f18))) (l18 : K.lookup f18 = some ⟨oc18, od18, .func (PySem.W.fnOf "cost_of_hour" "cost_of_hour" (jJ qt) (jH qt) (jd qt) .none kV18 dc18 pm18 an18 cd18 ct18), sl18⟩) (c18 : PySem.W.codeIn K cd18 "cost_of_hour" = true) (k18 : PySem.W.keepIn K (.ref f18) = true)
 (a19:PySem.W.nsIn K mainGlobals "loads_in" = some (some (.ref f19))) (l19 : K.lookup f19 = some ⟨oc19, od19, .func (PySem.W.fnOf "loads_in" "loads_in" (jJ zC) (jH zC) (jd zC) .none kV19 dc19 pm19 an19 cd19 ct19), sl19⟩) (c19 : PySem.W.codeIn K cd19 "loads_in" = true) (k19 : PySem.W.keepIn K (.ref f19) = true)
 (a20:PySem.W.nsIn K mainGlobals "total" = some (some (.ref f20))) (l20 : K.lookup f20 = some ⟨oc20, od20, .func (PySem.W.fnOf "total" "total" (jJ Jq) (jH Jq) (jd Jq) .none kV20 dc20 pm20 an20 cd20 ct20), sl20⟩) (c20 : PySem.W.codeIn K cd20 "total" = true) (k20 : PySem.W.keepIn K (.ref f20) = true)
 (a21:PySem.W.nsIn K mainGlobals "row_of" = some (some (.ref f21))) (l21 : K.lookup f21 = some ⟨oc21, od21, .func (PySem.W.fnOf "row_of" "row_of" (jJ JK) (jH JK) (jd JK) .none kV21 dc21 pm21 an21 cd21 ct21), sl21⟩) (c21 : PySem.W.codeIn K cd21 "row_of" = true) (k21 : PySem.W.keepIn K (.ref f21) = true)
 (a22:PySem.W.nsIn K mainGlobals "cost" = some (some (.ref f22))) (l22 : K.lookup f22 = some ⟨oc22, od22, .func (PySem.W.fnOf "cost" "cost" (jJ Qi) (jH Qi) (jd Qi) .none kV22 dc22 pm22 an22 cd22 ct22), sl22⟩) (c22 : PySem.W.codeIn K cd22 "cost" = true) (k22 : PySem.W.keepIn K (.ref f22) = true)
 (a23:PySem.W.nsIn K mainGlobals "_law_totals" = some (some (.ref f23))) (l23 : K.lookup f23 = some ⟨oc23, od23, .func (PySem.W.fnOf "_law_totals" "_law_totals" (jJ jS) (jH jS) (jd jS) .none kV23 dc23 pm23 an23 cd23 ct23), sl23⟩) (c23 : PySem.W.codeIn K cd23 "_law_totals" = true) (k23 : PySem.W.keepIn K (.ref f23) = true)
 (a24:PySem.W.nsIn K mainGlobals "_law_above" = some (some (.ref f24))) (l24 : K.lookup f24 = some ⟨oc24, od24, .func (PySem.W.fnOf "_law_above" "_law_above" (jJ qP) (jH qP) (jd qP) .none kV24 dc24 pm24 an24 cd24 ct24), sl24⟩) (c24 : PySem.W.codeIn K cd24 "_law_above" = true) (k24 : PySem.W.keepIn K (.ref f24) = true)
 (a25:PySem.W.nsIn K mainGlobals "law" = some (some (.ref f25))) (l25 : K.lookup f25 = some ⟨oc25, od25, .func (PySem.W.fnOf "law" "law" (jJ Qd) (jH Qd) (jd Qd) .none kV25 dc25 pm25 an25 cd25 ct25), sl25⟩) (c25 : PySem.W.codeIn K cd25 "law" = true) (k25 : PySem.W.keepIn K (.ref f25) = true)
 (cst0:PySem.W.nsIn K mainGlobals "NEED" = some (some (.int 2 t0)))
 (cst1:PySem.W.nsIn K mainGlobals "MOST" = some (some (.int 3 t1)))
 (cst2:PySem.W.nsIn K mainGlobals "END" = some (some (.int 1 t2)))
 (cst3:PySem.W.nsIn K mainGlobals "BEGIN" = some (some (.int 0 t3)))
 (cst4:PySem.W.nsIn K mainGlobals "TO" = some (some (.int 1 t4)))
 (cst5:PySem.W.nsIn K mainGlobals "FROM" = some (some (.int 0 t5)))
 (z0:PySem.W.nsIn K mainGlobals "len" = some none)
 (z1:PySem.W.nsIn K mainGlobals "min" = some none)
 (z2:PySem.W.nsIn K mainGlobals "range" = some none)
 (z3:PySem.W.nsIn K mainGlobals "sorted" = some none)
 (z4:PySem.W.nsIn K mainGlobals "isinstance" = some none)
 (z5:PySem.W.nsIn K mainGlobals "bool" = some none)
 (z6:PySem.W.nsIn K mainGlobals "int" = some none)
 (z7:PySem.W.nsIn K mainGlobals "all" = some none)
 (z8:PySem.W.nsIn K mainGlobals "tuple" = some none)
 (z9:PySem.W.nsIn K mainGlobals "list" = some none)
 (z10:PySem.W.nsIn K mainGlobals "set" = some none)
 (z11:PySem.W.nsIn K mainGlobals "zip" = some none)
 (z12:PySem.W.nsIn K mainGlobals "sum" = some none)
 (z13:PySem.W.nsIn K mainGlobals "max" = some none)
 (z14:PySem.W.nsIn K mainGlobals "enumerate" = some none) :
 ∃fd:FuncData,(∀(s:Shared) (v:Value),BindsTo s fd ⟨[v],[]⟩ [("script", v)]) ∧ ∀ base : Heap, K.In base → base.Ns mainGlobals mg → FnOk l.prog w K mg base Qc 7 fa fd ["script"] (jga K) := by
 have e:=hfa.symm.trans (PySem.W.mg_of X G a25)
 have e':f25=fa:=by injection (Option.some.inj e) with z;exact z.symm
 subst e'
 have F0:=jZ (st:=qu) l0 c0 k0
 have b0:=F0.binds (ps:=["script", "k"]) fun _ _ _ _ _ _ => ar2 fun _ _ => rfl
 have F1:=jZ (st:=ze) l1 c1 k1
 have b1:=F1.binds (ps:=["one", "two", "kind"]) fun _ _ _ _ _ _ => ar3 fun _ _ _ => rfl
 have F2:=jZ (st:=qM) l2 c2 k2
 have b2:=F2.binds (ps:=["script", "start"]) fun _ _ _ _ _ _ => ar2 fun _ _ => rfl
 have F3:=jZ (st:=jO) l3 c3 k3
 have b3:=F3.binds (ps:=["fleet"]) fun _ _ _ _ _ _ => ar1 fun _ => rfl
 have F4:=jZ (st:=qL) l4 c4 k4
 have b4:=F4.binds (ps:=["ship", "parts"]) fun _ _ _ _ _ _ => ar2 fun _ _ => rfl
 have F5:=jZ (st:=za) l5 c5 k5
 have b5:=F5.binds (ps:=["fleet", "cells"]) fun _ _ _ _ _ _ => ar2 fun _ _ => rfl
 have F6:=jZ (st:=qC) l6 c6 k6
 have b6:=F6.binds (ps:=["script"]) fun _ _ _ _ _ _ => ar1 fun _ => rfl
 have F7:=jZ (st:=zA) l7 c7 k7
 have b7:=F7.binds (ps:=["thing"]) fun _ _ _ _ _ _ => ar1 fun _ => rfl
 have F8:=jZ (st:=zb) l8 c8 k8
 have b8:=F8.binds (ps:=["thing"]) fun _ _ _ _ _ _ => ar1 fun _ => rfl
 have F9:=jZ (st:=qH) l9 c9 k9
 have b9:=F9.binds (ps:=["thing"]) fun _ _ _ _ _ _ => ar1 fun _ => rfl
 have F10:=jZ (st:=qf) l10 c10 k10
 have b10:=F10.binds (ps:=["thing"]) fun _ _ _ _ _ _ => ar1 fun _ => rfl
 have F11:=jZ (st:=qQ) l11 c11 k11
 have b11:=F11.binds (ps:=["fleet"]) fun _ _ _ _ _ _ => ar1 fun _ => rfl
 have F12:=jZ (st:=zc) l12 c12 k12
 have b12:=F12.binds (ps:=["fleet"]) fun _ _ _ _ _ _ => ar1 fun _ => rfl
 have F13:=jZ (st:=JH) l13 c13 k13
 have b13:=F13.binds (ps:=["stretch"]) fun _ _ _ _ _ _ => ar1 fun _ => rfl
 have F14:=jZ (st:=Z0) l14 c14 k14
 have b14:=F14.binds (ps:=["ship", "stretch"]) fun _ _ _ _ _ _ => ar2 fun _ _ => rfl
 have F15:=jZ (st:=qk) l15 c15 k15
 have b15:=F15.binds (ps:=["ship", "spans", "thing"]) fun _ _ _ _ _ _ => ar3 fun _ _ _ => rfl
 have F16:=jZ (st:=zg) l16 c16 k16
 have b16:=F16.binds (ps:=["fleet", "thing"]) fun _ _ _ _ _ _ => ar2 fun _ _ => rfl
 have F17:=jZ (st:=qq) l17 c17 k17
 have b17:=F17.binds (ps:=["fleet", "thing"]) fun _ _ _ _ _ _ => ar2 fun _ _ => rfl
 have F18:=jZ (st:=qt) l18 c18 k18
 have b18:=F18.binds (ps:=["height", "prices"]) fun _ _ _ _ _ _ => ar2 fun _ _ => rfl
 have F19:=jZ (st:=zC) l19 c19 k19
 have b19:=F19.binds (ps:=["many", "hours"]) fun _ _ _ _ _ _ => ar2 fun _ _ => rfl
 have F20:=jZ (st:=Jq) l20 c20 k20
 have b20:=F20.binds (ps:=["plan", "place"]) fun _ _ _ _ _ _ => ar2 fun _ _ => rfl
 have F21:=jZ (st:=JK) l21 c21 k21
 have b21:=F21.binds (ps:=["fleet", "plan"]) fun _ _ _ _ _ _ => ar2 fun _ _ => rfl
 have F22:=jZ (st:=Qi) l22 c22 k22
 have b22:=F22.binds (ps:=["fleet", "plan", "prices"]) fun _ _ _ _ _ _ => ar3 fun _ _ _ => rfl
 have F23:=jZ (st:=jS) l23 c23 k23
 have b23:=F23.binds (ps:=["parts", "plan"]) fun _ _ _ _ _ _ => ar2 fun _ _ => rfl
 have F24:=jZ (st:=qP) l24 c24 k24
 have b24:=F24.binds (ps:=["parts", "plan", "k"]) fun _ _ _ _ _ _ => ar3 fun _ _ _ => rfl
 have F25:=jZ (st:=Qd) l25 c25 k25
 have b25:=F25.binds (ps:=["script"]) fun _ _ _ _ _ _ => ar1 fun _ => rfl
 have T:Txt K mg ⟨f0,_,f1,_,f2,_,f3,_,f4,_,f5,_,f6,_,f7,_,f8,_,f9,_,f10,_,f11,_,f12,_,f13,_,f14,_,f15,_,f16,_,f17,_,f18,_,f19,_,f20,_,f21,_,f22,_,f23,_,f24,_,f25,_,t0,t1,t2,t3,t4,t5⟩:=⟨F0,b0,PySem.W.mg_of X G a0,F1,b1,PySem.W.mg_of X G a1,F2,b2,PySem.W.mg_of X G a2,F3,b3,PySem.W.mg_of X G a3,F4,b4,PySem.W.mg_of X G a4,F5,b5,PySem.W.mg_of X G a5,F6,b6,PySem.W.mg_of X G a6,F7,b7,PySem.W.mg_of X G a7,F8,b8,PySem.W.mg_of X G a8,F9,b9,PySem.W.mg_of X G a9,F10,b10,PySem.W.mg_of X G a10,F11,b11,PySem.W.mg_of X G a11,F12,b12,PySem.W.mg_of X G a12,F13,b13,PySem.W.mg_of X G a13,F14,b14,PySem.W.mg_of X G a14,F15,b15,PySem.W.mg_of X G a15,F16,b16,PySem.W.mg_of X G a16,F17,b17,PySem.W.mg_of X G a17,F18,b18,PySem.W.mg_of X G a18,F19,b19,PySem.W.mg_of X G a19,F20,b20,PySem.W.mg_of X G a20,F21,b21,PySem.W.mg_of X G a21,F22,b22,PySem.W.mg_of X G a22,F23,b23,PySem.W.mg_of X G a23,F24,b24,PySem.W.mg_of X G a24,F25,b25,PySem.W.mg_of X G a25,PySem.W.mg_of X G cst0,PySem.W.mg_of X G cst1,PySem.W.mg_of X G cst2,PySem.W.mg_of X G cst3,PySem.W.mg_of X G cst4,PySem.W.mg_of X G cst5,PySem.W.mg_none_of X G z0,PySem.W.mg_none_of X G z1,PySem.W.mg_none_of X G z2,PySem.W.mg_none_of X G z3,PySem.W.mg_none_of X G z4,PySem.W.mg_none_of X G z5,PySem.W.mg_none_of X G z6,PySem.W.mg_none_of X G z7,PySem.W.mg_none_of X G z8,PySem.W.mg_none_of X G z9,PySem.W.mg_none_of X G z10,PySem.W.mg_none_of X G z11,PySem.W.mg_none_of X G z12,PySem.W.mg_none_of X G z13,PySem.W.mg_none_of X G z14⟩
 exact ⟨_,fun s v=>.of_eq rfl,fun base _ _=>jkl T⟩
theorem jog {l:PySem.W.OpenLaw} {q:Program} {loose:List Str} {XP:(Str->Option Value)->Heap->Prop} {YP:World->Heap->Prop} {d:DefRec} {K:Params->PySem.W.Frag} (hn:l.most=some 63) (hdf:d.params.defaults=[])
 (hY:∀(w:World) (h:Heap),YP w h->(K w.params).In h)
 (F:∀(w:World) (mg:Str->Option Value) (fa:Addr) (h:Heap),(K w.params).In h->h.Ns mainGlobals mg->mg d.name=some (.ref fa)->
  ∃fd:FuncData,(∀(s:Shared) (u:Value),BindsTo s fd ⟨[u],[]⟩ [("script", u)]) ∧ ∀ base : Heap, (K w.params).In base → base.Ns mainGlobals mg → FnOk l.prog w (K w.params) mg base Qc 7 fa fd ["script"] (jga (K w.params))) :
 PySem.W.WalkO q loose XP YP l.row.toRowW d [] (fun f vs=>PySem.call f vs):=
 L2.jje (n:=63) (k:=7) (x := "script") (CX := fun _ => Qc) (sp := fun w => jga (K w.params)) hn (by decide) hdf ⟨rfl, by decide, by decide⟩ hY F (fun _ _ a ns hl _ hS => ⟨a, ns, rfl, hS, hl, fun _ => rfl⟩) fun _ _ _ _ _ z => z
end Q
end
open PySem PySem.W PyProof.Rows
set_option maxRecDepth 100000 in
set_option maxHeartbeats 0 in
theorem PySem.Challenge.cw_evenquay_k63_what_a_plan_costs_holds : PySem.Challenge.rw_evenquay_k63_what_a_plan_costs.Holds := by
 w_on;o_law;k_head;(case hw=>w_witness2)
 k_fill
 refine Q.jog (l:=PySem.Challenge.rw_evenquay_k63_what_a_plan_costs) rfl rfl (fun w h Y=>PySem.W.kIn_of Y) ?F
 case F=>
  intro w mg fa h KX G hmg
  refine' Q.jlU KX G hmg ?a0 ?l0 ?c0 ?k0 ?a1 ?l1 ?c1 ?k1 ?a2 ?l2 ?c2 ?k2 ?a3 ?l3 ?c3 ?k3 ?a4 ?l4 ?c4 ?k4 ?a5 ?l5 ?c5 ?k5 ?a6 ?l6 ?c6 ?k6 ?a7 ?l7 ?c7 ?k7 ?a8 ?l8 ?c8 ?k8 ?a9 ?l9 ?c9 ?k9 ?a10 ?l10 ?c10 ?k10 ?a11 ?l11 ?c11 ?k11 ?a12 ?l12 ?c12 ?k12 ?a13 ?l13 ?c13 ?k13 ?a14 ?l14 ?c14 ?k14 ?a15 ?l15 ?c15 ?k15 ?a16 ?l16 ?c16 ?k16 ?a17 ?l17 ?c17 ?k17 ?a18 ?l18 ?c18 ?k18 ?a19 ?l19 ?c19 ?k19 ?a20 ?l20 ?c20 ?k20 ?a21 ?l21 ?c21 ?k21 ?a22 ?l22 ?c22 ?k22 ?a23 ?l23 ?c23 ?k23 ?a24 ?l24 ?c24 ?k24 ?a25 ?l25 ?c25 ?k25 ?cst0 ?cst1 ?cst2 ?cst3 ?cst4 ?cst5 ?z0 ?z1 ?z2 ?z3 ?z4 ?z5 ?z6 ?z7 ?z8 ?z9 ?z10 ?z11 ?z12 ?z13 ?z14
  (case a0=>k_is)
  (case l0=>k_is)
  (case c0=>k_is)
  (case k0=>k_is)
  (case a1=>k_is)
  (case l1=>k_is)
  (case c1=>k_is)
  (case k1=>k_is)
  (case a2=>k_is)
  (case l2=>k_is)
  (case c2=>k_is)
  (case k2=>k_is)
  (case a3=>k_is)
  (case l3=>k_is)
  (case c3=>k_is)
  (case k3=>k_is)
  (case a4=>k_is)
  (case l4=>k_is)
  (case c4=>k_is)
  (case k4=>k_is)
  (case a5=>k_is)
  (case l5=>k_is)
  (case c5=>k_is)
  (case k5=>k_is)
  (case a6=>k_is)
  (case l6=>k_is)
  (case c6=>k_is)
  (case k6=>k_is)
  (case a7=>k_is)
  (case l7=>k_is)
  (case c7=>k_is)
  (case k7=>k_is)
  (case a8=>k_is)
  (case l8=>k_is)
  (case c8=>k_is)
  (case k8=>k_is)
  (case a9=>k_is)
  (case l9=>k_is)
  (case c9=>k_is)
  (case k9=>k_is)
  (case a10=>k_is)
  (case l10=>k_is)
  (case c10=>k_is)
  (case k10=>k_is)
  (case a11=>k_is)
  (case l11=>k_is)
  (case c11=>k_is)
  (case k11=>k_is)
  (case a12=>k_is)
  (case l12=>k_is)
  (case c12=>k_is)
  (case k12=>k_is)
  (case a13=>k_is)
  (case l13=>k_is)
  (case c13=>k_is)
  (case k13=>k_is)
  (case a14=>k_is)
  (case l14=>k_is)
  (case c14=>k_is)
  (case k14=>k_is)
  (case a15=>k_is)
  (case l15=>k_is)
  (case c15=>k_is)
  (case k15=>k_is)
  (case a16=>k_is)
  (case l16=>k_is)
  (case c16=>k_is)
  (case k16=>k_is)
  (case a17=>k_is)
  (case l17=>k_is)
  (case c17=>k_is)
  (case k17=>k_is)
  (case a18=>k_is)
  (case l18=>k_is)
  (case c18=>k_is)
  (case k18=>k_is)
  (case a19=>k_is)
  (case l19=>k_is)
  (case c19=>k_is)
  (case k19=>k_is)
  (case a20=>k_is)
  (case l20=>k_is)
  (case c20=>k_is)
  (case k20=>k_is)
  (case a21=>k_is)
  (case l21=>k_is)
  (case c21=>k_is)
  (case k21=>k_is)
  (case a22=>k_is)
  (case l22=>k_is)
  (case c22=>k_is)
  (case k22=>k_is)
  (case a23=>k_is)
  (case l23=>k_is)
  (case c23=>k_is)
  (case k23=>k_is)
  (case a24=>k_is)
  (case l24=>k_is)
  (case c24=>k_is)
  (case k24=>k_is)
  (case a25=>k_is)
  (case l25=>k_is)
  (case c25=>k_is)
  (case k25=>k_is)
  (case cst0=>k_is)
  (case cst1=>k_is)
  (case cst2=>k_is)
  (case cst3=>k_is)
  (case cst4=>k_is)
  (case cst5=>k_is)
  (case z0=>k_is)
  (case z1=>k_is)
  (case z2=>k_is)
  (case z3=>k_is)
  (case z4=>k_is)
  (case z5=>k_is)
  (case z6=>k_is)
  (case z7=>k_is)
  (case z8=>k_is)
  (case z9=>k_is)
  (case z10=>k_is)
  (case z11=>k_is)
  (case z12=>k_is)
  (case z13=>k_is)
  (case z14=>k_is)
