import PyProof.Rows.All
import Wide.All
import OpenK.AllK
import Wide.FinOn
import Lean
import PyProof.EqAt
import PyProof.EqKinds
import PyProof.TupleCall
import PySem.SetOps
import PyProof.ZipIter
import PyProof.CollectWalk
import PyProof.Rows.SetFrom
import PyProof.Rows.SortShell
import KE.KRevIter
import PyProof.MaxThree
import KE.KDictList
import PyProof.Rows.Chain
import PyProof.Rows.CountFlat
import KE.KSortAsk
import KE.KItemsList
import KE.KSortTup
import PyProof.Rows.SortRev
import PyProof.Rows.SortWalk
import PyProof.Rows.CallKwBuiltin
import PyProof.WalkInts
import KE.KMinBuiltin
import PyProof.ReprRoads
import PySem.Challenge.RW_evenquay_k10_what_is_a_plan
-- CHANGE: your row's module here, as the last of these rows
set_option compiler.extract_closed false
def PySem.W.Fast.tw739762875238410205:=()
def PySem.W.Fast.tw10708068270252245120:=()
def PySem.W.Fast.tw403833573726137843:=()
def PySem.W.Fast.tw9763085323072757698:=()
def PySem.W.Fast.tw8192684502683618291:=()
def PySem.W.Fast.tw711273638922226767:=()
def PySem.W.Fast.tw17544610783510197233:=()
def PySem.W.Fast.tw16421884281344040202:=()
def PySem.W.Fast.tw9828462767577452335:=()
def PySem.W.Fast.tw2969986497553615923:=()
namespace QA
theorem a0(h:True:=by first | exact .inl rfl | exact .inr rfl | assumption):True:=h
theorem a1(h:True:=by decide):True:=h
theorem a2(h:True:=by first | exact nobehind _ (by decide) (by decide) | rfl):True:=h
theorem a3(h:True:=by intro _;rfl):True:=h
theorem a4(h:True:=by rfl):True:=h
theorem a5(h:True:=by with_unfolding_all rfl):True:=h
theorem a6(h:True:=by first | exact fun _=>Or.inl rfl | exact fun _=>Or.inr (Or.inl rfl) | exact fun _=>Or.inr (Or.inr rfl)):True:=h
theorem a7(h:True:=by exact fun _ _=>rfl):True:=h
theorem a8(h:True:=by first | exact nomark _ | rfl):True:=h
theorem a9(h:True:=by intro _ _;rfl):True:=h
theorem a10(h:True:=by exact fun _=>PassesOwn.never):True:=h
end QA
set_option genInjectivity false
local macro_rules | `(tactic| omega)=>`(tactic| first | lia | omega (config:={}))
set_option Elab.async false
set_option linter.all false
set_option maxRecDepth 100000
noncomputable section
section
open PySem PySem.Spec PySem.W PySem.Calls PyProof.Rows PyProof.V
abbrev QB:=@wpAny_bind
abbrev QC:=@List.length_map
abbrev Ya:=@List.getElem?_eq_getElem
abbrev Yb:=@List.mem_cons_self
abbrev Yc:=@Option.bind_some
abbrev Ye:=@Nat.lt_of_lt_of_le
abbrev Yf:=@List.mem_cons_of_mem
abbrev Yg:=@List.getElem?_eq_some_iff
abbrev Yh:=@List.getElem?_set_ne
abbrev Yi:=@List.getElem?_cons_zero
abbrev Yj:=@wpAny_pure
abbrev Yk:=@Heap.get?_push_of_some
abbrev Yl:=@List.mem_cons
abbrev Ym:=@Bool.false_ne_true
abbrev Yn:=@List.getElem?_cons_succ
abbrev Yp:=@Option.map_some
abbrev Yq:=@List.mem_of_getElem?
abbrev Yr:=@List.getElem?_map
abbrev Ys:=@if_pos
abbrev Yt:=@List.length_cons
abbrev Yu:=@List.size_toArray
abbrev Yv:=@Int.toNat_natCast
abbrev Yw:=@Nat.le_refl
abbrev Yx:=@Nat.ne_of_lt
abbrev Yy:=@List.pairwise_cons
abbrev Yz:=@Heap.lt_size
abbrev YA:=@Heap.get?_push_size
abbrev YB:=@List.set_cons_succ
abbrev YC:=@List.getElem?_append_right
abbrev YD:=@PySem.boot_len
abbrev YE:=@Array.getElem?_eq_getElem
abbrev YF:=@List.set_cons_zero
abbrev YG:=@List.getElem?_set_self
abbrev YH:=@List.mem_append_right
abbrev YI:=@List.getElem?_append_left
abbrev YJ:=@if_neg
abbrev YK:=@PySem.W.mg_of
abbrev YL:=@List.mem_singleton
abbrev YM:=@Nat.le_trans
abbrev YN:=@List.lookup_cons
abbrev YO:=@List.map_cons
abbrev YQ:=@PySem.W.mg_none_of
abbrev YR:=@List.not_mem_nil
abbrev YS:=@List.length_append
abbrev YT:=@Nat.lt_or_ge
abbrev YU:=@List.getElem?_zip_eq_some
abbrev YV:=@Nat.lt_irrefl
abbrev YW:=@decide_eq_true
abbrev YX:=@Bool.false_eq_true
abbrev YY:=@List.nodup_cons
abbrev YZ:=@List.getElem?_eq_none_iff
abbrev Y0:=@decide_eq_false
abbrev Y1:=@List.length_nil
abbrev Y2:=@List.getElem?_eq_none
abbrev Y3:=@Heap.get?_update_self
abbrev Y4:=@wpAny_setState_of
abbrev Y5:=@List.getElem?_replicate
abbrev Y6:=@List.getD_eq_getElem?_getD
abbrev Y7:=@Array.getElem?_eq_none
abbrev Y8:=@PySem.W.kia_one
abbrev Y9:=@Heap.size_push
abbrev ye:=@wpAny_holding
abbrev yf:=@Array.length_toList
abbrev yg:=@Nat.ne_of_gt
abbrev yh:=@wpAny_setField_rec
abbrev yi:=@PyProof.Rows.callWith_type1
abbrev yj:=@List.mem_append
abbrev yk:=@List.mem_map
abbrev yn:=@List.map_map
abbrev yo:=@List.filter_cons
abbrev yp:=@wpAny_mono
abbrev yq:=@if_true
abbrev yr:=@List.getElem?_set
abbrev yt:=@List.mem_or_eq_of_mem_set
abbrev yu:=@List.mem_iff_getElem?
abbrev yv:=@List.map_append
abbrev yw:=@Array.getElem?_toList
abbrev yx:=@Int.emod_lt_of_pos
abbrev yy:=@Nat.le_add_right
abbrev yz:=@List.cons_append
abbrev yA:=@List.mem_append_left
abbrev yB:=@Around.under_plainId
abbrev yC:=@if_false
abbrev yD:=@PySem.F.plainAttrs_list
abbrev yE:=@PyProof.Rows.F.plain_set_update_loop
abbrev yF:=@Nat.le_of_lt
abbrev yG:=@wpAny_truthy_bool
abbrev yH:=@of_decide_eq_true
abbrev yI:=@Nat.lt_succ_of_lt
abbrev yJ:=@List.mem_map_of_mem
abbrev yK:=@Nat.lt_trans
abbrev yL:=@List.length_replicate
abbrev yM:=@codeAny_builtin
abbrev yN:=@List.length_set
abbrev yO:=@List.append_nil
abbrev yP:=@Int.emod_nonneg
abbrev yQ:=@List.map_nil
abbrev yR:=@wpAny_callSpecial?_slot
abbrev yS:=@PySem.mem_of_lookup
abbrev yT:=@List.replicate_zero
abbrev yU:=@List.filterMap_cons
abbrev yV:=@wpAny_call_entry
abbrev yW:=@List.zip_cons_cons
abbrev yX:=@wpAny_updateSeq
abbrev yY:=@Nat.zero_le
abbrev yZ:=@wpAny_newObj_type
abbrev y7:=@plainId_quiet
abbrev y8:=@Str.length_append
abbrev y9:=@List.ext_getElem?
abbrev Ka:=@PyProof.Rows.F.entry_set_update_loop
abbrev Kb:=@or_false
abbrev Kc:=@Nat.lt_succ_self
abbrev Kd:=@List.getElem_mem
abbrev Ke:=@Bool.and_eq_true
abbrev Kf:=@Array.getElem?_push
abbrev Kh:=@decide_false
abbrev Ki:=@PySem.F.type_list_append
abbrev Kj:=@PySem.F.slot_list_append
abbrev Kk:=@Nat.zero_add
abbrev Kl:=@wpAny_passesOwn
abbrev Km:=@List.nil_append
abbrev Kn:=@List.map_inj_right
abbrev Ko:=@List.length_eq_zero_iff
abbrev Kp:=@wpAny_nextOf_list_item
abbrev Kq:=@List.range_succ_eq_map
abbrev Kr:=@decide_true
abbrev Ks:=@List.getElem?_nil
abbrev Kt:=@wpAny_seqItems
abbrev Ku:=@Int.mul_nonneg
abbrev Kv:=@builtinLookup_eq_fast
abbrev Kw:=@wpAny_askSetting
abbrev Kx:=@List.length_take
abbrev Ky:=@Bool.and_eq_true_iff
abbrev Kz:=@wpAny_field
abbrev KA:=@pushCells_keeps
abbrev KB:=@List.map_congr_left
abbrev KC:=@F.slot_zip_next
abbrev KD:=@F.plain_extend_loop
abbrev KF:=@Bool.eq_iff_iff
abbrev KH:=@codeAny_mono
abbrev KI:=@Nat.sub_self
abbrev KJ:=@boot_list
abbrev KM:=@Nat.le_succ
end
set_option hygiene false
namespace L2
open PySem PySem.Spec PyProof.Rows
abbrev Key:=Sum Int Str
def jiz:Key->Value->Bool
 | .inl k,v=>Value.isInt k v
 | .inr x,v=>Value.isStrOf x v
def jmb(w:World):Key->Int
 | .inl k=>hashInt k
 | .inr x=>hashStr w x
theorem qe:∀{k:Key} {v:Value},jiz k v=true->(∃i t,k=Sum.inl i/\v=Value.int i t)\/(∃x t,k=Sum.inr x/\v=Value.str x t)
 | .inl i,v,h=>by obtain⟨t,e⟩:=Value.isInt_shape (k:=i) (v:=v) h;exact .inl ⟨i,t,rfl,e⟩
 | .inr x,v,h=>by obtain⟨t,e⟩:=Value.isStrOf_shape (x:=x) (v:=v) h;exact .inr ⟨x,t,rfl,e⟩
theorem jjx(a b:Int):decide ((Sum.inl a:Key)=Sum.inl b)=(a == b):=by
 by_cases e:a=b
 . subst e;simp
 . have h:¬(Sum.inl a:Key)=Sum.inl b:=fun q=>e (Sum.inl.inj q);rw[Y0 h];exact(beq_eq_false_iff_ne.mpr e).symm
theorem jkc(a b:Str):decide ((Sum.inr a:Key)=Sum.inr b)=decide (a=b):=by
 by_cases e:a=b
 . subst e;simp
 . have h:¬(Sum.inr a:Key)=Sum.inr b:=fun q=>e (Sum.inr.inj q);rw[Y0 h,Y0 e]
theorem jjc(a:Int)(b:Str):decide ((Sum.inl a:Key)=Sum.inr b)=false:=Y0 (fun q=>nomatch q)
theorem jjQ(a:Str)(b:Int):decide ((Sum.inr a:Key)=Sum.inl b)=false:=Y0 (fun q=>nomatch q)
def jeh(prog:Program)(w:World):PySem.KeyKind prog w Key where
 is:=jiz
 hash:=jmb w
 inj:=fun v a b ha hb=>by
   rcases qe ha with⟨i,t,rfl,rfl⟩ | ⟨x,t,rfl,rfl⟩
   . rcases qe hb with⟨j,u,rfl,e⟩ | ⟨y,u,rfl,e⟩
     . injection e with e1 _;rw[e1]
     . exact nomatch e
   . rcases qe hb with⟨j,u,rfl,e⟩ | ⟨y,u,rfl,e⟩
     . exact nomatch e
     . injection e with e1 _;rw[e1]
 byValue:=fun k v h=>by rcases qe h with⟨i,t,rfl,rfl⟩ | ⟨x,t,rfl,rfl⟩ <;> rfl
 pyHash:=fun hv h=>by
   rcases qe hv with⟨i,t,rfl,rfl⟩ | ⟨x,t,rfl,rfl⟩
   . exact wpAny_pyHash_int h
   . exact wpAny_pyHash_str h
 eqBool:=fun hu hv h=>by
   rcases qe hu with⟨i,t,rfl,rfl⟩ | ⟨x,t,rfl,rfl⟩
   . rcases qe hv with⟨j,u,rfl,rfl⟩ | ⟨y,u,rfl,rfl⟩
     . rw[jjx]at h;exact wpAny_eqBool_int h
     . rw[jjc]at h;exact SeqAt.EqAt.int_str i t y u _ _ _ _ h
   . rcases qe hv with⟨j,u,rfl,rfl⟩ | ⟨y,u,rfl,rfl⟩
     . rw[jjQ]at h;exact SeqAt.EqAt.str_int x t j u _ _ _ _ h
     . rw[jkc]at h;exact wpAny_eqBool_str h
 «strs»:=fun k x t v h=>by
   rcases qe h with⟨i,u,rfl,e⟩ | ⟨y,u,rfl,e⟩
   . exact nomatch e
   . injection e with e1 _;subst e1;cases v <;> rfl
set_option genInjectivity true in
inductive V where
 | non | bl (b:Bool) | int (i:Int) | str (x:Str) | byt (b:Array UInt8) | flt (b:UInt64) | ref (a:Addr) | ty (n:String)
 deriving DecidableEq
def RelV:V->Value->Prop
 | .non,u=>u=Value.none
 | .bl b,u=>u=Value.bool b
 | .int i,u=>∃t,u=Value.int i t
 | .str x,u=>∃t,u=Value.str x t
 | .byt b,u=>∃t,u=Value.bytes b t
 | .flt b,u=>∃t,u=Value.float b t
 | .ref a,u=>u=Value.ref a
 | .ty n,u=>u=Value.type n
abbrev Vals:List V->List Value->Prop:=Paired RelV
theorem Vals.length{xs:List V}{us:List Value}(r:Vals xs us):xs.length=us.length:=Paired.length r
theorem Vals.get:∀{xs:List V} {us:List Value} {i:Nat} {x:V},Vals xs us->xs[i]?=some x->∃u,us[i]?=some u/\RelV x u
 | _,_,_,_,.nil,e=>by simp at e
 | _,_,0,_,.cons r _,e=>by simp at e;subst e;exact⟨_,rfl,r⟩
 | _,_,i+1,x,.cons _ t,e=>by obtain⟨u,h1,h2⟩:=Vals.get (i:=i) (x:=x) t (by simpa using e);exact⟨u,by simpa using h1,h2⟩
theorem Vals.set{x:V}{u:Value}(r:RelV x u):∀{xs:List V} {us:List Value} (i:Nat),Vals xs us->Vals (xs.set i x) (us.set i u)
 | _,_,_,.nil=>.nil
 | _,_,0,.cons _ t=>.cons r t
 | _,_,i+1,.cons q t=>.cons q (Vals.set r i t)
theorem Vals.append:∀{xs ys:List V} {us ws:List Value},Vals xs us->Vals ys ws->Vals (xs++ys) (us++ws):=fun h s=>by
 induction h with
 | nil=>exact s
 | cons r _ ih=>exact .cons r ih
theorem Vals.take:∀{xs:List V} {us:List Value} (n:Nat),Vals xs us->Vals (xs.take n) (us.take n)
 | _,_,0,_=>.nil
 | _,_,_+1,.nil=>.nil
 | _,_,n+1,.cons r t=>.cons r (Vals.take n t)
theorem Vals.drop:∀{xs:List V} {us:List Value} (n:Nat),Vals xs us->Vals (xs.drop n) (us.drop n)
 | _,_,0,r=>r
 | _,_,_+1,.nil=>.nil
 | _,_,n+1,.cons _ t=>Vals.drop n t
def RelO:Option V->Option Value->Prop
 | some v,some u=>RelV v u
 | none,none=>True
 | _,_=>False
def KV{κ:Type}:List (κ×V)->List (κ×Value)->Prop:=Paired fun(p:κ×V) (q:κ×Value)=>p.1=q.1/\RelV p.2 q.2
def kV:Key->V
 | .inl i=>.int i
 | .inr x=>.str x
set_option genInjectivity true in
inductive HO where
 /-- a list -/
 | lst (xs:List V)
 /-- a tuple (never changes) -/
 | tup (xs:List V)
 /-- a dict whose keys are ints and texts; one whose keys are tuples of ints and texts (the empty one is both) -/
 | dK (kvs:List (Key×V)) | dT (kvs:List (List Key×V))
 /-- a set of ints: tq members, tq size -/
 | set (S:Int->Bool) (n:Nat)
 /-- an instance of the class at C, tq dict at dx, tq attributes -/
 | ins (C dx:Addr) (fs:List (Str×V))
 /-- the dict of the instance at x -/
 | own (x:Addr)
 /-- the dict of an exception -/
 | xd (fs:List (Str×V))
 /-- a bound method, f of x -/
 | met (f x:Addr)
 /-- a range object lo, lo + 1, .. below hi -/
 | rng (lo hi:Int)
 /-- a thing that is known to the object (the script; a dict while a loop walks it): read, never written while it is so -/
 | frz (o:Obj) (u:HO)
 /-- a code object's table -/
 | tbl (ps:Array Value)
 /-- any other thing, by what is true of tq one object (a def of one's own: SetO a S n := HO.ext fun h => ..) -/
 | ext (φ:Heap->Prop)
abbrev Hp:=Addr->Option HO
def upd(H:Hp)(a:Addr)(o:HO):Hp:=fun b=>if b=a then some o else H b
theorem jw{H:Hp}{a:Addr}{o:HO}:upd H a o a=some o:=by unfold upd;rw[Ys rfl]
theorem ju{H:Hp}{a b:Addr}{o:HO}(h:b≠a):upd H a o b=H b:=by unfold upd;rw[YJ h]
theorem jz{H:Hp}{a b:Addr}{o:HO}(h:H a=some o)(h':H b=none):a≠b:=by intro e;subst e;rw[h]at h';cases h'
section
variable(P:Program)(w:World)
def ObjOk(H:Hp)(h:Heap)(a:Addr):HO->Prop
 | .lst xs=>xs.length ≤ sizeLine ∧ ∃(tq:List Value) (n:Nat),Vals xs tq ∧ h.get? a=some { cls:=.type "list",data:=.seq tq.toArray n }
 | .tup xs=>xs.length<=sizeLine/\∃tq:List Value,Vals xs tq/\IsTup h a tq.toArray
 | .dK kvs=>kvs.length<=sizeLine/\(a == sysModules)=false/\∃vs,KV kvs vs/\h.DictOf (jeh P w) a vs
 | .dT kvs=>kvs.length<=sizeLine/\(a == sysModules)=false/\∃xs:List (List Key×Addr×Value),
  Paired (fun(p:List Key×V) (q:List Key×Addr×Value)=>p.1=q.1/\H q.2.1=some (.tup (p.1.map kV))/\RelV p.2 q.2.2) kvs xs /\
  ∃o es ep,h.get? a=some o/\o.ExactDict/\o.data=.dict es ep/\es.toList=xs.map (entryOfKey (tupleKind (jeh P w)))/\(xs.map (·.1)).Nodup
 | .set S n=>h.SetOf (intKind P w) a S n
 | .ins C dx fs=>H dx=some (.own a)/\fs.length<=1000/\dx≠a/\h.get? a=some (PySem.W.instObj C dx) /\
  ∃mA,h.Ns1 dx mA/\(∀f,RelO (fs.lookup f) (mA f))/\PySem.Within mA (fs.map (·.1))
 | .own _=>∃o,h.get? a=some o
 | .xd fs=>∃mA,h.Ns1 a mA/\∀f,RelO (fs.lookup f) (mA f)
 | .rng lo hi=>∃t u v,h.get? a=some { cls:=.type "range",data:=.fields #[.int lo t,.int hi u,.int 1 v] }
 | .frz o u=>h.get? a=some o/\ObjOk H h a u
 | .tbl ps=>h.get? a=some { cls:=.none,data:=.fields ps }
 | .met f x=>h.get? a=some (PySem.W.methodObj (.ref f) (.ref x))
 | .ext φ=>φ h/\(∃o,h.get? a=some o)/\∀h1 h2:Heap,φ h1->(∀o,h1.get? a=some o->h2.get? a=some o)->φ h2
def HOk(H:Hp)(h:Heap):Prop:=∀a o,H a=some o->ObjOk P w H h a o
end
section
variable{P:Program}{w:World}{H H':Hp}{h h':Heap}{a:Addr}{o:HO}
theorem ObjOk.lt(x:ObjOk P w H h a o):a<h.objs.size:=by
 cases o with
 | lst xs=>obtain⟨_,_,_,_,e⟩:=x;exact Yz e
 | tup xs=>obtain⟨_,_,_,p⟩:=x;exact p.lt
 | dK kvs=>obtain⟨_,_,_,_,o,_,_,e,_⟩:=x;exact Yz e
 | dT kvs=>obtain⟨_,_,_,_,o,_,_,e,_⟩:=x;exact Yz e
 | set S n=>obtain⟨o,_,_,_,e,_⟩:=x;exact Yz e
 | ins C dx fs=>obtain⟨_,_,_,e,_⟩:=x;exact Yz e
 | own y=>obtain⟨_,e⟩:=x;exact Yz e
 | xd fs=>obtain⟨_,⟨_,_,_,e,_⟩,_⟩:=x;exact Yz e
 | rng lo hi=>obtain⟨_,_,_,e⟩:=x;exact Yz e
 | frz ob u=>obtain⟨e,_⟩:=x;exact Yz e
 | tbl ps=>exact Yz (show h.get? a=some _ from x)
 | met f y=>exact Yz (show h.get? a=some _ from x)
 | ext φ=>obtain⟨_,⟨_,e⟩,_⟩:=x;exact Yz e
theorem Paired.mapP{α β:Type}{F G:α->β->Prop}:∀{l₁:List α} {l₂:List β},Paired F l₁ l₂->(∀a b,F a b->G a b)->Paired G l₁ l₂:=fun h f=>by
 induction h with
 | nil=>exact .nil
 | cons r _ ih=>exact .cons (f _ _ r) ih
theorem ObjOk.stay(x:ObjOk P w H h a o)(k:∀b u,(b=a\/H b=some (.own a))->h.get? b=some u->h'.get? b=some u)
 (ho:∀b,H b=some (.own a)->H' b=some (.own a)) (ht:∀b xs,H b=some (.tup xs)->H' b=some (.tup xs)):ObjOk P w H' h' a o:=by
 induction o with
 | lst xs=>obtain⟨z,tq,n,r,e⟩:=x;exact⟨z,tq,n,r,k _ _ (.inl rfl) e⟩
 | tup xs=>obtain⟨z,tq,r,ob,e,c⟩:=x;exact⟨z,tq,r,ob,k _ _ (.inl rfl) e,c⟩
 | dK kvs=>obtain⟨z,y,vs,r,ob,es,ep,e,c⟩:=x;exact⟨z,y,vs,r,ob,es,ep,k _ _ (.inl rfl) e,c⟩
 | dT kvs=>obtain⟨z,y,xs,r,ob,es,ep,e,c⟩:=x;exact⟨z,y,xs,Paired.mapP r fun p q z=>⟨z.1,ht _ _ z.2.1,z.2.2⟩,ob,es,ep,k _ _ (.inl rfl) e,c⟩
 | set S n=>obtain⟨ob,es,ep,t,e,c⟩:=x;exact⟨ob,es,ep,t,k _ _ (.inl rfl) e,c⟩
 | ins C dx fs=>obtain⟨d,z,ne,e,mA,⟨od,es,ep,e2,c⟩,r⟩:=x;exact⟨ho _ d,z,ne,k _ _ (.inl rfl) e,mA,⟨od,es,ep,k _ _ (.inr d) e2,c⟩,r⟩
 | own y=>obtain⟨ob,e⟩:=x;exact⟨ob,k _ _ (.inl rfl) e⟩
 | xd fs=>obtain⟨mA,⟨od,es,ep,e,c⟩,r⟩:=x;exact⟨mA,⟨od,es,ep,k _ _ (.inl rfl) e,c⟩,r⟩
 | rng lo hi=>obtain⟨t,u,v,e⟩:=x;exact⟨t,u,v,k _ _ (.inl rfl) e⟩
 | frz ob u ih=>obtain⟨e,q⟩:=x;exact⟨k _ _ (.inl rfl) e,ih q⟩
 | tbl ps=>have e:h.get? a=some { cls:=.none,data:=.fields ps }:=x;show h'.get? a=some { cls:=.none,data:=.fields ps };exact k a _ (.inl rfl) e
 | met f y=>have e:h.get? a=some (PySem.W.methodObj (.ref f) (.ref y)):=x;show h'.get? a=some (PySem.W.methodObj (.ref f) (.ref y));exact k a _ (.inl rfl) e
 | ext φ=>obtain⟨p,⟨o,e⟩,st⟩:=x;exact⟨st _ _ p fun o q=>k _ _ (.inl rfl) q,⟨o,k _ _ (.inl rfl) e⟩,st⟩
theorem HOk.lt(x:HOk P w H h)(e:H a=some o):a<h.objs.size:=(x a o e).lt
theorem HOk.fresh(x:HOk P w H h)(e:h.objs.size<=a):H a=none:=by
 cases q:H a with
 | none=>rfl
 | some u=>exact absurd (Ye (x.lt q) e) (YV _)
theorem HOk.kept(x:HOk P w H h)(k:∀b u,h.get? b=some u->h'.get? b=some u):HOk P w H h':=fun a o e=>(x a o e).stay (fun b u _ q=>k b u q) (fun _ q=>q) fun _ _ q=>q
theorem HOk.laid(x:HOk P w H h)(k:∀b u,h.get? b=some u->h'.get? b=some u)(hp:h.objs.size<=a)(new:ObjOk P w (upd H a o) h' a o):HOk P w (upd H a o) h':=fun b u e=>by
 have hn:=x.fresh hp;by_cases hb:b=a
 . subst hb;rw[jw]at e;cases e;exact new
 . rw[ju hb]at e;exact(x b u e).stay (fun c v _ q=>k c v q) (fun c q=>by rw[ju (jz q hn)];exact q) fun c xs q=>by rw[ju (jz q hn)];exact q
end
def Rd(H:Hp)(a:Addr)(u:HO):Prop:=H a=some u\/∃o,H a=some (.frz o u)
theorem Rd.ok{P:Program}{w:World}{H:Hp}{h:Heap}{a:Addr}{u:HO}(r:Rd H a u)(x:HOk P w H h):ObjOk P w H h a u:=by
 rcases r with r | ⟨o,r⟩
 . exact x a u r
 . obtain⟨_,q⟩:=x a _ r;exact q
def Mut:Option HO->Prop
 | some (.lst _)=>True
 | some (.dK _)=>True
 | some (.dT _)=>True
 | some (.set _ _)=>True
 | some (.ins _ _ _)=>True
 | some (.ext _)=>True
 | _=>False
section
variable{P:Program}{w:World}{H:Hp}{h h':Heap}{x e:Addr}{o':HO}
theorem HOk.write(ok:HOk P w H h)(mu:Mut (H x))(he:e=x\/H e=some (.own x))(k:∀b u,b≠e->h.get? b=some u->h'.get? b=some u)(heo:∃u,h'.get? e=some u)
 (new:ObjOk P w (upd H x o') h' x o'):HOk P w (upd H x o') h':=fun b u q=>by
 have nown:∀c y,H c=some (.own y)->c≠x:=fun c y r z=>by subst z;rw[r]at mu;exact mu
 have ntup:∀c xs,H c=some (.tup xs)->c≠x:=fun c xs r z=>by subst z;rw[r]at mu;exact mu
 by_cases hb:b=x
 . subst hb;rw[jw]at q;cases q;exact new
 . rw[ju hb]at q;by_cases hbe:b=e
   . have q':H b=some (.own x):=by
       rcases he with z | z
       . exact absurd (hbe.trans z) hb
       . rw[hbe];exact z
     rw[q]at q';cases q';obtain⟨v,hv⟩:=heo;exact⟨v,by rw[hbe];exact hv⟩
   . refine(ok b u q).stay (fun c v hc r=>k c v ?_ r) (fun c r=>by rw[ju (nown c b r)];exact r) fun c xs r=>by rw[ju (ntup c xs r)];exact r
     rcases hc with rfl | hc
     . exact hbe
     . rintro rfl;rcases he with z | z
       . exact nown c b hc z
       . rw[hc]at z;cases z;exact hb rfl
end
structure Un(fs ex:List Addr)(H H':Hp)(h h':Heap):Prop where
 keep:∀b o,h.get? b=some o->H b=none->b∉fs->b∉ex->h'.get? b=some o
 slot:∀b o,h.get? b=some o->H b=none->b∈fs->b∉ex->∃sl,h'.get? b=some { o with slots:=sl }
 free:∀b o,h.get? b=some o->H b=none->b∉ex->H' b=none
 there:∀b o,h.get? b=some o->b∉ex->∃o',h'.get? b=some o'
 tups:∀b xs,H b=some (.tup xs)->H' b=some (.tup xs)
 frzs:∀b o u,H b=some (.frz o u)->H' b=some (.frz o u)
 tbls:∀b ps,H b=some (.tbl ps)->∃more,H' b=some (.tbl (ps++more))
section
variable{fs fs' ex ex':List Addr}{H H1 H2:Hp}{h h1 h2 h':Heap}{a x e:Addr}{o:HO}
theorem Un.any(u:Un fs ex H H1 h h1){b:Addr}{ob:Obj}(q:h.get? b=some ob)(n:H b=none)(hx:b∉ex):∃sl,h1.get? b=some { ob with slots:=sl }:=by
 by_cases hb:b∈fs
 . exact u.slot b ob q n hb hx
 . exact⟨ob.slots,u.keep b ob q n hb hx⟩
theorem Un.trans(a:Un fs ex H H1 h h1)(b:Un fs ex H1 H2 h1 h2):Un fs ex H H2 h h2 where
 keep:=fun c ob q n hc hx=>b.keep c ob (a.keep c ob q n hc hx) (a.free c ob q n hx) hc hx
 slot:=fun c ob q n hc hx=>by obtain⟨sl,e1⟩:=a.slot c ob q n hc hx;obtain⟨sl',e2⟩:=b.slot c _ e1 (a.free c ob q n hx) hc hx;exact⟨sl',e2⟩
 free:=fun c ob q n hx=>by obtain⟨o',e1⟩:=a.there c ob q hx;exact b.free c o' e1 (a.free c ob q n hx) hx
 there:=fun c ob q hx=>by obtain⟨o',e1⟩:=a.there c ob q hx;exact b.there c o' e1 hx
 tups:=fun c xs q=>b.tups c xs (a.tups c xs q)
 frzs:=fun c ob xs q=>b.frzs c ob xs (a.frzs c ob xs q)
 tbls:=fun c ps q=>by obtain⟨m1,e1⟩:=a.tbls c ps q;obtain⟨m2,e2⟩:=b.tbls c _ e1;exact⟨m1++m2,by rw[e2,Array.append_assoc]⟩
theorem Un.kept(k:∀b u,h.get? b=some u->h'.get? b=some u):Un fs ex H H h h':=⟨fun b ob q _ _ _=>k b ob q,fun b ob q _ _ _=>⟨ob.slots,k b ob q⟩,fun _ _ _ n _=>n,fun b ob q _=>⟨ob,k b ob q⟩,fun _ _ q=>q,fun _ _ _ q=>q,fun _ ps q=>⟨#[],by rw[q];simp⟩⟩
theorem Un.refl:Un fs ex H H h h:=Un.kept fun _ _ q=>q
theorem Un.laid(k:∀b u,h.get? b=some u->h'.get? b=some u)(hp:h.objs.size<=a)(hn:H a=none):Un fs ex H (upd H a o) h h' where
 keep:=fun b u q _ _ _=>k b u q
 slot:=fun b u q _ _ _=>⟨u.slots,k b u q⟩
 free:=fun b u q n _=>by rw[ju (Yx (Ye (Yz q) hp))];exact n
 there:=fun b u q _=>⟨u,k b u q⟩
 tups:=fun b xs q=>by rw[ju (jz q hn)];exact q
 frzs:=fun b u xs q=>by rw[ju (jz q hn)];exact q
 tbls:=fun b ps q=>⟨#[],by rw[ju (jz q hn),q];simp⟩
theorem Un.write(mu:Mut (H x))(he:e=x\/H e=some (.own x))(k:∀b u,b≠e->h.get? b=some u->h'.get? b=some u)(heo:∃u,h'.get? e=some u):Un fs ex H (upd H x o) h h':=by
 have hx:∀b,H b=none->b≠x:=fun b n z=>by subst z;rw[n]at mu;exact mu
 have hb:∀b,H b=none->b≠e:=fun b n z=>by
  subst z;rcases he with r | r
  . exact hx b n r
  . rw[n]at r;cases r
 have hm:∀b u,H b=some u->¬Mut (some u)->b≠x:=fun b u q nm z=>by subst z;rw[q]at mu;exact nm mu
 refine⟨fun b u q n _ _=>k b u (hb b n) q,fun b u q n _ _=>⟨u.slots,k b u (hb b n) q⟩,fun b u q n _=>by rw[ju (hx b n)];exact n,fun b u q _=>?_,
  fun b xs q=>by rw[ju (hm b _ q fun z=>z)];exact q,fun b u xs q=>by rw[ju (hm b _ q fun z=>z)];exact q,fun b ps q=>⟨#[],by rw[ju (hm b _ q fun z=>z),q];simp⟩⟩
 by_cases hbe:b=e
 . subst hbe;exact heo
 . exact⟨u,k b u hbe q⟩
theorem Un.mono(u:Un fs ex H H1 h h1)(hs:∀b∈fs,b∈fs')(hx:∀b∈ex,b∈ex'):Un fs' ex' H H1 h h1:=⟨fun b ob q n hb he=>u.keep b ob q n (fun z=>hb (hs b z)) fun z=>he (hx b z),fun _ _ q n _ he=>u.any q n fun z=>he (hx _ z),fun b ob q n he=>u.free b ob q n fun z=>he (hx b z),fun b ob q he=>u.there b ob q fun z=>he (hx b z),u.tups,u.frzs,u.tbls⟩
end
def trk(h:Heap)(H:Hp):List Addr:=(List.range h.objs.size).filter fun a=>(H a).isSome
def jb1(h:Heap)(H:Hp):Heap:=PySem.W.hideAll h (trk h H)
theorem jfg(h:Heap)(H:Hp):(jb1 h H).objs.size=h.objs.size:=PySem.W.hideAll_size _ _
theorem jfT{h:Heap}{H:Hp}{b:Addr}{o:Obj}(e:h.get? b=some o)(n:H b=none):(jb1 h H).get? b=some o:=
 PySem.W.hideAll_get _ e fun hm=>by have q:(H b).isSome=true:=(List.mem_filter.mp hm).2;rw[n]at q;simp at q
theorem jhX{h:Heap}{H:Hp}{b:Addr}{o:Obj}(e:(jb1 h H).get? b=some o):h.get? b=some o/\H b=none:=by
 have e':h.get? b=some o:=PySem.W.of_hideAll (trk h H) e;refine⟨e',?_⟩;cases q:H b with
 | none=>rfl
 | some x=>have hm:b∈trk h H:=List.mem_filter.mpr ⟨List.mem_range.mpr (Yz e'),by simp[q]⟩;have z:(jb1 h H).get? b=none:=PySem.W.hideAll_none (trk h H) hm;rw[z]at e;cases e
def jhW(g h:Heap)(L:Addr):List (Addr×Obj):=(List.range h.objs.size).filterMap fun a=>if a=L\/(g.get? a).isSome=true then none else(h.get? a).map fun o=>(a,o)
def jbw(g h:Heap)(L d:Addr):List (Addr×Obj):=(jhW g h L).filter fun p=>decide (p.1≠d)
structure Mod(K:PySem.W.Frag)(mg:Str->Option Value)(base:Heap):Prop where
 kin:K.In base
 glob:base.Ns mainGlobals mg
 blt:∃mb,base.Ns builtinsNs mb ∧ ∀x:Str,x ≠ "__name__" → mb x=bootBuiltins x
 nolimit:base.NoLimit
/-- the context: a def's body (or a comprehension's block) running. base: fixed through the whole law; s₀, H₀: the entry; outer: the frames whose slots others may change (a def's callers); stack: all frames that run;
 ex: iterators that were made ahead of the entry and are walked here (a comprehension's);fn: the names whose cells were made at the entry (a def: all;a comprehension's block: tq own);calm: not within an except suite;pn: tf that every state bears;xe: what is wanted of an exception that leaves the code -/
structure Cx where
 prog:Program
 w:World
 K:PySem.W.Frag
 mg:Str->Option Value
 base:Heap
 A:Around
 N:List Str
 s₀:Shared
 H₀:Hp
 env:Env
 outer:List Env
 stack:List Env
 ex:List Addr
 fn:Str->Bool
 calm:Bool
 pn:List (Addr×Obj)
 xe:Value->Shared->Prop
def frs(l:List Env):List Addr:=l.filterMap (·.frame)
abbrev Cx.fs(X:Cx):List Addr:=frs X.outer
def Vis(sc:Scope)(x:Str):Prop:=sc.names.lookup x=some .local\/sc.names.lookup x=some .cell\/sc.names.lookup x=some .free
def Loc(sc:Scope)(x:Str):Prop:=sc.names.lookup x=some .local\/sc.names.lookup x=some .cell
def jmx(env:Env)(h:Heap)(m:Str->Option Value)(x:Str)(u:Value):Prop:=(env.kindOf x=some .local/\m x=some u)\/((env.kindOf x=some .cell\/env.kindOf x=some .free)/\∃c,env.cells.lookup x=some c/\h.IsCell c (some u))
structure Cx.Ok(X:Cx):Prop where
 mod:Mod X.K X.mg X.base
 kind:X.env.scope.kind=.function
 glob:X.env.globals=mainGlobals
 blt:X.env.builtins=builtinsNs
 above:X.s₀.heap.objs.size<=X.env.locals
 inj:∀x y c,X.env.cells.lookup x=some c->X.env.cells.lookup y=some c->x=y
 has:∀x,(X.env.kindOf x=some .cell\/X.env.kindOf x=some .free)->∃c,X.env.cells.lookup x=some c
 cab:∀x c,X.fn x=true->X.env.cells.lookup x=some c->X.s₀.heap.objs.size<=c
 hd:X.calm=true->X.A.handled=none
 frames:X.A.frames=some X.stack
 stk:X.stack=X.outer\/(X.stack=X.env::X.outer/\X.env.frame=some X.env.locals)
 exf:∀b∈X.ex,b≠X.env.locals/\∀x c,X.env.cells.lookup x=some c->c≠b
 bs:∀b o,X.base.get? b=some o->X.s₀.heap.get? b=some o/\X.H₀ b=none
 bsz:X.base.objs.size<=X.s₀.heap.objs.size
 noex:∀b o,X.base.get? b=some o->b∉X.ex
 exfs:∀b∈X.ex,b∉X.fs
 funs:X.s₀.heap.FunFrames X.base X.outer
 frf:∀b∈X.fs,X.H₀ b=none
structure Inv(X:Cx)(tf:List (Addr×Obj))(σ:List (Option V))(H:Hp)(s:Shared):Prop where
 ok:X.Ok
 os:s.os=X.s₀.os
 bare:AllBare s.gens
 base:Un X.fs X.ex X.H₀ H X.s₀.heap s.heap
 loc:∃m,s.heap.Ns X.env.locals m/\∀(i:Nat) (x:Str) (v:V),X.N[i]?=some x->σ[i]?=some (some v)->Vis X.env.scope x->∃u,RelV v u/\jmx X.env s.heap m x u
 cell:∀x c,X.env.cells.lookup x=some c->∃v,s.heap.IsCell c v
 free:H X.env.locals=none
 freeC:∀x c,X.env.cells.lookup x=some c->H c=none
 pin:∀p∈X.pn++tf,s.heap.get? p.1=some p.2/\H p.1=none/\p.1≠X.env.locals/\p.1∉X.fs/\∀v,p.2.data≠.cell v
 hok:HOk X.prog X.w H s.heap
 len:σ.length=X.N.length
section
variable{X:Cx}{tf:List (Addr×Obj)}{σ:List (Option V)}{H H':Hp}{s:Shared}{h':Heap}
theorem Cx.Ok.nofr(ok:X.Ok){b:Addr}{o:Obj}(e:X.base.get? b=some o):b∉X.fs:=fun hb=>by have:=(ok.funs.mem hb).1;rw[e]at this;cases this
theorem Inv.bs(I:Inv X tf σ H s):∀b o,X.base.get? b=some o->s.heap.get? b=some o/\H b=none:=fun b o e=>⟨I.base.keep b o (I.ok.bs b o e).1 (I.ok.bs b o e).2 (I.ok.nofr e) (I.ok.noex b o e),I.base.free b o (I.ok.bs b o e).1 (I.ok.bs b o e).2 (I.ok.noex b o e)⟩
theorem Inv.bk(I:Inv X tf σ H s):∀b o,X.base.get? b=some o->s.heap.get? b=some o:=fun b o e=>(I.bs b o e).1
theorem Inv.mod(I:Inv X tf σ H s):Mod X.K X.mg X.base:=I.ok.mod
theorem Inv.kIn(I:Inv X tf σ H s):X.K.In s.heap:=I.ok.mod.kin.keeps I.bk
theorem Inv.fr(I:Inv X tf σ H s):∃m,Fr X.base X.env.locals s.heap m:=
 let ⟨m,hn,_⟩:=I.loc
 ⟨m,hn,I.bk,YM I.ok.bsz I.ok.above⟩
theorem Inv.lt(I:Inv X tf σ H s):X.env.locals<s.heap.objs.size:=let ⟨_,hn,_⟩:=I.loc;hn.lt
theorem Inv.sz(I:Inv X tf σ H s):X.s₀.heap.objs.size<=s.heap.objs.size:=YM I.ok.above (yF I.lt)
theorem Inv.nofs(I:Inv X tf σ H s){a:Addr}(h:s.heap.objs.size<=a):a∉X.fs:=fun hb=>by obtain⟨_,o,ho,_⟩:=I.ok.funs.mem hb;exact absurd (Ye (Yz ho) (YM I.sz h)) (YV _)
theorem Inv.cne(I:Inv X tf σ H s):∀x c,X.env.cells.lookup x=some c->c≠X.env.locals:=fun x c e z=>by obtain⟨v,o,ho,hd⟩:=I.cell x c e;obtain⟨m,⟨o',es,ep,ho',hd',_⟩,_⟩:=I.loc;rw[z,ho']at ho;cases ho;rw[hd']at hd;cases hd
theorem Inv.funs(I:Inv X tf σ H s):s.heap.FunFrames X.base X.outer:=by
 have all:∀(l:List Env),(∀b∈frs l,b∈X.fs)->X.s₀.heap.FunFrames X.base l->s.heap.FunFrames X.base l:=by
  intro l;induction l with
  | nil=>intro _ _;trivial
  | cons env r ih=>intro hs hl;obtain⟨hk,⟨L,o,hf,hn,ho,hd⟩,hr⟩:=hl;have hL:L∈X.fs:=hs L (by unfold frs;rw[yU,hf];exact Yb);obtain⟨sl,e⟩:=I.base.slot L o ho (I.ok.frf L hL) hL fun z=>I.ok.exfs L z hL;exact⟨hk,⟨L,_,hf,hn,e,hd⟩,ih (fun b hb=>hs b (by unfold frs;rw[yU,hf];exact Yf _ hb)) hr⟩
 exact all X.outer (fun _ hb=>hb) I.ok.funs
theorem Inv.stack(I:Inv X tf σ H s):s.heap.FunFrames X.base X.stack:=by
 rcases I.ok.stk with e | ⟨e,hf⟩
 . rw[e];exact I.funs
 . rw[e];obtain⟨m,hn,_⟩:=I.loc;refine .cons (by rw[I.ok.kind];decide) hf hn ?_ I.funs;exact Heap.get?_none_of_le (YM I.ok.bsz I.ok.above)
theorem Inv.stkSub(I:Inv X tf σ H s):∀b∈frs X.stack,b∈X.env.locals::X.fs:=fun b hb=>by
 rcases I.ok.stk with e | ⟨e,hf⟩
 . rw[e]at hb;exact Yf _ hb
 . rw[e]at hb;unfold frs at hb;rw[yU,hf]at hb;exact hb
theorem Inv.stkFree(I:Inv X tf σ H s):∀b∈frs X.stack,H b=none:=fun b hb=>by
 rcases Yl.mp (I.stkSub b hb)with e | hb
 . rw[e];exact I.free
 . obtain⟨_,o,ho,_⟩:=I.ok.funs.mem hb;exact I.base.free b o ho (I.ok.frf b hb) fun z=>I.ok.exfs b z hb
theorem Inv.step{g':Array GenState}{t':Nat}{d':Drawn}{ch:List Addr}(I:Inv X tf σ H s)
 (hch:∀b∈ch,(b∈X.ex\/X.s₀.heap.objs.size<=b)/\b≠X.env.locals/\(∀x c,X.env.cells.lookup x=some c->c≠b)/\∀p∈X.pn++tf,p.1≠b)
 (keep:∀b o,b≠X.env.locals->b∉X.fs->b∉ch->s.heap.get? b=some o->H b=none->h'.get? b=some o)
 (slot:∀b o,b≠X.env.locals->b∈X.fs->b∉ch->s.heap.get? b=some o->H b=none->∃sl,h'.get? b=some { o with slots:=sl }) (free:∀b o,b∉ch->s.heap.get? b=some o->H b=none->H' b=none)
 (there:∀b o,b∉ch->s.heap.get? b=some o->∃o',h'.get? b=some o')
 (tups:∀b xs,H b=some (.tup xs)->H' b=some (.tup xs)) (frzs:∀b o u,H b=some (.frz o u)->H' b=some (.frz o u)) (tbls:∀b ps,H b=some (.tbl ps)->∃more,H' b=some (.tbl (ps++more)))
 (ns:∀m,s.heap.Ns X.env.locals m->h'.Ns X.env.locals m) (hok:HOk X.prog X.w H' h') (hg:AllBare g') :
 Inv X tf σ H' { s with heap:=h',gens:=g',drawn:=d',toks:=t' }:=by
 have neL:∀b o,X.s₀.heap.get? b=some o->b≠X.env.locals:=fun b o e=>Yx (Ye (Yz e) I.ok.above);have neC:∀b o,X.s₀.heap.get? b=some o->b∉X.ex->b∉ch:=fun b o e hx hb=>by
  rcases(hch b hb).1 with z | z
  . exact hx z
  . exact absurd (Ye (Yz e) z) (YV _)
 have cellK:∀x c,X.env.cells.lookup x=some c->∀v,s.heap.IsCell c v->h'.IsCell c v:=fun x c e v ⟨o,ho,hd⟩=>by
  have nch:c∉ch:=fun z=>(hch c z).2.2.1 x c e rfl;by_cases hc:c∈X.fs
  . obtain⟨sl,q⟩:=slot c o (I.cne x c e) hc nch ho (I.freeC x c e);exact⟨_,q,hd⟩
  . exact⟨o,keep c o (I.cne x c e) hc nch ho (I.freeC x c e),hd⟩
 refine⟨I.ok,I.os,hg,⟨fun b o e n hb hx=>?_,fun b o e n hb hx=>?_,fun b o e n hx=>?_,fun b o e hx=>?_,fun b xs e=>tups b xs (I.base.tups b xs e),fun b o xs e=>frzs b o xs (I.base.frzs b o xs e),fun b ps e=>?_⟩,?_,fun x c e=>?_,?_,fun x c e=>?_,fun p hp=>?_,hok,I.len⟩
 . exact keep b o (neL b o e) hb (neC b o e hx) (I.base.keep b o e n hb hx) (I.base.free b o e n hx)
 . obtain⟨sl,e1⟩:=I.base.slot b o e n hb hx;obtain⟨sl',e2⟩:=slot b _ (neL b o e) hb (neC b o e hx) e1 (I.base.free b o e n hx);exact⟨sl',e2⟩
 . obtain⟨o',e1⟩:=I.base.there b o e hx;exact free b o' (neC b o e hx) e1 (I.base.free b o e n hx)
 . obtain⟨o',e1⟩:=I.base.there b o e hx;exact there b o' (neC b o e hx) e1
 . obtain⟨m1,e1⟩:=I.base.tbls b ps e;obtain⟨m2,e2⟩:=tbls b _ e1;exact⟨m1++m2,by rw[e2,Array.append_assoc]⟩
 . obtain⟨m,hn,hl⟩:=I.loc;refine⟨m,ns m hn,fun i x v e1 e2 e3=>?_⟩;obtain⟨u,r,l⟩:=hl i x v e1 e2 e3;refine⟨u,r,?_⟩;rcases l with l | ⟨k,c,e,z⟩
   . exact .inl l
   . exact .inr ⟨k,c,e,cellK x c e _ z⟩
 . obtain⟨v,z⟩:=I.cell x c e;exact⟨v,cellK x c e v z⟩
 . obtain⟨m,⟨o,_,_,ho,_⟩,_⟩:=I.loc;exact free _ o (fun z=>(hch _ z).2.1 rfl) ho I.free
 . obtain⟨v,o,ho,hd⟩:=I.cell x c e;exact free c o (fun z=>(hch c z).2.2.1 x c e rfl) ho (I.freeC x c e)
 . obtain⟨e,n,ne,nf,d⟩:=I.pin p hp;have nch:p.1∉ch:=fun z=>(hch p.1 z).2.2.2 p hp rfl;exact⟨keep p.1 p.2 ne nf nch e n,free p.1 p.2 nch e n,ne,nf,d⟩
theorem Inv.un{t':Nat}(I:Inv X tf σ H s)(u:Un X.fs [] H H' s.heap h')(hok:HOk X.prog X.w H' h'):Inv X tf σ H' { s with heap:=h',toks:=t' }:=by
 obtain⟨m,⟨o,es,ep,ho,r⟩,_⟩:=id I.loc;obtain⟨sl,hL⟩:=u.any ho I.free (by simp);exact I.step (g':=s.gens) (d':=s.drawn) (ch:=[]) (fun _ z=>nomatch z) (fun b o _ hb _ e n=>u.keep b o e n hb (by simp)) (fun b o _ hb _ e n=>u.slot b o e n hb (by simp)) (fun b o _ e n=>u.free b o e n (by simp)) (fun b o _ e=>u.there b o e (by simp)) u.tups u.frzs u.tbls (fun m' hm=>by obtain⟨o',es',ep',ho',r'⟩:=hm;rw[ho]at ho';cases ho';exact⟨_,es',ep',hL,r'⟩) hok I.bare
theorem Inv.call{g':Array GenState}{t':Nat}{d':Drawn}{ch:List Addr}(I:Inv X tf σ H s)(u:Un (frs X.stack) ch H H' s.heap h')(hok:HOk X.prog X.w H' h')(hg:AllBare g')
 (hch:∀b∈ch,(b∈X.ex\/X.s₀.heap.objs.size<=b)/\b≠X.env.locals/\(∀x c,X.env.cells.lookup x=some c->c≠b)/\∀p∈X.pn++tf,p.1≠b) :
 Inv X tf σ H' { s with heap:=h',gens:=g',drawn:=d',toks:=t' }:=by
 obtain⟨m,⟨o,es,ep,ho,r⟩,_⟩:=id I.loc;obtain⟨sl,hL⟩:=u.any ho I.free fun z=>(hch _ z).2.1 rfl;exact I.step (ch:=ch) hch (fun b o hL hb hc e n=>u.keep b o e n (fun z=>(Yl.mp (I.stkSub b z)).elim hL hb) hc) (fun b o _ _ hc e n=>u.any e n hc) (fun b o hc e n=>u.free b o e n hc) (fun b o hc e=>u.there b o e hc) u.tups u.frzs u.tbls (fun m' hm=>by obtain⟨o',es',ep',ho',r'⟩:=hm;rw[ho]at ho';cases ho';exact⟨_,es',ep',hL,r'⟩) hok hg
theorem Inv.turned{t':Nat}{it:Addr}(I:Inv X tf σ H s)(k:∀b o,b≠it->s.heap.get? b=some o->h'.get? b=some o)(hn:H it=none)(hL:it≠X.env.locals)
 (h1:it∈X.ex\/X.s₀.heap.objs.size<=it) (h2:∀x c,X.env.cells.lookup x=some c->c≠it) (h3:∀p∈X.pn++tf,p.1≠it):Inv X tf σ H { s with heap:=h',toks:=t' }:=by
 have nit:∀b u,H b=some u->b≠it:=fun b u e z=>by rw[z,hn]at e;cases e
 refine I.step (g':=s.gens) (d':=s.drawn) (ch:=[it]) (fun b hb=>?_) (fun b o _ _ hc e _=>k b o (fun z=>hc (by simp[z])) e) (fun b o _ _ hc e _=>⟨o.slots,k b o (fun z=>hc (by simp[z])) e⟩) (fun _ _ _ _ n=>n)
  (fun b o hc e=>⟨o,k b o (fun z=>hc (by simp[z])) e⟩) (fun _ _ e=>e) (fun _ _ _ e=>e) (fun b ps e=>⟨#[],by rw[e];simp⟩) (fun m hm=>?_) (fun b u e=>?_) I.bare
 . have e:b=it:=by simpa using hb
   subst e;exact⟨h1,hL,h2,h3⟩
 . obtain⟨o,es,ep,ho,r⟩:=hm;exact⟨o,es,ep,k _ o (Ne.symm hL) ho,r⟩
 . refine(I.hok b u e).stay (fun c v hc q=>k c v ?_ q) (fun _ q=>q) fun _ _ q=>q;rcases hc with z | z
   . rw[z];exact nit b u e
   . exact nit c _ z
theorem Inv.tok(I:Inv X tf σ H s)(t:Nat):Inv X tf σ H { s with toks:=t }:=I.un (h':=s.heap) (t':=t) Un.refl I.hok
theorem Inv.kept{t':Nat}(I:Inv X tf σ H s)(k:∀b u,s.heap.get? b=some u->h'.get? b=some u):Inv X tf σ H { s with heap:=h',toks:=t' }:=I.un (Un.kept k) (I.hok.kept k)
theorem Inv.laid{a:Addr}{o:HO}{t':Nat}(I:Inv X tf σ H s)(k:∀b u,s.heap.get? b=some u->h'.get? b=some u)(hp:s.heap.objs.size<=a)(new:ObjOk X.prog X.w (upd H a o) h' a o):
 Inv X tf σ (upd H a o) { s with heap:=h',toks:=t' }:=I.un (Un.laid k hp (I.hok.fresh hp)) (I.hok.laid k hp new)
theorem Inv.write{x e:Addr}{o:HO}{t':Nat}(I:Inv X tf σ H s)(mu:Mut (H x))(he:e=x\/H e=some (.own x))(k:∀b u,b≠e->s.heap.get? b=some u->h'.get? b=some u)(heo:∃u,h'.get? e=some u)
 (new:ObjOk X.prog X.w (upd H x o) h' x o):Inv X tf σ (upd H x o) { s with heap:=h',toks:=t' }:=I.un (Un.write mu he k heo) (I.hok.write mu he k heo new)
theorem Inv.weak{σ':List (Option V)}(I:Inv X tf σ H s)(hl:σ'.length=σ.length)(w:∀(i:Nat) v,σ'[i]?=some (some v)->σ[i]?=some (some v)):Inv X tf σ' H s:=⟨I.ok,I.os,I.bare,I.base,let ⟨m,hn,hl'⟩:=I.loc;⟨m,hn,fun i x v e1 e2 e3=>hl' i x v e1 (w i v e2) e3⟩,I.cell,I.free,I.freeC,I.pin,I.hok,hl.trans I.len⟩
theorem Inv.pins_of{pins':List (Addr×Obj)}(I:Inv X tf σ H s)(h:∀p∈pins',s.heap.get? p.1=some p.2/\H p.1=none/\p.1≠X.env.locals/\p.1∉X.fs/\∀v,p.2.data≠.cell v):Inv X pins' σ H s:=⟨I.ok,I.os,I.bare,I.base,I.loc,I.cell,I.free,I.freeC,fun p hp=>(yj.mp hp).elim (fun z=>I.pin p (yA _ z)) (h p),I.hok,I.len⟩
theorem jcT{N:List Str}(hN:N.Nodup){i j:Nat}{x:Str}(a:N[i]?=some x)(b:N[j]?=some x):i=j:=by obtain⟨h1,e1⟩:=Yg.mp a;obtain⟨h2,e2⟩:=Yg.mp b;exact(List.getElem_inj hN).mp (e1.trans e2.symm)
theorem jbD{M:Model}{A:Around}{E:Value->Shared->Prop}{i:Nat}{x:Str}{v:V}{u:Value}{Q:Unit->Shared->Prop}(I:Inv X tf σ H s)(hN:X.N.Nodup)(hi:X.N[i]?=some x)(hx:Loc X.env.scope x)(r:RelV v u)
 (h:∀s',Inv X tf (σ.set i (some v)) H s'->(∃a,Heap.SameBut a s.heap s'.heap/\(a=X.env.locals\/X.env.cells.lookup x=some a))->Q () s') (hf:autoParam (X.fn x=true\/X.env.scope.names.lookup x=some .local) QA.a0._auto_1):wpAny M A (storeName X.env x u) Q E s:=by
 obtain⟨m,hn,hl⟩:=id I.loc;have hcls:(X.env.scope.kind == .class || (X.env.scope.kind == .module && X.env.locals != X.env.globals))=false:=by rw[I.ok.kind];rfl
 have hiσ:i<σ.length:=by rw[I.len];exact(Yg.mp hi).1
 have cne:=I.cne;have tracked:∀{a:Addr} {h':Heap},(∃o,s.heap.get? a=some o/\H a=none)->Heap.SameBut a s.heap h'->HOk X.prog X.w H h':=fun{a h'} ha hs b ob e=>by
  obtain⟨_,_,hfree⟩:=ha;refine(I.hok b ob e).stay (fun c w' hc q=>(hs.2 c ?_).trans q) (fun _ q=>q) fun _ _ q=>q;rintro rfl;rcases hc with rfl | hc
  . rw[hfree]at e;cases e
  . rw[hfree]at hc;cases hc
 rcases hx with hk | hk
 . refine wpAny_storeName_local hk hn (fun h' hn' hs=>?_) hcls;obtain⟨oL,_,_,hoL,_⟩:=id hn;refine h _ ⟨I.ok,I.os,I.bare,⟨fun b o e n hb hx=>?_,fun b o e n hb hx=>?_,I.base.free,fun b o e hx=>?_,I.base.tups,I.base.frzs,I.base.tbls⟩,⟨_,hn',fun j y v' e1 e2 e3=>?_⟩,fun y c e=>?_,I.free,I.freeC,fun p hp=>?_,tracked ⟨oL,hoL,I.free⟩ hs,by simpa using I.len⟩ ⟨_,hs,.inl rfl⟩
   . exact(hs.2 b (Yx (Ye (Yz e) I.ok.above))).trans (I.base.keep b o e n hb hx)
   . obtain⟨sl,e1⟩:=I.base.slot b o e n hb hx;exact⟨sl,(hs.2 b (Yx (Ye (Yz e) I.ok.above))).trans e1⟩
   . obtain⟨o',e1⟩:=I.base.there b o e hx;exact⟨o',(hs.2 b (Yx (Ye (Yz e) I.ok.above))).trans e1⟩
   . by_cases hj:j=i
     . subst hj;rw[hi]at e1;cases e1;rw[YG hiσ]at e2;cases e2;exact⟨u,r,.inl ⟨hk,by simp⟩⟩
     . rw[Yh (Ne.symm hj)]at e2;obtain⟨u',r',q⟩:=hl j y v' e1 e2 e3;refine⟨u',r',?_⟩;rcases q with⟨k,e⟩ | ⟨k,c,e,z⟩
       . refine .inl ⟨k,?_⟩;have:y≠x:=fun e=>hj (jcT hN e1 (e ▸ hi));simp[this,e]
       . exact .inr ⟨k,c,e,z.sameBut hs (cne y c e)⟩
   . obtain⟨w',z⟩:=I.cell y c e;exact⟨w',z.sameBut hs (cne y c e)⟩
   . obtain⟨e,n,ne,nf,d⟩:=I.pin p hp;exact⟨(hs.2 p.1 ne).trans e,n,ne,nf,d⟩
 . have hfn:X.fn x=true:=by
    rcases hf with z | z
    . exact z
    . rw[z]at hk;cases hk
   obtain⟨c,hc⟩:=I.ok.has x (.inl hk);obtain⟨w',z⟩:=I.cell x c hc;refine wpAny_storeName_cell I.ok.kind hk hc z (fun h' hc' hs=>?_);obtain⟨oc,hoc,hocd⟩:=id z;refine h { s with heap:=h' } ⟨I.ok,I.os,I.bare,⟨fun b o e n hb hx=>?_,fun b o e n hb hx=>?_,I.base.free,fun b o e hx=>?_,I.base.tups,I.base.frzs,I.base.tbls⟩,⟨m,hn.sameBut hs (Ne.symm (cne x c hc)),fun j y v' e1 e2 e3=>?_⟩,fun y c' e=>?_,I.free,I.freeC,fun p hp=>?_,tracked ⟨oc,hoc,I.freeC x c hc⟩ hs,by simpa using I.len⟩ ⟨c,hs,.inr hc⟩
   . exact(hs.2 b (Yx (Ye (Yz e) (I.ok.cab x c hfn hc)))).trans (I.base.keep b o e n hb hx)
   . obtain⟨sl,e1⟩:=I.base.slot b o e n hb hx;exact⟨sl,(hs.2 b (Yx (Ye (Yz e) (I.ok.cab x c hfn hc)))).trans e1⟩
   . obtain⟨o',e1⟩:=I.base.there b o e hx;exact⟨o',(hs.2 b (Yx (Ye (Yz e) (I.ok.cab x c hfn hc)))).trans e1⟩
   . by_cases hj:j=i
     . subst hj;rw[hi]at e1;cases e1;rw[YG hiσ]at e2;cases e2;exact⟨u,r,.inr ⟨.inl hk,c,hc,hc'⟩⟩
     . rw[Yh (Ne.symm hj)]at e2;obtain⟨u',r',q⟩:=hl j y v' e1 e2 e3;refine⟨u',r',?_⟩;rcases q with q | ⟨k,c',e,z'⟩
       . exact .inl q
       . refine .inr ⟨k,c',e,z'.sameBut hs ?_⟩;rintro rfl;exact hj (jcT hN e1 (I.ok.inj _ _ _ e hc ▸ hi))
   . by_cases hcc:c'=c
     . subst hcc;exact⟨_,hc'⟩
     . obtain⟨w2,z2⟩:=I.cell y c' e;exact⟨w2,z2.sameBut hs hcc⟩
   . obtain⟨e,n,ne,nf,d⟩:=I.pin p hp;refine⟨(hs.2 p.1 ?_).trans e,n,ne,nf,d⟩;intro q;rw[q,hoc]at e;have q':oc=p.2:=Option.some.inj e;exact d w' (by rw[<-q'];exact hocd)
theorem jc5{M:Model}{A:Around}{E:Value->Shared->Prop}{i:Nat}{x:Str}{v:V}{u:Value}{Q:Unit->Shared->Prop}(I:Inv X tf σ H s)(hN:X.N.Nodup)(hi:X.N[i]?=some x)(hx:Loc X.env.scope x)(r:RelV v u)
 (h:∀s',Inv X tf (σ.set i (some v)) H s'->Q () s') (hf:autoParam (X.fn x=true\/X.env.scope.names.lookup x=some .local) QA.a0._auto_1):wpAny M A (storeName X.env x u) Q E s:=
 jbD I hN hi hx r (fun s' I' _=>h s' I') hf
theorem Inv.call'{s':Shared}{ch:List Addr}(I:Inv X tf σ H s)(ho:s'.os=s.os)(u:Un (frs X.stack) ch H H' s.heap s'.heap)(hok:HOk X.prog X.w H' s'.heap)(hg:AllBare s'.gens)
 (hch:∀b∈ch,(b∈X.ex\/X.s₀.heap.objs.size<=b)/\b≠X.env.locals/\(∀x c,X.env.cells.lookup x=some c->c≠b)/\∀p∈X.pn++tf,p.1≠b):Inv X tf σ H' s':=by
 obtain⟨h',g',d',t',o'⟩:=s';have e:o'=s.os:=ho;subst e;exact I.call (g':=g') (t':=t') (d':=d') u hok hg hch
end
abbrev XK:=Value->Option Addr->Hp->Prop
abbrev St:=List (Option V)
abbrev VK:=V->Hp->Prop
abbrev TE:=St->Hp->VK->Prop
abbrev TT:=St->Hp->(Bool->Hp->Prop)->Prop
abbrev TA:=St->Hp->(List V->Hp->Prop)->Prop
structure Ends where
 nx:St->Hp->Prop
 rt:VK
 bk:St->Hp->Prop:=fun _ _=>False
 ct:St->Hp->Prop:=fun _ _=>False
abbrev TS:=Ends->St->Hp->Prop
def EP(X:Cx)(tf:List (Addr×Obj))(σ:St)(Q:VK)(u:Value)(s':Shared):Prop:=∃v H',Inv X tf σ H' s'/\RelV v u/\Q v H'
def TP(X:Cx)(tf:List (Addr×Obj))(σ:St)(Q:Bool->Hp->Prop)(b:Bool)(s':Shared):Prop:=∃H',Inv X tf σ H' s'/\Q b H'
def AP(X:Cx)(tf:List (Addr×Obj))(σ:St)(Q:List V->Hp->Prop)(us:List Value)(s':Shared):Prop:=∃vs H',Inv X tf σ H' s'/\Vals vs us/\Q vs H'
def SP(X:Cx)(tf:List (Addr×Obj))(D:Ends)(f:Flow)(s':Shared):Prop:=
 match f with
 | .next=>∃σ' H',Inv X tf σ' H' s'/\D.nx σ' H'
 | .brk=>∃σ' H',Inv X tf σ' H' s'/\D.bk σ' H'
 | .cont=>∃σ' H',Inv X tf σ' H' s'/\D.ct σ' H'
 | .ret u=>∃v σ' H',Inv X tf σ' H' s'/\RelV v u/\D.rt v H'
def PE(X:Cx)(e:Expr)(t:TE):Prop:=∀(tf:List (Addr×Obj)) (s:Shared) (σ:St) (H:Hp) (Q:VK),Inv X tf σ H s->t σ H Q->wpAny (model X.prog X.w) X.A (eval e X.env) (EP X tf σ Q) X.xe s
def PT(X:Cx)(e:Expr)(t:TT):Prop:=∀(tf:List (Addr×Obj)) (s:Shared) (σ:St) (H:Hp) (Q:Bool->Hp->Prop),Inv X tf σ H s->t σ H Q->wpAny (model X.prog X.w) X.A (isTrue e X.env (eval e X.env)) (TP X tf σ Q) X.xe s
def PW(X:Cx)(e:Expr)(t:TT):Prop:=∀(whole:Sem Value) (tf:List (Addr×Obj)) (s:Shared) (σ:St) (H:Hp) (Q:Bool->Hp->Prop),Inv X tf σ H s->t σ H Q->wpAny (model X.prog X.w) X.A (isTrue e X.env whole) (TP X tf σ Q) X.xe s
theorem PW.pt{X:Cx}{e:Expr}{t:TT}(h:PW X e t):PT X e t:=h _
def PA(X:Cx)(es:List Expr)(t:TA):Prop:=∀(pos:Pos) (tf:List (Addr×Obj)) (s:Shared) (σ:St) (H:Hp) (Q:List V->Hp->Prop),Inv X tf σ H s->t σ H Q->wpAny (model X.prog X.w) X.A (spliced (backTo pos (starEach es X.env))) (AP X tf σ Q) X.xe s
def PS(X:Cx)(st:Stmt)(t:TS):Prop:=∀(tf:List (Addr×Obj)) (s:Shared) (σ:St) (H:Hp) (D:Ends),Inv X tf σ H s->t D σ H->wpAny (model X.prog X.w) X.A (exec st X.env) (SP X tf D) X.xe s
def PSs(X:Cx)(st:List Stmt)(t:TS):Prop:=∀(tf:List (Addr×Obj)) (s:Shared) (σ:St) (H:Hp) (D:Ends),Inv X tf σ H s->t D σ H->wpAny (model X.prog X.w) X.A (execs st X.env) (SP X tf D) X.xe s
theorem qH{α:Type}{t:Sem α}{Q Q':α->Shared->Prop}{M:Model}{A:Around}{E:Value->Shared->Prop}{s:Shared}(h:wpAny M A t Q E s)(hQ:∀a s,Q a s->Q' a s):wpAny M A t Q' E s:=yp h hQ fun _ _ x=>x
section
variable{X:Cx}
theorem bin{a b:Expr}{ta tb:TE}(ha:PE X a ta)(hb:PE X b tb){tf:List (Addr×Obj)}{s:Shared}{σ:St}{H:Hp}{R:V->V->Hp->Prop}(I:Inv X tf σ H s)(h:ta σ H fun x H1=>tb σ H1 fun y H2=>R x y H2)
 {α:Type} {Q:α->Shared->Prop} {f:Value->Value->Sem α}
 (hf:∀v u s2 x y H2,Inv X tf σ H2 s2->RelV x v->RelV y u->R x y H2->wpAny (model X.prog X.w) X.A (f v u) Q X.xe s2) :
 wpAny (model X.prog X.w) X.A (eval a X.env) (fun v s₁=>wpAny (model X.prog X.w) X.A (eval b X.env) (fun u s₂=>wpAny (model X.prog X.w) X.A (f v u) Q X.xe s₂) X.xe s₁) X.xe s:=by
 refine qH (ha tf s σ H _ I h) fun v s1 zz=>?_;obtain⟨x,H1,I1,r1,q1⟩:=zz;refine qH (hb tf s1 σ H1 _ I1 q1) fun u s2 zz=>?_;obtain⟨y,H2,I2,r2,q2⟩:=zz;exact hf v u s2 x y H2 I2 r1 r2 q2
def Ji(i:Nat):TE:=fun σ H Q=>∃v,σ[i]?=some (some v)/\Q v H
def tC(v:V):TE:=fun _ H Q=>Q v H
theorem qN{i:Nat}{x:Str}{pos:Pos}(hN:X.N[i]?=some x)(hv:Vis X.env.scope x)(hd:(x == ("__debug__":Str))=false:=by decide)(hcd:(x == ("__classdict__":Str))=false:=by decide):PE X (.Name x pos) (Ji i):=by
 intro tf s σ H Q I h;obtain⟨v,e,h⟩:=h;obtain⟨m,hn,hl⟩:=I.loc;obtain⟨u,r,l⟩:=hl i x v hN e hv;have fin:EP X tf σ Q u s:=⟨v,H,I,r,h⟩;rcases l with⟨hk,hm⟩ | ⟨hk,c,hc,hcell⟩
 . exact wpAny_Name (wpAny_loadName_local I.ok.kind hk hn hm fin) hd
 . rcases hk with hk | hk
   . exact wpAny_Name (wpAny_loadName_cell I.ok.kind hk hc hcell fin) hd
   . exact wpAny_Name (wpAny_loadName_free I.ok.kind hk hc hcell fin hcd) hd
theorem jkj{i j pos}:PE X (.Constant (.int i) j pos) (tC (.int i)):=fun _ _ _ H _ I h=>wpAny_Constant_int ⟨.int i,H,I.tok _,⟨_,rfl⟩,h⟩
theorem jk2{b j pos}:PE X (.Constant (.bool b) j pos) (tC (.bl b)):=fun _ _ _ H _ I h=>Constant_bool ⟨.bl b,H,I,rfl,h⟩
theorem jj3{j pos}:PE X (.Constant .none j pos) (tC .non):=fun _ _ _ H _ I h=>Constant_none ⟨.non,H,I,rfl,h⟩
theorem jj0{x j pos}:PE X (.Constant (.str x) j pos) (tC (.str x)):=fun _ _ _ H _ I h=>Calls.Constant_str ⟨.str x,H,I.tok _,⟨_,rfl⟩,h⟩
def Gl(X:Cx)(x:Str):Prop:=X.env.kindOf x=some .globalImplicit
theorem jex{E:Value->Shared->Prop}{tf:List (Addr×Obj)}{s:Shared}{σ:St}{H:Hp}{x:Str}{u:Value}{pos:Pos}{Q:Value->Shared->Prop}(I:Inv X tf σ H s)(hg:Gl X x)(hm:X.mg x=some u)(h:Q u s)
 (hd:(x == ("__debug__":Str))=false:=by decide):wpAny (model X.prog X.w) X.A (eval (.Name x pos) X.env) Q E s:=
 Calls.Name_function_global I.ok.kind hg (Calls.loadGlobal_global (by rw[I.ok.glob];exact I.mod.glob.keeps I.bk) hm h) hd
theorem QT{E:Value->Shared->Prop}{tf:List (Addr×Obj)}{s:Shared}{σ:St}{H:Hp}{x:Str}{u:Value}{pos:Pos}{Q:Value->Shared->Prop}(I:Inv X tf σ H s)(hg:Gl X x)(hm:X.mg x=none)(hv:bootBuiltins x=some u)(h:Q u s)
 (hn:x ≠ "__name__":=by decide) (hd:(x == ("__debug__":Str))=false:=by decide):wpAny (model X.prog X.w) X.A (eval (.Name x pos) X.env) Q E s:=by
 obtain⟨mb,h1,h2⟩:=I.mod.blt;exact Calls.Name_function_global I.ok.kind hg (Calls.loadGlobal_builtin (by rw[I.ok.glob];exact I.mod.glob.keeps I.bk) hm (by rw[I.ok.blt];exact h1.keeps I.bk) ((h2 x hn).trans hv) h) hd
theorem jht{x:Str}{v:V}{u:Value}{pos:Pos}(hg:Gl X x)(hm:X.mg x=some u)(r:RelV v u)(hd:(x == ("__debug__":Str))=false:=by decide):PE X (.Name x pos) (tC v):=fun _ _ _ H _ I h=>jex I hg hm ⟨v,H,I,r,h⟩ hd
theorem jh0{x:Str}{v:V}{u:Value}{pos:Pos}(hg:Gl X x)(hm:X.mg x=none)(hv:bootBuiltins x=some u)(r:RelV v u)(hn:x ≠ "__name__":=by decide)(hd:(x == ("__debug__":Str))=false:=by decide):PE X (.Name x pos) (tC v):=fun _ _ _ H _ I h=>QT I hg hm hv ⟨v,H,I,r,h⟩ hn hd
variable{a b:Expr}{ta tb:TE}{pos:Pos}
def PC(X:Cx)(op:CmpOp)(a b:Expr)(t:TE):Prop:=
 ∀(tf:List (Addr×Obj)) (s:Shared) (σ:St) (H:Hp) (Q:VK),Inv X tf σ H s->t σ H Q->
   wpAny (model X.prog X.w) X.A (eval a X.env) (fun v s₁=>wpAny (model X.prog X.w) X.A (eval b X.env) (fun u s₂=>wpAny (model X.prog X.w) X.A (compareOp op v u) (EP X tf σ Q) X.xe s₂) X.xe s₁) X.xe s
theorem nobehind(b:Expr){op:CmpOp}(h:op≠.In)(h2:op≠.NotIn):behindInMarks op b=false:=by
 have e1:(op == CmpOp.In)=false:=by cases op <;> first | rfl | exact absurd rfl h
 have e2:(op == CmpOp.NotIn)=false:=by cases op <;> first | rfl | exact absurd rfl h2
 cases b <;> simp[behindInMarks,e1,e2]
def tB(t:TE):TT:=fun σ H Q=>t σ H fun x H1=>∃c,x=.bl c/\Q c H1
theorem jmg{op:CmpOp}{t:TE}(h:PC X op a b t)(h1:autoParam (behindInMarks op b=false) QA.a2._auto_1):PT X (.Compare a [op] [b] pos) (tB t):=by intro tf s σ H Q I hw;refine wpAny_isTrue_Compare1 (qH (h tf s σ H _ I hw) fun v s1 h1=>qH h1 fun u s2 h2=>qH h2 fun c s3 zz=>?_) h1;obtain⟨x,H1,I1,r1,q1⟩:=zz;obtain⟨d,rfl,q⟩:=q1;cases r1;exact yG ⟨H1,I1,q⟩
theorem jkd{e:Expr}{t:TE}(h:PE X e t)(he:∀whole,isTrue e X.env whole=(do let v <- whole;standAt e.pos;holding [v] (truthy v)):=by intro _;rfl):PT X e (tB t):=by intro tf s σ H Q I hw;refine isTrue_plain (qH (h tf s σ H _ I hw) fun v s1 zz=>?_) (he _);obtain⟨x,H1,I1,r1,q1⟩:=zz;obtain⟨d,rfl,q⟩:=q1;cases r1;exact yG ⟨H1,I1,q⟩
variable{tA tB':TT}{jbw:List Expr}
def jlR(t u:TT):TT:=fun σ H Q=>t σ H fun c H1=>if c=true then u σ H1 Q else Q false H1
def tOr(t u:TT):TT:=fun σ H Q=>t σ H fun c H1=>if c=true then Q true H1 else u σ H1 Q
def jlK(t:TT):TT:=fun σ H Q=>t σ H fun c H1=>Q (!c) H1
theorem jhB(ha:PT X a tA):PW X (.BoolOp .And [a] pos) tA:=by
 intro wh tf s σ H Q I h;refine isTrue_and (qH (ha tf s σ H Q I h) fun c s1 e=>?_);cases c with
 | true=>exact isTrue_and_nil e
 | false=>exact e
theorem jkv(ha:PT X a tA):PW X (.BoolOp .Or [a] pos) tA:=by
 intro wh tf s σ H Q I h;refine isTrue_or (qH (ha tf s σ H Q I h) fun c s1 e=>?_);cases c with
 | false=>exact isTrue_or_nil e
 | true=>exact e
theorem jjG(ha:PT X a tA)(hb:PW X (.BoolOp .And (b::jbw) pos) tB'):PW X (.BoolOp .And (a::b::jbw) pos) (jlR tA tB'):=by
 intro wh tf s σ H Q I h;refine isTrue_and (qH (ha tf s σ H _ I h) fun c s1 zz=>?_);obtain⟨H1,I1,q1⟩:=zz;cases c with
 | true=>exact hb wh tf s1 σ H1 Q I1 q1
 | false=>exact⟨H1,I1,q1⟩
theorem jle(ha:PT X a tA)(hb:PW X (.BoolOp .Or (b::jbw) pos) tB'):PW X (.BoolOp .Or (a::b::jbw) pos) (tOr tA tB'):=by
 intro wh tf s σ H Q I h;refine isTrue_or (qH (ha tf s σ H _ I h) fun c s1 zz=>?_);obtain⟨H1,I1,q1⟩:=zz;cases c with
 | true=>exact⟨H1,I1,q1⟩
 | false=>exact hb wh tf s1 σ H1 Q I1 q1
theorem jjo(ha:PT X a tA):PT X (.UnaryOp .Not a pos) (jlK tA):=by intro tf s σ H Q I h;exact isTrue_not (ha tf s σ H (fun c H1=>Q (!c) H1) I h)
def jiH(ta tb:TE):TE:=fun σ H Q=>ta σ H fun x H1=>∃c,x=.bl c/\if c=true then tb σ H1 Q else Q (.bl false) H1
def jik(ta:TE):TE:=fun σ H Q=>ta σ H fun x H1=>∃c,x=.bl c/\Q (.bl (!c)) H1
theorem jjl{op}{t:TE}(h:PE X a t):PE X (.BoolOp op [a] pos) t:=fun tf s σ H Q I hw=>BoolOp_one (h tf s σ H Q I hw)
theorem ji4(ha:PE X a ta)(hb:PE X (.BoolOp .And (b::jbw) pos) tb):PE X (.BoolOp .And (a::b::jbw) pos) (jiH ta tb):=by
 intro tf s σ H Q I h;refine BoolOp_and (qH (ha tf s σ H _ I h) fun v s1 zz=>?_);obtain⟨x,H1,I1,r1,q1⟩:=zz;obtain⟨c,rfl,q1⟩:=q1;cases r1;refine yG ?_;cases c with
 | true=>exact hb tf s1 σ H1 Q I1 q1
 | false=>exact⟨.bl false,H1,I1,rfl,q1⟩
theorem ji1(ha:PE X a ta):PE X (.UnaryOp .Not a pos) (jik ta):=by intro tf s σ H Q I h;refine UnaryOp_ (qH (ha tf s σ H _ I h) fun v s1 zz=>?_);obtain⟨x,H1,I1,r1,q1⟩:=zz;obtain⟨c,rfl,q1⟩:=q1;cases r1;exact not_of (yG ⟨.bl (!c),H1,I1,rfl,q1⟩)
def tIf(t:TT)(ta tb:TE):TE:=fun σ H Q=>t σ H fun c H1=>if c=true then ta σ H1 Q else tb σ H1 Q
theorem jfW{c:Expr}(hc:PT X c tA)(ha:PE X a ta)(hb:PE X b tb):PE X (.IfExp c a b pos) (tIf tA ta tb):=by
 intro tf s σ H Q I h;refine wpAny_IfExp (qH (hc tf s σ H _ I h) fun d s1 zz=>?_);obtain⟨H1,I1,q1⟩:=zz;cases d with
 | true=>exact ha tf s1 σ H1 Q I1 q1
 | false=>exact hb tf s1 σ H1 Q I1 q1
end
def zQ(K:PySem.W.Frag)(H:Hp)(a:Addr)(xs:List V):Prop:=
 Rd H a (.lst xs) \/
   ∃(o:Obj) (tq:Array Value) (n:Nat),K.lookup a=some o ∧ o.cls=.type "list" ∧ o.dict=none ∧ o.data=.seq tq n ∧ tq.size ≤ sizeLine ∧ Vals xs tq.toList
def SqT(K:PySem.W.Frag)(H:Hp)(a:Addr)(xs:List V):Prop:=
 Rd H a (.tup xs) \/
   ∃(o:Obj) (tq:Array Value) (n:Nat),K.lookup a=some o ∧ o.cls=.type "tuple" ∧ o.data=.seq tq n ∧ tq.size ≤ sizeLine ∧ Vals xs tq.toList
def jmf:Value->Option V
 | .none=>some .non
 | .bool b=>some (.bl b)
 | .int i _=>some (.int i)
 | .str x _=>some (.str x)
 | .bytes b _=>some (.byt b)
 | .float b _=>some (.flt b)
 | .ref a=>some (.ref a)
 | .type n=>some (.ty n)
 | _=>none
theorem RelV.abs{x:V}{u:Value}(r:RelV x u):jmf u=some x:=by
 cases x with
 | non=>cases r;rfl
 | bl _=>cases r;rfl
 | int _=>obtain⟨t,rfl⟩:=r;rfl
 | str _=>obtain⟨t,rfl⟩:=r;rfl
 | byt _=>obtain⟨t,rfl⟩:=r;rfl
 | flt _=>obtain⟨t,rfl⟩:=r;rfl
 | ref _=>cases r;rfl
 | ty _=>cases r;rfl
theorem RelV.inj{x y:V}{u:Value}(r:RelV x u)(q:RelV y u):x=y:=Option.some.inj (r.abs.symm.trans q.abs)
theorem Vals.inj:∀{xs ys:List V} {us:List Value},Vals xs us->Vals ys us->xs=ys:=fun{xs ys us} h=>by
 induction h generalizing ys with
 | nil=>intro h;cases h;rfl
 | cons r _ ih=>intro h;cases h with | cons q t=>rw[r.inj q,ih t]
section
variable{X:Cx}{tf:List (Addr×Obj)}{σ:St}{H:Hp}{s:Shared}{a:Addr}{xs ys:List V}
theorem SqT.of{K:PySem.W.Frag}(h:H a=some (.tup xs)):SqT K H a xs:=.inl (.inl h)
theorem Inv.list(I:Inv X tf σ H s)(h:zQ X.K H a xs):∃tq:List Value,Vals xs tq/\PlainL s.heap a tq.toArray/\xs.length<=sizeLine:=by
 rcases h with h | ⟨o,tq,n,hk,hc,hd,hs,hz,r⟩
 . obtain⟨z,tq,n,r,e⟩:=h.ok I.hok;exact⟨tq,r,⟨_,n,e,rfl,rfl,rfl⟩,z⟩
 . refine⟨tq.toList,r,⟨o,n,I.kIn a o hk,hc,hd,by simpa using hs⟩,?_⟩;have e:=r.length;simp only[yf]at e;omega
theorem Inv.tuple(I:Inv X tf σ H s)(h:SqT X.K H a xs):∃tq:List Value,Vals xs tq/\IsTup s.heap a tq.toArray/\xs.length<=sizeLine:=by
 rcases h with h | ⟨o,tq,n,hk,hc,hs,hz,r⟩
 . obtain⟨z,tq,r,p⟩:=h.ok I.hok;exact⟨tq,r,p,z⟩
 . refine⟨tq.toList,r,⟨o,I.kIn a o hk,hc,n,by simpa using hs⟩,?_⟩;have e:=r.length;simp only[yf]at e;omega
theorem Inv.list_inj(I:Inv X tf σ H s)(h:zQ X.K H a xs)(h':zQ X.K H a ys):xs=ys:=by
 obtain⟨tq,r,⟨o,n,e,_,_,d⟩,_⟩:=I.list h;obtain⟨its',r',⟨o',n',e',_,_,d'⟩,_⟩:=I.list h';rw[e]at e';cases e';rw[d]at d';injection d' with d1 _;have:tq=its':=by simpa using congrArg Array.toList d1
 subst this;exact r.inj r'
end
abbrev Cx.wish(X:Cx)(E:Value->Shared->Prop):Cx:={ X with xe:=E }
abbrev Cx.nox(X:Cx):Cx:=X.wish fun _ _=>False
theorem Cx.Ok.wish{X:Cx}(ok:X.Ok)(E:Value->Shared->Prop):(X.wish E).Ok:=⟨ok.mod,ok.kind,ok.glob,ok.blt,ok.above,ok.inj,ok.has,ok.cab,ok.hd,ok.frames,ok.stk,ok.exf,ok.bs,ok.bsz,ok.noex,ok.exfs,ok.funs,ok.frf⟩
theorem Cx.Ok.unwish{X:Cx}{E:Value->Shared->Prop}(ok:(X.wish E).Ok):X.Ok:=⟨ok.mod,ok.kind,ok.glob,ok.blt,ok.above,ok.inj,ok.has,ok.cab,ok.hd,ok.frames,ok.stk,ok.exf,ok.bs,ok.bsz,ok.noex,ok.exfs,ok.funs,ok.frf⟩
section
variable{X:Cx}{tf:List (Addr×Obj)}{σ:St}{H:Hp}{s:Shared}{E:Value->Shared->Prop}
theorem Inv.wish(I:Inv X tf σ H s)(E:Value->Shared->Prop):Inv (X.wish E) tf σ H s:=⟨I.ok.wish E,I.os,I.bare,I.base,I.loc,I.cell,I.free,I.freeC,I.pin,I.hok,I.len⟩
theorem Inv.unwish(I:Inv (X.wish E) tf σ H s):Inv X tf σ H s:=⟨I.ok.unwish,I.os,I.bare,I.base,I.loc,I.cell,I.free,I.freeC,I.pin,I.hok,I.len⟩
theorem SP.unwish{D:Ends}{f:Flow}{s':Shared}(h:SP (X.wish E) tf D f s'):SP X tf D f s':=by
 cases f with
 | next=>obtain⟨σ',H',I,q⟩:=h;exact⟨σ',H',I.unwish,q⟩
 | brk=>obtain⟨σ',H',I,q⟩:=h;exact⟨σ',H',I.unwish,q⟩
 | cont=>obtain⟨σ',H',I,q⟩:=h;exact⟨σ',H',I.unwish,q⟩
 | ret u=>obtain⟨v,σ',H',I,r,q⟩:=h;exact⟨v,σ',H',I.unwish,r,q⟩
theorem PSs.nox{st:List Stmt}{t:TS}(h:PSs X.nox st t):PSs X st t:=fun tf s σ H D I hw=>yp (h tf s σ H D (I.wish _) hw) (fun _ _ q=>q.unwish) fun _ _ z=>False.elim z
end
section
variable{X:Cx}{st:Stmt}{jbw:List Stmt}{t u:TS}{e:Expr}{te:TE}{pos:Pos}
def jgX:TS:=fun D σ H=>D.nx σ H
def jgb(t u:TS):TS:=fun D σ H=>t { D with nx:=u D } σ H
theorem jeR:PSs X [] jgX:=fun _ _ σ H _ I h=>wpAny_execs_nil ⟨σ,H,I,h⟩
theorem Q4(h1:PS X st t)(h2:PSs X jbw u):PSs X (st::jbw) (jgb t u):=by
 intro tf s σ H D I h;refine wpAny_execs_cons (qH (h1 tf s σ H { D with nx:=u D } I h) fun f s1 q=>?_);cases f with
 | next=>obtain⟨σ',H',I',q⟩:=q;exact h2 tf s1 σ' H' D I' q
 | ret v=>exact q
 | brk=>exact q
 | cont=>exact q
theorem jan(h1:PS X st t):PSs X [st] t:=by
 intro tf s σ H D I h;refine wpAny_execs_cons (qH (h1 tf s σ H D I h) fun f s1 q=>?_);cases f with
 | next=>exact wpAny_execs_nil q
 | ret v=>exact q
 | brk=>exact q
 | cont=>exact q
theorem Inv.quiet{tf:List (Addr×Obj)}{σ:St}{H:Hp}{s:Shared}(I:Inv X tf σ H s):interactive X.env=false:=by simp[interactive,I.ok.kind]
def jbE(te:TE):TS:=fun D σ H=>te σ H fun _ H1=>D.nx σ H1
theorem Zr(he:PE X e te)(hs:swapsWith e none pos.line X.env=pure false:=by rfl):PS X (.Expr e pos) (jbE te):=by intro tf s σ H D I h;exact wpAny_Expr_any (qH (he tf s σ H _ I h) fun v s1 ⟨x,H1,I1,r1,q1⟩=>⟨σ,H1,I1,q1⟩) I.quiet hs
def jfm(te:TE):TS:=fun D σ H=>te σ H D.rt
theorem ja2(he:PE X e te):PS X (.Return (some e) pos) (jfm te):=by intro tf s σ H D I h;exact wpAny_Return_some (qH (he tf s σ H _ I h) fun v s1 ⟨x,H1,I1,r1,q1⟩=>⟨x,σ,H1,I1,r1,q1⟩)
def jkg(c:TT)(t u:TS):TS:=fun D σ H=>c σ H fun b H1=>if b=true then t D σ H1 else u D σ H1
theorem jiL{c:Expr}{a b:List Stmt}{tc:TT}(hc:PT X c tc)(ha:PSs X a t)(hb:PSs X b u):PS X (.If c a b pos) (jkg tc t u):=by
 intro tf s σ H D I h;refine wpAny_If (qH (hc tf s σ H _ I h) fun d s1 zz=>?_);obtain⟨H1,I1,q1⟩:=zz;cases d with
 | true=>exact ha tf s1 σ H1 D I1 q1
 | false=>exact hb tf s1 σ H1 D I1 q1
end
abbrev TG:=V->St->Hp->(St->Hp->Prop)->Prop
abbrev TGs:=List V->St->Hp->(St->Hp->Prop)->Prop
def PG(X:Cx)(target:Expr)(t:TG):Prop:=
 ∀(tf:List (Addr×Obj)) (s:Shared) (σ:St) (H:Hp) (v:V) (u:Value) (Q:St->Hp->Prop),Inv X tf σ H s->RelV v u->t v σ H Q->
   wpAny (model X.prog X.w) X.A (assign target X.env u) (fun _ s'=>∃σ' H',Inv X tf σ' H' s'/\Q σ' H') X.xe s
def PGs(X:Cx)(ts:List Expr)(t:TGs):Prop:=
 ∀(tf:List (Addr×Obj)) (s:Shared) (σ:St) (H:Hp) (vs:List V) (us:List Value) (Q:St->Hp->Prop),Inv X tf σ H s->Vals vs us->t vs σ H Q->
   wpAny (model X.prog X.w) X.A (assignInOrder ((assignEach ts X.env).map (·.2)) us) (fun _ s'=>∃σ' H',Inv X tf σ' H' s'/\Q σ' H') X.xe s
abbrev jiZ:=V->V->V->Hp->(Hp->Prop)->Prop
def jlD(X:Cx)(t:jiZ):Prop:=
 ∀(tf:List (Addr×Obj)) (s:Shared) (σ:St) (H:Hp) (o i v:V) (ov iv u:Value) (Q:Hp->Prop),Inv X tf σ H s->RelV o ov->RelV i iv->RelV v u->t o i v H Q->
   wpAny (model X.prog X.w) X.A (setItem ov iv u) (fun _ s'=>∃H',Inv X tf σ H' s'/\Q H') X.xe s
section
variable{X:Cx}{pos:Pos}
def JS(i:Nat):TG:=fun v σ H Q=>Q (σ.set i (some v)) H
theorem jcA{i:Nat}{x:Str}(hN:X.N.Nodup)(hi:X.N[i]?=some x)(hx:Loc X.env.scope x)(hf:autoParam (X.fn x=true\/X.env.scope.names.lookup x=some .local) QA.a0._auto_1):PG X (.Name x pos) (JS i):=by intro tf s σ H v u Q I r h;exact wpAny_assign_Name (jc5 I hN hi hx r (fun s' I'=>⟨_,H,I',h⟩) hf)
def jkb:TGs:=fun vs σ H Q=>vs=[]/\Q σ H
def jiR(t:TG)(u:TGs):TGs:=fun vs σ H Q=>∃v r,vs=v::r/\t v σ H fun σ' H'=>u r σ' H' Q
theorem jeH:PGs X [] jkb:=by intro tf s σ H vs us Q I r h;obtain⟨e,h⟩:=h;subst e;cases r;exact assignInOrder_nil ⟨σ,H,I,h⟩
theorem jdx{e:Expr}{es:List Expr}{t:TG}{u:TGs}(h1:PG X e t)(h2:PGs X es u)
 (hs:(assignEach (e::es) X.env).map (·.2)=assign e X.env::(assignEach es X.env).map (·.2):=by rfl):PGs X (e::es) (jiR t u):=by
 intro tf s σ H vs us Q I r h;obtain⟨v,vr,e1,h⟩:=h;subst e1;cases r with
 | cons r rr=>rw[hs];refine assignInOrder_cons (qH (h1 tf s σ H _ _ _ I r h) fun _ s1 zz=>?_);obtain⟨σ1,H1,I1,q1⟩:=zz;exact h2 tf s1 σ1 H1 _ _ Q I1 rr q1
def jhO(K:PySem.W.Frag)(n:Nat)(t:TGs):TG:=fun v σ H Q=>∃a xs,v=.ref a/\SqT K H a xs/\xs.length=n/\t xs σ H Q
theorem jg4{es:List Expr}{k:Nat}{t:TGs}{n:Nat}(hc:X.calm=true)(h:PGs X es t)
 (hn:(assignEach es X.env).length=n:=by rfl) (hst:(assignEach es X.env).findIdx? (·.1)=none:=by rfl):PG X (.Tuple es k pos) (jhO X.K n t):=by
 intro tf s σ H v u Q I r hw;obtain⟨a,xs,e1,hq,hl,hw⟩:=hw;subst e1;cases r;obtain⟨tq,rv,ht,hz⟩:=I.tuple hq;refine assign_Tuple_tuple (I.ok.hd hc) ht (by simp[hn,<- hl,rv.length]) hst fun h' hx=>?_;have I1:Inv X tf σ H { s with heap:=h' }:=I.kept (t':=s.toks) fun b o e=>hx b o (Yx (Yz e)) e;exact h tf _ σ H xs _ Q I1 (by simpa using rv) hw
def jjf(to ti:TE)(t:jiZ):TG:=fun v σ H Q=>to σ H fun o H1=>ti σ H1 fun i H2=>t o i v H2 fun H3=>Q σ H3
theorem jgv{o i:Expr}{to ti:TE}{t:jiZ}(ho:PE X o to)(hi:PE X i ti)(hs:jlD X t)
 (ha:autoParam (∀v,assign (.Subscript o i pos) X.env v=(do
  let ov <- holding [v] (eval o X.env)
  let iv <- holding [v,ov] (eval i X.env)
  standAt pos
  holding [v,ov,iv] (setItem ov iv v)
  release [v,ov,iv] [])) QA.a3._auto_1):PG X (.Subscript o i pos) (jjf to ti t):=by
 intro tf s σ H v u Q I r h;rw[ha];refine QB (ye (qH (ho tf s σ H _ I h) fun ov s1 zz=>?_));obtain⟨x,H1,I1,r1,q1⟩:=zz;refine QB (ye (qH (hi tf s1 σ H1 _ I1 q1) fun iv s2 zz=>?_));obtain⟨y,H2,I2,r2,q2⟩:=zz;refine QB (wpAny_standAt (QB (ye (qH (hs tf s2 σ H2 x y v ov iv u _ I2 r1 r2 r q2) fun _ s3 zz=>?_))));obtain⟨H3,I3,q3⟩:=zz;exact wpAny_release ⟨σ,H3,I3,q3⟩
def ZQ(te:TE)(g:TG):TS:=fun D σ H=>te σ H fun x H1=>g x σ H1 D.nx
theorem jdM{tg e:Expr}{te:TE}{g:TG}(he:PE X e te)(hg:PG X tg g)(hs:swapsWithSole [tg] e pos.line X.env=pure false:=by rfl)(hw:swappedStores [tg] e X.env=pure none:=by rfl)
 (h1:(assignEach [tg] X.env).map (·.2)=[assign tg X.env]:=by rfl):PS X (.Assign [tg] e pos) (ZQ te g):=by
 intro tf s σ H D I h;refine wpAny_Assign_stores (qH (he tf s σ H _ I h) fun v s1 zz=>?_) hs hw;obtain⟨x,H1,I1,r1,q1⟩:=zz;rw[h1];exact qH (hg tf s1 σ H1 x v _ I1 r1 q1) fun _ s2 q=>q
theorem ZD{i:Nat}{x:Str}{e:Expr}{te:TE}{pos':Pos}(hN:X.N.Nodup)(hi:X.N[i]?=some x)(hx:Loc X.env.scope x)(he:PE X e te)(hs:swapsWith e (some (.Name x pos')) pos.line X.env=pure false:=by rfl)(hf:autoParam (X.fn x=true\/X.env.scope.names.lookup x=some .local) QA.a0._auto_1):
 PS X (.Assign [.Name x pos'] e pos) (ZQ te (JS i)):=by
 intro tf s σ H D I h;refine wpAny_Assign_Name (qH (he tf s σ H _ I h) fun v s1 zz=>?_) hs;obtain⟨y,H1,I1,r1,q1⟩:=zz;exact jc5 I1 hN hi hx r1 (fun s2 I2=>⟨_,H1,I2,q1⟩) hf
end
structure It where
 go:Nat->Hp->Prop
 yld:Nat->Hp->V->Hp->Prop
 stop:Nat->Hp->Prop
def jaX(X:Cx)(tf:List (Addr×Obj))(H:Hp)(b:Addr):Prop:=H b=none/\b≠X.env.locals/\b∉X.fs/\(b∈X.ex\/X.s₀.heap.objs.size<=b)/\(∀x c,X.env.cells.lookup x=some c->c≠b)/\∀p∈X.pn++tf,p.1≠b
theorem Inv.fpOk{X:Cx}{tf:List (Addr×Obj)}{σ:St}{H H':Hp}{s:Shared}{b:Addr}(I:Inv X tf σ H s)(hb:s.heap.objs.size<=b)(hn:H' b=none):jaX X tf H' b:=by
 refine⟨hn,yg (Ye I.lt hb),I.nofs hb,.inr (YM I.sz hb),fun x c e z=>?_,fun p hp z=>?_⟩
 . obtain⟨v,q⟩:=I.cell x c e;exact absurd (Ye q.lt (by rw[z];exact hb)) (YV _)
 . exact absurd (Ye (Yz (I.pin p hp).1) (by rw[z];exact hb)) (YV _)
structure Turn(P:Program)(w:World)(K:PySem.W.Frag)(tg:Expr)(J:It)(fp:List Addr)(it:Addr)(tn:Nat->Heap->Prop):Prop where
 mem:it∈fp
 obj:∀i h,tn i h->∀b∈fp,∃o,h.get? b=some o/\∀v,o.data≠.cell v
 keep:∀i h h',tn i h->(∀b∈fp,∀o,h.get? b=some o->h'.get? b=some o)->tn i h'
 item:∀(X:Cx),X.prog=P->X.w=w->X.K=K->X.calm=true->∀(i:Nat) (tf:List (Addr×Obj)) (s:Shared) (σ:St) (H:Hp) (E:Value->Shared->Prop),Inv X tf σ H s->(∀b∈fp,jaX X tf H b)->tn i s.heap->J.go i H->
  wpAny (model P w) X.A (pyNext (.ref it)) (fun r s1=>∃u,r=some u /\
   wpAny (model P w) X.A (letOwnedTupleGo tg (.ref it) u) (fun _ s2=>∃x H',Inv X tf σ H' s2/\RelV x u/\J.yld i H x H'/\tn (i+1) s2.heap/\∀b∈fp,H' b=none) E s1) E s
 done:∀(X:Cx),X.prog=P->X.w=w->X.K=K->X.calm=true->∀(i:Nat) (tf:List (Addr×Obj)) (s:Shared) (σ:St) (H:Hp) (E:Value->Shared->Prop),Inv X tf σ H s->(∀b∈fp,jaX X tf H b)->tn i s.heap->J.stop i H->
  wpAny (model P w) X.A (pyNext (.ref it)) (fun r s1=>r=none/\Inv X tf σ H s1) E s
 self:∀(A:Around) (i:Nat) (s:Shared) (Q:Value->Shared->Prop) (E:Value->Shared->Prop),tn i s.heap->Q (.ref it) s->wpAny (model P w) A (pyIter (.ref it)) Q E s
abbrev TI:=St->Hp->(It->Hp->Prop)->Prop
def PIE(X:Cx)(tf:List (Addr×Obj))(σ:St)(tg:Expr)(R:It->Hp->Prop)(itv:Value)(s2:Shared):Prop:=∃(it:Addr) (fp:List Addr) (tn:Nat->Heap->Prop) (J:It) (H':Hp),itv=.ref it/\Inv X tf σ H' s2/\Turn X.prog X.w X.K tg J fp it tn/\tn 0 s2.heap/\(∀b∈fp,jaX X tf H' b)/\R J H'
def PI(X:Cx)(tg iter:Expr)(wi:TI):Prop:=
 ∀(tf:List (Addr×Obj)) (s:Shared) (σ:St) (H:Hp) (R:It->Hp->Prop),Inv X tf σ H s->wi σ H R->
   wpAny (model X.prog X.w) X.A (eval iter X.env) (fun v s1=>wpAny (model X.prog X.w) X.A (pyIter v) (PIE X tf σ tg R) X.xe s1) X.xe s
theorem jig{M:Model}{A:Around}{E:Value->Shared->Prop}{s:Shared}{tg:Expr}{it:Addr}{u:Value}{o:Obj}{n:String}{vs:Array Value}{Q:Unit->Shared->Prop}(ho:s.heap.get? it=some o)(hc:o.cls=.type n)(hd:o.data=.fields vs)
 (hn:["enumerate","zip","dict_itemiterator","dict_reverseitemiterator","odict_iterator","itertools.zip_longest","itertools.pairwise"].contains n=false) (hQ:Q () s):wpAny M A (letOwnedTupleGo tg (.ref it) u) Q E s:=by
 unfold letOwnedTupleGo;cases tg <;> first
  | exact Yj hQ
  | (cases u <;> first
      | exact Yj hQ
      | (refine QB (wpAny_load ho ?_)
         rw[hc,hd];show wpAny M A (if (["enumerate","zip","dict_itemiterator","dict_reverseitemiterator","odict_iterator","itertools.zip_longest","itertools.pairwise"].contains n && vs[0]? == some (rawInt _))=true then _ else _) Q E s;rw[YJ (by intro h;rw[hn,Bool.false_and]at h;cases h)];exact Yj hQ))
def Itl(K:PySem.W.Frag)(a:Addr):It:=⟨fun i H=>∃xs x,zQ K H a xs/\xs[i]?=some x,fun i H x H'=>H'=H/\∀xs,zQ K H a xs->xs[i]?=some x,fun i H=>∃xs,zQ K H a xs/\xs.length<=i⟩
def Itr(lo:Int)(n:Nat):It:=⟨fun i _=>i<n,fun i H x H'=>H'=H/\x=.int (lo+i),fun i _=>n<=i⟩
theorem jfG{P:Program}{w:World}{K:PySem.W.Frag}{tg:Expr}(a it:Addr):Turn P w K tg (Itl K a) [it] it (fun i h=>h.IsListIter it a i) where
 mem:=by simp
 obj:=fun i h st b hb=>by
  have e:b=it:=by simpa using hb
  subst e;obtain⟨o,e,c,d⟩:=st;exact⟨o,e,fun v z=>by rw[d]at z;cases z⟩
 keep:=fun i h h' st k=>st.at fun o e=>k it (by simp) o e
 item:=by intro X hP hw hK hc i tf s σ H E I hf st hg;subst hP hw hK;obtain⟨xs,x,hq,hx⟩:=hg;obtain⟨tq,rv,p,hz⟩:=I.list hq;obtain⟨u,hu,ru⟩:=rv.get hx;obtain⟨f0,f1,f2,f3,f4,f5⟩:=hf it (by simp);refine wpAny_pyNext_list_item st p.isList (x:=u) (by simpa using hu) fun h' st' sb=>?_;have I1:Inv X tf σ H { s with heap:=h' }:=I.turned (t':=s.toks) (fun b o hb e=>(sb.2 b hb).trans e) f0 f1 f3 f4 f5;obtain⟨o,e,c,d⟩:=id st';exact⟨u,rfl,jig (s:={ s with heap:=h' }) e c d (by decide) ⟨x,H,I1,ru,⟨rfl,fun ys hy=>by rw[I.list_inj hy hq];exact hx⟩,st',fun b hb=>(hf b hb).1⟩⟩
 done:=by intro X hP hw hK hc i tf s σ H E I hf st hg;subst hP hw hK;obtain⟨xs,hq,hx⟩:=hg;obtain⟨tq,rv,p,hz⟩:=I.list hq;obtain⟨f0,f1,f2,f3,f4,f5⟩:=hf it (by simp);have hl:=rv.length;exact wpAny_pyNext_list_end (I.ok.hd hc) st p.isList (by simp;omega) fun h' eb=>⟨rfl,I.turned (t':=s.toks) (fun b o hb e=>eb b o hb e) f0 f1 f3 f4 f5⟩
 self:=fun _ _ _ _ _ st h=>wpAny_pyIter_listiter st h
theorem jdQ{P:Program}{w:World}{K:PySem.W.Frag}{tg:Expr}(it:Addr)(lo:Int)(n:Nat):Turn P w K tg (Itr lo n) [it] it (fun i h=>IsRangeIter h it (lo+(i:Nat)*1) ((n:Int)-(i:Nat)) 1) where
 mem:=by simp
 obj:=fun i h st b hb=>by
  have e:b=it:=by simpa using hb
  subst e;exact⟨_,st,fun v z=>by have z':Data.fields _=Data.cell v:=z;cases z'⟩
 keep:=fun i h h' st k=>k it (by simp) _ st
 item:=by intro X hP hw hK hc i tf s σ H E I hf st hg;subst hP hw hK;obtain⟨f0,f1,f2,f3,f4,f5⟩:=hf it (by simp);have W:=Walks.range (prog:=X.prog) (w:=X.w) (I.ok.hd hc) it lo 1 n;refine W.item i s _ _ hg st fun v h' tk hv st' kk=>?_;obtain⟨t,rfl⟩:=hv;have I1:Inv X tf σ H { s with heap:=h',toks:=tk }:=I.turned (fun b o hb e=>kk b o (by simpa using hb) e) f0 f1 f3 f4 f5;refine⟨_,rfl,jig (s:={ s with heap:=h',toks:=tk }) (n := "range_iterator") st' rfl rfl (by decide) ⟨.int (lo+i),H,I1,⟨t,?_⟩,⟨rfl,rfl⟩,st',fun b hb=>(hf b hb).1⟩⟩;rw[Int.mul_one]
 done:=by intro X hP hw hK hc i tf s σ H E I hf st hg;subst hP hw hK;obtain⟨f0,f1,f2,f3,f4,f5⟩:=hf it (by simp);exact wpAny_pyNext_range_end (I.ok.hd hc) st (by have:n<=i:=hg;omega) fun h' eb=>⟨rfl,I.turned (t':=s.toks) (fun b o hb e=>eb b o hb e) f0 f1 f3 f4 f5⟩
 self:=fun _ _ _ _ _ st h=>wpAny_pyIter_rangeiter st h
section
variable{X:Cx}{tg:Expr}
def jc9(K:PySem.W.Frag)(tl:TE):TI:=fun σ H R=>tl σ H fun x H1=>∃a,x=.ref a/\(∃xs,zQ K H1 a xs)/\R (Itl K a) H1
theorem jeE{l:Expr}{tl:TE}(hl:PE X l tl):PI X tg l (jc9 X.K tl):=by
 intro tf s σ H R I h;refine qH (hl tf s σ H _ I h) fun v s1 zz=>?_;obtain⟨x,H1,I1,r1,q1⟩:=zz;obtain⟨a,e,⟨xs,hq⟩,q⟩:=q1;subst e;cases r1;obtain⟨tq,rv,p,hz⟩:=I1.list hq;refine wpAny_pyIter_list p.isList ?_;refine⟨s1.heap.objs.size,[s1.heap.objs.size],_,_,H1,rfl,I1.kept (t':=s1.toks) fun b o e=>Yk _ e,jfG a _,⟨_,YA _ rfl,rfl,rfl⟩,fun b hb=>?_,q⟩;have e:b=s1.heap.objs.size:=by simpa using hb
 subst e;exact I1.fpOk (Yw _) (I1.hok.fresh (Yw _))
theorem jgp{tf:List (Addr×Obj)}{σ:St}{H:Hp}{s:Shared}{R:It->Hp->Prop}{E:Value->Shared->Prop}{lo hi:Int}{t u v:Tok}{tk:Nat}(I:Inv X tf σ H s)(h1:-(2 ^ 62)<=lo)(h2:lo<2 ^ 62)(h3:-(2 ^ 62)<=hi)(h4:hi<2 ^ 62)
 (q:R (Itr lo (hi-lo).toNat) H):wpAny (model X.prog X.w) X.A (pyIter (.ref s.heap.objs.size)) (PIE X tf σ tg R) E { s with heap:=s.heap.push { cls:=.type "range",data:=.fields #[.int lo t,.int hi u,.int 1 v] },toks:=tk }:=by
 refine wpAny_pyIter_range (IsRange.new ..) (small_one h1 h2 h3 h4) ?_;have I1:Inv X tf σ H { s with heap:=s.heap.push { cls:=.type "range",data:=.fields #[.int lo t,.int hi u,.int 1 v] },toks:=tk }:=I.kept fun b o e=>Yk _ e;refine⟨(s.heap.push { cls:=.type "range",data:=.fields #[.int lo t,.int hi u,.int 1 v] }).objs.size,[(s.heap.push { cls:=.type "range",data:=.fields #[.int lo t,.int hi u,.int 1 v] }).objs.size],_,_,H,rfl,
  I1.kept (t':=tk) fun b o e=>Yk _ e,jdQ _ lo (hi-lo).toNat,?_,fun b hb=>?_,q⟩
 . have e1:lo+((0:Nat):Int)*1=lo:=by simp
   have e2:(((hi-lo).toNat:Nat):Int)-((0:Nat):Int)=Builtin.Range.rangeSize lo hi 1:=by rw[rangeSize_one];split <;> omega
   show IsRangeIter _ _ (lo+((0:Nat):Int)*1) ((((hi-lo).toNat:Nat):Int)-((0:Nat):Int)) 1;rw[e1,e2];exact YA _ rfl
 . have e:b=(s.heap.push { cls:=.type "range",data:=.fields #[.int lo t,.int hi u,.int 1 v] }).objs.size:=by simpa using hb
   subst e;exact I1.fpOk (Yw _) (I1.hok.fresh (Yw _))
def jih(ta:TA):TI:=fun σ H R=>ta σ H fun vs H1=>∃j:Int,vs=[.int j] /\ -(2 ^ 62)<=j/\j<2 ^ 62/\R (Itr 0 j.toNat) H1
theorem jfu{a:Expr}{ta:TA}{p pos:Pos}(hg:Gl X "range")(hm:X.mg "range"=none)(ha:PA X [a] ta)(hs:starEach [a] X.env=[(false,eval a X.env)]:=by rfl):PI X tg (.Call (.Name "range" p) [a] [] pos) (jih ta):=by
 intro tf s σ H R I h;refine Call_ (QT I hg hm boot_range (yi (qH (ha pos tf s σ H _ I h) fun us s1 zz=>?_) hs rfl));obtain⟨vs,H1,I1,r1,q1⟩:=zz;obtain⟨j,e,q1,q2,q⟩:=q1;subst e;cases r1 with
 | cons r rr=>cases rr;obtain⟨t,rfl⟩:=r;exact call_range_1 (jgp I1 (by omega) (by omega) q1 q2 (by simpa using q))
def jkO(wi:TI)(g:TG)(tb:TS):TS:=fun D σ H=>wi σ H fun J H1=>∃W:Nat->Nat->St->Hp->Prop,(∃m,W 0 m σ H1)/\∀i m σ H,W i m σ H->
 (J.stop i H/\D.nx σ H)\/(J.go i H/\∃N:St->Hp->Prop,(∀σ' H',N σ' H'->∃m',m'<m/\W (i+1) m' σ' H')/\∀x H',J.yld i H x H'->g x σ H' fun σ2 H2=>tb { D with nx:=N,ct:=N,bk:=D.nx } σ2 H2)
def jbg(fp:List Addr)(h:Heap):List (Addr×Obj):=fp.filterMap fun b=>(h.get? b).map fun o=>(b,o)
theorem JJ{fp:List Addr}{h:Heap}{b:Addr}{o:Obj}(hb:b∈fp)(e:h.get? b=some o):(b,o)∈jbg fp h:=List.mem_filterMap.mpr ⟨b,hb,by rw[e];rfl⟩
theorem jfC{fp:List Addr}{h:Heap}{p:Addr×Obj}(hp:p∈jbg fp h):p.1∈fp/\h.get? p.1=some p.2:=by
 obtain⟨b,hb,e⟩:=List.mem_filterMap.mp hp;cases q:h.get? b with
 | none=>rw[q]at e;cases e
 | some o=>rw[q]at e;have e':(b,o)=p:=Option.some.inj e;subst e';exact⟨hb,q⟩
theorem Inv.pinned{tf:List (Addr×Obj)}{σ:St}{H:Hp}{s:Shared}{fp:List Addr}(I:Inv X tf σ H s)(hf:∀b∈fp,jaX X tf H b)(ho:∀b∈fp,∃o,s.heap.get? b=some o/\∀v,o.data≠.cell v):Inv X (tf++jbg fp s.heap) σ H s:=
 I.pins_of fun p hp=>(yj.mp hp).elim (fun z=>I.pin p (YH _ z)) fun z=>by obtain⟨hb,e⟩:=jfC z;obtain⟨f0,f1,f2,_⟩:=hf p.1 hb;obtain⟨o,e',d⟩:=ho p.1 hb;rw[e]at e';cases e';exact⟨e,f0,f1,f2,d⟩
theorem Inv.unpinned{tf pl:List (Addr×Obj)}{σ:St}{H:Hp}{s:Shared}(I:Inv X (tf++pl) σ H s):Inv X tf σ H s:=I.pins_of fun p hp=>I.pin p (YH _ (yA _ hp))
theorem jj6{iter:Expr}{body:List Stmt}{wi:TI}{g:TG}{tb:TS}{pos:Pos}(hp:PassesOwn (model X.prog X.w) X.A X.env X.xe)(hc:X.calm=true)(hi:PI X tg iter wi)(hg:PG X tg g)(hb:PSs X body tb)
 (hs:∀x,foldedSetIterable iter X.env x=pure x:=by intro _;rfl):PS X (.For tg iter body [] pos) (jkO wi g tb):=by
 intro tf s σ H D I h;refine wpAny_For (qH (hi tf s σ H _ I h) fun v s1 h1=>qH h1 fun itv s2 h2=>?_) hs;obtain⟨it,fp,tn,J,H2,e,I2,T,st2,f2,W,⟨m0,w0⟩,turn⟩:=h2;subst e
 -- what stays true of the iterator's objects through the loop
 have stat:∀{H':Hp},(∀b∈fp,H' b=none)->∀b∈fp,jaX X tf H' b:=fun hn b hb=>⟨hn b hb,(f2 b hb).2⟩;refine codeAny_forLoop_any (fun n s'=>∃i σ' H',Inv X tf σ' H' s'/\tn i s'.heap/\(∀b∈fp,H' b=none)/\W i n σ' H') ?_ m0 ⟨0,σ,H2,I2,st2,fun b hb=>(f2 b hb).1,w0⟩;rintro n s3 ⟨i,σ3,H3,I3,st3,fr3,w3⟩;rcases turn i n σ3 H3 w3 with⟨stop,qn⟩ | ⟨go,N,hN,step⟩
 . refine Kl hp (qH (T.done X rfl rfl rfl hc i tf s3 σ3 H3 X.xe I3 (stat fr3) st3 stop) fun r s4 zz=>?_);obtain⟨hr,I4⟩:=zz;subst hr;exact wpAny_execs_nil ⟨σ3,H3,I4,qn⟩
 . refine Kl hp (qH (T.item X rfl rfl rfl hc i tf s3 σ3 H3 X.xe I3 (stat fr3) st3 go) fun r s4 zz=>?_);obtain⟨u,hr,h4⟩:=zz;subst hr;refine Kl hp (qH h4 fun _ s5 zz=>?_);obtain⟨x,H5,I5,r5,y5,st5,fr5⟩:=zz;have I5':=I5.pinned (stat fr5) (T.obj _ _ st5);refine Kl hp (qH (hg _ s5 σ3 H5 x u _ I5' r5 (step x H5 y5)) fun _ s6 zz=>?_);obtain⟨σ6,H6,I6,q6⟩:=zz;refine Kl hp (qH (hb _ s6 σ6 H6 _ I6 q6) fun f s7 q7=>?_);have again:∀{σ7:St} {H7:Hp},Inv X (tf++jbg fp s5.heap) σ7 H7 s7->N σ7 H7->∃m,m<n/\∃i σ' H',Inv X tf σ' H' s7/\tn i s7.heap/\(∀b∈fp,H' b=none)/\W i m σ' H':=fun{σ7 H7} I7 n7=>by obtain⟨m',hm,w7⟩:=hN σ7 H7 n7;refine⟨m',hm,i+1,σ7,H7,I7.unpinned,T.keep _ _ _ st5 fun b hb o e=>(I7.pin (b,o) (YH _ (YH _ (JJ hb e)))).1,fun b hb=>?_,w7⟩;obtain⟨o,e,d⟩:=T.obj _ _ st5 b hb;exact(I7.pin (b,o) (YH _ (YH _ (JJ hb e)))).2.1
   cases f with
   | next=>obtain⟨σ7,H7,I7,n7⟩:=q7;exact again I7 n7
   | cont=>obtain⟨σ7,H7,I7,n7⟩:=q7;exact again I7 n7
   | brk=>obtain⟨σ7,H7,I7,q7⟩:=q7;exact⟨σ7,H7,I7.unpinned,q7⟩
   | ret v=>obtain⟨x7,σ7,H7,I7,r7,q7⟩:=q7;exact⟨x7,σ7,H7,I7.unpinned,r7,q7⟩
end
abbrev R2:=V->V->Hp->VK->Prop
def OpR(X:Cx)(f:Value->Value->Sem Value)(r:R2):Prop:=
 ∀(tf:List (Addr×Obj)) (s:Shared) (σ:St) (H:Hp) (x y:V) (v u:Value) (Q:VK),Inv X tf σ H s->RelV x v->RelV y u->r x y H Q->
   wpAny (model X.prog X.w) X.A (f v u) (EP X tf σ Q) X.xe s
def UnR(X:Cx)(f:Value->Sem Value)(r:V->Hp->VK->Prop):Prop:=
 ∀(tf:List (Addr×Obj)) (s:Shared) (σ:St) (H:Hp) (x:V) (v:Value) (Q:VK),Inv X tf σ H s->RelV x v->r x H Q->
   wpAny (model X.prog X.w) X.A (f v) (EP X tf σ Q) X.xe s
def CallR(X:Cx)(f:Value)(r:List V->Hp->VK->Prop):Prop:=
 ∀(tf:List (Addr×Obj)) (s:Shared) (σ:St) (H:Hp) (xs:List V) (us:List Value) (Q:VK),Inv X tf σ H s->Vals xs us->r xs H Q->
   wpAny (model X.prog X.w) X.A (call f us) (EP X tf σ Q) X.xe s
def tOp(r:R2)(ta tb:TE):TE:=fun σ H Q=>ta σ H fun x H1=>tb σ H1 fun y H2=>r x y H2 Q
def tUn(r:V->Hp->VK->Prop)(ta:TE):TE:=fun σ H Q=>ta σ H fun x H1=>r x H1 Q
def rI(C:Int->Int->Prop)(g:Int->Int->V):R2:=fun x y H Q=>∃i j,x=.int i/\y=.int j/\C i j/\Q (g i j) H
def rI0(g:Int->Int->V):R2:=fun x y H Q=>∃i j,x=.int i/\y=.int j/\Q (g i j) H
def rU(g:Int->V):V->Hp->VK->Prop:=fun x H Q=>∃i,x=.int i/\Q (g i) H
section
variable{X:Cx}{a b c:Expr}{ta tb tc:TE}{pos:Pos}
theorem jj1(ha:PE X a ta)(hb:PE X b tb){tf:List (Addr×Obj)}{s:Shared}{σ:St}{H:Hp}{R:V->V->Hp->Prop}(I:Inv X tf σ H s)
 (h:ta σ H fun x H1=>tb σ H1 fun y H2=>R x y H2) {Q:Value->Shared->Prop} {f:Value->Value->Sem Value}
 (hf:∀v u s2 x y H2,Inv X tf σ H2 s2->RelV x v->RelV y u->R x y H2->wpAny (model X.prog X.w) X.A (f v u) Q X.xe s2) :
 wpAny (model X.prog X.w) X.A (eval a X.env) (fun v s₁=>wpAny (model X.prog X.w) X.A (eval b X.env) (fun u s₂=>wpAny (model X.prog X.w) X.A (f v u) Q X.xe s₂) X.xe s₁) X.xe s:=by
 refine qH (ha tf s σ H _ I h) fun v s1 zz=>?_;obtain⟨x,H1,I1,r1,q1⟩:=zz;refine qH (hb tf s1 σ H1 _ I1 q1) fun u s2 zz=>?_;obtain⟨y,H2,I2,r2,q2⟩:=zz;exact hf v u s2 x y H2 I2 r1 r2 q2
theorem jiU{op:Operator}{r:R2}(ho:OpR X (binaryOp op) r)(ha:PE X a ta)(hb:PE X b tb):PE X (.BinOp a op b pos) (tOp r ta tb):=by intro tf s σ H Q I h;exact wpAny_BinOp (jj1 ha hb I h fun v u s2 x y H2 I2 rx ry q=>ho tf s2 σ H2 x y v u Q I2 rx ry q)
theorem jlO{op:UnaryOp}{r:V->Hp->VK->Prop}(ho:UnR X (unaryOp op) r)(ha:PE X a ta):PE X (.UnaryOp op a pos) (tUn r ta):=by intro tf s σ H Q I h;exact UnaryOp_ (qH (ha tf s σ H _ I h) fun v s1 ⟨x,H1,I1,r1,q1⟩=>ho tf s1 σ H1 x v Q I1 r1 q1)
theorem opI{f:Value->Value->Sem Value}{C:Int->Int->Prop}{g:Int->Int->Int}
 (rule:∀(i j:Int) (t u:Tok) (s:Shared) (Q:Value->Shared->Prop) (E:Value->Shared->Prop),C i j->Q (.int (g i j) s.toks) { s with toks:=s.toks+1 }->wpAny (model X.prog X.w) X.A (f (.int i t) (.int j u)) Q E s) :
 OpR X f (rI C fun i j=>.int (g i j)):=by
 intro tf s σ H x y v u Q I rx ry h;obtain⟨i,j,rfl,rfl,hc,q⟩:=h;obtain⟨t,rfl⟩:=rx;obtain⟨t',rfl⟩:=ry;exact rule i j t t' s _ _ hc ⟨.int (g i j),H,I.tok _,⟨_,rfl⟩,q⟩
theorem jlS{f:Value->Value->Sem Value}{g:Int->Int->Int}
 (rule:∀(i j:Int) (t u:Tok) (s:Shared) (Q:Value->Shared->Prop) (E:Value->Shared->Prop),Q (.int (g i j) s.toks) { s with toks:=s.toks+1 }->wpAny (model X.prog X.w) X.A (f (.int i t) (.int j u)) Q E s) :
 OpR X f (rI0 fun i j=>.int (g i j)):=by
 intro tf s σ H x y v u Q I rx ry h;obtain⟨i,j,rfl,rfl,q⟩:=h;obtain⟨t,rfl⟩:=rx;obtain⟨t',rfl⟩:=ry;exact rule i j t t' s _ _ ⟨.int (g i j),H,I.tok _,⟨_,rfl⟩,q⟩
theorem jkw{f:Value->Value->Sem Value}{g:Int->Int->Bool}
 (rule:∀(i j:Int) (t u:Tok) (s:Shared) (Q:Value->Shared->Prop) (E:Value->Shared->Prop),Q (.bool (g i j)) s->wpAny (model X.prog X.w) X.A (f (.int i t) (.int j u)) Q E s) :
 OpR X f (rI0 fun i j=>.bl (g i j)):=by
 intro tf s σ H x y v u Q I rx ry h;obtain⟨i,j,rfl,rfl,q⟩:=h;obtain⟨t,rfl⟩:=rx;obtain⟨t',rfl⟩:=ry;exact rule i j t t' s _ _ ⟨.bl (g i j),H,I,rfl,q⟩
def jbn(i j:Int):Prop:=0<=j/\j<=1000000/\i.natAbs<2 ^ 64
def CMul(i j:Int):Prop:=(-(2 ^ 64)<i/\i<2 ^ 64)\/(-(2 ^ 64)<j/\j<2 ^ 64)
theorem CMul.ok{i j:Int}(h:CMul i j):IntMulOk i j:=by
 rcases h with⟨h1,h2⟩ | ⟨h1,h2⟩
 . exact .of_left (intBits_le_64 h1 h2)
 . exact .of_right (intBits_le_64 h1 h2)
theorem jjN:OpR X (binaryOp .Add) (rI0 fun i j=>.int (i+j)):=jlS fun _ _ _ _ _ _ _ q=>add_int q
theorem jki:OpR X (binaryOp .Sub) (rI0 fun i j=>.int (i-j)):=jlS fun _ _ _ _ _ _ _ q=>sub_int q
theorem jkp:OpR X (binaryOp .Mod) (rI (fun _ j=>0<j) fun i j=>.int (i%j)):=opI fun i j _ _ _ _ _ hc q=>by have h1:(0:Int)<j:=hc;exact mod_int' (by omega) (by rw[Int.fmod_eq_emod_of_nonneg i (by omega)];exact q)
theorem jji:OpR X (binaryOp .Pow) (rI jbn fun i j=>.int (i ^ j.toNat)):=opI fun _ _ _ _ _ _ _ hc q=>pow_int_small hc.1 hc.2.1 hc.2.2 q
theorem unI{f:Value->Sem Value}{g:Int->Int}
 (rule:∀(i:Int) (t:Tok) (s:Shared) (Q:Value->Shared->Prop) (E:Value->Shared->Prop),Q (.int (g i) s.toks) { s with toks:=s.toks+1 }->wpAny (model X.prog X.w) X.A (f (.int i t)) Q E s) :
 UnR X f (rU fun i=>.int (g i)):=by
 intro tf s σ H x v Q I rx h;obtain⟨i,rfl,q⟩:=h;obtain⟨t,rfl⟩:=rx;exact rule i t s _ _ ⟨.int (g i),H,I.tok _,⟨_,rfl⟩,q⟩
theorem jjB:UnR X (unaryOp .USub) (rU fun i=>.int (-i)):=unI fun _ _ _ _ _ q=>neg_int q
end
def jj2:V->V->Bool
 | .non,.non=>true | .non,.int _=>true | .int _,.non=>true | .non,.bl _=>true | .bl _,.non=>true | .non,.str _=>true | .str _,.non=>true
 | .int _,.int _=>true | .bl _,.bl _=>true | .str _,.str _=>true | .byt _,.byt _=>true
 | .int _,.str _=>true | .str _,.int _=>true | .bl _,.str _=>true | .str _,.bl _=>true
 | _,_=>false
def rEq:R2:=fun x y H Q=>jj2 x y=true/\Q (.bl (decide (x=y))) H
def rNe:R2:=fun x y H Q=>jj2 x y=true/\Q (.bl (!decide (x=y))) H
theorem jeA{i j:Int}:decide (V.int i=V.int j)=(i == j):=by rw[KF];simp
theorem jgW{i j:Bool}:decide (V.bl i=V.bl j)=(i == j):=by rw[KF];simp
theorem jeo{i j:Str}:decide (V.str i=V.str j)=(i == j):=by rw[KF];simp
theorem jeO{i j:Array UInt8}:decide (V.byt i=V.byt j)=(i.toList == j.toList):=by rw[KF];cases i;cases j;simp
section
variable{X:Cx}{a b c:Expr}{ta tb tc:TE}{pos:Pos}
theorem jS{tf:List (Addr×Obj)}{σ:St}{H:Hp}{s:Shared}{Q:VK}{k k':Bool}(I:Inv X tf σ H s)(q:Q (.bl k) H)(e:k=k'):EP X tf σ Q (.bool k') s:=by subst e;exact⟨.bl k,H,I,rfl,q⟩
theorem jkU:OpR X (compareOp .Eq) rEq:=by
 intro tf s σ H x y v u Q I rx ry h;obtain⟨hs,q⟩:=h;cases x with
 | non=>
   cases rx;cases y with
   | non=>cases ry;exact PySem.EqNone.eq_none_none (jS I q (by simp))
   | bl j=>cases ry;exact PySem.EqNone.eq_none_bool (jS I q (by simp))
   | int j=>obtain⟨t',rfl⟩:=ry;exact PySem.EqNone.eq_none_int (jS I q (by simp))
   | str j=>obtain⟨t',rfl⟩:=ry;exact PySem.EqNone.eq_none_str (jS I q (by simp))
   | _=>exact absurd (show false=true from hs) Ym
 | bl i=>
   cases rx;cases y with
   | non=>cases ry;exact PySem.EqNone.eq_bool_none (jS I q (by simp))
   | bl j=>cases ry;exact eq_bool (jS I q jgW)
   | str j=>obtain⟨t',rfl⟩:=ry;exact PySem.EqMixed.eq_bool_str (jS I q (by simp))
   | _=>exact absurd (show false=true from hs) Ym
 | int i=>
   obtain⟨t,rfl⟩:=rx;cases y with
   | non=>cases ry;exact PySem.EqNone.eq_int_none (jS I q (by simp))
   | int j=>obtain⟨t',rfl⟩:=ry;exact eq_int (jS I q jeA)
   | str j=>obtain⟨t',rfl⟩:=ry;exact PySem.EqMixed.eq_int_str (jS I q (by simp))
   | _=>exact absurd (show false=true from hs) Ym
 | str i=>
   obtain⟨t,rfl⟩:=rx;cases y with
   | non=>cases ry;exact PySem.EqNone.eq_str_none (jS I q (by simp))
   | bl j=>cases ry;exact PySem.EqMixed.eq_str_bool (jS I q (by simp))
   | int j=>obtain⟨t',rfl⟩:=ry;exact PySem.EqMixed.eq_str_int (jS I q (by simp))
   | str j=>obtain⟨t',rfl⟩:=ry;exact eq_str (jS I q jeo)
   | _=>exact absurd (show false=true from hs) Ym
 | byt i=>
   obtain⟨t,rfl⟩:=rx;cases y with
   | byt j=>obtain⟨t',rfl⟩:=ry;exact PySem.W.eq_bytes (jS I q jeO)
   | _=>exact absurd (show false=true from hs) Ym
 | _=>cases y <;> exact absurd (show false=true from hs) Ym
theorem jk3:OpR X (compareOp .NotEq) rNe:=by
 intro tf s σ H x y v u Q I rx ry h;obtain⟨hs,q⟩:=h;cases x with
 | non=>
   cases rx;cases y with
   | non=>cases ry;exact PySem.EqNone.ne_none_none (jS I q (by simp))
   | bl j=>cases ry;exact PySem.EqNone.ne_none_bool (jS I q (by simp))
   | int j=>obtain⟨t',rfl⟩:=ry;exact PySem.EqNone.ne_none_int (jS I q (by simp))
   | str j=>obtain⟨t',rfl⟩:=ry;exact PySem.EqNone.ne_none_str (jS I q (by simp))
   | _=>exact absurd (show false=true from hs) Ym
 | bl i=>
   cases rx;cases y with
   | non=>cases ry;exact PySem.EqNone.ne_bool_none (jS I q (by simp))
   | bl j=>cases ry;exact ne_bool (jS I q (congrArg not jgW))
   | str j=>obtain⟨t',rfl⟩:=ry;exact PySem.EqMixed.ne_bool_str (jS I q (by simp))
   | _=>exact absurd (show false=true from hs) Ym
 | int i=>
   obtain⟨t,rfl⟩:=rx;cases y with
   | non=>cases ry;exact PySem.EqNone.ne_int_none (jS I q (by simp))
   | int j=>obtain⟨t',rfl⟩:=ry;exact ne_int (jS I q (congrArg not jeA))
   | str j=>obtain⟨t',rfl⟩:=ry;exact PySem.EqMixed.ne_int_str (jS I q (by simp))
   | _=>exact absurd (show false=true from hs) Ym
 | str i=>
   obtain⟨t,rfl⟩:=rx;cases y with
   | non=>cases ry;exact PySem.EqNone.ne_str_none (jS I q (by simp))
   | bl j=>cases ry;exact PySem.EqMixed.ne_str_bool (jS I q (by simp))
   | int j=>obtain⟨t',rfl⟩:=ry;exact PySem.EqMixed.ne_str_int (jS I q (by simp))
   | str j=>obtain⟨t',rfl⟩:=ry;exact ne_str (jS I q (congrArg not jeo))
   | _=>exact absurd (show false=true from hs) Ym
 | byt i=>
   obtain⟨t,rfl⟩:=rx;cases y with
   | byt j=>obtain⟨t',rfl⟩:=ry;exact PySem.W.ne_bytes (jS I q (congrArg not jeO))
   | _=>exact absurd (show false=true from hs) Ym
 | _=>cases y <;> exact absurd (show false=true from hs) Ym
theorem jk6:OpR X (compareOp .Lt) (rI0 fun i j=>.bl (decide (i<j))):=jkw fun _ _ _ _ _ _ _ q=>lt_int q
theorem jlQ:OpR X (compareOp .LtE) (rI0 fun i j=>.bl (decide (i<=j))):=jkw fun _ _ _ _ _ _ _ q=>le_int q
theorem jkL:OpR X (compareOp .Gt) (rI0 fun i j=>.bl (decide (j<i))):=jkw fun _ _ _ _ _ _ _ q=>gt_int q
theorem nomark(b:Expr){op:CmpOp}(h:op≠.In:=by decide)(h2:op≠.NotIn:=by decide):behindInMarks op b=false:=by
 have e1:(op == CmpOp.In)=false:=by cases op <;> first | rfl | exact absurd rfl h
 have e2:(op == CmpOp.NotIn)=false:=by cases op <;> first | rfl | exact absurd rfl h2
 cases b <;> simp[behindInMarks,e1,e2]
theorem jhn{op:CmpOp}{r:R2}(ho:OpR X (compareOp op) r)(ha:PE X a ta)(hb:PE X b tb)(hm:behindInMarks op b=false):PE X (.Compare a [op] [b] pos) (tOp r ta tb):=by intro tf s σ H Q I h;exact wpAny_Compare1 (jj1 ha hb I h fun v u s2 x y H2 I2 rx ry q=>ho tf s2 σ H2 x y v u Q I2 rx ry q) hm
def jij(t:TE):TT:=fun σ H Q=>t σ H fun x H'=>∃k,x=.bl k/\Q k H'
theorem jhp{op:CmpOp}{r:R2}(ho:OpR X (compareOp op) r)(ha:PE X a ta)(hb:PE X b tb)(hm:behindInMarks op b=false):PT X (.Compare a [op] [b] pos) (jij (tOp r ta tb)):=by
 intro tf s σ H Q I h;refine wpAny_isTrue_Compare1 (qH (ha tf s σ H _ I h) fun v s1 ⟨x,H1,I1,r1,q1⟩=>qH (hb tf s1 σ H1 _ I1 q1) fun u s2 ⟨y,H2,I2,r2,q2⟩=>qH (ho tf s2 σ H2 x y v u _ I2 r1 r2 q2) fun c s3 ⟨z,H3,I3,r3,k,e,q3⟩=>?_) hm
 subst e;cases r3;exact yG ⟨H3,I3,q3⟩
def jf9(r r':R2)(ta tb tc:TE):TE:=fun σ H Q=>ta σ H fun x H1=>tb σ H1 fun y H2=>r x y H2 fun z H3=>∃k,z=.bl k /\
 (if k=true then tc σ H3 fun w' H4=>r' y w' H4 Q else Q (.bl false) H3)
theorem jgL{op op':CmpOp}{r r':R2}(ho:OpR X (compareOp op) r)(ho':OpR X (compareOp op') r')(ha:PE X a ta)(hb:PE X b tb)(hc:PE X c tc)
 (hm:autoParam (lastMarks [op,op'] [b,c]=false) QA.a5._auto_1):PE X (.Compare a [op,op'] [b,c] pos) (jf9 r r' ta tb tc):=by
 intro tf s σ H Q I h;refine Compare_chain (qH (ha tf s σ H _ I h) fun v s1 ⟨x,H1,I1,r1,q1⟩=>chain_link (qH (hb tf s1 σ H1 _ I1 q1) fun u s2 ⟨y,H2,I2,r2,q2⟩=>qH (ho tf s2 σ H2 x y v u _ I2 r1 r2 q2) fun d s3 ⟨z,H3,I3,r3,k,e,q3⟩=>?_)) hm
 subst e;cases r3;refine yG ?_;cases k with
 | false=>exact ite_ff ⟨.bl false,H3,I3,rfl,q3⟩
 | true=>exact ite_tt (chain_last (qH (hc tf s3 σ H3 _ I3 q3) fun w' s4 ⟨z',H4,I4,r4,q4⟩=>ho' tf s4 σ H4 y z' u w' Q I4 r2 r4 q4))
theorem ZA:(sizeLine:Nat)<2 ^ 63:=by rw[sizeLine_eq];decide
theorem jaV{x:V}{us:List Value}(r:Vals [x] us):∃u,us=[u]/\RelV x u:=by
 cases r with
 | cons r1 r2=>cases r2;exact⟨_,rfl,r1⟩
theorem jiI{x y:V}{us:List Value}(r:Vals [x,y] us):∃u w',us=[u,w']/\RelV x u/\RelV y w':=by
 cases r with
 | cons r1 r2=>
   cases r2 with
   | cons r3 r4=>cases r4;exact⟨_,_,rfl,r1,r3⟩
theorem jfw(hc:X.calm=true):CallR X (.builtin "min") (fun xs H Q=>∃i j,xs=[.int i,.int j] ∧ Q (.int (if j<i then j else i)) H):=by
 intro tf s σ H xs us Q I r h;obtain⟨i,j,rfl,q⟩:=h;obtain⟨u,w',rfl,⟨t,rfl⟩,⟨t',rfl⟩⟩:=jiI r;refine min_two_ints (I.ok.hd hc) fun h' tk k=>⟨_,H,I.kept k,?_,q⟩;by_cases hj:j<i
 . rw[Ys hj,Ys hj];exact⟨_,rfl⟩
 . rw[YJ hj,YJ hj];exact⟨_,rfl⟩
theorem jfK:CallR X (.type "int") (fun xs H Q=>(∃i,xs=[.int i] ∧ Q (.int i) H) ∨ ∃k,xs=[.bl k] ∧ Q (.int (if k then 1 else 0)) H):=by
 intro tf s σ H xs us Q I r h;rcases h with⟨i,rfl,q⟩ | ⟨k,rfl,q⟩
 . obtain⟨u,rfl,t,rfl⟩:=jaV r;exact call_int_int ⟨.int i,H,I,⟨_,rfl⟩,q⟩
 . obtain⟨u,rfl,r1⟩:=jaV r;cases r1;exact call_int_bool ⟨.int (if k then 1 else 0),H,I.tok _,⟨_,rfl⟩,q⟩
end
structure ObjM(h:Heap)(x dx C:Addr)(mA:Str->Option Value):Prop where
 obj:h.get? x=some (PySem.W.instObj C dx)
 ns:h.Ns1 dx mA
 ne:dx≠x
theorem jfh{h:Heap}{dx:Addr}{mA:Str->Option Value}(n:h.Ns1 dx mA):∃od,h.get? dx=some od/\∀name,PySem.W.lookIn name od=some (mA name):=by
 obtain⟨o,es,ep,ho,hd,hk,_,hm⟩:=n;refine⟨o,ho,fun name=>?_⟩;have e:=hm name;unfold nsFind findBy at e;rw[<-Array.find?_toList]at e;unfold PySem.W.lookIn;rw[hd];dsimp only;split
 . rename_i y q;rw[q]at e;exact congrArg some e
 . rename_i q;rw[q]at e;have a:es.toList.any (·.refKey)=false:=by rw[List.any_eq_false];intro y hy;obtain⟨z,t,hkey⟩:=hk y (Array.mem_toList_iff.mp hy);simp[DictEntry.refKey,hkey]
   have a':¬es.toList.any (·.refKey)=true:=by rw[a];exact Ym
   rw[YJ a'];exact congrArg some e
theorem ObjM.look{h:Heap}{x dx C:Addr}{mA:Str->Option Value}(I:ObjM h x dx C mA):∃od,PySem.W.InstAt h x (PySem.W.instObj C dx) C (some od)/\∀name,PySem.W.lookIn name od=some (mA name):=
 let ⟨od,ho,hl⟩:=jfh I.ns
 ⟨od,⟨I.obj,rfl,rfl,ho⟩,hl⟩
section
variable{P:Program}{w:World}{H H':Hp}{h h':Heap}{a C dx:Addr}{fs fs':List (Str×V)}
theorem jh3(hok:HOk P w H h)(e:H a=some (.ins C dx fs)):∃mA,ObjM h a dx C mA/\(∀f,RelO (fs.lookup f) (mA f))/\PySem.Within mA (fs.map (·.1))/\fs.length<=1000/\H dx=some (.own a):=by obtain⟨d,z,ne,ob,mA,n,r,q⟩:=(show ObjOk P w H h a (.ins C dx fs)from hok a _ e);exact⟨mA,⟨ob,n,ne⟩,r,q,z,d⟩
end
structure Cls(K:PySem.W.Frag)(C:Addr):Prop where
 pg:PySem.W.plainGet K C Str.empty=true
 hd:PySem.W.hasDictIn K C=true
 po:PySem.W.plainOver K C=true
 sa:PySem.W.findIn K (.ref C) "__setattr__"=some (some (.builtin "object.__setattr__"))
theorem Cls.get{K:PySem.W.Frag}{C:Addr}(c:Cls K C)(f:Str):PySem.W.plainGet K C f=true:=c.pg
section
variable{X:Cx}{tf:List (Addr×Obj)}{σ:St}{H:Hp}{s:Shared}{A:Around}{E:Value->Shared->Prop}{Q:Value->Shared->Prop}{c:Value}{b:Bool}
inductive TyOf(K:PySem.W.Frag)(H:Hp):V->Value->Prop where
 | non:TyOf K H .non (.type "NoneType")
 | bl (x:Bool):TyOf K H (.bl x) (.type "bool")
 | int (i:Int):TyOf K H (.int i) (.type "int")
 | str (x:Str):TyOf K H (.str x) (.type "str")
 | flt (x:UInt64):TyOf K H (.flt x) (.type "float")
 | lst {a:Addr} {xs:List V} (e:H a=some (.lst xs)):TyOf K H (.ref a) (.type "list")
 | frz {a:Addr} {o:Obj} {xs:List V} (e:H a=some (.frz o (.lst xs))):TyOf K H (.ref a) (.type "list")
 | tup {a:Addr} {xs:List V} (e:H a=some (.tup xs)):TyOf K H (.ref a) (.type "tuple")
 | dK {a:Addr} {kvs:List (Key×V)} (e:H a=some (.dK kvs)):TyOf K H (.ref a) (.type "dict")
 | dT {a:Addr} {kvs:List (List Key×V)} (e:H a=some (.dT kvs)):TyOf K H (.ref a) (.type "dict")
 | ins {a C dx:Addr} {fs:List (Str×V)} (e:H a=some (.ins C dx fs)) (cl:Cls K C) (ha:PySem.W.findIn K (.ref C) "__class__"=some (some (.builtin "object.__class__")))
  (hn:PySem.W.specialIn K (.builtin "object.__class__") "__get__"=some (some (.builtin "getset_descriptor.__get__"))) (htk:PySem.W.takesIn K (.builtin "object.__class__")=some true)
  (hm:PySem.W.mroIn K C (.type "object")=some true):TyOf K H (.ref a) (.ref C)
theorem je4{x:V}{u t:Value}(I:Inv X tf σ H s)(rx:RelV x u)(ty:TyOf X.K H x t)(e:PySem.W.kitOne X.K t c=some b)(h:∀tk,Q (.bool b) { s with toks:=tk }):
 wpAny (model X.prog X.w) A (call (.builtin "isinstance") [u,c]) Q E s:=by
 cases ty with
 | non=>cases (show u=Value.none from rx);exact Y8 PySem.W.kitx_none I.kIn True.intro e (fun z=>nomatch z) h
 | bl y=>cases (show u=Value.bool y from rx);exact Y8 PySem.W.kitx_bool I.kIn True.intro e (fun z=>nomatch z) h
 | int i=>obtain⟨t,q⟩:=(show ∃t,u=Value.int i t from rx);cases q;exact Y8 PySem.W.kitx_int I.kIn True.intro e (fun z=>nomatch z) h
 | str y=>obtain⟨t,q⟩:=(show ∃t,u=Value.str y t from rx);cases q;exact Y8 PySem.W.kitx_str I.kIn True.intro e (fun z=>nomatch z) h
 | flt y=>obtain⟨t,q⟩:=(show ∃t,u=Value.float y t from rx);cases q;exact Y8 PySem.W.kitx_float I.kIn True.intro e (fun z=>nomatch z) h
 | @lst a xs ea=>cases (show u=Value.ref a from rx);obtain⟨_,_,n,_,h1⟩:=(show ObjOk X.prog X.w H s.heap a (.lst xs)from I.hok a _ ea);exact Y8 PySem.W.kitx_list I.kIn ⟨_,h1,rfl⟩ e (fun z=>nomatch z) h
 | @frz a ob xs ea=>cases (show u=Value.ref a from rx);obtain⟨_,_,_,n,_,h1⟩:=(show ObjOk X.prog X.w H s.heap a (.frz ob (.lst xs))from I.hok a _ ea);exact Y8 PySem.W.kitx_list I.kIn ⟨_,h1,rfl⟩ e (fun z=>nomatch z) h
 | @tup a xs ea=>cases (show u=Value.ref a from rx);obtain⟨_,_,_,p⟩:=(show ObjOk X.prog X.w H s.heap a (.tup xs)from I.hok a _ ea);obtain⟨o,h1,h2,_⟩:=p;exact Y8 PySem.W.kitx_tuple I.kIn ⟨o,h1,h2⟩ e (fun z=>nomatch z) h
 | @dK a kvs ea=>cases (show u=Value.ref a from rx);obtain⟨_,_,vs,_,p⟩:=(show ObjOk X.prog X.w H s.heap a (.dK kvs)from I.hok a _ ea);obtain⟨o,es,ep,h1,h2,_⟩:=p;exact Y8 PySem.W.kitx_dict I.kIn ⟨o,h1,h2.1⟩ e (fun z=>nomatch z) h
 | @dT a kvs ea=>cases (show u=Value.ref a from rx);obtain⟨_,_,xs,_,o,es,ep,h1,h2,_⟩:=(show ObjOk X.prog X.w H s.heap a (.dT kvs)from I.hok a _ ea);exact Y8 PySem.W.kitx_dict I.kIn ⟨o,h1,h2.1⟩ e (fun z=>nomatch z) h
 | @ins a C dx fs ea cl ha hn htk hm=>cases (show u=Value.ref a from rx);obtain⟨mA,O,_⟩:=jh3 I.hok ea;obtain⟨od,J,_⟩:=O.look;exact Y8 (PySem.W.kitx_own (cl.get _) cl.hd ha hn htk hm) I.kIn J e (fun z=>nomatch z) h
end
structure Room(k:Nat)(A:Around):Prop where
 hd:A.handled=none
 dp:A.depth+3*k+5<recursionLimit
 un:A.units+16*k+200<cLine
 gd:A.guards=some []
theorem Room.mono{j k:Nat}{A:Around}(r:Room k A)(h:j<=k):Room j A:=⟨r.hd,by have:=r.dp;omega,by have:=r.un;omega,r.gd⟩
theorem Room.deeper{k:Nat}{A:Around}(r:Room (k+1) A)(env:Env):Room k (A.deeper env):=⟨r.hd,by have:=r.dp;show A.depth+1+3*k+5<_;omega,by have:=r.un;show A.units+3+16*k+200<_;omega,r.gd⟩
theorem Room.depth{k:Nat}{A:Around}(r:Room k A):A.depth<recursionLimit:=by have:=r.dp;omega
theorem Room.units{k:Nat}{A:Around}(r:Room k A):A.units+64<cLine:=by have:=r.un;omega
def ja9:TA:=fun _ H Q=>Q [] H
def JT(ta:TE)(tr:TA):TA:=fun σ H Q=>ta σ H fun x H1=>tr σ H1 fun xs H2=>Q (x::xs) H2
section
variable{X:Cx}{e:Expr}{es:List Expr}{te:TE}{t:TA}{pos:Pos}
theorem JA:PA X [] ja9:=fun _ _ _ _ H Q I h=>Calls.spliced_nil ⟨[],H,I,.nil,h⟩
theorem zw(ha:PE X e te)(hr:PA X es t)(hs:starEach (e::es) X.env=(false,eval e X.env)::starEach es X.env:=by rfl):PA X (e::es) (JT te t):=by intro pos tf s σ H Q I h;rw[hs];show wpAny _ _ (spliced ((false,eval e X.env)::backTo pos (starEach es X.env))) _ _ s;refine Calls.spliced_cons (qH (ha tf s σ H _ I h) fun u s1 zz=>?_);obtain⟨x,H1,I1,r1,q1⟩:=zz;exact qH (hr pos tf s1 σ H1 _ I1 q1) fun us s2 ⟨xs,H2,I2,r2,q2⟩=>⟨x::xs,H2,I2,.cons r1 r2,q2⟩
def jlU(t:TA):TE:=fun σ H Q=>t σ H fun xs H1=>xs.length<=sizeLine/\∀p,H1 p=none->Q (.ref p) (upd H1 p (.tup xs))
def jjD(t:TA):TE:=fun σ H Q=>t σ H fun xs H1=>xs.length<=sizeLine/\∀p,H1 p=none->Q (.ref p) (upd H1 p (.lst xs))
theorem jkq{x1}(h:PA X es t):PE X (.Tuple es x1 pos) (jlU t):=by intro tf s σ H Q I hq;refine wpAny_Tuple_spliced (qH (h pos tf s σ H _ I hq) fun us s1 ⟨xs,H1,I1,r,z,q⟩=>⟨by rw[<-r.length];exact z,?_⟩);have hf:H1 s1.heap.objs.size=none:=I1.hok.fresh (Yw _);refine⟨.ref s1.heap.objs.size,upd H1 s1.heap.objs.size (.tup xs),I1.laid (t':=s1.toks) (fun b u e=>Yk _ e) (Yw _) ?_,rfl,q _ hf⟩;exact⟨z,us,r,⟨_,YA _ rfl,rfl,_,rfl⟩⟩
theorem jgP(h:PA X es t):PE X (.List es pos) (jjD t):=by intro tf s σ H Q I hq;refine wpAny_List_spliced (qH (h pos tf s σ H _ I hq) fun us s1 ⟨xs,H1,I1,r,z,q⟩=>⟨by rw[<-r.length];exact z,?_⟩);have hf:H1 s1.heap.objs.size=none:=I1.hok.fresh (Yw _);refine⟨.ref s1.heap.objs.size,upd H1 s1.heap.objs.size (.lst xs),I1.laid (t':=s1.toks) (fun b u e=>Yk _ e) (Yw _) ?_,rfl,q _ hf⟩;exact⟨z,us,0,r,YA _ rfl⟩
end
abbrev Sp:=List V->Hp->VK->XK->Prop
abbrev CXT:=List Env->Hp->Shared->XK->Value->Shared->Prop
structure Env0(P:Program)(w:World)(K:PySem.W.Frag)(mg:Str->Option Value)(base:Heap)(A:Around)(outer:List Env)(s:Shared)(H:Hp):Prop where
 frames:A.frames=some outer
 mod:Mod K mg base
 bs:∀b o,base.get? b=some o->s.heap.get? b=some o/\H b=none
 bsz:base.objs.size<=s.heap.objs.size
 funs:s.heap.FunFrames base outer
 frf:∀b∈frs outer,H b=none
 hok:HOk P w H s.heap
 bare:AllBare s.gens
def CE(outer:List Env)(P:Program)(w:World)(H:Hp)(s:Shared)(Q:VK)(u:Value)(s':Shared):Prop:=∃v H',s'.os=s.os/\AllBare s'.gens/\Un (frs outer) [] H H' s.heap s'.heap/\HOk P w H' s'.heap/\RelV v u/\Q v H'
def CR(CX:CXT)(outer:List Env)(P:Program)(w:World)(H:Hp)(s:Shared)(Q:VK)(E:XK)(r:Result)(s':Shared):Prop:=
 match r with
 | .ok (.ret u)=>CE outer P w H s Q u s'
 | .ok _=>False
 | .error e=>CX outer H s E e s'
structure FnOk(P:Program)(w:World)(K:PySem.W.Frag)(mg:Str->Option Value)(base:Heap)(CX:CXT)(k:Nat)(f:Addr)(fd:FuncData)(ps:List Str)(sp:Sp):Prop where
 len:∀vs H Q E,sp vs H Q E->vs.length=ps.length
 run:∀(A:Around) (outer:List Env) (s:Shared) (H:Hp) (args:Args) (us:List Value) (vs:List V) (Q:VK) (E:XK),Room k A->Env0 P w K mg base A outer s H->BindsTo s fd args (ps.zip us)->Vals vs us->sp vs H Q E->
  codeAny (model P w) A (.call (.ref f) args) (CR CX outer P w H s Q E) s
theorem FnOk.mono{P:Program}{w:World}{K:PySem.W.Frag}{mg:Str->Option Value}{base:Heap}{CX:CXT}{j k:Nat}{f:Addr}{fd:FuncData}{ps:List Str}{sp:Sp}(F:FnOk P w K mg base CX j f fd ps sp)(h:j<=k):
 FnOk P w K mg base CX k f fd ps sp:=⟨F.len,fun A outer s H args us vs Q E hr=>F.run A outer s H args us vs Q E (hr.mono h)⟩
theorem FnOk.imp{P:Program}{w:World}{K:PySem.W.Frag}{mg:Str->Option Value}{base:Heap}{CX:CXT}{k:Nat}{f:Addr}{fd:FuncData}{ps:List Str}{sp sp':Sp}(F:FnOk P w K mg base CX k f fd ps sp)
 (h:∀vs H Q E,sp' vs H Q E->sp vs H Q E):FnOk P w K mg base CX k f fd ps sp':=
 ⟨fun vs H Q E q=>F.len vs H Q E (h _ _ _ _ q),fun A outer s H args us vs Q E hr he hb hv hs=>F.run A outer s H args us vs Q E hr he hb hv (h _ _ _ _ hs)⟩
section
variable{X:Cx}{tf:List (Addr×Obj)}{σ:St}{H:Hp}{s s':Shared}
theorem Inv.env0(I:Inv X tf σ H s):Env0 X.prog X.w X.K X.mg X.base X.A X.stack s H:=⟨I.ok.frames,I.ok.mod,I.bs,YM I.ok.bsz I.sz,I.stack,I.stkFree,I.hok,I.bare⟩
theorem Inv.after{Q:VK}{u:Value}(I:Inv X tf σ H s)(h:CE X.stack X.prog X.w H s Q u s'):EP X tf σ Q u s':=by obtain⟨v,H',os,bare,un,hok,r,q⟩:=h;obtain⟨hh,g,d,t,os'⟩:=s';obtain rfl:os'=s.os:=os;exact⟨v,H',I.call (h':=hh) (g':=g) (d':=d) (t':=t) (ch:=[]) un hok bare (fun b z=>absurd z (by simp)),r,q⟩
end
def jcW(sp:Sp)(dvs:List V)(E:XK)(t:TA):TE:=fun σ H Q=>t σ H fun vs H1=>sp (vs++dvs) H1 Q E
def Binds(K:PySem.W.Frag)(fd:FuncData)(ps:List Str)(ds:List Value):Prop:=∀(s:Shared) (us:List Value),K.In s.heap->(us++ds).length=ps.length->BindsTo s fd ⟨us,[]⟩ (ps.zip (us++ds))
theorem Binds.all{K:PySem.W.Frag}{fd:FuncData}{ps:List Str}(h:∀us:List Value,us.length=ps.length->bindArgs fd ⟨us,[]⟩=pure (ps.zip us)):Binds K fd ps []:=fun s us _ hl=>by rw[yO]at hl ⊢;exact .of_eq (h us hl)
def jdV(CX:CXT)(X:Cx)(E:XK):Prop:=∀(tf:List (Addr×Obj)) (σ:St) (H:Hp) (s:Shared) (e:Value) (s':Shared),Inv X tf σ H s->CX X.stack H s E e s'->X.xe e s'
section
variable{X:Cx}{CX:CXT}{k:Nat}{f C:Addr}{fd:FuncData}{ps:List Str}{sp:Sp}{dvs:List V}{ds:List Value}{E:XK}{x m:Str}{p pos apos:Pos}{e o:Expr}{es:List Expr}{ta:TE}{t:TA}
theorem jjp{tf:List (Addr×Obj)}{σ:St}{H:Hp}{s:Shared}{Q:VK}{us:List Value}{vs:List V}(F:FnOk X.prog X.w X.K X.mg X.base CX k f fd ps sp)(hr:Room k X.A)(hb:Binds X.K fd ps ds)(hd:Vals dvs ds)(hx:jdV CX X E)
 (I:Inv X tf σ H s) (r:Vals vs us) (h:sp (vs++dvs) H Q E):wpAny (model X.prog X.w) X.A (call (.ref f) us) (EP X tf σ Q) X.xe s:=by
 have r2:Vals (vs++dvs) (us++ds):=r.append hd;have hl:(us++ds).length=ps.length:=by rw[<-r2.length];exact F.len _ _ _ _ h
 refine wpAny_call (KH (F.run X.A X.stack s H ⟨us,[]⟩ (us++ds) (vs++dvs) Q E hr I.env0 (hb s us I.kIn hl) r2 h) fun r s' hq=>?_);cases r with
 | error e=>exact hx tf σ H s e s' I hq
 | ok fl=>
   cases fl with
   | ret u=>exact I.after hq
   | next=>exact False.elim hq
   | brk=>exact False.elim hq
   | cont=>exact False.elim hq
theorem jal(F:FnOk X.prog X.w X.K X.mg X.base CX k f fd ps sp)(hr:Room k X.A)(hg:Gl X x)(hm:X.mg x=some (.ref f))(hk:PySem.W.keepIn X.K (.ref f)=true)(hb:Binds X.K fd ps ds)(hd:Vals dvs ds)(hx:jdV CX X E)
 (ha:PA X (e::es) t) (hdb:(x == ("__debug__":Str))=false:=by decide) (he:starEach (e::es) X.env=(false,eval e X.env)::starEach es X.env:=by rfl) (hpl:(backTo pos (starEach es X.env)).any (·.1)=false:=by rfl) :
 PE X (.Call (.Name x p) (e::es) [] pos) (jcW sp dvs E t):=by
 intro tf s σ H Q I h;refine wpAny_Call_Name_kw (jex I hg hm ?_ hdb);refine PySem.W.callWith_K (h₀:=X.base) I.ok.mod.kin hk (qH (ha pos tf s σ H _ I h) fun us s1 ⟨vs,H1,I1,r,q⟩=>⟨I1.kIn,?_⟩) he hpl;exact jjp F hr hb hd hx I1 r q
end
structure FnScope(N P:List Str)(sc:Scope):Prop where
 kind:sc.kind=.function
 co:sc.isCoroutine=false
 gen:sc.isGenerator=false
 nd:N.Nodup
 pre:N.take P.length=P
 par:∀x∈P,sc.names.lookup x=some .local\/sc.names.lookup x=some .cell
 nofree:∀y∈sc.names,y.2≠.free
theorem jbM{kindOf:Str->Option NameKind}{x:Str}:∀{binds:List (Str×Value)} {m:Str->Option Value},(∀v,(x,v)∉binds)->bindL kindOf binds m x=m x
 | [],_,_=>rfl
 | (n,v)::r,m,h=>by
   unfold bindL;rw[jbM fun w hw=>h w (Yf _ hw)];split
   . have:x≠n:=by rintro rfl;exact h v Yb
     simp[this]
   . rfl
theorem jbU{kindOf:Str->Option NameKind}{x:Str}:∀{binds:List (Str×Value)} {m:Str->Option Value},(∀v,(x,v)∉binds)->bindC kindOf binds m x=m x
 | [],_,_=>rfl
 | (n,v)::r,m,h=>by
   unfold bindC;rw[jbU fun w hw=>h w (Yf _ hw)];split
   . rfl
   . have:x≠n:=by rintro rfl;exact h v Yb
     simp[this]
theorem jby{kindOf:Str->Option NameKind}{x:Str}{v:Value}:∀{P:List Str} {vs:List Value} {i:Nat} {m:Str->Option Value},P.Nodup->P[i]?=some x->vs[i]?=some v->kindOf x=some .local->
 bindL kindOf (P.zip vs) m x=some v
 | [],_,_,_,_,h,_,_=>by simp at h
 | _::_,[],_,_,_,_,h,_=>by simp at h
 | p::P,w::vs,0,m,nd,h1,h2,hk=>by simp at h1 h2;subst h1;subst h2;show bindL kindOf ((p,w)::P.zip vs) m p=_;unfold bindL;rw[jbM fun v hv=>(YY.mp nd).1 (List.of_mem_zip hv).1,Ys hk];simp
 | p::P,w::vs,i+1,m,nd,h1,h2,hk=>by show bindL kindOf ((p,w)::P.zip vs) m x=_;unfold bindL;exact jby (i:=i) (YY.mp nd).2 (by simpa using h1) (by simpa using h2) hk
theorem jbF{kindOf:Str->Option NameKind}{x:Str}{v:Value}:∀{P:List Str} {vs:List Value} {i:Nat} {m:Str->Option Value},P.Nodup->P[i]?=some x->vs[i]?=some v->kindOf x≠some .local->
 bindC kindOf (P.zip vs) m x=some v
 | [],_,_,_,_,h,_,_=>by simp at h
 | _::_,[],_,_,_,_,h,_=>by simp at h
 | p::P,w::vs,0,m,nd,h1,h2,hk=>by simp at h1 h2;subst h1;subst h2;show bindC kindOf ((p,w)::P.zip vs) m p=_;unfold bindC;rw[jbU fun v hv=>(YY.mp nd).1 (List.of_mem_zip hv).1,YJ hk];simp
 | p::P,w::vs,i+1,m,nd,h1,h2,hk=>by show bindC kindOf ((p,w)::P.zip vs) m x=_;unfold bindC;exact jbF (i:=i) (YY.mp nd).2 (by simpa using h1) (by simpa using h2) hk
def QD(N:List Str)(vs:List V):St:=vs.map some++List.replicate (N.length-vs.length) none
def jdX(CX:CXT)(P:Program)(w:World)(K:PySem.W.Frag)(mg:Str->Option Value)(base:Heap)(N:List Str)(qual:Str)(scope:Scope)(f:Addr)(cd:Value)(A:Around)(outer:List Env)(s:Shared)(H:Hp)(E:XK):Cx where
 prog:=P
 w:=w
 K:=K
 mg:=mg
 base:=base
 A:=A.deeper (envOfC qual scope s.heap.objs.size f cd)
 N:=N
 s₀:=s
 H₀:=H
 env:=envOfC qual scope s.heap.objs.size f cd
 outer:=outer
 stack:=envOfC qual scope s.heap.objs.size f cd::outer
 ex:=[]
 calm:=true
 fn:=fun _=>true
 pn:=[]
 xe:=fun e s'=>wpAny (model P w) (A.deeper (envOfC qual scope s.heap.objs.size f cd)) (leaving (envOfC qual scope s.heap.objs.size f cd) e) (fun _ s''=>CX outer H s E e s'') (fun e' s''=>CX outer H s E e' s'') s'
theorem jdh{sc:Scope}{n:Nat}{x:Str}(h:sc.names.lookup x=some .cell):∃c,(cellsFrom n sc.names []).lookup x=some c:=by have q:=PySem.W.cellsFrom_some sc.names n [] (.inl h);exact Option.isSome_iff_exists.mp q
theorem jfd{CX:CXT}{P:Program}{w:World}{K:PySem.W.Frag}{mg:Str->Option Value}{base:Heap}{N ps:List Str}{qual:Str}{scope:Scope}{f:Addr}{cd:Value}{A:Around}{outer:List Env}{s s1:Shared}{H:Hp}{E:XK}{us:List Value}{vs:List V}
 (S:FnScope N ps scope) (hd:A.handled=none) (e0:Env0 P w K mg base A outer s H) (hl:vs.length=ps.length) (r:Vals vs us)
 (x:InCallC s s.heap.objs.size (bindL (envOfC qual scope s.heap.objs.size f cd).kindOf (ps.zip us) fun _=>none) (cellsFrom (s.heap.objs.size+1) scope.names []) (bindC (envOfC qual scope s.heap.objs.size f cd).kindOf (ps.zip us) fun _=>none) s1) :
 Inv (jdX CX P w K mg base N qual scope f cd A outer s H E) [] (QD N vs) H s1:=by
 have hpl:ps.length<=N.length:=by have:=congrArg List.length S.pre;rw[Kx]at this;omega
 obtain⟨h1,tk,rfl,hk⟩:=x.done;have noA:∀b:Addr,b∉(jdX CX P w K mg base N qual scope f cd A outer s H E).ex:=fun b z=>absurd (show b∈([]:List Addr)from z) (by simp);refine⟨⟨e0.mod,S.kind,rfl,rfl,Yw _,fun y z c h1 h2=>?_,fun y hy=>?_,fun y c _ h=>?_,fun _=>hd,Around.frames_deeper e0.frames,.inr ⟨rfl,rfl⟩,fun b z=>absurd z (noA b),e0.bs,e0.bsz,fun b _ _=>noA b,fun b z=>absurd z (noA b),e0.funs,e0.frf⟩,
  rfl,e0.bare,Un.kept hk,⟨_,x.toInCall.ns,fun i y v h1 h2 h3=>?_⟩,fun y c h=>⟨_,x.cell y c h⟩,e0.hok.fresh (Yw _),fun y c h=>?_,fun p hp=>absurd (show p∈([]:List (Addr×Obj))from hp) (by simp),e0.hok.kept hk,?_⟩
 . exact name_of_addr x.apart (yS h1) (yS h2)
 . have hy:scope.names.lookup y=some .cell\/scope.names.lookup y=some .free:=hy;rcases hy with hy | hy
   . exact jdh hy
   . exact absurd rfl (S.nofree _ (yS hy))
 . exact yF (x.above y c (yS h))
 . have hi:i<vs.length:=by
    unfold QD at h2;by_cases hi:i<vs.length
    . exact hi
    . rw[YC (by simpa using hi)]at h2;rw[Y5]at h2;split at h2 <;> cases h2
   have ha:vs[i]?=some v:=by
    unfold QD at h2;rw[YI (by simpa using hi),Yr]at h2;cases e:vs[i]? with
    | none=>rw[e]at h2;cases h2
    | some a=>rw[e]at h2;cases h2;rfl
   obtain⟨u,hu,rv⟩:=r.get ha;have hp:ps[i]?=some y:=by rw[<-S.pre,List.getElem?_take_of_lt (by omega)];exact h1
   have ndP:ps.Nodup:=by rw[<-S.pre];exact S.nd.sublist (List.take_sublist _ _)
   refine⟨u,rv,?_⟩;rcases S.par y (Yq hp)with k | k
   . exact .inl ⟨k,jby ndP hp hu k⟩
   . obtain⟨c,e⟩:=jdh (n:=s.heap.objs.size+1) k;refine .inr ⟨.inl k,c,e,?_⟩;have q:=x.cell y c e;rw[jbF ndP hp hu (by show scope.names.lookup y≠_;rw[k];decide)]at q;exact q
 . exact e0.hok.fresh (yF (x.above y c (yS h)))
 . unfold QD;show _=N.length;rw[YS,QC,yL];omega
theorem jkQ{CX:CXT}{P:Program}{w:World}{K:PySem.W.Frag}{mg:Str->Option Value}{base:Heap}{k:Nat}{f:Addr}{name qual:Str}{params:Arguments}{body:List Stmt}{scope:Scope}{dV kV doc pm cdv ct oc:Value}{an od:Option Addr}
 {osl:Array (Option Value)} {N ps:List Str} {sp:Sp} (lk:K.lookup f=some ⟨oc,od,.func (PySem.W.fnOf name qual params body scope dV kV doc pm an cdv ct),osl⟩) (hcd:PySem.W.codeIn K cdv qual=true) (S:FnScope N ps scope)
 (len:∀vs H Q E,sp vs H Q E->vs.length=ps.length)
 (hbody:∀(A:Around) (outer:List Env) (s:Shared) (H:Hp) (vs:List V) (Q:VK) (E:XK),Room k (A.deeper (envOfC qual scope s.heap.objs.size f cdv))->sp vs H Q E->
  ∃t,PSs (jdX CX P w K mg base N qual scope f cdv A outer s H E) body t/\t { nx:=fun _ H'=>Q .non H',rt:=Q } (QD N vs) H) :
 FnOk P w K mg base CX (k+1) f (PySem.W.fnOf name qual params body scope dV kV doc pm an cdv ct) ps sp:=by
 refine⟨len,fun A outer s H args us vs Q E hr e0 hb r hsp=>?_⟩;have hl:=len _ _ _ _ hsp;have KX:K.In s.heap:=e0.mod.kin.keeps fun b o e=>(e0.bs b o e).1;have lim:s.heap.NoLimit:=e0.mod.nolimit.keeps fun b o e=>(e0.bs b o e).1;have hkind:∀y∈ps.zip us,scope.names.lookup y.1=some .local\/(scope.names.lookup y.1=some .cell/\((cellsFrom (s.heap.objs.size+1) scope.names []).lookup y.1).isSome=true):=fun⟨n,v⟩ hy=>by
  rcases S.par n (List.of_mem_zip hy).1 with q | q
  . exact .inl q
  . exact .inr ⟨q,PySem.W.cellsFrom_some _ _ _ (.inl q)⟩
 refine codeAny_call_function hr.depth (KX _ _ lk) rfl S.co S.gen rfl (PySem.W.codeRec_of KX hcd) (hb _ _ _ _ ?_);refine wpAny_newFunctionEnv_cells S.kind hkind fun env he s1 x=>?_;subst he;refine⟨lim.keeps x.toInCall.keep,codeAny_func ?_⟩;obtain⟨t,ht,hq⟩:=hbody A outer s H vs Q E (hr.deeper _) hsp;have I:Inv (jdX CX P w K mg base N qual scope f cdv A outer s H E) [] (QD N vs) H s1:=jfd S hr.hd e0 hl r x;refine yp (ht [] s1 (QD N vs) H _ I hq) (fun fl s' hs=>?_) fun e s' hs=>hs;have fin:∀{σ':St} {H':Hp} {v:V} {u:Value},Inv (jdX CX P w K mg base N qual scope f cdv A outer s H E) [] σ' H' s'->RelV v u->Q v H'->CE outer P w H s Q u s':=fun{σ' H' v u} J rv q=>⟨v,H',J.os,J.bare,J.base,J.hok,rv,q⟩
 cases fl with
 | ret u=>obtain⟨v,σ',H',J,rv,q⟩:=hs;exact fin J rv q
 | next=>obtain⟨σ',H',J,q⟩:=hs;exact fin (v:=V.non) (u:=Value.none) J rfl q
 | brk=>obtain⟨_,_,_,q⟩:=hs;exact False.elim q
 | cont=>obtain⟨_,_,_,q⟩:=hs;exact False.elim q
section
variable{X:Cx}{x:Str}{p pos:Pos}{e:Expr}{es:List Expr}{t:TA}{id T:String}{r:List V->Hp->VK->Prop}
def tCB(r:List V->Hp->VK->Prop)(t:TA):TE:=fun σ H Q=>t σ H fun vs H1=>r vs H1 Q
theorem JY(hc:CallR X (.builtin id) r)(hg:Gl X x)(hm:X.mg x=none)(hv:bootBuiltins x=some (.builtin id))(ha:PA X (e::es) t)(hn:x ≠ "__name__":=by decide)(hdb:(x == ("__debug__":Str))=false:=by decide)
 (he:starEach (e::es) X.env=(false,eval e X.env)::starEach es X.env:=by rfl) (hpl:(backTo pos (starEach es X.env)).any (·.1)=false:=by rfl):PE X (.Call (.Name x p) (e::es) [] pos) (tCB r t):=by
 intro tf s σ H Q I h;refine wpAny_Call_Name_kw (QT I hg hm hv ?_ hn hdb);exact PyProof.Rows.callWith_builtin1 (qH (ha pos tf s σ H _ I h) fun us s1 ⟨vs,H1,I1,r1,q1⟩=>hc tf s1 σ H1 vs us Q I1 r1 q1) he hpl
theorem Zz(hc:CallR X (.type T) r)(hg:Gl X x)(hm:X.mg x=none)(hv:bootBuiltins x=some (.type T))(ha:PA X (e::es) t)(hn:x ≠ "__name__":=by decide)(hdb:(x == ("__debug__":Str))=false:=by decide)
 (he:starEach (e::es) X.env=(false,eval e X.env)::starEach es X.env:=by rfl) (hpl:(backTo pos (starEach es X.env)).any (·.1)=false:=by rfl):PE X (.Call (.Name x p) (e::es) [] pos) (tCB r t):=by
 intro tf s σ H Q I h;refine wpAny_Call_Name_kw (QT I hg hm hv ?_ hn hdb);exact yi (qH (ha pos tf s σ H _ I h) fun us s1 ⟨vs,H1,I1,r1,q1⟩=>hc tf s1 σ H1 vs us Q I1 r1 q1) he hpl
end
end L2
namespace HT
open PySem PyProof.Rows
section
variable{prog:Program}{w:World}{A:Around}{E:Value->Shared->Prop}{s:Shared}
def sIx(n d:Nat):Option Int->Nat
 | none=>d
 | some v=>if v<0 then(v+(n:Int)).toNat else min v.toNat n
theorem sIx_none(n d:Nat):sIx n d none=d:=rfl
theorem sIx_nat(n d k:Nat):sIx n d (some (k:Int))=min k n:=by show(if (k:Int)<0 then((k:Int)+(n:Int)).toNat else min (k:Int).toNat n)=min k n;rw[YJ (by omega),Yv]
end
end HT
namespace L2
open PySem PySem.Spec PyProof.Rows
abbrev TO:=St->Hp->(Option Int->Hp->Prop)->Prop
def PO(X:Cx)(e:Option Expr)(t:TO):Prop:=
 ∀(tf:List (Addr×Obj)) (s:Shared) (σ:St) (H:Hp) (Q:Option Int->Hp->Prop),Inv X tf σ H s->t σ H Q->
   wpAny (model X.prog X.w) X.A (evalPart e X.env) (fun u s'=>∃o H',Inv X tf σ H' s'/\IsPart u o/\Q o H') X.xe s
def jeF:TO:=fun _ H Q=>Q none H
def jiJ(t:TE):TO:=fun σ H Q=>t σ H fun x H1=>∃i,x=.int i/\Q (some i) H1
theorem QQ{ns:List Int}:∀{us:List Value},Vals (ns.map V.int) us->IntsAre us ns:=by
 induction ns with
 | nil=>intro us r;rw[yQ]at r;cases r;exact .nil
 | cons n ns ih=>
   intro us r;rw[YO]at r;cases r with
   | cons r1 r2=>obtain⟨t,e⟩:=r1;subst e;exact .cons n t (ih r2)
section
variable{X:Cx}{e:Expr}{te:TE}{lo hi:Option Expr}{tl th:TO}{pos p2:Pos}
theorem jhv:PO X none jeF:=by intro tf s σ H Q I h;rw[evalPart_none];exact Yj ⟨none,H,I,.none,h⟩
theorem jhU(h:PE X e te):PO X (some e) (jiJ te):=by intro tf s σ H Q I hw;rw[evalPart_some];refine qH (h tf s σ H _ I hw) fun u s1 zz=>?_;obtain⟨x,H1,I1,r1,q1⟩:=zz;obtain⟨i,rfl,q⟩:=q1;obtain⟨t,rfl⟩:=r1;exact⟨some i,H1,I1,.int i t,q⟩
def SlR(X:Cx)(r:V->Option Int->Option Int->Hp->VK->Prop):Prop:=
 ∀(tf:List (Addr×Obj)) (s:Shared) (σ:St) (H:Hp) (x:V) (v vl vu:Value) (lo hi:Option Int) (sl:Addr) (Q:VK),Inv X tf σ H s->RelV x v->s.heap.IsSliceOf sl vl vu .none->IsPart vl lo->IsPart vu hi->r x lo hi H Q->
   ∃T id,typeLookup (.type T) "__getitem__"=pure (some (.builtin id)) ∧ s.TypeIs v T ∧ wpAny (model X.prog X.w) X.A (getItem v (.ref sl)) (EP X tf σ Q) X.xe s
def tSl(r:V->Option Int->Option Int->Hp->VK->Prop)(te:TE)(tl th:TO):TE:=fun σ H Q=>te σ H fun x H1=>tl σ H1 fun l H2=>th σ H2 fun u H3=>r x l u H3 Q
theorem jfR{r:V->Option Int->Option Int->Hp->VK->Prop}(hr:SlR X r)(he:PE X e te)(hl:PO X lo tl)(hu:PO X hi th):PE X (.Subscript e (.Slice lo hi none p2) pos) (tSl r te tl th):=by intro tf s σ H Q I h;refine Subscript_ (qH (he tf s σ H _ I h) fun v s1 zz=>?_);obtain⟨x,H1,I1,r1,q1⟩:=zz;refine wpAny_Slice (qH (hl tf s1 σ H1 _ I1 q1) fun vl s2 ⟨l,H2,I2,pl,q2⟩=>qH (hu tf s2 σ H2 _ I2 q2) fun vu s3 zz=>?_);obtain⟨u,H3,I3,pu,q3⟩:=zz;rw[evalPart_none];refine Yj ?_;have I4:Inv X tf σ H3 { s3 with heap:=s3.heap.push { cls:=.type "slice",data:=.fields #[vl,vu,.none] } }:=I3.kept (t':=s3.toks) fun b ob q=>Yk _ q;obtain⟨T,id,hT,ht,hg⟩:=hr tf { s3 with heap:=s3.heap.push { cls:=.type "slice",data:=.fields #[vl,vu,.none] } } σ H3 x v vl vu l u s3.heap.objs.size Q I4 r1 (Heap.IsSliceOf.new ..) pl pu q3;show wpAny (model X.prog X.w) X.A (subscriptTail e (.Slice lo hi none p2) v (.ref s3.heap.objs.size)) (EP X tf σ Q) X.xe { s3 with heap:=s3.heap.push { cls:=.type "slice",data:=.fields #[vl,vu,.none] } };exact tail_any (ops:=[.ref s3.heap.objs.size,v]) ht hT hg (by with_unfolding_all rfl)
def je6(xs:List V)(lo hi:Option Int):List V:=(xs.drop (HT.sIx xs.length 0 lo)).take (HT.sIx xs.length xs.length hi-HT.sIx xs.length 0 lo)
theorem jdv(xs:List V)(lo hi:Option Int):(je6 xs lo hi).length<=xs.length:=by unfold je6;rw[Kx,List.length_drop];omega
end
def QX(n:Nat)(i:Int):Option Nat:=if 0<=i then(if i<n then some i.toNat else none)else if -(n:Int)<=i then some (i+n).toNat else none
def atI{α:Type}(xs:List α)(i:Int):Option α:=(QX xs.length i).bind fun j=>xs[j]?
theorem jet{n:Nat}{i:Int}{j:Nat}(h:QX n i=some j):seqIndex? i n=some j/\j<n /\ -(n:Int)<=i/\i<n:=by
 unfold QX at h;by_cases h0:0<=i
 . rw[Ys h0]at h;by_cases h1:i<n
   . rw[Ys h1]at h;have e:i.toNat=j:=Option.some.inj h;exact⟨by rw[seqIndex_of h0 h1,e],by omega,by omega,h1⟩
   . rw[YJ h1]at h;cases h
 . rw[YJ h0]at h;by_cases h1:-(n:Int)<=i
   . rw[Ys h1]at h;have e:(i+n).toNat=j:=Option.some.inj h;exact⟨by rw[seqIndex_neg (by omega) h1,e],by omega,h1,by omega⟩
   . rw[YJ h1]at h;cases h
theorem jco{α:Type}{xs:List α}{i:Int}{v:α}(h:atI xs i=some v):∃j,seqIndex? i xs.length=some j/\xs[j]?=some v/\j<xs.length /\ -(xs.length:Int)<=i/\i<xs.length:=by
 unfold atI at h;cases e:QX xs.length i with
 | none=>rw[e]at h;cases h
 | some j=>rw[e]at h;obtain⟨h1,h2,h3,h4⟩:=jet e;exact⟨j,h1,h,h2,h3,h4⟩
def jev(b:Expr):Prop:=∀o i,subscripted b false o i=operate [o,i] (getItem o i)
def IxR(X:Cx)(r:R2):Prop:=
 ∀(value slice:Expr) (tf:List (Addr×Obj)) (s:Shared) (σ:St) (H:Hp) (x y:V) (v u:Value) (Q:VK),Inv X tf σ H s->RelV x v->RelV y u->r x y H Q->
   subscripted slice false v u=operate [v,u] (getItem v u)->wpAny (model X.prog X.w) X.A (subscriptTail value slice v u) (EP X tf σ Q) X.xe s
def MtR(X:Cx)(id:String)(r:V->List V->Hp->VK->Prop):Prop:=
 ∀(tf:List (Addr×Obj)) (s:Shared) (σ:St) (H:Hp) (x:V) (xs:List V) (v:Value) (us:List Value) (Q:VK),Inv X tf σ H s->RelV x v->Vals xs us->r x xs H Q->
   wpAny (model X.prog X.w) X.A (call (.builtin id) (v::us)) (EP X tf σ Q) X.xe s
section
variable{X:Cx}{a b:Expr}{ta tb:TE}{pos:Pos}
theorem IxR.or{r r':R2}(h:IxR X r)(h':IxR X r'):IxR X (fun x y H Q=>r x y H Q\/r' x y H Q):=by
 intro value slice tf s σ H x y v u Q I rx ry q hs;rcases q with q | q
 . exact h value slice tf s σ H x y v u Q I rx ry q hs
 . exact h' value slice tf s σ H x y v u Q I rx ry q hs
theorem jiu{r:R2}(hr:IxR X r)(ha:PE X a ta)(hb:PE X b tb)(hs:jev b):PE X (.Subscript a b pos) (tOp r ta tb):=by intro tf s σ H Q I h;exact Subscript_ (jj1 ha hb I h fun v u s2 x y H2 I2 rx ry q=>hr a b tf s2 σ H2 x y v u Q I2 rx ry q (hs _ _))
def jkF(K:PySem.W.Frag):R2:=fun x y H Q=>∃p xs i v,x=.ref p/\y=.int i/\zQ K H p xs/\atI xs i=some v/\Q v H
def jlo(K:PySem.W.Frag):R2:=fun x y H Q=>∃p xs i v,x=.ref p/\y=.int i/\SqT K H p xs/\atI xs i=some v/\Q v H
def jlt:R2:=fun x y H Q=>∃z i c,x=.str z/\y=.int i/\z.length<=sizeLine/\atI z.cps.toList i=some c/\Q (.str ⟨#[c]⟩) H
theorem ix_list:IxR X (jkF X.K):=by
 intro value slice tf s σ H x y v u Q I rx ry h hs;obtain⟨p,xs,i,z,rfl,rfl,hq,he,q⟩:=h;cases rx;obtain⟨t,rfl⟩:=ry;obtain⟨tq,r,pl,hz⟩:=I.list hq;obtain⟨j,h1,h2,h3,h4,h5⟩:=jco he;obtain⟨w,ew,rw'⟩:=r.get h2;have hl:=r.length;have hn:=ZA;have fin:EP X tf σ Q w s:=⟨z,H,I,rw',q⟩;by_cases h0:0<=i
 . have hj:i.toNat=j:=by rw[seqIndex_of h0 h5]at h1;exact Option.some.inj h1
   exact item_listR pl.isList h0 (by omega) (by rw[hj];simpa using ew) fin hs
 . have hj:(i+(tq.toArray.size:Int)).toNat=j:=by rw[seqIndex_neg (by omega) h4]at h1;rw[Yu,<- hl];exact Option.some.inj h1
   exact subscriptTail_builtinR (x:=w) pl.isList.typeIs slot_list_getitem.lookup
    (wpAny_getItem_list_neg (Q:=fun r s'=>r=w/\EP X tf σ Q r s') pl.isList (by omega) (by rw[Yu] <;> omega) (by omega) (by rw[hj];simpa using ew) ⟨rfl,fin⟩) hs
theorem ix_tup:IxR X (jlo X.K):=by
 intro value slice tf s σ H x y v u Q I rx ry h hs;obtain⟨p,xs,i,z,rfl,rfl,hq,he,q⟩:=h;cases rx;obtain⟨t,rfl⟩:=ry;obtain⟨tq,r,pl,hz⟩:=I.tuple hq;obtain⟨j,h1,h2,h3,h4,h5⟩:=jco he;obtain⟨w,ew,rw'⟩:=r.get h2;have hl:=r.length;have hn:=ZA;have fin:EP X tf σ Q w s:=⟨z,H,I,rw',q⟩;exact subscriptTail_builtinR (x:=w) pl.typeIs slot_tuple_getitem.lookup
  (getItem_tuple (j:=j) (Q:=fun r s'=>r=w/\EP X tf σ Q r s') pl (by omega) (by omega) (by rw[Yu,<- hl];exact h1) (by simpa using ew) ⟨rfl,fin⟩) hs
theorem jjR:IxR X jlt:=by
 intro value slice tf s σ H x y v u Q I rx ry h hs;obtain⟨z,i,c,rfl,rfl,hz,he,q⟩:=h;obtain⟨t,rfl⟩:=rx;obtain⟨t',rfl⟩:=ry;obtain⟨j,h1,h2,h3,h4,h5⟩:=jco he;have hl:z.cps.toList.length=z.length:=by simp[Str.length]
 rw[hl]at h1 h4 h5;have hn:=ZA;exact tail_any (typeIs_str s z t) slot_str_getitem.lookup (getItem_str (c:=c) (by have e1:decide (i < -(2 ^ 63:Int))=false:=Y0 (by omega);have e2:decide (i>=2 ^ 63)=false:=Y0 (by omega);rw[e1,e2,Bool.or_false]) (by rw[h1];simpa using h2) ⟨.str ⟨#[c]⟩,H,I.tok _,⟨_,rfl⟩,q⟩) hs
def rIx(K:PySem.W.Frag):R2:=fun x y H Q=>jkF K x y H Q\/jlo K x y H Q\/jlt x y H Q
theorem jgj:IxR X (rIx X.K):=ix_list.or (ix_tup.or jjR)
theorem jdZ(tq:List Value)(n j:Nat)(u:Value):Obj.mapSeq (·.setIfInBounds j u) { cls:=.type "list",data:=.seq tq.toArray n }={ cls:=.type "list",data:=.seq (tq.set j u).toArray n }:=by simp[Obj.mapSeq]
theorem Inv.lst{tf:List (Addr×Obj)}{σ:St}{H:Hp}{s:Shared}{p:Addr}{xs:List V}(I:Inv X tf σ H s)(h:H p=some (.lst xs)):
 ∃(tq:List Value) (n:Nat),Vals xs tq ∧ s.heap.get? p=some { cls:=.type "list",data:=.seq tq.toArray n } ∧ xs.length ≤ sizeLine:=by
 obtain⟨z,tq,n,r,e⟩:=I.hok p _ h;exact⟨tq,n,r,e,z⟩
theorem Inv.lstUpd{tf:List (Addr×Obj)}{σ:St}{H:Hp}{s:Shared}{p:Addr}{xs ys:List V}{tq its':List Value}{n n':Nat}{f:Obj->Obj}(I:Inv X tf σ H s)(h:H p=some (.lst xs))
 (ho:s.heap.get? p=some { cls:=.type "list",data:=.seq tq.toArray n }) (hf:f { cls:=.type "list",data:=.seq tq.toArray n }={ cls:=.type "list",data:=.seq its'.toArray n' }) (r:Vals ys its') (hz:ys.length ≤ sizeLine) (t:Nat) :
 Inv X tf σ (upd H p (.lst ys)) { s with heap:=s.heap.update p f,toks:=t }:=by
 have e:(s.heap.update p f).get? p=some { cls:=.type "list",data:=.seq its'.toArray n' }:=by rw[Y3 f ho (by rw[hf] <;> rfl),hf]
 refine I.write (x:=p) (e:=p) (by rw[h];trivial) (.inl rfl) (fun b u hb q=>(Heap.get?_update_other _ _ (Ne.symm hb)).trans q) ⟨_,e⟩ ?_;exact⟨hz,its',n',r,e⟩
def jhb:V->V->V->Hp->(Hp->Prop)->Prop:=fun o i v H Q=>∃p xs k j,o=.ref p/\i=.int k/\H p=some (.lst xs)/\QX xs.length k=some j/\Q (upd H p (.lst (xs.set j v)))
theorem jcK:jlD X jhb:=by
 intro tf s σ H o i v ov iv u Q I ro ri rv h;obtain⟨p,xs,k,j,rfl,rfl,hp,hj,q⟩:=h;cases ro;obtain⟨t,rfl⟩:=ri;obtain⟨tq,n,r,ho,hz⟩:=I.lst hp;obtain⟨h1,h2,h3,h4⟩:=jet hj;have hl:=r.length;have hn:=ZA;have I':Inv X tf σ (upd H p (.lst (xs.set j v))) { s with heap:=s.heap.update p (Obj.mapSeq (·.setIfInBounds j u)) }:=I.lstUpd hp ho (jdZ tq n j u) (r.set rv j) (by rw[yN];exact hz) s.toks
 by_cases h0:0<=k
 . have hk:k.toNat=j:=by rw[seqIndex_of h0 h4]at h1;exact Option.some.inj h1
   exact PySem.W.ki_setAt ho h0 (by omega) (by rw[Yu,<- hl];exact h4) (by rw[hk];exact⟨_,I',q⟩)
 . have hk:(k+(tq.toArray.size:Int)).toNat=j:=by rw[seqIndex_neg (by omega) h3]at h1;rw[Yu,<- hl];exact Option.some.inj h1
   exact PySem.W.ki_setBack ho (by omega) (by rw[Yu,<- hl];exact h3) (by omega) (by rw[hk];exact⟨_,I',q⟩)
theorem jce(lo hi:Option Int)(n:Nat):(sliceBounds lo hi none n).1=((HT.sIx n 0 lo:Nat):Int)/\(sliceBounds lo hi none n).2.1=((HT.sIx n n hi:Nat):Int)/\(sliceBounds lo hi none n).2.2=1:=by
 refine⟨?_,?_,rfl⟩
 . cases lo with
   | none=>simp[sliceBounds,HT.sIx]
   | some i=>
     simp only[sliceBounds,HT.sIx,Option.getD_none,show(1:Int)>0 by decide,yq];by_cases h:i<0
     . simp only[h,yq] <;> omega
     . simp only[h,yC] <;> omega
 . cases hi with
   | none=>simp[sliceBounds,HT.sIx]
   | some i=>
     simp only[sliceBounds,HT.sIx,Option.getD_none,show(1:Int)>0 by decide,yq];by_cases h:i<0
     . simp only[h,yq] <;> omega
     . simp only[h,yC] <;> omega
theorem jbm(tq:List Value)(lo hi:Option Int):slicePick tq.toArray lo hi none=((tq.drop (HT.sIx tq.length 0 lo)).take (HT.sIx tq.length tq.length hi-HT.sIx tq.length 0 lo)).toArray:=by obtain⟨h1,h2,h3⟩:=jce lo hi tq.toArray.size;unfold slicePick;rw[h1,h2,h3];simp only[sliceRange_one,pick_run,Yu] <;> rfl
def jju(K:PySem.W.Frag):V->Option Int->Option Int->Hp->VK->Prop:=fun x lo hi H Q=>∃a xs,x=.ref a/\zQ K H a xs/\∀p,H p=none->Q (.ref p) (upd H p (.lst (je6 xs lo hi)))
theorem jhy:SlR X (jju X.K):=by intro tf s σ H x v vl vu lo hi sl Q I rx hs pl pu h;obtain⟨a,xs,rfl,hx,q⟩:=h;cases rx;obtain⟨tq,r,ht,hz⟩:=I.list hx;have tJ:=r.length;refine⟨"list",_,slot_list_getitem.lookup,ht.isList.typeIs,?_⟩;refine wpAny_getItem_list_slice ht.isList hs pl pu .none (by simp) ?_ (by rw[Yu] <;> omega);rw[jbm,<- tJ];refine⟨.ref s.heap.objs.size,_,I.laid (t':=s.toks) (o:=.lst (je6 xs lo hi)) (fun b ob q=>Yk _ q) (Yw _) ?_,rfl,q _ (I.hok.fresh (Yw _))⟩;exact⟨YM (jdv xs lo hi) hz,_,0,(r.drop (HT.sIx xs.length 0 lo)).take (HT.sIx xs.length xs.length hi-HT.sIx xs.length 0 lo),YA _ rfl⟩
def jem:V->Bool
 | .non=>true
 | .bl _=>true
 | .int _=>true
 | .str _=>true
 | _=>false
def eqV:V->V->Bool
 | .non,.non=>true
 | .bl a,.bl b=>a == b
 | .bl a,.int b=>(if a then 1 else 0) == b
 | .int a,.bl b=>a == (if b then 1 else 0)
 | .int a,.int b=>a == b
 | .str a,.str b=>a == b
 | _,_=>false
theorem jja{A:Around}{s:Shared}{y x:V}{u v:Value}(ry:RelV y u)(rx:RelV x v)(fy:jem y=true)(fx:jem x=true):SeqAt.EqAt A s u v (eqV y x):=by
 cases y with
 | non=>
   cases ry;cases x with
   | non=>cases rx;exact SeqAt.EqAt.same _
   | bl b=>cases rx;exact SeqAt.EqAt.none_bool b
   | int b=>obtain⟨t,rfl⟩:=rx;exact SeqAt.EqAt.none_int b t
   | str b=>obtain⟨t,rfl⟩:=rx;exact SeqAt.EqAt.none_str b t
   | _=>exact absurd (show false=true from fx) Ym
 | bl a=>
   cases ry;cases x with
   | non=>cases rx;exact SeqAt.EqAt.bool_none a
   | bl b=>cases rx;exact SeqAt.EqAt.bool_bool a b
   | int b=>obtain⟨t,rfl⟩:=rx;exact SeqAt.EqAt.bool_int a b t
   | str b=>obtain⟨t,rfl⟩:=rx;exact SeqAt.EqAt.bool_str a b t
   | _=>exact absurd (show false=true from fx) Ym
 | int a=>
   obtain⟨t',rfl⟩:=ry;cases x with
   | non=>cases rx;exact SeqAt.EqAt.int_none a t'
   | bl b=>cases rx;exact SeqAt.EqAt.int_bool a t' b
   | int b=>obtain⟨t,rfl⟩:=rx;exact SeqAt.EqAt.int_int a t' b t
   | str b=>obtain⟨t,rfl⟩:=rx;exact SeqAt.EqAt.int_str a t' b t
   | _=>exact absurd (show false=true from fx) Ym
 | str a=>
   obtain⟨t',rfl⟩:=ry;cases x with
   | non=>cases rx;exact SeqAt.EqAt.str_none a t'
   | bl b=>cases rx;exact SeqAt.EqAt.str_bool a t' b
   | int b=>obtain⟨t,rfl⟩:=rx;exact SeqAt.EqAt.str_int a t' b t
   | str b=>obtain⟨t,rfl⟩:=rx;exact SeqAt.EqAt.str_str a t' b t
   | _=>exact absurd (show false=true from fx) Ym
 | _=>exact absurd (show false=true from fy) Ym
theorem call_len_seq:CallR X (.builtin "len") (fun xs H Q=>∃p ys,xs=[.ref p] ∧ (zQ X.K H p ys ∨ SqT X.K H p ys) ∧ Q (.int ys.length) H):=by
 intro tf s σ H xs us Q I r h;obtain⟨p,ys,rfl,hq,q⟩:=h;obtain⟨u,rfl,rx⟩:=jaV r;cases rx;have hn:=ZA;rcases hq with hq | hq
 . obtain⟨tq,r',pl,hz⟩:=I.list hq;have tJ:=r'.length;exact Calls.call_len_list pl.isList (by simp only[Yu] <;> omega) ⟨.int ys.length,H,I.tok _,⟨s.toks+1,by rw[Yu,tJ]⟩,q⟩
 . obtain⟨tq,r',pl,hz⟩:=I.tuple hq;have tJ:=r'.length;exact len_tuple pl (by simp only[Yu] <;> omega) ⟨.int ys.length,H,I.tok _,⟨s.toks+1,by rw[Yu,tJ]⟩,q⟩
theorem jcv:CallR X (.builtin "len") (fun xs H Q=>∃z,xs=[.str z] ∧ z.length ≤ sizeLine ∧ Q (.int z.length) H):=by intro tf s σ H xs us Q I r h;obtain⟨z,rfl,hz,q⟩:=h;obtain⟨u,rfl,t,rfl⟩:=jaV r;have hn:=ZA;exact len_str (by omega) ⟨.int z.length,H,I.tok _,⟨_,rfl⟩,q⟩
theorem CallR.or{f:Value}{r r':List V->Hp->VK->Prop}(h:CallR X f r)(h':CallR X f r'):CallR X f (fun xs H Q=>r xs H Q\/r' xs H Q):=by
 intro tf s σ H xs us Q I rs q;rcases q with q | q
 . exact h tf s σ H xs us Q I rs q
 . exact h' tf s σ H xs us Q I rs q
theorem jb2:CallR X (.type "list") (fun xs H Q=>∃p ys,xs=[.ref p] ∧ (zQ X.K H p ys ∨ SqT X.K H p ys) ∧ ∀l,H l=none → Q (.ref l) (upd H l (.lst ys))):=by
 intro tf s σ H xs us Q I r h;obtain⟨p,ys,rfl,hq,q⟩:=h;obtain⟨u,rfl,rx⟩:=jaV r;cases rx;have fin:∀(tq:List Value),Vals ys tq->ys.length<=sizeLine->∀(h':Heap) (c':Nat),(∀b o',s.heap.get? b=some o'->h'.get? b=some o')->
  h'.get? s.heap.objs.size=some { cls:=.type "list",dict:=none,data:=.seq tq.toArray c',slots:=#[] } → EP X tf σ Q (.ref s.heap.objs.size) { s with heap:=h' }:=fun tq r' hz h' c' kp e=>
  ⟨.ref s.heap.objs.size,_,I.laid (t':=s.toks) kp (Yw _) (show ObjOk X.prog X.w _ h' _ (.lst ys)from⟨hz,tq,c',r',e⟩),rfl,q _ (I.hok.fresh (Yw _))⟩
 rcases hq with hq | hq
 . obtain⟨tq,r',pl,hz⟩:=I.list hq;have tJ:=r'.length;obtain⟨o,ho,hc,n,hd⟩:=pl.isList;exact call_list_seq p (.inl rfl) ho hc hd (fun h' c' kp e=>fin tq r' hz h' c' kp e) (by simp only[Yu] <;> omega)
 . obtain⟨tq,r',pl,hz⟩:=I.tuple hq;have tJ:=r'.length;obtain⟨o,ho,hc,n,hd⟩:=pl;exact call_list_seq p (.inr rfl) ho hc hd (fun h' c' kp e=>fin tq r' hz h' c' kp e) (by simp only[Yu] <;> omega)
theorem jbs:CallR X (.type "tuple") (fun xs H Q=>∃p ys,xs=[.ref p] ∧ ((zQ X.K H p ys ∧ ∀l,H l=none → Q (.ref l) (upd H l (.tup ys))) ∨ (SqT X.K H p ys ∧ Q (.ref p) H))):=by
 intro tf s σ H xs us Q I r h;obtain⟨p,ys,rfl,h⟩:=h;obtain⟨u,rfl,rx⟩:=jaV r;cases rx;rcases h with⟨hq,q⟩ | ⟨hq,q⟩
 . obtain⟨tq,r',pl,hz⟩:=I.list hq;have tJ:=r'.length;refine call_tuple_list pl.isList (fun h' kp=>?_) (by simp only[Yu] <;> omega);have I1:Inv X tf σ H { s with heap:=h' }:=I.kept (t':=s.toks) kp;have I2:Inv X tf σ (upd H h'.objs.size (.tup ys)) { s with heap:=h'.push { cls:=.type "tuple",data:=.seq tq.toArray } }:=I1.laid (t':=s.toks) (fun b o e=>Yk _ e) (Yw _) (show ObjOk X.prog X.w _ _ _ (.tup ys)from⟨hz,tq,r',IsTup.new _ _⟩)
   exact⟨.ref h'.objs.size,_,I2,rfl,q _ (I1.hok.fresh (Yw _))⟩
 . obtain⟨tq,r',pl,hz⟩:=I.tuple hq;exact call_tuple_same pl ⟨.ref p,H,I,rfl,q⟩
def tyV(K:PySem.W.Frag)(T:String)(x:V)(H:Hp):Prop:=match x with
 | .str _=>T = "str"
 | .int _=>T = "int"
 | .ref p=>(T = "list" ∧ ∃xs,zQ K H p xs) ∨ (T="tuple" ∧ ∃o,K.lookup p=some o ∧ o.cls=.type "tuple" ∧ o.dict=none) ∨
  (T = "dict" ∧ ((∃kvs,H p=some (.dK kvs)) ∨ ∃kvs,H p=some (.dT kvs))) ∨ (T="set" ∧ ∃S n,H p=some (.set S n))
 | _=>False
theorem jfV{tf:List (Addr×Obj)}{σ:St}{H:Hp}{s:Shared}{T:String}{x:V}{v:Value}(I:Inv X tf σ H s)(r:RelV x v)(ty:tyV X.K T x H):
 s.TypeIs v T/\∀a,v=.ref a->∃ob,s.heap.get? a=some ob/\ob.dict=none:=by
 cases x with
 | str z=>obtain⟨t,rfl⟩:=r;cases (show T = "str" from ty);exact⟨typeIs_str s z t,fun _ e=>nomatch e⟩
 | int i=>obtain⟨t,rfl⟩:=r;cases (show T = "int" from ty);exact⟨typeIs_int s i t,fun _ e=>nomatch e⟩
 | ref p=>
   cases r;rcases ty with⟨rfl,xs,hq⟩ | ⟨rfl,o,hk,hc,hd⟩ | ⟨rfl,hk⟩ | ⟨rfl,S,n,hk⟩
   . obtain⟨tq,_,pl,_⟩:=I.list hq;refine⟨pl.isList.typeIs,fun a e=>?_⟩;cases e;obtain⟨o,n,e,c,hd,_⟩:=pl;exact⟨o,e,hd⟩
   . refine⟨⟨o,I.kIn p o hk,hc⟩,fun a e=>?_⟩;cases e;exact⟨o,I.kIn _ o hk,hd⟩
   . have z:∃o,s.heap.get? p=some o/\o.ExactDict:=by
       rcases hk with⟨kvs,hk⟩ | ⟨kvs,hk⟩
       . obtain⟨_,_,_,_,o,_,_,e,ex,_⟩:=I.hok p _ hk;exact⟨o,e,ex⟩
       . obtain⟨_,_,_,_,o,_,_,e,ex,_⟩:=I.hok p _ hk;exact⟨o,e,ex⟩
     obtain⟨o,e,ex⟩:=z;refine⟨⟨o,e,ex.1⟩,fun a e2=>?_⟩;cases e2;exact⟨o,e,ex.2.1⟩
   . obtain⟨o,_,_,_,e,ex,_⟩:=I.hok p _ hk;refine⟨⟨o,e,ex.1⟩,fun a e2=>?_⟩;cases e2;exact⟨o,e,ex.2.1⟩
 | _=>exact False.elim ty
def jjb(K:PySem.W.Frag)(T:String)(r:V->List V->Hp->VK->Prop)(to:TE):TE:=fun σ H Q=>to σ H fun x H1=>tyV K T x H1/\r x [] H1 Q
def tBM(K:PySem.W.Frag)(T:String)(r:V->List V->Hp->VK->Prop)(to:TE)(t:TA):TE:=fun σ H Q=>to σ H fun x H1=>tyV K T x H1/\t σ H1 fun xs H2=>r x xs H2 Q
variable{o e:Expr}{es:List Expr}{to:TE}{t:TA}{name:Str}{apos cpos:Pos}{T id:String}{r:V->List V->Hp->VK->Prop}
theorem jjP(pa:PlainAttrs T)(slot:Slot T name id)(hty:typeOf (.builtin id)=pure (.type "method_descriptor"))(hm:MtR X id r)(ho:PE X o to)
 (hbase:attributeBase o name X.env (eval o X.env)=eval o X.env:=by rfl) (hline:(apos.endLine == cpos.line)=true:=by rfl):PE X (.Call (.Attribute o name apos) [] [] cpos) (jjb X.K T r to):=by
 intro tf s σ H Q I h;refine wpAny_Call_method0_late hbase hline (qH (ho tf s σ H _ I h) fun v s1 zz=>?_);obtain⟨x,H1,I1,r1,ty,q1⟩:=zz;obtain⟨h1,h2⟩:=jfV I1 r1 ty;exact⟨T,id,pa,slot,hty,h1,h2,Calls.callWith_builtin rfl (PySem.evalArgs_none (hm tf s1 σ H1 x [] v [] Q I1 r1 .nil q1))⟩
theorem jei(pa:PlainAttrs T)(slot:Slot T name id)(hty:typeOf (.builtin id)=pure (.type "method_descriptor"))(hm:MtR X id r)(ho:PE X o to)(ha:PA X (e::es) t)
 (hbase:attributeBase o name X.env (eval o X.env)=eval o X.env:=by rfl)
 (hfew:autoParam (((backTo cpos (starEach (e::es) X.env)).all (fun x=>!x.1) && (backToKw cpos (keywordEach [] X.env)).all (fun x=>x.1.isSome)
  && decide ((e::es).length+([]:List Keyword).length+(if ([]:List Keyword).isEmpty then 0 else 1)<30))=true) QA.a4._auto_1)
 (hline:(apos.endLine == cpos.line)=true:=by rfl) (hs:starEach (e::es) X.env=(false,eval e X.env)::starEach es X.env:=by rfl) (hplain:(backTo cpos (starEach es X.env)).any (·.1)=false:=by rfl) :
 PE X (.Call (.Attribute o name apos) (e::es) [] cpos) (tBM X.K T r to t):=by
 intro tf s σ H Q I h;refine wpAny_Call_method_late hbase hfew hline rfl (qH (ho tf s σ H _ I h) fun v s1 zz=>?_);obtain⟨x,H1,I1,r1,ty,q1⟩:=zz;obtain⟨h1,h2⟩:=jfV I1 r1 ty;refine⟨T,id,pa,slot,hty,h1,h2,?_⟩;have hA:=ha cpos tf s1 σ H1 _ I1 q1;rw[hs]at hA ⊢;refine Calls.callWith_builtin (by show(false || (backTo cpos (starEach es X.env)).any (·.1))=false;rw[hplain] <;> rfl) (Calls.evalArgs_plain ?_);exact qH hA fun us s2 ⟨vs,H2,I2,r2,q2⟩=>hm tf s2 σ H2 x vs v us Q I2 r1 r2 q2
end
def MtM(X:Cx)(id:String)(r:V->List V->Hp->VK->Prop):Prop:=
 ∀(tf:List (Addr×Obj)) (s:Shared) (σ:St) (H:Hp) (x:V) (xs:List V) (v:Value) (us:List Value) (Q:VK),Inv X tf σ H s->RelV x v->Vals xs us->r x xs H Q->
   wpAny (model X.prog X.w) X.A (call (.builtin id) (v::us)) (EP X tf σ Q) X.xe s
theorem Vals.one:∀{x:V} {us:List Value},Vals [x] us->∃u,us=[u]/\RelV x u:=fun h=>jaV h
theorem Vals.two:∀{x y:V} {us:List Value},Vals [x,y] us->∃u v,us=[u,v]/\RelV x u/\RelV y v:=fun h=>jiI h
theorem Vals.zero:∀{us:List Value},Vals [] us->us=[]
 | _,.nil=>rfl
theorem Vals.dropLast{xs:List V}{us:List Value}(h:Vals xs us):Vals xs.dropLast us.dropLast:=by
 induction h with
 | nil=>exact .nil
 | cons r t ih=>
   cases t with
   | nil=>exact .nil
   | cons q t'=>exact .cons r ih
theorem Vals.eraseIdx:∀{xs:List V} {us:List Value} (i:Nat),Vals xs us->Vals (xs.eraseIdx i) (us.eraseIdx i)
 | _,_,_,.nil=>.nil
 | _,_,0,.cons _ t=>t
 | _,_,i+1,.cons r t=>.cons r (Vals.eraseIdx i t)
theorem jdL{α:Type}(l:List α):l.eraseIdx (l.length-1)=l.dropLast:=by
 induction l with
 | nil=>rfl
 | cons a r ih=>
   cases r with
   | nil=>rfl
   | cons b r=>
     have e:(a::b::r).length-1=((b::r).length-1)+1:=by have h1:(a::b::r).length=r.length+2:=rfl;have h2:(b::r).length=r.length+1:=rfl;omega
     rw[e,List.eraseIdx_cons_succ,ih];all_goals rfl
theorem jbP{α:Type}:∀(l:List α) (i:Nat),(l.eraseIdx i).length<=l.length
 | [],_=>Yw _
 | _::_,0=>KM _
 | _::r,i+1=>Nat.succ_le_succ (jbP r i)
section
variable{X:Cx}{tf:List (Addr×Obj)}{σ:St}{H:Hp}{s:Shared}{l b:Addr}{xs ys zs:List V}
theorem Inv.lset{tq its':List Value}{n:Nat}{f:Array Value->Array Value}{t':Nat}(I:Inv X tf σ H s)(hH:H l=some (.lst xs))
 (e:s.heap.get? l=some { cls:=.type "list",data:=.seq tq.toArray n }) (hf:f tq.toArray=its'.toArray) (hv:Vals ys its') (hz:ys.length ≤ sizeLine) :
 Inv X tf σ (upd H l (.lst ys)) { s with heap:=s.heap.update l (Obj.mapSeq f),toks:=t' }:=by
 have q:=PySem.IsL.update e f;rw[hf]at q;refine I.write (x:=l) (e:=l) (by rw[hH];exact trivial) (.inl rfl) (fun b' u hb hu=>(Heap.get?_update_other s.heap (Obj.mapSeq f) (Ne.symm hb)).trans hu) ⟨_,q⟩ ?_;exact⟨hz,its',_,hv,q⟩
theorem Inv.lnew{tq:List Value}{t':Nat}(I:Inv X tf σ H s)(hv:Vals ys tq)(hz:ys.length<=sizeLine):
 Inv X tf σ (upd H s.heap.objs.size (.lst ys)) { s with heap:=s.heap.push { cls:=.type "list",data:=.seq tq.toArray },toks:=t' }:=
 I.laid (fun _ _ q=>Yk _ q) (Yw _) ⟨hz,tq,0,hv,YA _ rfl⟩
theorem Inv.fresh(I:Inv X tf σ H s):H s.heap.objs.size=none:=I.hok.fresh (Yw _)
theorem Inv.lstM(I:Inv X tf σ H s)(hH:H l=some (.lst xs)):xs.length ≤ sizeLine ∧ ∃(tq:List Value) (n:Nat),Vals xs tq ∧ xs.length=tq.length ∧ s.heap.get? l=some { cls:=.type "list",data:=.seq tq.toArray n }:=by obtain⟨z,tq,n,r,e⟩:=I.hok l _ hH;exact⟨z,tq,n,r,r.length,e⟩
end
section
variable{X:Cx}
def JF:V->List V->Hp->VK->Prop:=fun x vs H Q=>∃l xs y,x=.ref l/\vs=[y]/\H l=some (.lst xs)/\xs.length<sizeLine/\Q .non (upd H l (.lst (xs++[y])))
theorem ZG:MtM X "list.append" JF:=by intro tf s σ H x vs v us Q I rx rv h;obtain⟨l,xs,y,rfl,rfl,hH,hz,q⟩:=h;cases rx;obtain⟨u,rfl,ru⟩:=rv.one;obtain⟨z,tq,n,r,hl,e⟩:=I.lstM hH;refine call_meets F.slot_list_append ⟨_,e,rfl⟩ F.entry_list_append (F.args_list_append_2 _ _) (PySem.list_append l tq.toArray n u (by rw[Yu];omega)) ⟨e,?_⟩;refine⟨.non,_,I.lset (its':=tq++[u]) hH e (by simp) (r.append (.cons ru .nil)) ?_,rfl,q⟩;rw[YS,List.length_singleton];omega
def jkh:V->List V->Hp->VK->Prop:=fun x vs H Q=>∃l xs y,x=.ref l/\vs=[]/\H l=some (.lst xs)/\xs[xs.length-1]?=some y/\Q y (upd H l (.lst xs.dropLast))
theorem jjW:MtM X "list.pop" jkh:=by
 intro tf s σ H x vs v us Q I rx rv h;obtain⟨l,xs,y,rfl,rfl,hH,hy,q⟩:=h;cases rx;have hus:=rv.zero;subst hus;obtain⟨z,tq,n,r,hl,e⟩:=I.lstM hH;obtain⟨u,hu,ru⟩:=r.get hy;have hy':tq.toArray[tq.toArray.size-1]?=some u:=by show tq.toArray[tq.length-1]?=some u;rw[<-yw,<- hl];exact hu
 refine call_meets F.slot_list_pop ⟨_,e,rfl⟩ F.entry_list_pop (F.args_list_pop_1 _) (MeetsSeq.list_pop_last l tq.toArray n u hy' (by rw[Yu];omega)) ⟨e,?_⟩;refine⟨y,_,I.lset (its':=tq.dropLast) hH e ?_ r.dropLast ?_,ru,q⟩
 . show tq.toArray.eraseIdxIfInBounds (tq.toArray.size-1)=tq.dropLast.toArray;rw[Yu,List.eraseIdxIfInBounds_toArray,jdL]
 . rw[List.length_dropLast];omega
def jd2:V->List V->Hp->VK->Prop:=fun x vs H Q=>∃l xs i k y,x=.ref l/\vs=[.int i]/\H l=some (.lst xs) /\ -(2 ^ 63)<=i/\i<2 ^ 63/\seqIndex? i xs.length=some k/\xs[k]?=some y/\Q y (upd H l (.lst (xs.eraseIdx k)))
theorem jfY:MtM X "list.pop" jd2:=by
 intro tf s σ H x vs v us Q I rx rv h;obtain⟨l,xs,i,k,y,rfl,rfl,hH,h1,h2,hk,hy,q⟩:=h;cases rx;obtain⟨u,rfl,ru⟩:=rv.one;obtain⟨t,rfl⟩:=ru;obtain⟨z,tq,n,r,hl,e⟩:=I.lstM hH;obtain⟨w,hw,rw'⟩:=r.get hy;refine call_meets F.slot_list_pop ⟨_,e,rfl⟩ F.entry_list_pop (F.args_list_pop_2 _ _)
  (MeetsSeq.list_pop_at l tq.toArray n i t k w (fitsIndex_both h1 h2) (by rw[Yu,<- hl];exact hk) (by rw[<-yw];exact hw) (by rw[Yu];omega)) ⟨e,?_⟩
 refine⟨y,_,I.lset (its':=tq.eraseIdx k) hH e ?_ (r.eraseIdx k) ?_,rw',q⟩
 . show tq.toArray.eraseIdxIfInBounds k=(tq.eraseIdx k).toArray;rw[List.eraseIdxIfInBounds_toArray]
 . have:=jbP xs k;omega
end
end L2
namespace Att
open PySem PySem.W PySem.Calls PyProof.Rows
theorem jaa{P:Params}{h:Heap}:∀(ns:List Int) (vs:List Value),WellAll P h vs (ns.map WData.int)->IntsAre vs ns:=by
 intro ns;induction ns with
 | nil=>intro vs w;rw[yQ]at w;cases w;exact .nil
 | cons n ns ih=>
   intro vs w;rw[YO]at w;cases w with
   | cons a b=>cases a;exact .cons _ _ (ih _ b)
theorem jfk{l:OpenLaw}{n:Nat}(hn:l.most=some n){P:Params}{h:Heap}{args:List WData}{vals:List Value}
 (hpre:l.row.toRowW.claim.pre args=true) (hwl:WellAll P h vals args) :
 ∃a vs ns,vals=[Value.ref a] ∧ args=[WData.list (ns.map WData.int)] ∧ h.get? a=some { cls:=.type "list",data:=.seq vs.toArray } ∧ IntsAre vs ns ∧ ns.length ≤ n:=by
 have hsh:WShape.hasAll [] args [.list .int]=true:=(pre_splitW hpre).1;have hc:l.pre.holds [] { args:=args }=true:=(pre_splitW hpre).2;obtain⟨d,r,rfl,h1,h2⟩:=hasAllW_cons hsh;obtain rfl:=hasAllW_nil h2;obtain⟨xs,rfl,h3⟩:=hasW_list h1;obtain⟨ns,rfl⟩:=items_int h3;have tJ:ns.length<=n:=by
  unfold OpenLaw.pre at hc;have h4:(WTm.not (.lt (.lit (.int (n:Int))) (.len (.arg 0)))).holds [] { args:=[.list (ns.map .int)] }=true:=by have h4:=(holds_andW hc).1;rw[hn]at h4;exact h4
  have h5:=condW_of h4 (w_not (w_lt w_lit (w_len_list (w_arg rfl))));rw[QC]at h5;refine Nat.le_of_not_lt fun q=>?_;have q':(n:Int)<((ns.length:Nat):Int):=by omega
  first
   | (rw[YW q']at h5;exact absurd h5 (by decide))
   | (simp at h5;omega)
 cases hwl with
 | cons w1 w2=>
   cases w2;cases w1 with
   | list ho hall=>exact⟨_,_,ns,rfl,rfl,ho,jaa ns _ hall,tJ⟩
theorem jfp(l:OpenLaw)(args:List WData):l.row.toRowW.claim.post args (.bool true) args=true:=
 postW_of (r:=l.row.toRowW) (X:=(true == true))
  (show WShape.has [] (.bool true) .bool=true by first | rfl | decide | simp[WShape.has,WShape.arms,WShape.armsAll])
  (show(WTm.eq .res (.lit (.bool true))).value [] { args:=args,res:=some (.bool true),after:=args }=some (.bool (true == true))from w_eq_bool (w_res rfl) w_lit) rfl
theorem attach_call{l:OpenLaw}{n:Nat}{q:Program}{loose:List Str}{XP:(Str->Option Value)->Heap->Prop}{YP:World->Heap->Prop}{d:DefRec}
 (hn:l.most=some n) (hdf:d.params.defaults=[])
 (call:∀(w:World) (s₀ s₁:Shared) (mg mb:Str->Option Value) (fa:Addr) (o:Obj) (pm cd doc:Value) (a:Addr) (vs:List Value) (ns:List Int),
  Ground q loose [] XP w s₀ mg mb s₁.heap->YP w s₁.heap->
  s₁.heap.get? fa=some o->o.data=.func (docDef d.name d.params d.body d.scope pm cd doc)->s₁.heap.CodeRec cd d.name->mg d.name=some (.ref fa)->
  s₁.heap.get? a=some { cls:=.type "list",data:=.seq vs.toArray } → IntsAre vs ns → ns.length ≤ n → s₁.gens=#[] →
  codeAny (model l.prog w) callerA (.call (.ref fa) ⟨[.ref a],[]⟩) (fun r s'=>r=.ok (.ret (.bool true))/\OldK s₁.heap s'.heap/\s'.os=s₁.os/\AllBare s'.gens) s₁) :
 WalkO q loose XP YP l.row.toRowW d [] (fun f vs=>PySem.call f vs):=by
 intro w s₀ s₁ mg mb G Y fa o pm cd doc dV kV ho hd hcd hD hmg hg args vals as hpre hlay hrd hwl hlo;obtain rfl:dV=.none:=Dflts.none hD hdf;obtain rfl:kV=.none:=Dflts.noKw hD;obtain⟨a,vs,ns,rfl,rfl,hobj,hints,tJ⟩:=jfk hn hpre hwl;refine enter_call (KH (call w s₀ s₁ mg mb fa o pm cd doc a vs ns G Y ho (fd_plain hd) hcd hmg hobj hints tJ hg) fun r s' hq=>?_);obtain⟨rfl,h2,h3,h4⟩:=hq;exact⟨.inl ⟨.bool true,.bool true,[],rfl,fun _=>rfl,.bool true,jfp l _,fun _=>⟨List.Pairwise.nil,fun _ hm=>(nomatch hm)⟩⟩,h2,h3,h4⟩
end Att
namespace L2
open PySem PySem.Spec PyProof.Rows
theorem Zx:∀{vs:List Value} {ns:List Int},IntsAre vs ns->Vals (ns.map V.int) vs:=fun h=>by
 induction h with
 | nil=>exact .nil
 | cons n t _ ih=>exact .cons ⟨t,rfl⟩ ih
def jjh(H:Hp):Prop:=∀b,H b=none\/∃o xs,H b=some (.frz o (.lst xs))
theorem jgi{P:Program}{w:World}{K:PySem.W.Frag}{mg mb:Str->Option Value}{CX:CXT}{k:Nat}{fa a:Addr}{fd:FuncData}{x:Str}{sp:Sp}{s₁:Shared}{vs:List Value}{ns:List Int}
 (KX:K.In s₁.heap) (hns:s₁.heap.Ns mainGlobals mg) (hb:s₁.heap.Ns builtinsNs mb) (hbb:∀x:Str,x ≠ "__name__" → mb x=bootBuiltins x) (hlim:s₁.heap.NoLimit) (hg:s₁.gens=#[])
 (ha:s₁.heap.get? a=some { cls:=.type "list",data:=.seq vs.toArray }) (hi:IntsAre vs ns) (hl:ns.length ≤ sizeLine) (hr:Room k callerA)
 (F:∀base:Heap,K.In base->base.Ns mainGlobals mg->FnOk P w K mg base CX k fa fd [x] sp) (hbind:∀(s:Shared) (u:Value),BindsTo s fd ⟨[u],[]⟩ [(x,u)])
 (hsp:∀H:Hp,jjh H->zQ K H a (ns.map V.int)->sp [.ref a] H (fun v _=>v=.bl true) fun _ _ _=>False)
 (hCX:∀H e s',CX [] H s₁ (fun _ _ _=>False) e s'->False) :
 codeAny (model P w) callerA (.call (.ref fa) ⟨[.ref a],[]⟩) (fun r s'=>r=.ok (.ret (.bool true))/\OldK s₁.heap s'.heap/\s'.os=s₁.os/\AllBare s'.gens) s₁:=by
 have rv:=Zx hi;have lenV:=hi.length
 -- from an abstract heap in which nothing but the script may be tracked
 have core:∀H:Hp,jjh H->zQ K H a (ns.map V.int)->HOk P w H s₁.heap->(∀b,H b≠none->b=a)->(H a≠none->K.lookup a=none)->
  codeAny (model P w) callerA (.call (.ref fa) ⟨[.ref a],[]⟩) (fun r s'=>r=.ok (.ret (.bool true))/\OldK s₁.heap s'.heap/\s'.os=s₁.os/\AllBare s'.gens) s₁:=by
  intro H hO hS hok hA hK;have base_of:∀{b:Addr} {o:Obj},s₁.heap.get? b=some o->H b=none->(jb1 s₁.heap H).get? b=some o:=fun e n=>jfT e n;have noA:∀{b:Addr} {o:Obj} {es:Array DictEntry} {ep:Nat},s₁.heap.get? b=some o->o.data=.dict es ep->H b=none:=fun{b o es ep} e d=>by
   cases q:H b with
   | none=>rfl
   | some u=>have e':b=a:=hA b (by rw[q];simp);subst e';rw[ha]at e;cases e;have d':Data.seq vs.toArray _=Data.dict es ep:=d;cases d'
  have nsK:∀{b:Addr} {m:Str->Option Value},s₁.heap.Ns b m->(jb1 s₁.heap H).Ns b m:=fun{b m} ⟨o,es,ep,e,d,r⟩=>⟨o,es,ep,base_of e (noA e d),d,r⟩;have hKb:K.In (jb1 s₁.heap H):=fun b o e=>base_of (KX b o e) (by
   cases q:H b with
   | none=>rfl
   | some u=>have e':b=a:=hA b (by rw[q];simp);subst e';rw[hK (by rw[q];simp)]at e;cases e)
  have hM:Mod K mg (jb1 s₁.heap H):=⟨hKb,nsK hns,⟨mb,nsK hb,hbb⟩,let ⟨mc,h1,h2⟩:=hlim;⟨mc,nsK h1,h2⟩⟩;have e0:Env0 P w K mg (jb1 s₁.heap H) callerA [] s₁ H:=⟨rfl,hM,fun b o e=>jhX e,Nat.le_of_eq (jfg _ _),trivial,fun b hb=>absurd (show b∈([]:List Addr)from hb) (by simp),hok,.of_eq hg⟩;refine KH ((F _ hKb (nsK hns)).run callerA [] s₁ H ⟨[.ref a],[]⟩ [.ref a] [.ref a] _ _ hr e0 (hbind s₁ (.ref a)) (.cons rfl .nil) (hsp H hO hS)) fun r s' h=>?_;cases r with
  | error e=>exact(hCX H e s' h).elim
  | ok fl=>
    cases fl with
    | next=>exact False.elim h
    | brk=>exact False.elim h
    | cont=>exact False.elim h
    | ret u=>
      obtain⟨v,H',os,bare,un,hok',r',q⟩:=h;have q':v=.bl true:=q;subst q';obtain rfl:u=Value.bool true:=r';refine⟨rfl,OldK.of_keep fun b o e=>?_,os,bare⟩;cases q:H b with
      | none=>exact un.keep b o e q (by intro z;exact absurd (show b∈([]:List Addr)from z) (by simp)) (by simp)
      | some u=>
        rcases hO b with z | ⟨ob,xs,z⟩
        . rw[q]at z;cases z
        . have z2:=un.frzs b ob _ z;obtain⟨e1,_⟩:=hok b _ z;obtain⟨e2,_⟩:=hok' b _ z2;rw[e]at e1;cases e1;exact e2
 cases hk:K.lookup a with
 | some o=>
   -- the script is one of the module's own objects
   have e:=KX a o hk;rw[ha]at e;cases e;refine core (fun _=>none) (fun _=>.inl rfl) (.inr ⟨_,vs.toArray,_,hk,rfl,rfl,rfl,by rw[Yu,lenV];exact hl,by simpa using rv⟩) (fun b u z=>by have z':(none:Option HO)=some u:=z;cases z') (fun b z=>absurd rfl z) fun z=>absurd rfl z
 | none=>
   refine core (fun b=>if b=a then some (.frz { cls:=.type "list",data:=.seq vs.toArray } (.lst (ns.map V.int)))else none) (fun b=>?_) (.inl (.inr ⟨{ cls:=.type "list",data:=.seq vs.toArray },Ys rfl⟩)) (fun b u z=>?_) (fun b z=>?_) fun _=>hk
   . by_cases hb:b=a
     . exact .inr ⟨_,_,Ys hb⟩
     . exact .inl (YJ hb)
   . by_cases hb:b=a
     . have z':=(Ys hb).symm.trans z;cases z';subst hb;exact⟨ha,by rw[QC];exact hl,vs,_,rv,ha⟩
     . have z':=(YJ hb).symm.trans z;cases z'
   . by_cases hb:b=a
     . exact hb
     . exact absurd (YJ hb) z
theorem jhR{l:PySem.W.OpenLaw}{n k:Nat}{q:Program}{loose:List Str}{XP:(Str->Option Value)->Heap->Prop}{YP:World->Heap->Prop}{d:DefRec}{K:Params->PySem.W.Frag}{CX:World->CXT}{sp:World->Sp}{x:Str}
 (hn:l.most=some n) (hn2:n<=sizeLine) (hdf:d.params.defaults=[]) (hr:Room k callerA)
 (hY:∀(w:World) (h:Heap),YP w h->(K w.params).In h)
 (F:∀(w:World) (mg:Str->Option Value) (fa:Addr) (h:Heap),(K w.params).In h->h.Ns mainGlobals mg->mg d.name=some (.ref fa)->
  ∃fd:FuncData,(∀(s:Shared) (u:Value),BindsTo s fd ⟨[u],[]⟩ [(x,u)]) /\
    ∀base:Heap,(K w.params).In base->base.Ns mainGlobals mg->FnOk l.prog w (K w.params) mg base (CX w) k fa fd [x] (sp w))
 (hsp:∀(w:World) (H:Hp) (a:Addr) (ns:List Int),ns.length<=n->jjh H->zQ (K w.params) H a (ns.map V.int)->sp w [.ref a] H (fun v _=>v=.bl true) fun _ _ _=>False)
 (hCX:∀(w:World) (H:Hp) (s:Shared) (e:Value) (s':Shared),CX w [] H s (fun _ _ _=>False) e s'->False) :
 PySem.W.WalkO q loose XP YP l.row.toRowW d [] (fun f vs=>PySem.call f vs):=by
 refine Att.attach_call hn hdf fun w s₀ s₁ mg mb fa o pm cd doc a vs ns G Y ho hd hcd hmg hobj hints tJ hg=>?_;have KX:=hY w _ Y;obtain⟨fd,hb,hF⟩:=F w mg fa _ KX G.T.g hmg;exact jgi KX G.T.g G.T.b G.T.builtins G.T.nolimit hg hobj hints (YM tJ hn2) hr hF hb (fun H hO hS=>hsp w H a ns tJ hO hS) fun H e s'=>hCX w H s₁ e s'
def jY(s:Stmt):Arguments:=match s with
 | .FunctionDef _ a _ _ _ _ _ _ _ _=>a
 | _=>{ posonlyargs:=[],args:=[],vararg:=none,kwonlyargs:=[],kw_defaults:=[],kwarg:=none,defaults:=[] }
def jP(s:Stmt):List Stmt:=match s with
 | .FunctionDef _ _ b _ _ _ _ _ _ _=>b
 | _=>[]
def jh(s:Stmt):Scope:=match s with
 | .FunctionDef _ _ _ _ _ _ sc _ _ _=>sc
 | _=>{ kind:=.function,names:=[],isGenerator:=false,isCoroutine:=false }
abbrev JV:CXT:=fun _ _ _ _ _ _=>False
abbrev E0:XK:=fun _ _ _=>False
theorem jeI{X:Cx}:jdV JV X E0:=fun _ _ _ _ _ _ _ h=>h.elim
structure Fun(K:PySem.W.Frag)(x qual:Str)(st:Stmt)(f:Addr)(fd:FuncData):Prop where
 ex:∃(oc:Value) (od:Option Addr) (kV doc pm:Value) (an:Option Addr) (cdv ct:Value) (osl:Array (Option Value)),
  fd=PySem.W.fnOf x qual (jY st) (jP st) (jh st) .none kV doc pm an cdv ct/\K.lookup f=some ⟨oc,od,.func fd,osl⟩/\PySem.W.codeIn K cdv qual=true
 kp:PySem.W.keepIn K (.ref f)=true
section
variable{P:Program}{w:World}{K:PySem.W.Frag}{mg:Str->Option Value}{base:Heap}
theorem Fun.ok{x qual:Str}{st:Stmt}{f:Addr}{fd:FuncData}{N ps:List Str}{k:Nat}{sp:Sp}(F:Fun K x qual st f fd)(S:FnScope N ps (jh st))(len:∀vs H Q E,sp vs H Q E->vs.length=ps.length)
 (hbody:∀(cdv:Value) (A:Around) (outer:List Env) (s:Shared) (H:Hp) (vs:List V) (Q:VK) (E:XK),Room k (A.deeper (envOfC qual (jh st) s.heap.objs.size f cdv))->sp vs H Q E->
  ∃t,PSs (jdX JV P w K mg base N qual (jh st) f cdv A outer s H E).nox (jP st) t/\t { nx:=fun _ H'=>Q .non H',rt:=Q } (QD N vs) H):FnOk P w K mg base JV (k+1) f fd ps sp:=by
 obtain⟨oc,od,kV,doc,pm,an,cdv,ct,osl,rfl,lk,hcd⟩:=F.ex;refine jkQ lk hcd S len fun A outer s H vs Q E hr hsp=>?_;obtain⟨t,h,q⟩:=hbody cdv A outer s H vs Q E hr hsp;exact⟨t,h.nox,q⟩
theorem Fun.binds{x qual:Str}{st:Stmt}{f:Addr}{fd:FuncData}{ps:List Str}(F:Fun K x qual st f fd)
 (h:∀(kV doc pm:Value) (an:Option Addr) (cdv ct:Value) (us:List Value),us.length=ps.length->bindArgs (PySem.W.fnOf x qual (jY st) (jP st) (jh st) .none kV doc pm an cdv ct) ⟨us,[]⟩=pure (ps.zip us)):Binds K fd ps []:=by
 obtain⟨oc,od,kV,doc,pm,an,cdv,ct,osl,rfl,lk,hcd⟩:=F.ex;exact .all (h kV doc pm an cdv ct)
theorem qx{x qual:Str}{st:Stmt}{f:Addr}{oc:Value}{od an:Option Addr}{osl:Array (Option Value)}{kV doc pm cdv ct:Value}(l:K.lookup f=some ⟨oc,od,.func (PySem.W.fnOf x qual (jY st) (jP st) (jh st) .none kV doc pm an cdv ct),osl⟩)
 (c:PySem.W.codeIn K cdv qual=true) (k:PySem.W.keepIn K (.ref f)=true):Fun K x qual st f (PySem.W.fnOf x qual (jY st) (jP st) (jh st) .none kV doc pm an cdv ct):=⟨⟨oc,od,kV,doc,pm,an,cdv,ct,osl,rfl,l,c⟩,k⟩
end
def Same(H H':Hp):Prop:=∀b o,H b=some o->H' b=some o
theorem Same.refl(H:Hp):Same H H:=fun _ _ h=>h
theorem Same.trans{H H1 H2:Hp}(a:Same H H1)(b:Same H1 H2):Same H H2:=fun c o h=>b c o (a c o h)
theorem Same.free{H H':Hp}(e:Same H H'){l:Addr}(h:H' l=Option.none):H l=Option.none:=by
 cases q:H l with
 | none=>rfl
 | some o=>rw[e l o q]at h;cases h
theorem Same.seq{K:PySem.W.Frag}{H H':Hp}{a:Addr}{xs:List V}(e:Same H H')(h:zQ K H a xs):zQ K H' a xs:=by
 rcases h with(h | ⟨o,h⟩) | h
 . exact .inl (.inl (e _ _ h))
 . exact .inl (.inr ⟨o,e _ _ h⟩)
 . exact .inr h
section
variable{κ:Type}[DecidableEq κ]
def jiM(kvs:List (κ×V))(k:κ):List (κ×V):=kvs.filter fun kv=>decide (kv.1≠k)
theorem RelO.getD{o:Option V}{u:Option Value}{d:V}{d':Value}(r:RelO o u)(rd:RelV d d'):RelV (o.getD d) (u.getD d'):=by
 cases o with
 | none=>cases u with
   | none=>exact rd
   | some _=>exact(show False from r).elim
 | some _=>cases u with
   | none=>exact(show False from r).elim
   | some _=>exact r
theorem KV.any{kvs:List (κ×V)}{vs:List (κ×Value)}(r:KV kvs vs)(k:κ):(kvs.any fun kv=>decide (kv.1=k))=vs.any fun kv=>decide (kv.1=k):=by
 unfold KV at r;induction r with
 | nil=>rfl
 | cons h t ih=>rw[List.any_cons,List.any_cons,ih,h.1]
theorem KV.drop{kvs:List (κ×V)}{vs:List (κ×Value)}(r:KV kvs vs)(k:κ):KV (jiM kvs k) (without vs k):=by
 unfold KV at r ⊢;unfold jiM without;induction r with
 | nil=>exact .nil
 | @cons p q ps qs h t ih=>
   obtain⟨h1,h2⟩:=h;rw[yo,yo];by_cases e:p.1=k
   . have a:¬decide (p.1≠k)=true:=by simp[e]
     have b:¬decide (q.1≠k)=true:=by simp[h1.symm.trans e]
     rw[YJ a,YJ b];exact ih
   . have e':¬q.1=k:=fun z=>e (h1.trans z);have a:decide (p.1≠k)=true:=by simp[e]
     have b:decide (q.1≠k)=true:=by simp[e']
     rw[Ys a,Ys b];exact .cons ⟨h1,h2⟩ ih
theorem KV.length{kvs:List (κ×V)}{vs:List (κ×Value)}(r:KV kvs vs):kvs.length=vs.length:=Paired.length r
end
end L2
namespace L2S
open PySem
def Ris(xs:Array Nat):Prop:=∀i j,i<j->j<xs.size->xs.getD i 0<xs.getD j 0
theorem jaM{xs:Array Nat}{j:Nat}(R:Ris xs):∀(fuel lo hi:Nat),lo<=hi->hi<=xs.size->hi-lo<=fuel->(∀i,i<lo->xs.getD i 0<j)->(∀i,hi<=i->i<xs.size->j<=xs.getD i 0)->
 (SetTable.below.go xs j fuel lo hi<=xs.size)/\(∀i,i<SetTable.below.go xs j fuel lo hi->xs.getD i 0<j)/\(∀i,SetTable.below.go xs j fuel lo hi<=i->i<xs.size->j<=xs.getD i 0)
 | 0,lo,hi,h1,h2,h3,h4,h5=>by
   have:lo=hi:=by omega
   subst this;exact⟨h2,h4,h5⟩
 | fuel+1,lo,hi,h1,h2,h3,h4,h5=>by
   unfold SetTable.below.go;by_cases hlt:lo<hi
   . rw[Ys hlt];dsimp only;have hm:(lo+hi)/2<xs.size:=by omega
     have e:xs.getD ((lo+hi)/2) j=xs.getD ((lo+hi)/2) 0:=by simp[Array.getD,hm]
     rw[e];by_cases hc:xs.getD ((lo+hi)/2) 0<j
     . rw[Ys hc];refine jaM R fuel _ _ (by omega) h2 (by omega) (fun i hi'=>?_) h5;rcases YT i ((lo+hi)/2)with q | q
       . exact yK (R i _ q hm) hc
       . have:i=(lo+hi)/2:=by omega
         subst this;exact hc
     . rw[YJ hc];refine jaM R fuel _ _ (by omega) (by omega) (by omega) h4 (fun i hi' hs=>?_);rcases YT ((lo+hi)/2) i with q | q
       . exact YM (Nat.le_of_not_lt hc) (yF (R _ i q hs))
       . have:i=(lo+hi)/2:=by omega
         subst this;exact Nat.le_of_not_lt hc
   . rw[YJ hlt];have:lo=hi:=by omega
     subst this;exact⟨h2,h4,h5⟩
theorem jbj{xs:Array Nat}{j:Nat}(R:Ris xs):SetTable.below xs j<=xs.size/\(∀i,i<SetTable.below xs j->xs.getD i 0<j)/\(∀i,SetTable.below xs j<=i->i<xs.size->j<=xs.getD i 0):=jaM R xs.size 0 xs.size (yY _) (Yw _) (by omega) (fun i h=>absurd h (Nat.not_lt_zero _)) fun i h1 h2=>absurd h2 (Nat.not_lt.mpr h1)
theorem jdD{xs:Array Nat}{i:Nat}(R:Ris xs)(hi:i<xs.size):SetTable.below xs (xs.getD i 0+1)=i+1:=by
 obtain⟨b1,b2,b3⟩:=jbj (j:=xs.getD i 0+1) R;rcases Nat.lt_trichotomy (SetTable.below xs (xs.getD i 0+1)) (i+1)with q | q | q
 . have:=b3 i (by omega) hi;omega
 . exact q
 . have:=b2 (i+1) q;have h2:i+1<xs.size:=by omega
   have:=R i (i+1) (by omega) h2;omega
theorem jdT{xs:Array Nat}(R:Ris xs):SetTable.below xs 0=0:=by
 obtain⟨b1,b2,b3⟩:=jbj (j:=0) R;rcases Nat.eq_zero_or_pos (SetTable.below xs 0)with q | q
 . exact q
 . have:=b2 0 q;omega
theorem jbq{α:Type}(xs:Array α)(p:Nat)(x:α)(hp:p<=xs.size):(SetTable.insertAt xs p x).size=xs.size+1:=by unfold SetTable.insertAt;simp only[Array.size_append,Array.size_push,Array.size_extract];omega
theorem jak{α:Type}(xs:Array α)(p:Nat)(x:α):(SetTable.insertAt xs p x).toList=xs.toList.take p++[x]++xs.toList.drop p:=by unfold SetTable.insertAt;simp[Array.toList_extract,List.extract];rw[List.take_of_length_le (by simp)]
theorem Qp(xs:Array Nat)(p x i:Nat)(hp:p<=xs.size):(SetTable.insertAt xs p x).getD i 0=if i<p then xs.getD i 0 else if i=p then x else xs.getD (i-1) 0:=by
 have e:=jak xs p x;have g:∀(ys:Array Nat) (k:Nat),ys.getD k 0=ys.toList.getD k 0:=fun ys k=>by simp[Array.getD_eq_getD_getElem?,Y6]
 rw[g,e,g,g];simp only[Y6];have hl:(xs.toList.take p).length=p:=by simp;omega
 split
 . rename_i h;rw[List.append_assoc,YI (by omega),List.getElem?_take_of_lt h]
 . split
   . rename_i h1 h2;subst h2;rw[List.append_assoc,YC (by omega)];simp[hl]
   . rename_i h1 h2;rw[YC (by simp;omega),List.getElem?_drop];simp only[YS,hl,Yt,Y1];rw[show p+(i-(p+(0+1)))=i-1 by omega]
theorem jdG{xs:Array Nat}{j:Nat}(R:Ris xs)(hn:xs[SetTable.below xs j]?≠some j):Ris (SetTable.insertAt xs (SetTable.below xs j) j):=by
 obtain⟨b1,b2,b3⟩:=jbj (j:=j) R;generalize SetTable.below xs j=p at *
 intro a b hab hb;rw[jbq _ _ _ b1]at hb;rw[Qp _ _ _ _ b1,Qp _ _ _ _ b1];have hp:p<xs.size->j<xs.getD p 0:=fun h=>by
  have h1:=b3 p (Yw _) h;have h2:xs.getD p 0≠j:=fun z=>hn (by rw[YE h];simp[Array.getD,h]at z;rw[z])
  omega
 have mono:∀c,p<=c->c<xs.size->j<xs.getD c 0:=fun c h1 h2=>by
  rcases YT p c with q | q
  . have:=R p c q h2;have:=hp (by omega);omega
  . have:c=p:=by omega
    subst this;exact hp h2
 split <;> split <;> (try split) <;> (try split);all_goals first
  | (rename_i h1 h2;exact R a b hab (by omega))
  | skip
 all_goals first
  | omega
  | (apply R;omega;omega)
  | (rename_i h1 h2 h3;exact b2 a h1)
  | skip
 all_goals first
  | (exact b2 _ (by omega))
  | (exact mono _ (by omega) (by omega))
  | (exact yK (b2 _ (by omega)) (mono _ (by omega) (by omega)))
  | skip
theorem Qj(n:Nat):Ris (Array.range n):=by intro i j h1 h2;rw[Array.size_range]at h2;simp[Array.getD,h2,show i<n by omega];exact h1
theorem ZC(f:Nat->Option Nat):∀(l:List Nat),((l.filterMap fun j=>(f j).map (j,·)).map (·.1)).Sublist l
 | []=>by simp
 | a::l=>by
   rw[yU];cases e:f a with
   | none=>exact(ZC f l).cons a
   | some b=>exact(ZC f l).cons₂ a
theorem jag{l:List Nat}(h:l.Pairwise (· < ·)):Ris l.toArray:=by
 intro i j h1 h2;have h2':j<l.length:=by simpa using h2
 have:=(List.pairwise_iff_getElem.mp h) i j (by omega) h2' h1;simp[Array.getD,h2',show i<l.length by omega];exact this
theorem jg7{mask finger moves:Nat}{led plain:Bool}{hs:Array Int}{t:SetTable}{o:Array Nat}(h:SetTable.laid mask finger moves led plain hs=some (t,o)):Ris t.place/\t.led=led/\t.plain=plain:=by
 unfold SetTable.laid at h;cases e:SetTable.layClean mask hs with
 | none=>rw[e]at h;cases h
 | some ow=>rw[e]at h;have h':=Option.some.inj h;have h1:=congrArg (·.1) h';dsimp only at h1;subst h1;refine⟨?_,rfl,rfl⟩;dsimp only;refine jag ?_;exact(List.pairwise_lt_range).sublist (ZC (fun j=>ow.getD j none) (List.range (mask+1)))
end L2S
set_option maxHeartbeats 4000000
namespace L2
open PySem PySem.Spec PyProof.Rows
abbrev zI(h:Heap)(z TI TO a:Addr)(f:Bool):Prop:=h.get? z=some { cls:=.type "zip",dict:=none,data:=.fields #[rawInt a,.bool f,.bool false,.ref TI,.ref TO],slots:=#[] }
section
variable{prog:Program}{w:World}{A:Around}{E:Value->Shared->Prop}{s:Shared}
theorem ltN{h:Heap}{b:Addr}{o:Obj}(e:h.get? b=some o):@LT.lt Nat instLTNat b h.objs.size:=Yz e
theorem jgB{a:Addr}{o:Obj}{Q:Option Obj->Shared->Prop}(ho:s.heap.get? a=some o)(h:Q (some o) s):wpAny (model prog w) A (loadIfAlive a) Q E s:=by
 have q:Q (s.heap.get? a) s:=by rw[ho];exact h
 exact fun _ _ _=>q
theorem jaW{z TI TO a:Addr}{f:Bool}{oa:Obj}{Q:Bool->Shared->Prop}(hz:zI s.heap z TI TO a f)(ha:s.heap.get? a=some oa)
 (hQ:∀h',zI h' z TI TO a true->Heap.SameBut z s.heap h'->Q false { s with heap:=h' }):wpAny (model prog w) A (Builtin.SmallTypes.ownedTupleIsFree (.ref z)) Q E s:=by
 unfold Builtin.SmallTypes.ownedTupleIsFree;refine QB (Kz hz rfl (x:=rawInt a) rfl ?_);show wpAny _ _ (loadIfAlive ((a:Int).toNat) >>= _) _ _ _;rw[Yv];refine QB (jgB ha ?_);simp only[Option.isNone_some,YX,yC];refine QB (Kz hz rfl (x:=.bool f) rfl ?_);cases f with
 | true=>rw[YJ (show ¬((Value.bool true != Value.bool true)=true)from Ym)];exact Yj (hQ s.heap hz (Heap.SameBut.refl _ _))
 | false=>rw[Ys (show(Value.bool false != Value.bool true)=true from rfl)];refine QB (yh hz (by simp) fun h' hz' hs'=>?_);exact Yj (hQ h' hz' hs')
theorem jbt{z TI TO i1 i2 l1 l2 a:Addr}{f:Bool}{oa:Obj}{k1 k2:Nat}{xs ys:Array Value}{x y:Value}{Q:Option Value->Shared->Prop}(D:ZipApart z TI TO i1 i2 l1 l2)
 (hz:zI s.heap z TI TO a f) (ha:s.heap.get? a=some oa) (hTI:IsPair s.heap TI (.ref i1) (.ref i2))
 (h1:s.heap.IsListIter i1 l1 k1) (h2:s.heap.IsListIter i2 l2 k2) (hl1:s.heap.IsList l1 xs) (hl2:s.heap.IsList l2 ys) (hx:xs[k1]?=some x) (hy:ys[k2]?=some y)
 (hQ:∀h',zI h' z TI TO a true->h'.IsListIter i1 l1 (k1+1)->h'.IsListIter i2 l2 (k2+1)->IsPair h' s.heap.objs.size x y->h'.objs.size=s.heap.objs.size+1->
  (∀c o,c≠z->c≠i1->c≠i2->s.heap.get? c=some o->h'.get? c=some o)->Q (some (.ref s.heap.objs.size)) { s with heap:=h' }) :
 wpAny (model prog w) A (pyNext (.ref z)) Q E s:=by
 have hT:s.TypeIs (.ref z) "zip":=⟨_,hz,rfl⟩;unfold pyNext;refine QB (wpAny_attempt (yR (name:=Str.ofString "__next__") hT KC (yV KC hT F.entry_zip_next ?_ (F.args_zip_next_1 _))));show wpAny _ _ (field (.ref z) 2 >>= _) _ _ _;refine QB (Kz hz rfl (x:=.bool false) rfl ?_);show wpAny _ _ (field (.ref z) 3 >>= _) _ _ _;refine QB (Kz hz rfl (x:=.ref TI) rfl ?_);refine QB (Kt hTI rfl ?_);show wpAny _ _ (Builtin.SmallTypes.ownedTupleIsFree (.ref z) >>= _) _ _ _;refine QB (jaW hz ha fun g1 hz1 s1=>?_);simp only[YX,yC];rw[<-Array.forIn_toList];simp only[List.forIn_cons,List.forIn_nil];refine QB (QB (QB (ye ?_)));show wpAny _ _ (Builtin.SmallTypes.nextOf (.ref i1) >>= _) _ _ _;refine QB (Kp (h1.extBut s1.extBut D.i1z) (hl1.extBut s1.extBut D.l1z) hx fun g2 p2 s2=>Yj (Yj ?_));refine QB (QB (ye ?_));show wpAny _ _ (Builtin.SmallTypes.nextOf (.ref i2) >>= _) _ _ _;refine QB (Kp ((h2.extBut s1.extBut D.i2z).extBut s2.extBut D.i12.symm) ((hl2.extBut s1.extBut D.l2z).extBut s2.extBut D.l2i1) hy fun g3 p3 s3=>Yj (Yj (Yj ?_)));dsimp only;refine QB (wpAny_newTuple (hsz:=by show 2<=sizeLine;decide) ?_);have hsz:g3.objs.size=s.heap.objs.size:=by rw[s3.1,s2.1,s1.1]
 have hz3:zI g3 z TI TO a true:=s3.extBut _ _ D.i2z.symm (s2.extBut _ _ D.i1z.symm hz1);refine Yj ⟨_,rfl,Yj ?_⟩;show Q (some (.ref g3.objs.size)) _;rw[hsz];refine hQ _ (Yk _ hz3) ((p2.extBut s3.extBut D.i12).at fun o e=>Yk _ e) (p3.at fun o e=>Yk _ e) ?_ (by rw[Y9,hsz]) fun c o c1 c2 c3 e=>Yk _ (s3.extBut _ _ c3 (s2.extBut _ _ c2 (s1.extBut _ _ c1 e)));rw[<-hsz];exact YA _ rfl
theorem jcc{z TI TO i1 i2 l1 l2 a:Addr}{f:Bool}{oa:Obj}{k1 k2:Nat}{xs ys:Array Value}{Q:Option Value->Shared->Prop}(hh:A.handled=none)(D:ZipApart z TI TO i1 i2 l1 l2)
 (hz:zI s.heap z TI TO a f) (ha:s.heap.get? a=some oa) (hTI:IsPair s.heap TI (.ref i1) (.ref i2))
 (h1:s.heap.IsListIter i1 l1 k1) (h2:s.heap.IsListIter i2 l2 k2) (hl1:s.heap.IsList l1 xs) (hl2:s.heap.IsList l2 ys) (hend:xs[k1]?=none\/ys[k2]?=none)
 (hQ:∀h',(∀c o,c≠z->c≠i1->c≠i2->s.heap.get? c=some o->h'.get? c=some o)->Q none { s with heap:=h' }):wpAny (model prog w) A (pyNext (.ref z)) Q E s:=by
 have hT:s.TypeIs (.ref z) "zip":=⟨_,hz,rfl⟩;have stop:∀(h':Heap) (e:Addr),(∀c o,c≠z → c≠i1 → c≠i2 → s.heap.get? c=some o → h'.get? c=some o) → (∃o,h'.get? e=some o ∧ o.cls=.type "StopIteration") →
  wpAny (model prog w) A (do let b ← isInstance (.ref e) (.type "StopIteration");if b=true then pure none else throw (.ref e)) Q E { s with heap:=h' }:=by
  rintro h' e hk ⟨o,ho,hc⟩;refine QB (wpAny_isInstance (T := "StopIteration") (b:=true) ⟨o,ho,hc⟩ isSubtype_stop ?_);exact Yj (hQ _ hk)
 unfold pyNext;refine QB (wpAny_attempt (yR (name:=Str.ofString "__next__") hT KC (yV KC hT F.entry_zip_next ?_ (F.args_zip_next_1 _))));show wpAny _ _ (field (.ref z) 2 >>= _) _ _ _;refine QB (Kz hz rfl (x:=.bool false) rfl ?_);show wpAny _ _ (field (.ref z) 3 >>= _) _ _ _;refine QB (Kz hz rfl (x:=.ref TI) rfl ?_);refine QB (Kt hTI rfl ?_);show wpAny _ _ (Builtin.SmallTypes.ownedTupleIsFree (.ref z) >>= _) _ _ _;refine QB (jaW hz ha fun g1 hz1 s1=>?_);simp only[YX,yC];rw[<-Array.forIn_toList];simp only[List.forIn_cons,List.forIn_nil];refine QB (QB (QB (ye ?_)));show wpAny _ _ (Builtin.SmallTypes.nextOf (.ref i1) >>= _) _ _ _;cases hx:xs[k1]? with
 | none=>exact QB (wpAny_nextOf_list_end hh (h1.extBut s1.extBut D.i1z) (hl1.extBut s1.extBut D.l1z) hx fun g2 e s2 he=>stop g2 e (fun c o c1 c2 c3 q=>s2 _ _ c2 (s1.extBut _ _ c1 q)) he)
 | some x=>
   have hy:ys[k2]?=none:=by
    rcases hend with q | q
    . rw[hx]at q;cases q
    . exact q
   refine QB (Kp (h1.extBut s1.extBut D.i1z) (hl1.extBut s1.extBut D.l1z) hx fun g2 p2 s2=>Yj (Yj ?_));refine QB (QB (ye ?_));show wpAny _ _ (Builtin.SmallTypes.nextOf (.ref i2) >>= _) _ _ _;exact QB (wpAny_nextOf_list_end hh ((h2.extBut s1.extBut D.i2z).extBut s2.extBut D.i12.symm) ((hl2.extBut s1.extBut D.l2z).extBut s2.extBut D.l2i1) hy fun g3 e s3 he=>stop g3 e (fun c o c1 c2 c3 q=>s3 _ _ c3 (s2.extBut _ _ c2 (s1.extBut _ _ c1 q))) he)
theorem Z7{R:Result->Shared->Prop}{S I:Addr}{res:Value}(St:Nat->Array Value->Shared->Prop)
 (turn:∀n tw s,St n tw s->tw.size<sizeLine/\wpAny (model prog w) A.in1 (pyNext (.ref I)) (fun r s'=>match r with
  | none=>R (.ok (.ret res)) s'
  | some v=>(∃c,s'.heap.get? S=some { cls:=.type "list",data:=.seq tw c }) ∧
      ∀h' c',h'.get? S=some { cls:=.type "list",data:=.seq (tw.push v) c' } → Heap.SameBut S s'.heap h' → ∃m,m<n ∧ St m (tw.push v) { s' with heap:=h' }) (fun e s'=>R (.error e) s') s) :
 ∀n tw s,St n tw s → codeAny (model prog w) A (.builtin "list.extend.loop" ⟨[.ref S,.ref I,res],[]⟩) R s:=by
 intro n;induction n using Nat.strongRecOn with
 | ind n ih=>
   intro tw s hs;obtain⟨hz,t⟩:=turn n tw s hs;refine yM F.entry_extend_loop ?_;rw[yB KD _];show wpAny _ A.in1 (pyNext (.ref I) >>= _) _ _ s;refine QB (yp t (fun r s' q=>?_) fun _ _ q=>q);cases r with
   | none=>exact Yj q
   | some v=>obtain⟨⟨c,e⟩,q⟩:=q;show wpAny _ A.in1 (updateSeq S (·.push v) >>= _) _ _ _;refine QB ?_;refine yX e rfl (Yj ⟨y7 KD _,?_⟩) (by omega) (by show(tw.push v).size<=sizeLine+1;rw[Array.size_push];omega);have e2:=Y3 (Obj.mapSeq (·.push v)) e rfl;obtain⟨m,hm,hs'⟩:=q _ _ e2 (Heap.SameBut.update ..);exact ih m hm _ _ hs'
theorem jd4:typeLookup (.type "zip") "__len__"=pure none:=by rw[typeLookup_type,Kv];kernel_rfl
theorem jcN:typeLookup (.type "zip") "__length_hint__"=pure none:=by rw[typeLookup_type,Kv];kernel_rfl
theorem jgo{z TI TO:Addr}{f0:Value}{Q:Bool->Shared->Prop}(hz:IsZip s.heap z TI TO f0)(h:Q true s):wpAny (model prog w) A (Builtin.List.listLengthHint (.ref z)) Q E s:=by have hT:s.TypeIs (.ref z) "zip":=⟨_,hz,rfl⟩;unfold Builtin.List.listLengthHint;refine QB (wpAny_specialOf hT jd4 ?_);show wpAny _ _ (specialOf (Value.ref z) (Str.ofString "__length_hint__") >>= _) _ _ s;refine QB (wpAny_specialOf hT jcN ?_);exact Yj h
structure ZipMade(h₀ h:Heap)(S z TO i1 i2:Addr)(xs ys tw:Array Value)(i:Nat):Prop where
 size:tw.size=i
 pair:∀j,j<i->∃T x y,tw[j]?=some (.ref T)/\xs[j]?=some x/\ys[j]?=some y/\IsPair h T x y/\h₀.objs.size<=T/\T≠S/\(T≠z/\T≠TO/\T≠i1/\T≠i2)/\∀k,k<j->tw[k]?≠some (.ref T)
 keep:∀b o,h₀.get? b=some o->h.get? b=some o
theorem jf4{z TI TO i1 i2 l1 l2:Addr}{xs ys:Array Value}{h₀:Heap}{Q:Value->Shared->Prop}(hh:A.handled=none)(D:ZipApart z TI TO i1 i2 l1 l2)
 (hz:IsZip s.heap z TI TO .none) (hTI:IsPair s.heap TI (.ref i1) (.ref i2)) (hTO:∃a b,IsPair s.heap TO a b) (h1:s.heap.IsListIter i1 l1 0) (h2:s.heap.IsListIter i2 l2 0) (hl1:h₀.IsList l1 xs) (hl2:h₀.IsList l2 ys)
 (hk:∀b o,h₀.get? b=some o->s.heap.get? b=some o) (hge:h₀.objs.size<=z/\h₀.objs.size<=TO/\h₀.objs.size<=i1/\h₀.objs.size<=i2) (hle:h₀.objs.size<=s.heap.objs.size) (hn:xs.size<sizeLine)
 (hQ:∀S h' tw c,h₀.objs.size ≤ S → h'.get? S=some { cls:=.type "list",data:=.seq tw c } → ZipMade h₀ h' S z TO i1 i2 xs ys tw (min xs.size ys.size) → Q (.ref S) { s with heap:=h' }) :
 wpAny (model prog w) A (call (.type "list") [.ref z]) Q E s:=by
 refine callType_codes (Q₁:=fun obj s₁=>obj=.ref s.heap.objs.size ∧ s₁={ s with heap:=s.heap.push { cls:=.type "list",data:=.seq #[] } }) F.called_list (F.typeCall_list_1 _) F.entry_list_init (code_list_new _ ⟨rfl,rfl⟩) fun obj s₁ e₁=>?_;obtain⟨rfl,rfl⟩:=e₁;generalize hSd:s.heap.objs.size=S at *
 have hS:(s.heap.push { cls:=.type "list",data:=.seq #[] }).get? S=some { cls:=.type "list",data:=.seq #[] }:=by rw[← hSd];exact YA _ rfl
 refine⟨⟨_,hS,rfl⟩,F.args_list_init_2 _ _,?_⟩;generalize hG:s.heap.push { cls:=.type "list",data:=.seq #[] }=G at *
 have up:∀b o,s.heap.get? b=some o->G.get? b=some o:=fun b o e=>by rw[<-hG];exact Yk _ e
 have nS:∀b o,s.heap.get? b=some o->b≠S:=fun b o e=>by rw[<-hSd];exact Yx (Yz e)
 obtain⟨ta,tb,hTO⟩:=hTO;obtain⟨oi1,ei1,_⟩:=id h1;obtain⟨oi2,ei2,_⟩:=id h2;have zS:=nS _ _ hz;have i1S:=nS _ _ ei1;have i2S:=nS _ _ ei2;have TIS:=nS _ _ hTI;have TOS:=nS _ _ hTO;have zl:z<S:=by have q:=ltN hz;rw[hSd]at q;exact q
 have TOl:TO<S:=by have q:=ltN hTO;rw[hSd]at q;exact q
 have i1l:i1<S:=by have q:=ltN ei1;rw[hSd]at q;exact q
 have i2l:i2<S:=by have q:=ltN ei2;rw[hSd]at q;exact q
 -- the list is emptied, then filled
 show wpAny _ _ (do let old <- Builtin.List.listItems (.ref S);Builtin.List.listUpdate (.ref S) (fun _=>#[]);letGo old.toList.reverse;Builtin.List.listExtendWith (.ref S) (.ref z) .none) _ _ _;refine QB ?_;unfold Builtin.List.listItems;refine QB (Kt hS rfl (Yj ?_));show wpAny _ _ (updateSeq S (fun _=>#[]) >>= fun _=>letGo (#[]:Array Value).toList.reverse >>= fun _=>Builtin.List.listExtendWith (.ref S) (.ref z) .none) _ _ _;refine QB (yX hS rfl ?_);have hS2:=Y3 (Obj.mapSeq (fun _=>(#[]:Array Value))) hS rfl;refine QB (wpAny_letGo ?_);have sb1:Heap.SameBut S G (G.update S (Obj.mapSeq fun _=>(#[]:Array Value))):=Heap.SameBut.update ..
 generalize G.update S (Obj.mapSeq fun _=>(#[]:Array Value))=G1 at hS2 sb1 ⊢;have up1:∀b o,s.heap.get? b=some o->G1.get? b=some o:=fun b o e=>sb1.extBut b o (nS b o e) (up b o e);unfold Builtin.List.listExtendWith;refine QB (wpAny_typeOf (T := "zip") ⟨_,up1 _ _ hz,rfl⟩ ?_);have hsr:Builtin.List.listSameRef (.ref S) (.ref z)=false:=by simp[Builtin.List.listSameRef,Ne.symm zS]
 have t1:(Value.type "zip" == Value.type "list")=false:=by decide
 have t2:(Value.type "zip" == Value.type "tuple")=false:=by decide
 simp only[hsr,t1,t2,Bool.or_false,YX,yC];refine QB (wpAny_pyIter_zip (up1 _ _ hz) ?_);refine QB (ye (jgo (up1 _ _ hz) ?_));simp only[Bool.true_or,yq];refine QB (wpAny_rule ?_);refine QB ?_;show wpAny _ _ (updateSeq S (·.push .none) >>= fun _=>updateSeq S (·.pop)) _ _ _;refine QB (yX hS2 rfl ?_);have hS3:=Y3 (Obj.mapSeq (·.push Value.none)) hS2 rfl;have sb2:Heap.SameBut S G1 (G1.update S (Obj.mapSeq (·.push Value.none))):=Heap.SameBut.update ..
 generalize G1.update S (Obj.mapSeq (·.push Value.none))=G2 at hS3 sb2 ⊢;refine yX (hz:=by seq_fits) hS3 rfl ?_;have hS4:=Y3 (Obj.mapSeq (·.pop)) hS3 rfl;have sb3:Heap.SameBut S G2 (G2.update S (Obj.mapSeq (·.pop))):=Heap.SameBut.update ..
 generalize G2.update S (Obj.mapSeq (·.pop))=G3 at hS4 sb3 ⊢;have up3:∀b o,s.heap.get? b=some o->G3.get? b=some o:=fun b o e=>sb3.extBut b o (nS b o e) (sb2.extBut b o (nS b o e) (up1 b o e));refine Yj ⟨y7 KD _,?_⟩;refine Z7 (fun n tw s'=>∃(i c:Nat) (h:Heap),s'={ s with heap:=h } ∧ n=xs.size+1-i ∧ i ≤ xs.size ∧ i ≤ ys.size ∧ ZipMade h₀ h S z TO i1 i2 xs ys tw i ∧ h.get? S=some { cls:=.type "list",data:=.seq tw c } ∧ IsPair h TI (.ref i1) (.ref i2) ∧
  h.IsListIter i1 l1 i/\h.IsListIter i2 l2 i/\h₀.objs.size<=h.objs.size/\((IsZip h z TI TO .none/\∃a b,IsPair h TO a b)\/∃a f oa,zI h z TI TO a f/\h.get? a=some oa/\a≠z/\a≠i1/\a≠i2/\a≠S)) ?_ (xs.size+1) #[] _
  ⟨0,_,G3,rfl,by omega,yY _,yY _,⟨rfl,fun j hj=>absurd hj (Nat.not_lt_zero _),fun b o e=>up3 b o (hk b o e)⟩,hS4,up3 _ _ hTI,h1.at fun o e=>up3 _ o e,h2.at fun o e=>up3 _ o e,
   by rw[sb3.1,sb2.1,sb1.1,<- hG,Y9];omega,.inl ⟨up3 _ _ hz,_,_,up3 _ _ hTO⟩⟩
 rintro n tw s' ⟨i,c,h,rfl,rfl,hix,hiy,M,hSl,pTI,p1,p2,hsz,zs⟩;have hb0:∀{b:Addr} {o:Obj},h₀.get? b=some o->b≠z/\b≠TO/\b≠i1/\b≠i2/\b≠S:=fun{b o} e=>by have q:=ltN e;exact⟨Yx (Ye q hge.1),Yx (Ye q hge.2.1),Yx (Ye q hge.2.2.1),Yx (Ye q hge.2.2.2),Yx (Ye q hle)⟩
 have hl1':h.IsList l1 xs:=hl1.at fun o e=>M.keep _ o e;have hl2':h.IsList l2 ys:=hl2.at fun o e=>M.keep _ o e;obtain⟨ol1,el1,_⟩:=id hl1;obtain⟨ol2,el2,_⟩:=id hl2;refine⟨by rw[M.size];omega,?_⟩;have ltS:S<h.objs.size:=ltN hSl
 -- behind a pair
 have next:∀(h':Heap) (x y:Value) (a:Addr) (f:Bool) (oa:Obj),xs[i]?=some x->ys[i]?=some y->IsPair h' h.objs.size x y->h'.objs.size=h.objs.size+1->zI h' z TI TO a f->h'.get? a=some oa->a≠z->a≠i1->a≠i2->a≠S->
  h'.IsListIter i1 l1 (i+1)->h'.IsListIter i2 l2 (i+1)->(∀c o,c≠z->c≠TO->c≠i1->c≠i2->h.get? c=some o->h'.get? c=some o)->
  (∃c,h'.get? S=some { cls:=.type "list",data:=.seq tw c }) ∧
  ∀h'' c',h''.get? S=some { cls:=.type "list",data:=.seq (tw.push (.ref h.objs.size)) c' } → Heap.SameBut S h' h'' → ∃m,m<xs.size+1-i ∧ ∃(i' c:Nat) (g:Heap),({ s with heap:=h'' }:Shared)={ s with heap:=g } ∧ m=xs.size+1-i' ∧ i' ≤ xs.size ∧ i' ≤ ys.size ∧ ZipMade h₀ g S z TO i1 i2 xs ys (tw.push (.ref h.objs.size)) i' ∧
    g.get? S=some { cls:=.type "list",data:=.seq (tw.push (.ref h.objs.size)) c } ∧ IsPair g TI (.ref i1) (.ref i2) ∧ g.IsListIter i1 l1 i' ∧ g.IsListIter i2 l2 i' ∧ h₀.objs.size ≤ g.objs.size ∧
    ((IsZip g z TI TO .none/\∃a b,IsPair g TO a b)\/∃a f oa,zI g z TI TO a f/\g.get? a=some oa/\a≠z/\a≠i1/\a≠i2/\a≠S):=by
  intro h' x y a f oa hx hy pT hs' zh ea az a1 a2 aS q1 q2 kk;have hxl:i<xs.size:=by
   rcases YT i xs.size with q | q
   . exact q
   . rw[Y7 q]at hx;cases hx
  have hyl:i<ys.size:=by
   rcases YT i ys.size with q | q
   . exact q
   . rw[Y7 q]at hy;cases hy
  have TS:h.objs.size≠S:=yg ltS;refine⟨⟨c,kk _ _ (Ne.symm zS) (Ne.symm TOS) (Ne.symm i1S) (Ne.symm i2S) hSl⟩,fun h'' c' eS sb=>⟨xs.size+1-(i+1),by omega,i+1,c',h'',rfl,rfl,hxl,hyl,⟨by rw[Array.size_push,M.size],fun j hj=>?_,fun b o e=>?_⟩,eS,sb.extBut _ _ TIS (kk _ _ D.TIz D.TITO D.TIi1 D.TIi2 pTI),q1.extBut sb.extBut i1S,q2.extBut sb.extBut i2S,by rw[sb.1];omega,
   .inr ⟨a,f,oa,sb.extBut _ _ zS zh,sb.extBut _ _ aS ea,az,a1,a2,aS⟩⟩⟩
  . rcases YT j i with q | q
    . obtain⟨T',x',y',e1,e2,e3,e4,e5,e6,e8,e7⟩:=M.pair j q;have hT':=ltN e4;refine⟨T',x',y',by rw[Kf,YJ (by rw[M.size];omega)];exact e1,e2,e3,?_,e5,e6,e8,fun k hk'=>by rw[Kf,YJ (by rw[M.size];omega)];exact e7 k hk'⟩;obtain⟨t1',t2',t3',t4'⟩:=e8;exact sb.extBut _ _ e6 (kk _ _ t1' t2' t3' t4' e4)
    . have e:j=i:=by omega
      subst e;refine⟨h.objs.size,x,y,by rw[Kf,Ys M.size.symm],hx,hy,sb.extBut _ _ TS pT,hsz,TS,⟨yg (yK zl ltS),yg (yK TOl ltS),yg (yK i1l ltS),yg (yK i2l ltS)⟩,fun k hk'=>?_⟩;obtain⟨T',x',y',e1,e2,e3,e4,e5,e6,e8,e7⟩:=M.pair k hk';have hT':=ltN e4;rw[Kf,YJ (by rw[M.size];omega),e1];intro z';have:T'=h.objs.size:=by injection z' with z';injection z'
      exact absurd this (Yx hT')
  . obtain⟨b1,b2,b3,b4,b5⟩:=hb0 e;exact sb.extBut _ _ b5 (kk _ _ b1 b2 b3 b4 (M.keep b o e))
 have none_of:¬(i<xs.size/\i<ys.size)->(xs[i]?=none\/ys[i]?=none)/\i=min xs.size ys.size:=fun q=>by
  refine⟨?_,by omega⟩;rcases YT i xs.size with q1 | q1
  . exact .inr (Y7 (by omega))
  . exact .inl (Y7 q1)
 by_cases hij:i<xs.size/\i<ys.size
 . have hx:=YE hij.1;have hy:=YE hij.2;rcases zs with⟨zf,ta',tb',pTO⟩ | ⟨a,f,oa,zh,ea,az,a1,a2,aS⟩
   . refine wpAny_pyNext_zip_item D zf pTI pTO p1 p2 hl1' hl2' hx hy fun h' r1 r2 r3 r4 r5 r6 r7=>?_;exact next h' _ _ _ false _ hx hy r5 r6 r1 r5 (yg (yK zl ltS)) (yg (yK i1l ltS)) (yg (yK i2l ltS)) (yg ltS) r3 r4 r7
   . refine jbt D zh ea pTI p1 p2 hl1' hl2' hx hy fun h' r1 r3 r4 r5 r6 r7=>?_;exact next h' _ _ a true oa hx hy r5 r6 r1 (r7 _ _ az a1 a2 ea) az a1 a2 aS r3 r4 fun c o c1 _ c3 c4 e=>r7 c o c1 c3 c4 e
 . obtain⟨he,hm⟩:=none_of hij;have fin:∀h':Heap,(∀c o,c≠z->c≠TO->c≠i1->c≠i2->h.get? c=some o->h'.get? c=some o)->wants (fun r s₂=>r=Value.none/\Q (.ref S) s₂) E (.ok (.ret .none)) { s with heap:=h' }:=fun h' kk=>by
    refine⟨rfl,hQ S h' tw c hle (kk _ _ (Ne.symm zS) (Ne.symm TOS) (Ne.symm i1S) (Ne.symm i2S) hSl) ⟨by rw[M.size,hm],fun j hj=>?_,fun b o e=>?_⟩⟩
    . obtain⟨T',x',y',e1,e2,e3,e4,e5,e6,e8,e7⟩:=M.pair j (by omega);exact⟨T',x',y',e1,e2,e3,kk _ _ e8.1 e8.2.1 e8.2.2.1 e8.2.2.2 e4,e5,e6,e8,e7⟩
    . obtain⟨b1,b2,b3,b4,b5⟩:=hb0 e;exact kk _ _ b1 b2 b3 b4 (M.keep b o e)
   rcases zs with⟨zf,ta',tb',pTO⟩ | ⟨a,f,oa,zh,ea,az,a1,a2,aS⟩
   . exact wpAny_pyNext_zip_end hh D zf pTI pTO p1 p2 hl1' hl2' he fun h' kk=>fin h' kk
   . exact jcc hh D zh ea pTI p1 p2 hl1' hl2' he fun h' kk=>fin h' fun c o c1 _ c3 c4 e=>kk c o c1 c3 c4 e
end
end L2
namespace L2S
open PySem PySem.Spec PyProof.Rows
def Ze(t:SetTable)(j:Nat):Prop:=t.place[SetTable.below t.place j]?≠some j
theorem jbd{t:SetTable}{j:Nat}(h:∀i,t.slot j≠.live i):Ze t j:=by intro q;refine h (SetTable.below t.place j) ?_;unfold SetTable.slot;simp[q]
theorem QR{t:SetTable}{f:Nat->Int}{h:Int}:∀(fuel:Nat) (p:SetTable.Probe) (j:Nat) (d:Option Nat),(∀x,p.dummy=some x->Ze t x)->SetTable.probe.go t f h fuel p=some (.empty j d)->Ze t j/\∀x,d=some x->Ze t x
 | 0,p,j,d,_,e=>by unfold SetTable.probe.go at e;cases e
 | fuel+1,p,j,d,hp,e=>by
   unfold SetTable.probe.go at e;have adv:∀q:SetTable.Probe,(t.advance q).dummy=q.dummy:=fun q=>by unfold SetTable.advance;split <;> rfl
   cases hs:t.slot p.j with
   | empty=>rw[hs]at e;have e':=Option.some.inj e;injection e' with e1 e2;subst e1 e2;exact⟨jbd (fun i z=>by rw[hs]at z;cases z),hp⟩
   | dummy=>rw[hs]at e;refine QR fuel _ j d (fun x hx=>?_) e;rw[adv]at hx;have hx':p.j=x:=Option.some.inj hx;subst hx';exact jbd fun i z=>by rw[hs]at z;cases z
   | live i=>
     rw[hs]at e;dsimp only at e;split at e
     . cases e
     . exact QR fuel _ j d (fun x hx=>by rw[adv]at hx;exact hp x hx) e
theorem jdr{t:SetTable}{h:Int}{j:Nat}{b:Bool}(e:t.freeSlot h=some (j,b)):Ze t j:=by
 unfold SetTable.freeSlot at e;split at e
 . rename_i j' d hp;have q:=QR _ _ _ _ (fun x hx=>by cases hx) hp;have e':=congrArg Prod.fst (Option.some.inj e);dsimp only at e';subst e';cases d with
   | none=>exact q.1
   | some x=>exact q.2 x rfl
 . cases e
theorem jec{t:SetTable}(es:Array (Int×Value))(h:Int)(x:Value)(R:Ris t.place):Ris (layNew t es h x).2.1.place/\(layNew t es h x).2.1.led=t.led:=by
 unfold layNew;split
 . rename_i j wd e;dsimp only;unfold SetTable.orStandIn;split
   . exact⟨jdG R (jdr e),rfl⟩
   . exact⟨Qj _,rfl⟩
 . exact⟨Qj _,rfl⟩
theorem jcz{t:SetTable}(es:Array (Int×Value))(n:Nat):Ris (relayAll t es n).2.1.place/\(relayAll t es n).2.1.led=t.led:=by
 unfold relayAll;split
 . rename_i t' o e;dsimp only;split
   . have q:=jg7 e;exact⟨q.1,q.2.1⟩
   . exact⟨Qj _,rfl⟩
 . exact⟨Qj _,rfl⟩
theorem QL{α:Type}:∀{l:List α} {i:Nat} (h:i<l.length),(l[i]::l.eraseIdx i).Perm l
 | a::l,0,_=>.rfl
 | a::l,i+1,h=>by have ih:=QL (l:=l) (i:=i) (by simpa using h);rw[List.eraseIdx_cons_succ,List.getElem_cons_succ];exact(List.Perm.swap _ _ _).trans (ih.cons a)
theorem jeS{α:Type}(next:Nat->Nat):∀(fuel k:Nat) (left:List α) (out:Array α),left.length<=fuel->(pickOrder.go next fuel k left out).toList.Perm (out.toList++left)
 | 0,k,left,out,h=>by have:left=[]:=Ko.mp (by omega);subst this;unfold pickOrder.go;simp
 | fuel+1,k,left,out,h=>by
   unfold pickOrder.go;cases left with
   | nil=>simp
   | cons a l=>
     have hlt:next k%(a::l).length<(a::l).length:=Nat.mod_lt _ (by simp)
     rw[Ya hlt];dsimp only;refine(jeS next fuel (k+1) _ _ ?_).trans ?_
     . rw[List.length_eraseIdx_of_lt hlt];simp at h ⊢;omega
     . rw[Array.toList_push,List.append_assoc];refine List.Perm.append_left _ ?_;exact(QL hlt)
theorem jfr{α:Type}(next:Nat->Nat)(xs:Array α):(pickOrder next xs).toList.Perm xs.toList:=by
 have:=jeS next xs.size 0 xs.toList #[] (by simp)
 simpa[pickOrder]using this
section
variable{prog:Program}{w:World}{A:Around}{E:Value->Shared->Prop}{s:Shared}
theorem jfv{src:Source}{n:Nat}{Q:Nat->Shared->Prop}(hn:n≠0)(h:∀i d,i<n->Q i { s with drawn:=d }):wpAny (model prog w) A (choose src n) Q E s:=fun _ _ _=>⟨hn,h _ _ (Nat.mod_lt _ (Nat.pos_of_ne_zero hn))⟩
theorem jep{α:Type}:∀(n:Nat) (xs:List α) (s:Shared) {Q:List α->Shared->Prop},n=xs.length->(∀ys d,ys.Perm xs->Q ys { s with drawn:=d })->wpAny (model prog w) A (drawOrder n xs) Q E s
 | 0,xs,s,Q,hn,h=>by have:xs=[]:=Ko.mp hn.symm;subst this;unfold drawOrder;exact Yj (h [] s.drawn .rfl)
 | n+1,[],s,Q,hn,h=>by simp at hn
 | n+1,x::xs,s,Q,hn,h=>by unfold drawOrder;refine QB (jfv (by simp) fun i d hi=>?_);rw[Ya hi];dsimp only;refine QB (jep n ((x::xs).eraseIdx i) _ (by rw[List.length_eraseIdx_of_lt hi];omega) fun ys d' hp=>Yj ?_);exact h _ d' (((List.Perm.cons _ hp)).trans (QL hi))
def jcy:Value->Int
 | .int k _=>k
 | _=>0
def Ql(prog:Program)(w:World)(h:Heap)(a:Addr)(ns:List Int):Prop:=
 ∃o es ep t,h.get? a=some o/\o.ExactSet/\o.data=.set es ep t/\ElemsOf (intKind prog w) es.toList/\(∀k,k∈ns ↔ ∃e∈es.toList,(intKind prog w).is k e.2=true)/\t.fits es.size=true/\es.size<=ns.length /\
   (es.toList.map fun e=>jcy e.2).Nodup ∧ Ris t.place ∧ (w.params.followText "set-order"=false → t.led=true)
theorem QZ{es:List (Int×Value)}(h:ElemsOf (intKind prog w) es){e:Int×Value}(he:e∈es):∃k t,e.2=.int k t:=by obtain⟨⟨k,hk,_⟩,_⟩:=h e he;obtain⟨t,q⟩:=Value.isInt_shape (k:=k) (v:=e.2) hk;exact⟨k,t,q⟩
theorem is_int{k j:Int}{t:Tok}:(intKind prog w).is k (.int j t)=true ↔ k=j:=by
 constructor
 . intro h;obtain⟨t',e⟩:=Value.isInt_shape (k:=k) (v:=.int j t) h;injection e with e1 _;exact e1.symm
 . rintro rfl;exact intKind_is _ _ _ _
theorem jeK{b:Bool}{Q:Unit → Shared → Prop}(h:Q () s):wpAny (model prog w) A (match b with | true=>rule "set.scan.the-table-gave-way" | false=>pure ()) Q E s:=by
 cases b
 . exact Yj h
 . exact wpAny_rule h
theorem jfX{a:Addr}{o:Obj}{es es':Array (Int×Value)}{ep:Nat}{t t':SetTable}{ns:List Int}{h:Heap}(ho:h.get? a=some o)(hex:o.ExactSet)(hd:o.data=.set es ep t)(h1:ElemsOf (intKind prog w) es'.toList)
 (h2:∀k,k∈ns ↔ ∃e∈es'.toList,(intKind prog w).is k e.2=true) (h3:t'.fits es'.size=true) (h4:es'.size ≤ ns.length) (h5:(es'.toList.map fun e=>jcy e.2).Nodup) (h6:Ris t'.place) (h7:w.params.followText "set-order"=false → t'.led=true) :
 (h.update a (Obj.putSet es' t')).get? a=some { o with data:=.set es' (ep+1) t' }/\Ql prog w (h.update a (Obj.putSet es' t')) a ns:=by
 have e:(h.update a (Obj.putSet es' t')).get? a=some { o with data:=.set es' (ep+1) t' }:=by
  have q:=Y3 (Obj.putSet es' t') ho (by rw[putSet_of es' t' hd];rfl)
  rwa [putSet_of es' t' hd]at q
 exact⟨e,_,es',ep+1,t',e,hex,rfl,h1,h2,h3,h4,h5,h6,h7⟩
theorem jlk{a:Addr}{ns:List Int}{k:Int}{tk:Tok}{Q:Bool->Shared->Prop}(hS:Ql prog w s.heap a ns)(hroom:ns.length+1<scanBound)
 (h:∀h' b,Heap.SameBut a s.heap h'->Ql prog w h' a (ns++[k])->Q b { s with heap:=h' }):wpAny (model prog w) A (setAddHashed a (.int k tk) ((intKind prog w).hash k)) Q E s:=by
 obtain⟨o,es,ep,t,ho,hex,hd,hel,hmem,hf,hle,hnd,hris,hled⟩:=hS;have hb:es.size<scanBound:=by omega
 have hkey:(intKind prog w).is k (.int k tk)=true:=intKind_is _ _ _ _;have hsc:(Value.int k tk).scannable=true:=rfl;unfold setAddHashed setAddHashedIn;refine ye (QB (Y4 ho hd hf ?_));dsimp only;rw[byScan_of hsc hb hel,Ys rfl];unfold setAddByScan;refine QB (QB (wpAny_rule (QB (wpAny_setScan_of hkey ho hd hf hel ?_))));cases hr:List.findIdx? (fun e=>(intKind prog w).is k e.2) es.toList with
 | some j=>
   dsimp only;obtain⟨hj,hpj,_⟩:=List.findIdx?_eq_some_iff_getElem.mp hr;have hk:k∈ns:=(hmem k).mpr ⟨es.toList[j],Kd hj,hpj⟩;refine Yj (Yj ?_);have:=h s.heap false (Heap.SameBut.refl a s.heap) ⟨o,es,ep,t,ho,hex,hd,hel,fun k'=>by rw[yj,YL,<- hmem k'];exact⟨fun z=>z.elim id fun e=>e ▸ hk,.inl⟩,hf,by rw[YS];omega,hnd,hris,hled⟩
   exact this
 | none=>
   dsimp only;have hno:∀e∈es.toList,(intKind prog w).is k e.2=false:=fun e he=>by have:=List.findIdx?_eq_none_iff.mp hr e he;simpa using this
   have hp:=layNew_perm t es ((intKind prog w).hash k) (.int k tk);have hfits:=layNew_fits t es ((intKind prog w).hash k) (.int k tk);have hR:=jec es ((intKind prog w).hash k) (.int k tk) hris;generalize layNew t es ((intKind prog w).hash k) (.int k tk)=L at hp hfits hR ⊢;obtain⟨es1,t1,wd,gave⟩:=L;dsimp only at hp hfits hR ⊢;rw[Array.toList_push]at hp;have hel1:ElemsOf (intKind prog w) es1.toList:=(hel.push hkey hsc).perm hp;have hmem1:∀k',k'∈ns++[k] ↔ ∃e∈es1.toList,(intKind prog w).is k' e.2=true:=fun k'=>by
    rw[yj,YL,hmem k'];constructor
    . rintro(⟨e,he,q⟩ | rfl)
      . exact⟨e,hp.mem_iff.mpr (yA _ he),q⟩
      . exact⟨_,hp.mem_iff.mpr (YH _ (YL.mpr rfl)),hkey⟩
    . rintro⟨e,he,q⟩;rcases yj.mp (hp.mem_iff.mp he)with he | he
      . exact .inl ⟨e,he,q⟩
      . rw[YL]at he;subst he;exact .inr (is_int.mp q)
   have hsz1:es1.size=es.size+1:=by rw[<-yf,hp.length_eq,YS,yf];rfl
   have hnd1:(es1.toList.map fun e=>jcy e.2).Nodup:=by refine((hp.map _).nodup_iff).mpr ?_;rw[yv,List.nodup_append];refine⟨hnd,by simp,fun x hx y hy=>?_⟩;rw[List.map_singleton,YL]at hy;rw[hy];obtain⟨e,he,rfl⟩:=yk.mp hx;obtain⟨j,tj,q⟩:=QZ hel he;have:=hno e he;rw[q]at this ⊢;intro z;have z':j=k:=z;rw[z',intKind_is]at this;cases this
   refine QB (jeK ?_);have tail:∀t2:SetTable,t2.fits es1.size=true->Ris t2.place->t2.led=t.led->wpAny (model prog w) A (do
       storeSet a es1 t2
       if (!wd && t2.tooFull)=true then do
           (match (relayAll t2 es1 (SetTable.grown es1.size)).2.2 with | true=>rule "set.scan.the-table-gave-way" | false=>pure ())
           storeSet a (relayAll t2 es1 (SetTable.grown es1.size)).1 (relayAll t2 es1 (SetTable.grown es1.size)).2.1
           pure (some true)
        else pure (some true)) (fun(x:Option Bool) s'=>∃h',x=some true/\s'={ s with heap:=h' }/\Heap.SameBut a s.heap h'/\Ql prog w h' a (ns++[k])) E s:=by
    intro t2 hf2 hr2 hl2;have hz1:es1.size<scanBound:=by omega
    refine QB (wpAny_storeSet_of ho hd ?_ (fits_of_scanBound hz1));obtain⟨ho1,hS1⟩:=jfX (prog:=prog) (w:=w) (ns:=ns++[k]) ho hex hd hel1 hmem1 hf2 (by rw[YS,hsz1];simp;omega) hnd1 hr2 (fun q=>hl2.trans (hled q));have sb:=Heap.SameBut.update s.heap a (Obj.putSet es1 t2);split
    . have hp2:=relayAll_perm t2 es1 (SetTable.grown es1.size);have hf3:=relayAll_fits t2 es1 (SetTable.grown es1.size);have hR2:=jcz (t:=t2) es1 (SetTable.grown es1.size);generalize relayAll t2 es1 (SetTable.grown es1.size)=L2 at hp2 hf3 hR2 ⊢;obtain⟨es2,t3,g2⟩:=L2;dsimp only at hp2 hf3 hR2 ⊢;have hsz2:es2.size=es1.size:=by rw[<-yf,hp2.length_eq,yf]
      refine QB (jeK ?_);refine QB (wpAny_storeSet_of ho1 rfl ?_ (fits_of_scanBound (by rw[hsz2];exact hz1)));obtain⟨_,hS2⟩:=jfX (prog:=prog) (w:=w) (ns:=ns++[k]) ho1 hex rfl (hel1.perm hp2) (fun k'=>(hmem1 k').trans ⟨fun⟨e,he,q⟩=>⟨e,hp2.mem_iff.mpr he,q⟩,fun⟨e,he,q⟩=>⟨e,hp2.mem_iff.mp he,q⟩⟩) hf3
       (by rw[YS,hsz2,hsz1];simp;omega) (((hp2.map _).nodup_iff).mpr hnd1) hR2.1 (fun q=>(hR2.2.trans hl2).trans (hled q))
      exact Yj ⟨_,rfl,rfl,sb.trans (Heap.SameBut.update _ a _),hS2⟩
    . exact Yj ⟨_,rfl,rfl,sb,hS1⟩
   have fin:∀(x:Option Bool) (s':Shared),(∃h',x=some true/\s'={ s with heap:=h' }/\Heap.SameBut a s.heap h'/\Ql prog w h' a (ns++[k]))->
       wpAny (model prog w) A (match x with | some added=>pure added | none=>setAddHashedIn a (.int k tk) ((intKind prog w).hash k) 99999) Q E s':=by
    rintro _ _ ⟨h',rfl,rfl,sb,hS'⟩;exact Yj (h h' true sb hS')
   split
   . rw[hashByValue_scannable 8 hsc];refine QB (Yj ?_);exact yp (tail t1 hfits hR.1 hR.2) fin fun _ _ q=>q
   . refine QB (Yj ?_);exact yp (tail t1 hfits hR.1 hR.2) fin fun _ _ q=>q
theorem jbu{R:Result->Shared->Prop}{S l I:Addr}{items:Array Value}{ns:List Int}(hh:A.handled=none)(hi:IntsAre items.toList ns)(hlI:l≠I)(hSl:S≠l)(hSI:S≠I)(hb:ns.length+1<scanBound):
 ∀(k i:Nat) (s:Shared),ns.length-i=k->i<=ns.length->s.heap.IsListIter I l i->s.heap.IsList l items->Ql prog w s.heap S (ns.take i)->
   (∀h' tk,(∀b o,b≠S->b≠I->s.heap.get? b=some o->h'.get? b=some o)->Ql prog w h' S ns->R (.ok (.ret .none)) { s with heap:=h',toks:=tk })->
   codeAny (model prog w) A (.builtin "set.update.loop" ⟨[.ref S,.ref I],[]⟩) R s:=by
 have tJ:items.size=ns.length:=by have:=hi.length;simpa using this
 have moveS:∀{h h':Heap} {m:List Int},Ql prog w h S m->(∀o,h.get? S=some o->h'.get? S=some o)->Ql prog w h' S m:=by rintro h h' m ⟨o,es,ep,t,ho,r⟩ hk;exact⟨o,es,ep,t,hk o ho,r⟩
 intro k;induction k with
 | zero=>
   intro i s hk hi' st hl hS hR;have e:i=ns.length:=by omega
   subst e;refine yM Ka ?_;rw[yB yE _];show wpAny _ A.in1 (pyNext (.ref I) >>= _) _ _ s;refine QB (wpAny_pyNext_list_end hh st hl (Y7 (by omega)) fun h' he=>?_);show wpAny _ A.in1 (ret Value.none) _ _ _;refine Yj (hR h' s.toks (fun b o _ b2 q=>he b o b2 q) (moveS (by rw[List.take_length]at hS;exact hS) fun o q=>he S o hSI q))
 | succ k ih=>
   intro i s hk hi' st hl hS hR;have hlt:i<ns.length:=by omega
   have hlt':i<items.size:=by omega
   obtain⟨tk,hv⟩:=IntsAre.int_at hi i items[i] (by rw[yw];exact YE hlt');refine yM Ka ?_;rw[yB yE _];show wpAny _ A.in1 (pyNext (.ref I) >>= _) _ _ s;refine QB (wpAny_pyNext_list_item st hl (x:=items[i]) (YE hlt') fun h1 st1 sb1=>?_);rw[hv];generalize hval:ns.getD i 0=v;show wpAny _ A.in1 (holding [Value.int v tk] (setAdd S (.int v tk)) >>= _) _ _ _;refine QB (ye ?_);unfold setAdd;refine ye (QB ((intKind prog w).pyHash (k:=v) (intKind_is _ _ _ _) ?_));have hS1:Ql prog w h1 S (ns.take i):=moveS hS fun o q=>sb1.extBut S o hSI q;refine jlk (s:={ s with heap:=h1,toks:=s.toks+1 }) hS1 (by rw[Kx];omega) fun h2 b sb2 hS2=>?_;have e2:ns.take i++[v]=ns.take (i+1):=by rw[List.take_succ,Ya hlt,<- hval,Y6,Ya hlt];rfl
   rw[e2]at hS2;refine Yj ⟨y7 yE _,ih (i+1) _ (by omega) hlt (st1.extBut sb2.extBut (Ne.symm hSI)) ((hl.extBut sb1.extBut hlI).extBut sb2.extBut (Ne.symm hSl)) hS2 fun h' tk' kk hS'=>?_⟩;exact hR h' tk' (fun b o b1 b2 q=>kk b o b1 b2 (sb2.extBut b o b1 (sb1.extBut b o b2 q))) hS'
theorem jfF(a:Value){Q₁:Value->Shared->Prop}
 (h:∀led:Bool,led=!w.params.followText "set-order" → Q₁ (.ref s.heap.objs.size) { s with heap:=s.heap.push { cls:=.type "set",dict:=none,data:=.set #[] 0 (.fresh 0 0 led) } }) :
 codeAny (model prog w) A (.call (.builtin "set.__new__") ⟨[.type "set",a],[]⟩) (wants Q₁ E) s:=by
 refine codeAny_of_tree ?_;show wpAny _ A.in1 (do checkBuiltinCall "set.__new__" ⟨[.type "set",a],[]⟩;again (.builtin "set.__new__" ⟨[.type "set",a],[]⟩)) _ _ s;refine QB (wpAny_of_eq (PySem.F.newCall_set_1 a) (Yj ⟨y7 PySem.F.plain_set_new _,yM PySem.F.entry_set_new ?_⟩));rw[yB PySem.F.plain_set_new _];unfold Builtin.«set.__new__» Builtin.Frozenset.newClass;have hsub:=sub_set_self;obtain⟨hp,g,d,tk,os⟩:=s;dsimp only
 wp_walk
 refine Kw (Yj ?_);dsimp only;simp only[newObj];refine QB (wpAny_alloc (Yj ?_));exact Yj (h _ rfl)
set_option maxHeartbeats 4000000 in
theorem jd5{l:Addr}{items:Array Value}{ns:List Int}{Q:Value->Shared->Prop}(hh:A.handled=none)(hl:s.heap.IsList l items)(hi:IntsAre items.toList ns)(hb:ns.length+1<scanBound)
 (h:∀(h':Heap) (tk:Nat),Ql prog w h' s.heap.objs.size ns->(∀b o,s.heap.get? b=some o->h'.get? b=some o)->Q (.ref s.heap.objs.size) { s with heap:=h',toks:=tk }) :
 wpAny (model prog w) A (call (.type "set") [.ref l]) Q E s:=by
 obtain⟨c,tl,hmro⟩:=PySem.F.called_set.mro;have hmade:=PySem.F.called_set.made;have hsub:=PySem.F.called_set.sub;refine wpAny_call (codeAny_of_tree ?_);show wpAny _ _ (callAny (.type "set") _) _ _ _;refine Yj ⟨Code.quiet_builtin _ (by decide +kernel),yM PySem.F.entry_type_call ?_⟩;rw[Around.under_plain (weight_type_call_type "set" [.ref l] []) rfl];have h1:=PySem.F.called_set.notType;have h2:=PySem.F.called_set.canCreate;have hct:=PySem.F.typeCall_set_1 (.ref l)
 repeat (any_goals (first | assumption | wp_step))
 refine KH (jfF (.ref l) (E:=E) (Q₁:=fun obj s₁=>∃led:Bool,led=(!w.params.followText "set-order") ∧ obj=.ref s.heap.objs.size ∧ s₁={ s with heap:=s.heap.push { cls:=.type "set",dict:=none,data:=.set #[] 0 (.fresh 0 0 led) } }) fun led e=>⟨led,e,rfl,rfl⟩) fun r s₁ hr=>?_;cases r with
 | error e=>exact hr
 | ok fl=>
   cases fl with
   | ret obj=>
     obtain⟨led,hled,rfl,rfl⟩:=hr;generalize hSd:s.heap.objs.size=S at *
     have hS:(s.heap.push { cls:=.type "set",dict:=none,data:=.set #[] 0 (.fresh 0 0 led) }).get? S=some { cls:=.type "set",dict:=none,data:=.set #[] 0 (.fresh 0 0 led) }:=by rw[← hSd];exact YA _ rfl
     have hGs:(s.heap.push { cls:=.type "set",dict:=none,data:=.set #[] 0 (.fresh 0 0 led) }).objs.size=S+1:=by rw[← hSd,Y9]
     have up:∀b o,s.heap.get? b=some o → (s.heap.push { cls:=.type "set",dict:=none,data:=.set #[] 0 (.fresh 0 0 led) }).get? b=some o:=fun b o e=>Yk _ e;generalize s.heap.push { cls:=.type "set",dict:=none,data:=.set #[] 0 (.fresh 0 0 led) }=G at *
     have hT:Shared.TypeIs { s with heap:=G } (.ref S) "set":=⟨_,hS,rfl⟩;have hli:=PySem.F.called_set.init.lookup;have hbi:=PySem.F.called_set.init.bind (.ref S)
     repeat (any_goals (first | assumption | wp_step))
     refine KH (codeAny_call_builtin (R:=wants (fun r s₂=>r=.none/\∃h' tk,s₂={ s with heap:=h',toks:=tk }/\Ql prog w h' S ns/\(∀b o,s.heap.get? b=some o->h'.get? b=some o)) E) PySem.F.called_set.init.plain PySem.F.entry_set_init (check_set_init_1 hT ?_)) fun r₂ s₂ hr₂=>?_
     . obtain⟨ol,hol,hcl,nl,hdl⟩:=hl;obtain⟨ocls,odict,odata,oslots⟩:=ol;simp only at hcl hdl;subst hcl;subst hdl;have hol':=up _ _ hol;have hsls:=PySem.F.sub_list_set;have hslf:=PySem.F.sub_list_frozenset;have hne:(Value.type "list" == Value.type "dict")=false:=by decide
       have hl1:G.IsList l items:=⟨_,hol',rfl,nl,rfl⟩;unfold Builtin.«set.__init__» noKeywords Builtin.Frozenset.updateFrom;generalize hPI:pyIter=PI
       wp_walk
       subst hPI;refine wpAny_pyIter_list hl1 ?_;refine QB (wpAny_runValue ?_);have hlS:@LT.lt Nat instLTNat l S:=by have q:=L2.ltN hol;rwa [hSd]at q
       have hh3:A.in1.in1.in1.handled=none:=by simp[hh]
       refine jbu (A:=A.in1.in1) (S:=S) (l:=l) (items:=items) (ns:=ns) hh3 hi (I:=G.objs.size) ?_ (yg hlS) ?_ hb (ns.length-0) 0 _ rfl (yY _) ⟨_,YA _ rfl,rfl,rfl⟩ (hl1.push _) ?_ ?_
       . rw[hGs];exact Yx (yI hlS)
       . rw[hGs];exact Yx (Kc _)
       . refine⟨_,#[],0,.fresh 0 0 led,Yk _ hS,⟨rfl,rfl,rfl⟩,rfl,fun e he=>by simp at he,fun k=>by simp,rfl,by simp,by simp,fun i j _ hj=>by simp[SetTable.fresh]at hj,fun q=>?_⟩;show led=true;rw[hled,q];rfl
       . intro h' tk kk hS';show wpAny _ _ _ _ _ _;refine Yj ?_;show wpAny _ _ (ret Value.none) _ _ _;refine Yj ⟨rfl,h',tk,rfl,hS',fun b o e=>kk b o ?_ ?_ (Yk _ (up b o e))⟩
         . have q:=L2.ltN e;rw[hSd]at q;exact Yx q
         . have q:=L2.ltN e;rw[hSd]at q;rw[hGs];exact Yx (yI q)
     . cases r₂ with
       | error e=>exact hr₂
       | ok fl₂=>
         cases fl₂ with
         | ret r=>
           obtain⟨rfl,h',tk,rfl,hS',hk'⟩:=hr₂
           repeat (any_goals (first | assumption | wp_step))
           exact h _ _ hS' hk'
         | _=>exact hr₂.elim
   | _=>exact hr.elim
end
end L2S
namespace L2S
open PySem PySem.Spec PyProof.Rows
theorem slot_setit_next:Slot "set_iterator" "__next__" "set_iterator.__next__":=
 .of (owner := "set_iterator") (n:="__next__") (by rw[typeLookup_type,Kv];kernel_rfl) (by decide +kernel) (by decide +kernel) (by decide +kernel)
  (by first | exact .inl (by decide +kernel) | exact .inr (by decide +kernel)) (by rw[isSubtype_type];kernel_rfl)
theorem Ju:entryFor table "set_iterator.__next__"=some Builtin.«set_iterator.__next__»:=entryFor_of_tree (by kernel_rfl)
theorem JQ(a:Value):argsOk "set_iterator.__next__" ⟨[a],[]⟩:=by unfold argsOk;kernel_rfl
theorem ja5:entryFor table "set.__iter__"=some Builtin.«frozenset.__iter__»:=entryFor_alias (id' := "frozenset.__iter__") (by kernel_rfl) rfl (by decide +kernel) (by kernel_rfl)
abbrev SIt(h:Heap)(it:Addr)(first:Value)(i:Nat)(a:Addr)(n ep:Nat):Prop:=h.get? it=some { cls:=.type "set_iterator",dict:=none,data:=.fields #[first,rawInt i,.ref a,rawInt n,rawInt ep],slots:=#[] }
inductive Mode(w:World)(h:Heap)(a:Addr)(es:Array (Int×Value))(ep:Nat)(t:SetTable):Value->Nat->List Value->Prop where
 | text {sl i:Nat} (hb:w.params.followText "set-order"=true):Mode w h a es ep t (rawInt sl) i ((pickOrder (w.params.setOrder a ep) es).toList.map (·.2))
 | plain {sl i:Nat} (hb:w.params.followText "set-order"=false) (hd:(!t.plain && decide (es.size>1))=false) (hs:SetTable.below t.place sl=i):Mode w h a es ep t (rawInt sl) i (es.toList.map (·.2))
 | drawn {T:Addr} {i:Nat} {pl:List Nat} (hb:w.params.followText "set-order"=false) (hT:h.get? T=some { cls:=.type "tuple",data:=.seq (pl.map fun(j:Nat)=>rawInt j).toArray }) (hp:pl.Perm (List.range es.size)) :
  Mode w h a es ep t (.ref T) i (pl.filterMap fun j=>(es[j]?).map (·.2))
theorem Mode.perm{w:World}{h:Heap}{a:Addr}{es:Array (Int×Value)}{ep:Nat}{t:SetTable}{f:Value}{i:Nat}{q:List Value}(M:Mode w h a es ep t f i q):q.Perm (es.toList.map (·.2)):=by
 cases M with
 | text hb=>exact(jfr _ es).map _
 | plain hb hd hs=>exact .rfl
 | drawn hb hT hp=>refine(hp.filterMap _).trans ?_;have e:=filterMap_getElem?_range es;rw[<-e,List.map_filterMap]
theorem Mode.at{w:World}{h h':Heap}{a:Addr}{es:Array (Int×Value)}{ep:Nat}{t:SetTable}{f:Value}{i:Nat}{q:List Value}(M:Mode w h a es ep t f i q)(k:∀T o,f=.ref T->h.get? T=some o->h'.get? T=some o):Mode w h' a es ep t f i q:=by
 cases M with
 | text hb=>exact .text hb
 | plain hb hd hs=>exact .plain hb hd hs
 | drawn hb hT hp=>exact .drawn hb (k _ _ rfl hT) hp
theorem jcM{es:Array (Int×Value)}:∀{pl:List Nat} {i j:Nat},(∀x∈pl,x<es.size)->pl[i]?=some j->(pl.filterMap fun j=>(es[j]?).map (·.2))[i]?=(es[j]?).map (·.2)
 | [],i,j,_,e=>by simp at e
 | a::l,i,j,h,e=>by
   have ha:a<es.size:=h a Yb;rw[yU,YE ha];dsimp only[Option.map];cases i with
   | zero=>
     have:a=j:=by simpa using e
     subst this;rw[YE ha];rfl
   | succ i=>rw[Yn];exact jcM (fun x hx=>h x (Yf _ hx)) (by simpa using e)
section
variable{prog:Program}{w:World}{A:Around}{E:Value->Shared->Prop}{s:Shared}
theorem zr{Q:Bool → Shared → Prop}(h:Q (w.params.followText "set-order") s):wpAny (model prog w) A setsByText Q E s:=by unfold setsByText;exact QB (Kw (Yj h))
theorem QV{a:Addr}{o:Obj}{es:Array (Int×Value)}{ep:Nat}{t:SetTable}{Q:Array (Int×Value)->Shared->Prop}(ho:s.heap.get? a=some o)(hd:o.data=.set es ep t)(hf:t.fits es.size=true)(h:Q es s):wpAny (model prog w) A (setEntries a) Q E s:=by unfold setEntries;exact QB (Y4 ho hd hf (Yj h))
structure SetL(w:World)(h:Heap)(a:Addr)(o:Obj)(es:Array (Int×Value))(ep:Nat)(t:SetTable):Prop where
 ob:h.get? a=some o
 ex:o.ExactSet
 dt:o.data=.set es ep t
 fit:t.fits es.size=true
 ris:Ris t.place
 led:w.params.followText "set-order"=false → t.led=true
theorem SetL.psize{w:World}{h:Heap}{a:Addr}{o:Obj}{es:Array (Int×Value)}{ep:Nat}{t:SetTable}(L:SetL w h a o es ep t):t.place.size=es.size:=by have:=L.fit;simp only[SetTable.fits,Ke,beq_iff_eq]at this;exact this.1
theorem jhc{it a:Addr}{o:Obj}{es:Array (Int×Value)}{ep:Nat}{t:SetTable}{f:Value}{i:Nat}{q:List Value}{v:Value}{Q:Option Value->Shared->Prop}(L:SetL w s.heap a o es ep t)(ha:a≠it)(hf:∀T,f=.ref T->T≠it)
 (hi:SIt s.heap it f i a es.size ep) (M:Mode w s.heap a es ep t f i q) (hx:q[i]?=some v)
 (hQ:∀h' f',SIt h' it f' (i+1) a es.size ep->Mode w h' a es ep t f' (i+1) q->(∀T,f'=.ref T->T≠it)->Heap.SameBut it s.heap h'->Q (some v) { s with heap:=h' }):wpAny (model prog w) A (pyNext (.ref it)) Q E s:=by
 have hT:s.TypeIs (.ref it) "set_iterator":=⟨_,hi,rfl⟩;unfold pyNext;refine QB (wpAny_attempt (yR (name:=Str.ofString "__next__") hT slot_setit_next (yV slot_setit_next hT Ju ?_ (JQ _))));show wpAny _ _ (fieldsOf (.ref it) >>= _) _ _ _;refine QB (wpAny_fieldsOf hi rfl ?_);show wpAny _ _ (setEntries a >>= _) _ _ _;refine QB (QV L.ob L.dt L.fit ?_);rw[YJ (by simp)];dsimp only
 -- the two stores behind a place in the table or in the given order
 have two:∀(sl nx:Nat) (x:Value),SIt s.heap it (rawInt sl) i a es.size ep->x=v->(∀h',Mode w h' a es ep t (rawInt nx) (i+1) q)->wpAny (model prog w) A.in1 (do
       setField (.ref it) 0 (rawInt (nx:Int))
       setField (.ref it) 1 (rawInt ((i:Int)+1))
       ret x) (fun fin s'=>∃v,fin=.done (.ret v)/\wpAny (model prog w) A (pure (some v)) Q E s') (fun _ _=>False) s:=by
  intro sl nx x hi' hxv hm;refine QB (yh hi' (by simp) fun h1 e1 s1=>?_);replace e1:SIt h1 it (rawInt nx) i a es.size ep:=e1;refine QB (yh e1 (by simp) fun h2 e2 s2=>?_);have e3:SIt h2 it (rawInt nx) (i+1) a es.size ep:=by
   have c:((i+1:Nat):Int)=(i:Int)+1:=by omega
   unfold SIt;rw[c];exact e2
  refine Yj ⟨x,rfl,Yj ?_⟩;rw[hxv];exact hQ h2 _ e3 (hm h2) (fun T z=>nomatch z) (s1.trans s2)
 cases M with
 | @text sl _ hb=>
   show wpAny _ _ (setNext a (sl:Int).toNat (i:Int).toNat (ep:Int).toNat >>= _) _ _ _;rw[Yv,Yv,Yv];refine QB ?_;unfold setNext;refine QB (Y4 L.ob L.dt L.fit ?_);dsimp only;refine QB (zr ?_);rw[hb,Ys rfl,YJ (by simp)];refine QB ?_;unfold setWalk;refine QB (Y4 L.ob L.dt L.fit ?_);dsimp only;refine QB (zr ?_);rw[hb,Ys rfl];refine QB (Kw (Yj (Yj ?_)));show wpAny _ _ (match ((pickOrder (w.params.setOrder a ep) es)[i]?).map fun e=>(e.2,sl)with | some (x,next)=>_ | none=>_) _ _ _;have hx':((pickOrder (w.params.setOrder a ep) es)[i]?).map (·.2)=some v:=by rw[Yr,yw]at hx;exact hx
   cases e:(pickOrder (w.params.setOrder a ep) es)[i]? with
   | none=>rw[e]at hx';cases hx'
   | some p=>rw[e]at hx';exact yp (two sl sl p.2 hi (Option.some.inj hx') fun h'=>.text hb) (fun _ _ z=>z) fun _ _ z=>z.elim
 | @plain sl _ hb hd hs=>
   show wpAny _ _ (setNext a (sl:Int).toNat (i:Int).toNat (ep:Int).toNat >>= _) _ _ _;rw[Yv,Yv,Yv];refine QB ?_;unfold setNext;refine QB (Y4 L.ob L.dt L.fit ?_);dsimp only;refine QB (zr ?_);rw[hb,YJ Ym];show wpAny _ _ (if (!t.plain && decide (es.size>1))=true then _ else _) _ _ _;rw[YJ (by rw[hd];exact Ym)];show wpAny _ _ ((if (!t.led && !es.isEmpty)=true then _ else _) >>= _) _ _ _;rw[YJ (by rw[L.led hb];simp)];refine QB (Yj ?_);have hil:i<es.size:=by
    rcases YT i es.size with z | z
    . exact z
    . rw[Y2 (by simpa using z)]at hx;cases hx
   have hip:i<t.place.size:=by rw[L.psize];exact hil
   have hx':es[i].2=v:=by rw[Yr,yw,YE hil]at hx;exact Option.some.inj hx
   rw[hs,YE hil,YE hip];refine Yj ?_;have g:t.place.getD i 0=t.place[i]:=by simp[Array.getD,hip]
   have nxt:=jdD L.ris hip;rw[g]at nxt;exact yp (two sl (t.place[i]+1) es[i].2 hi hx' fun h'=>.plain hb hd nxt) (fun _ _ z=>z) fun _ _ z=>z.elim
 | @drawn T _ pl hb hT' hp=>
   have tJ:pl.length=es.size:=by have:=hp.length_eq;simpa using this
   have hall:∀x∈pl,x<es.size:=fun x hx=>List.mem_range.mp (hp.mem_iff.mp hx);show wpAny _ _ (seqItems? (.ref T) >>= _) _ _ _;refine QB (Kt hT' rfl ?_);have hil:i<pl.length:=by
    rcases YT i pl.length with z | z
    . exact z
    . have z':(pl.filterMap fun j=>(es[j]?).map (·.2)).length<=i:=YM (List.length_filterMap_le _ _) z;rw[Y2 z']at hx;cases hx
   have hj:pl[i]<es.size:=hall _ (Kd hil);have hx':es[pl[i]].2=v:=by rw[jcM hall (Ya hil),YE hj]at hx;exact Option.some.inj hx
   have e:((pl.map fun(j:Nat)=>rawInt j).toArray)[(i:Int).toNat]?=some (Value.int (pl[i]:Nat) 0):=by rw[Yv,List.getElem?_toArray,Yr,Ya hil];rfl
   dsimp only;rw[e];dsimp only;refine QB ?_;unfold setNextDrawn;refine QB (Y4 L.ob L.dt L.fit ?_);dsimp only;rw[YJ (by simp),Yv,YE hj];refine Yj ?_;refine QB (yh hi (by simp) fun h2 e2 s2=>?_);have e3:SIt h2 it (.ref T) (i+1) a es.size ep:=by
    have c:((i+1:Nat):Int)=(i:Int)+1:=by omega
    unfold SIt;rw[c];exact e2
   refine Yj ⟨_,rfl,Yj ?_⟩;show Q (some es[pl[i]].2) _;rw[hx'];exact hQ h2 _ e3 (.drawn hb (s2.extBut _ _ (hf T rfl) hT') hp) hf s2
end
end L2S
namespace L2S
open PySem PySem.Spec PyProof.Rows
section
variable{prog:Program}{w:World}{A:Around}{E:Value->Shared->Prop}{s:Shared}
theorem jh7{α:Type}{Q:α → Shared → Prop}(hh:A.handled=none)(h:∀h' e,(∀b o,s.heap.get? b=some o → h'.get? b=some o) → (∃o,h'.get? e=some o ∧ o.cls=.type "StopIteration") → E (.ref e) { s with heap:=h' }):
 wpAny (model prog w) A (do let x ← newExc (.type "StopIteration") [];raiseNew x:Sem α) Q E s:=by
 refine QB ?_;simp only[newExc,newTuple];refine QB (yZ ?_ (by size_fits));refine QB (m:=firstArgMember _ _) (wpAny_of_eq (a:=Value.none) (by first | rfl | (simp only[firstArgMember];rfl)) ?_);refine yZ ?_ (by size_fits);simp only[raiseNew];refine QB (wpAny_handled ?_);rw[hh];refine QB (Yj (wpAny_throw ?_));exact h _ _ (fun b o e=>Yk _ (Yk _ e)) ⟨_,YA _ rfl,rfl⟩
theorem jh9{it a:Addr}{o:Obj}{es:Array (Int×Value)}{ep:Nat}{t:SetTable}{f:Value}{i:Nat}{q:List Value}{Q:Option Value->Shared->Prop}(hh:A.handled=none)(L:SetL w s.heap a o es ep t)
 (hi:SIt s.heap it f i a es.size ep) (M:Mode w s.heap a es ep t f i q) (hx:i=q.length)
 (hQ:∀h',(∀b o,b≠it->s.heap.get? b=some o->h'.get? b=some o)->Q none { s with heap:=h' }):wpAny (model prog w) A (pyNext (.ref it)) Q E s:=by
 have hT:s.TypeIs (.ref it) "set_iterator":=⟨_,hi,rfl⟩;have tJ:q.length=es.size:=by have:=M.perm.length_eq;simpa using this
 unfold pyNext;refine QB (wpAny_attempt (yR (name:=Str.ofString "__next__") hT slot_setit_next (yV slot_setit_next hT Ju ?_ (JQ _))));show wpAny _ _ (fieldsOf (.ref it) >>= _) _ _ _;refine QB (wpAny_fieldsOf hi rfl ?_);show wpAny _ _ (setEntries a >>= _) _ _ _;refine QB (QV L.ob L.dt L.fit ?_);rw[YJ (by simp)];dsimp only;have stop:∀(h1:Heap),(∀b o,b≠it → s.heap.get? b=some o → h1.get? b=some o) → wpAny (model prog w) A.in1 (do let x ← newExc (.type "StopIteration") [];raiseNew x:Sem Fin) (fun fin s'=>∃v,fin=.done (.ret v) ∧ wpAny (model prog w) A (pure (some v)) Q E s')
  (fun e s'=>wpAny (model prog w) A (do let b ← isInstance e (.type "StopIteration");if b=true then pure none else throw e) Q E s') { s with heap:=h1 }:=fun h1 k1=>by
  refine jh7 (s:={ s with heap:=h1 }) (by simpa using hh) fun h' e k zz=>?_;obtain⟨oe,ho,hc⟩:=zz;refine QB (wpAny_isInstance (T := "StopIteration") (b:=true) ⟨oe,ho,hc⟩ isSubtype_stop ?_);exact Yj (hQ h' fun b o hb e=>k b o (k1 b o hb e))
 cases M with
 | @text sl _ hb=>show wpAny _ _ (setNext a (sl:Int).toNat (i:Int).toNat (ep:Int).toNat >>= _) _ _ _;rw[Yv,Yv,Yv];refine QB ?_;unfold setNext;refine QB (Y4 L.ob L.dt L.fit ?_);dsimp only;refine QB (zr ?_);rw[hb,Ys rfl,YJ (by simp)];refine QB ?_;unfold setWalk;refine QB (Y4 L.ob L.dt L.fit ?_);dsimp only;refine QB (zr ?_);rw[hb,Ys rfl];refine QB (Kw (Yj (Yj ?_)));show wpAny _ _ (match ((pickOrder (w.params.setOrder a ep) es)[i]?).map fun e=>(e.2,sl)with | some (x,next)=>_ | none=>_) _ _ _;rw[Y7 (by rw[hx,QC,yf];exact Yw _)];refine QB (yh hi (by simp) fun h1 e1 s1=>?_);exact stop h1 fun b o hb e=>s1.extBut b o hb e
 | @plain sl _ hb hd hs=>show wpAny _ _ (setNext a (sl:Int).toNat (i:Int).toNat (ep:Int).toNat >>= _) _ _ _;rw[Yv,Yv,Yv];refine QB ?_;unfold setNext;refine QB (Y4 L.ob L.dt L.fit ?_);dsimp only;refine QB (zr ?_);rw[hb,YJ Ym];show wpAny _ _ (if (!t.plain && decide (es.size>1))=true then _ else _) _ _ _;rw[YJ (by rw[hd];exact Ym)];show wpAny _ _ ((if (!t.led && !es.isEmpty)=true then _ else _) >>= _) _ _ _;rw[YJ (by rw[L.led hb];simp)];refine QB (Yj ?_);rw[hs,Y7 (by omega)];refine Yj ?_;dsimp only;refine QB (yh hi (by simp) fun h1 e1 s1=>?_);exact stop h1 fun b o hb e=>s1.extBut b o hb e
 | @drawn T _ pl hb hT' hp=>
   have hpl:pl.length=es.size:=by have:=hp.length_eq;simpa using this
   show wpAny _ _ (seqItems? (.ref T) >>= _) _ _ _;refine QB (Kt hT' rfl ?_);have e:((pl.map fun(j:Nat)=>rawInt j).toArray)[(i:Int).toNat]?=none:=by rw[Yv,List.getElem?_toArray];exact Y2 (by rw[QC];omega)
   dsimp only;rw[e];dsimp only;refine QB (yh hi (by simp) fun h1 e1 s1=>?_);refine QB (yh e1 (by simp) fun h2 e2 s2=>?_);exact stop h2 fun b o hb e=>s2.extBut b o hb (s1.extBut b o hb e)
theorem jg8{a:Addr}{o:Obj}{es:Array (Int×Value)}{ep:Nat}{t:SetTable}{Q:Value->Shared->Prop}(L:SetL w s.heap a o es ep t)(hz:es.size<=sizeLine)
 (hQ:∀h' d it f q,SIt h' it f 0 a es.size ep->Mode w h' a es ep t f 0 q->(∀T,f=.ref T->T≠it)->s.heap.objs.size<=it->(∀b o,s.heap.get? b=some o->h'.get? b=some o)->Q (.ref it) { s with heap:=h',drawn:=d }) :
 wpAny (model prog w) A (pyIter (.ref a)) Q E s:=by
 have hT:s.TypeIs (.ref a) "set":=⟨_,L.ob,L.ex.1⟩;refine wpAny_pyIter_slot hT PySem.F.slot_set_iter (yV PySem.F.slot_set_iter hT ja5 ?_ (PySem.F.args_set_iter_1 _));show wpAny _ _ (Builtin.Frozenset.sizeOf a >>= _) _ _ _;unfold Builtin.Frozenset.sizeOf;refine QB (QB (QV L.ob L.dt L.fit (Yj ?_)));show wpAny _ _ (setDrawn a >>= _) _ _ _;refine QB ?_;unfold setDrawn;refine QB (Y4 L.ob L.dt L.fit ?_);dsimp only;refine QB (zr (Yj ?_));show wpAny _ _ (if (!w.params.followText "set-order" && (!t.plain && decide (es.size>1)))=true then _ else _) _ _ _;have fin:∀(g:Heap) (d:Drawn) (f:Value) (q:List Value),(∀b o,s.heap.get? b=some o->g.get? b=some o)->s.heap.objs.size<=g.objs.size->(∀h',(∀b o,g.get? b=some o->h'.get? b=some o)->Mode w h' a es ep t f 0 q)->(∀T,f=.ref T->@LT.lt Nat instLTNat T g.objs.size)->
  wpAny (model prog w) A.in1 (do ret (← newFields "set_iterator" [f,rawInt 0,.ref a,rawInt es.size,rawInt (← setEpoch a)])) (fun fin s'=>∃v,fin=.done (.ret v) ∧ ∃T' r,s'.TypeIs v T' ∧ typeLookup (.type T') "__next__"=pure (some r) ∧ Q v s') E { s with heap:=g,drawn:=d }:=by
  intro g d f q k hle hm hf;refine QB (wpAny_setEpoch_of (s:={ s with heap:=g,drawn:=d }) (k _ _ L.ob) L.dt L.fit ?_);unfold newFields;refine QB (yZ ?_ (by size_fits));refine Yj ⟨_,rfl, "set_iterator",_,⟨_,YA _ rfl,rfl⟩,slot_setit_next.lookup,?_⟩;exact hQ _ d _ f q (YA _ rfl) (hm _ fun b o e=>Yk _ e) (fun T z=>Yx (hf T z)) hle fun b o e=>Yk _ (k b o e)
 cases hb:w.params.followText "set-order" with
 | true=>rw[YJ (by simp)];exact fin s.heap s.drawn (rawInt (0:Nat)) _ (fun b o e=>e) (Yw _) (fun h' _=>.text hb) fun T z=>nomatch z
 | false=>
   cases hd:(!t.plain && decide (es.size>1))with
   | false=>rw[YJ (by simp)];exact fin s.heap s.drawn (rawInt (0:Nat)) _ (fun b o e=>e) (Yw _) (fun h' _=>.plain hb hd (jdT L.ris)) fun T z=>nomatch z
   | true=>
     rw[Ys (by simp)];refine QB (jep es.size (List.range es.size) s (by simp) fun ys d hp=>?_);have hyl:ys.length=es.size:=by have:=hp.length_eq;simpa using this
     refine QB (wpAny_newTuple (hsz:=by rw[QC,hyl];exact hz) ?_);refine fin _ d (.ref s.heap.objs.size) _ (fun b o e=>Yk _ e) (by rw[Y9];exact KM _) (fun h' k=>.drawn hb (k _ _ (YA _ rfl)) hp) fun T z=>?_;injection z with z;rw[<-z,Y9];exact Kc _
theorem jgA{a:Addr}{Q:Bool → Shared → Prop}(hT:s.TypeIs (.ref a) "set")(h:Q false s):wpAny (model prog w) A (Builtin.List.listLengthHint (.ref a)) Q E s:=by
 unfold Builtin.List.listLengthHint;refine QB (wpAny_specialOf hT PySem.F.slot_set_len.lookup ?_);generalize hid:("set.__len__":String)=id0
 wp_delta
 rw[show splitId id0=some ("set","__len__")from by subst hid;decide +kernel];subst hid;refine QB (wpAny_isInstance (T := "set") (b:=true) hT (by rw[isSubtype_type];kernel_rfl) ?_);refine wpAny_ite_split (fun hab=>absurd hab (by decide)) (fun _=>?_);refine wpAny_ite_split (fun _=>?_) (fun hab=>absurd (by decide +kernel) hab);refine QB (wpAny_typeOf hT ?_);exact Yj h
theorem jdt{a:Addr}{o:Obj}{es:Array (Int×Value)}{ep:Nat}{t:SetTable}{Q:List Value->Shared->Prop}(hh:A.handled=none)(L:SetL w s.heap a o es ep t)(hz:es.size<sizeLine)
 (h:∀h' d tk (vs:List Value),(∀b o,s.heap.get? b=some o->h'.get? b=some o)->s.heap.objs.size<=h'.objs.size->vs.Perm (es.toList.map (·.2))->Q vs { s with heap:=h',drawn:=d,toks:=tk }):wpAny (model prog w) A (collect (.ref a)) Q E s:=by
 unfold collect;refine QB (wpAny_runValue (yM entry_proto_collect' ?_));rw[yB PySem.F.plain_proto_collect _];show wpAny _ A.in1 (newList [] >>= fun l=>again (.builtin "list.__iadd__" ⟨[l,.ref a],[]⟩)) _ _ s;refine QB (yZ ?_);refine Yj ⟨y7 PySem.F.plain_list_iadd _,yM entry_list_iadd' ?_⟩;rw[yB PySem.F.plain_list_iadd _];generalize hSd:s.heap.objs.size=S at *
 have hS:(s.heap.push { cls:=.type "list",data:=.seq ([]:List Value).toArray }).get? S=some { cls:=.type "list",data:=.seq #[] }:=by rw[← hSd];exact YA _ rfl
 have up:∀b o,s.heap.get? b=some o → (s.heap.push { cls:=.type "list",data:=.seq ([]:List Value).toArray }).get? b=some o:=fun b o e=>Yk _ e;have hGs:(s.heap.push { cls:=.type "list",data:=.seq ([]:List Value).toArray }).objs.size=S+1:=by rw[← hSd,Y9]
 generalize s.heap.push { cls:=.type "list",data:=.seq ([]:List Value).toArray }=G at *
 have nS:∀b o,s.heap.get? b=some o->b≠S:=fun b o e=>by have q:=L2.ltN e;rw[hSd]at q;exact Yx q
 have aS:=nS _ _ L.ob;have L1:SetL w G a o es ep t:=⟨up _ _ L.ob,L.ex,L.dt,L.fit,L.ris,L.led⟩;have hT:Shared.TypeIs { s with heap:=G } (.ref a) "set":=⟨_,L1.ob,L.ex.1⟩;show wpAny _ A.in1 (Builtin.List.listExtendWith (.ref S) (.ref a) (.ref S)) _ _ _;unfold Builtin.List.listExtendWith;refine QB (wpAny_typeOf (T := "set") hT ?_);have e1:Builtin.List.listSameRef (.ref S) (.ref a)=false:=by simp[Builtin.List.listSameRef,Ne.symm aS]
 have e2:(Value.type "set" == Value.type "list")=false:=by decide
 have e3:(Value.type "set" == Value.type "tuple")=false:=by decide
 simp only[e1,e2,e3,Bool.or_false,YX,yC];refine QB (jg8 (s:={ s with heap:=G }) L1 (yF hz) fun G1 d it f q hit M hf hle k1=>?_);have itS:it≠S:=by
  have z:S+1<=it:=by have:=hle;show S+1<=it;rw[<-hGs];exact this
  exact yg z
 have ait:a≠it:=by
  have z:S+1<=it:=by have:=hle;show S+1<=it;rw[<-hGs];exact this
  have z2:=L2.ltN L.ob;rw[hSd]at z2;exact Yx (Ye (yI z2) z)
 have hT1:Shared.TypeIs { s with heap:=G1,drawn:=d } (.ref a) "set":=⟨_,k1 _ _ L1.ob,L.ex.1⟩;refine QB (ye (jgA hT1 ?_));have tJ:q.length=es.size:=by have:=M.perm.length_eq;simpa using this
 have key:∀(h1:Heap) (c:Nat),Heap.SameBut S G1 h1 → h1.get? S=some { cls:=.type "list",data:=.seq #[] c } →
  codeAny (model prog w) A (.builtin "list.extend.loop" ⟨[.ref S,.ref it,.ref S],[]⟩) (fun r s'=>match r with
    | .ok (.ret v)=>wpAny (model prog w) A (match v with
     | .ref a=>do
       let o <- load a
       match o.data with
         | .seq xs _=>pure xs.toList
         | _=>unsupported "internal:collect"
     | _=>unsupported "internal:collect") Q E s'
    | .ok _=>False
    | .error e=>E e s') { s with heap:=h1,drawn:=d }:=by
  intro h1 c sb hS1;have nT:∀(g:Heap) (tw:Array Value) (c:Nat),g.get? S=some { cls:=.type "list",data:=.seq tw c } → ∀(f:Value) (i:Nat) (q:List Value),Mode w g a es ep t f i q → ∀T,f=.ref T → T≠S:=by
   rintro g tw c e f i q Mg T rfl z;cases Mg with
   | drawn hb hT hp=>rw[z,e]at hT;have y:(Value.type "list")=Value.type "tuple":=congrArg Obj.cls (Option.some.inj hT);injection y with y;exact absurd y (by decide)
  refine L2.Z7 (fun n tw s'=>∃(i c:Nat) (g:Heap) (f:Value),s'={ s with heap:=g,drawn:=d } ∧ n=es.size+1-i ∧ i ≤ es.size ∧ tw=(q.take i).toArray ∧ g.get? S=some { cls:=.type "list",data:=.seq tw c } ∧ SIt g it f i a es.size ep ∧ Mode w g a es ep t f i q ∧ SetL w g a o es ep t ∧
      (∀T,f=.ref T->T≠it)/\∀b o,s.heap.get? b=some o->g.get? b=some o) ?_ (es.size+1) #[] _
   ⟨0,c,h1,f,rfl,rfl,yY _,rfl,hS1,sb.extBut _ _ itS hit,M.at fun T o z e=>sb.extBut _ _ (nT G1 #[] 0 (k1 _ _ hS) f 0 q M T z) e,⟨sb.extBut _ _ aS (k1 _ _ L1.ob),L.ex,L.dt,L.fit,L.ris,L.led⟩,hf,fun b o e=>sb.extBut _ _ (nS b o e) (k1 _ _ (up b o e))⟩
  rintro n tw s' ⟨i,c,g,f,rfl,rfl,hi,rfl,hSg,sit,Mg,Lg,hfg,kg⟩;refine⟨by simp;omega,?_⟩;rcases YT i es.size with hlt | hge
  . have hx:q[i]?=some q[i]:=Ya (by omega);refine jhc (s:={ s with heap:=g,drawn:=d }) Lg ait hfg sit Mg hx fun h' f' sit' M' hf' sb'=>?_;have hS':=sb'.extBut _ _ (Ne.symm itS) hSg;refine⟨⟨c,hS'⟩,fun h'' c' e'' sb''=>⟨es.size+1-(i+1),by omega,i+1,c',h'',f',rfl,rfl,hlt,?_,e'',sb''.extBut _ _ itS sit',M'.at fun T o z e=>sb''.extBut _ _ (nT h' _ c hS' f' (i+1) q M' T z) e,⟨sb''.extBut _ _ aS (sb'.extBut _ _ ait Lg.ob),L.ex,L.dt,L.fit,L.ris,L.led⟩,hf',fun b o e=>sb''.extBut _ _ (nS b o e) (sb'.extBut _ _ ?_ (kg b o e))⟩⟩
    . rw[List.take_succ,hx];simp
    . have z:=L2.ltN e;rw[hSd]at z;have z2:S+1<=it:=by have:=hle;show S+1<=it;rw[<-hGs];exact this
      exact Yx (Ye (yI z) z2)
  . have e:i=q.length:=by omega
    refine jh9 (s:={ s with heap:=g,drawn:=d }) (by simpa using hh) Lg sit Mg e fun h' k'=>?_;have hS':=k' _ _ (Ne.symm itS) hSg;show wpAny _ A (load S >>= _) _ _ _;refine QB (wpAny_load hS' ?_);refine Yj ?_;have e2:q.take i=q:=by rw[e,List.take_length]
    have:((q.take i).toArray).toList=q:=by rw[e2]
    rw[this];refine h h' d s.toks q (fun b o e=>k' _ _ ?_ (kg b o e)) (yF (L2.ltN hS')) M.perm;have z:=L2.ltN e;rw[hSd]at z;have z2:S+1<=it:=by have:=hle;show S+1<=it;rw[<-hGs];exact this
    exact Yx (Ye (yI z) z2)
 have hS1:=k1 _ _ hS;refine wpAny_ite_split (fun _=>?_) (fun _=>Yj ⟨y7 PySem.F.plain_extend_loop _,key G1 0 (Heap.SameBut.refl _ _) hS1⟩);refine QB (wpAny_rule ?_);refine QB ?_;show wpAny _ _ (updateSeq S (·.push .none) >>= fun _=>updateSeq S (·.pop)) _ _ _;refine QB (yX hS1 rfl ?_);have hS2:=Y3 (Obj.mapSeq (·.push Value.none)) hS1 rfl;refine yX (hz:=by seq_fits) hS2 rfl ?_;have hS3:=Y3 (Obj.mapSeq (·.pop)) hS2 rfl;exact Yj ⟨y7 PySem.F.plain_extend_loop _,key _ _ ((Heap.SameBut.update ..).trans (Heap.SameBut.update ..)) hS3⟩
theorem jdW{a:Addr}{ns:List Int}{Q:Value->Shared->Prop}(hh:A.handled=none)(hS:Ql prog w s.heap a ns)(h64:ns.length<64)
 (h:∀h' d tk l out c ks,(∀b o,s.heap.get? b=some o → h'.get? b=some o) → s.heap.objs.size ≤ l → h'.get? l=some { cls:=.type "list",data:=.seq out c } → IntsAre out.toList ks → ks.Pairwise (· < ·) → (∀k,k∈ks ↔ k∈ns) → ks.length ≤ ns.length →
  Q (.ref l) { s with heap:=h',drawn:=d,toks:=tk }):wpAny (model prog w) A (call (.builtin "sorted") [.ref a]) Q E s:=by
 obtain⟨o,es,ep,t,ho,hex,hd,hel,hmem,hf,hle,hnd,hris,hled⟩:=hS;have L:SetL w s.heap a o es ep t:=⟨ho,hex,hd,hf,hris,hled⟩;refine Calls.call_function_entry kind_sorted plain_sorted entry_sorted (args_sorted1 _) ?_;unfold Builtin.«sorted»;refine QB (m:=checkCount "sorted" 1 1 _) (Yj ?_);refine QB (jdt (by simpa using hh) L (Ye (by omega:es.size<64) (by decide)) fun h1 d tk vs k1 sz1 hp=>?_);have hvl:vs.length=es.size:=by have:=hp.length_eq;simpa using this
 refine QB (wpAny_newList (hsz:=YM (by omega:vs.length<=64) (by decide)) ?_);have allI:∀{us:List Value},(∀v∈us,∃k t,v=Value.int k t)->IntsAre us (us.map jcy):=by
  intro us;induction us with
  | nil=>intro _;exact .nil
  | cons v us ih=>intro hv;obtain⟨k,t,rfl⟩:=hv v Yb;exact .cons k t (ih fun x hx=>hv x (Yf _ hx))
 have hI:IntsAre vs (vs.map jcy):=allI fun v hv=>by obtain⟨e,he,rfl⟩:=yk.mp (hp.mem_iff.mp hv);exact QZ hel he
 have hkp:(vs.map jcy).Perm (es.toList.map fun e=>jcy e.2):=by
  have:=hp.map jcy
  rwa [yn]at this
 have hoL:(h1.push (seqObj "list" vs.toArray 0)).get? h1.objs.size=some (seqObj "list" vs.toArray 0):=YA _ rfl;refine QB (ye (yV slot_list_sort ⟨_,hoL,rfl⟩ entry_list_sort (list_sort_tree (s:={ s with heap:=h1.push (seqObj "list" vs.toArray 0),drawn:=d,toks:=tk }) hoL hI (by omega) fun out ks q1 q2 q3=>⟨_,rfl,?_⟩) (args_list_sort _)));refine Yj ⟨_,rfl,?_⟩;have hlt:h1.objs.size<(h1.push (seqObj "list" vs.toArray 0)).objs.size:=by rw[size_push'];exact Kc _
 obtain⟨c,hc⟩:=sortedHeap_at (out:=out) hoL;have hk2:(vs.map jcy).Nodup:=(hkp.nodup_iff).mpr hnd;have hk3:ks.Nodup:=(q2.nodup_iff).mpr hk2;refine h _ d tk h1.objs.size out c ks (fun b o e=>?_) sz1 hc q1 ?_ (fun k=>?_) ?_
 . have hb:b≠h1.objs.size:=Yx (Yz (k1 b o e));rw[sortedHeap_old hb (yK (Yz (k1 b o e)) hlt)];exact Yk _ (k1 b o e)
 . refine List.Pairwise.imp₂ (fun a b (x:a<=b) (y:a≠b)=>?_) q3 hk3;omega
 . rw[q2.mem_iff,hkp.mem_iff,yk,hmem k];constructor
   . rintro⟨e,he,rfl⟩;obtain⟨j,tj,q⟩:=QZ hel he;refine⟨e,he,?_⟩;rw[q];exact is_int.mpr rfl
   . rintro⟨e,he,q⟩;obtain⟨j,tj,q'⟩:=QZ hel he;refine⟨e,he,?_⟩;rw[q']at q ⊢;exact(is_int.mp q).symm
 . have:=q2.length_eq;rw[QC]at this;omega
end
end L2S
namespace L2
open PySem PySem.Spec PyProof.Rows
def jbb(cells:List (Str×Addr)):List (Str×NameKind)->List (Str×Addr)->List (Str×Addr)
 | [],tw=>tw
 | (n,k)::r,tw=>jbb cells r (if (k == NameKind.free)=true then(match cells.lookup n with | some c=>(n,c)::tw | none=>tw)else tw)
theorem jaK{α β:Type}{f:α->β->Sem (ForInStep β)}{g:α->β->β}:∀(l:List α) (b:β),(∀x∈l,∀b,f x b=pure (.yield (g x b)))->forIn l b f=pure (l.foldl (fun b x=>g x b) b)
 | [],b,_=>rfl
 | x::l,b,h=>by rw[List.forIn_cons,h x Yb,pure_bind];exact jaK l _ fun y hy=>h y (Yf _ hy)
theorem jaR(cells:List (Str×Addr)):∀(names:List (Str×NameKind)) (tw:List (Str×Addr)),
 names.foldl (fun b x=>if (x.2 == NameKind.free)=true then(match cells.lookup x.1 with | some c=>(x.1,c)::b | none=>b)else b) tw=jbb cells names tw
 | [],_=>rfl
 | (n,k)::r,tw=>by rw[List.foldl_cons,jaR cells r];rfl
theorem Qx{scope:Scope}{env:Env}(h:∀n,(n,NameKind.free)∈scope.names->∃c,env.cells.lookup n=some c):closureFor scope env=pure (jbb env.cells scope.names []):=by
 unfold closureFor;rw[<-jaR];have key:=jaK (f:=fun(x:Str×NameKind) (cs:List (Str×Addr))=>match x with
  | (name,kind)=>if (kind == NameKind.free)=true then(do let c <- cellOf env name;pure (ForInStep.yield ((name,c)::cs)))else pure (ForInStep.yield cs))
  (g:=fun x b=>if (x.2 == NameKind.free)=true then(match env.cells.lookup x.1 with | some c=>(x.1,c)::b | none=>b)else b) scope.names [] (by
   rintro⟨n,k⟩ hx b;dsimp only;by_cases hk:(k == NameKind.free)=true
   . have e:k=NameKind.free:=by simpa using hk
     subst e;obtain⟨c,hc⟩:=h n hx;rw[Ys hk,Ys hk];unfold cellOf;rw[hc];rfl
   . rw[YJ hk,YJ hk])
 first
  | exact key
  | (refine Eq.trans ?_ key;rfl)
  | (simp only[key];rfl)
  | (show(forIn scope.names [] _ >>= fun cs=>pure cs)=_;rw[bind_pure];exact key)
theorem jdc{cells:List (Str×Addr)}:∀{names:List (Str×NameKind)} {tw:List (Str×Addr)} {n:Str} {c:Addr},(∀n c,(n,c)∈tw->cells.lookup n=some c)->(n,c)∈jbb cells names tw->cells.lookup n=some c
 | [],tw,n,c,h,q=>h n c q
 | (m,k)::r,tw,n,c,h,q=>by
   refine jdc (names:=r) ?_ q;intro n' c' q';by_cases hk:(k == NameKind.free)=true
   . rw[Ys hk]at q';cases e:cells.lookup m with
     | none=>rw[e]at q';exact h n' c' q'
     | some d=>
       rw[e]at q';rcases Yl.mp q' with z | z
       . cases z;exact e
       . exact h n' c' z
   . rw[YJ hk]at q';exact h n' c' q'
theorem Qi{α:Type}:∀{l:List (Str×α)} {n:Str} {c:α},l.lookup n=some c->(n,c)∈l
 | [],_,_,h=>by simp at h
 | (m,d)::r,n,c,h=>by
   rw[YN]at h;cases e:n == m with
   | true=>
     rw[e]at h;have e':n=m:=by simpa using e
     subst e';cases h;exact Yb
   | false=>rw[e]at h;exact Yf _ (Qi h)
theorem jbV{α:Type}:∀{l:List (Str×α)} {n:Str} {c:α},(n,c)∈l->∃d,l.lookup n=some d
 | (m,d)::r,n,c,h=>by
   rw[YN];cases e:n == m with
   | true=>exact⟨d,rfl⟩
   | false=>
     rcases Yl.mp h with z | z
     . cases z;simp at e
     . exact jbV z
theorem zP{cells:List (Str×Addr)}{names:List (Str×NameKind)}{n:Str}{c:Addr}(q:(jbb cells names []).lookup n=some c):cells.lookup n=some c:=jdc (tw:=[]) (fun _ _ z=>absurd z YR) (Qi q)
theorem jbG{cells:List (Str×Addr)}:∀{names:List (Str×NameKind)} {tw:List (Str×Addr)} {p:Str×Addr},p∈tw->p∈jbb cells names tw
 | [],tw,p,h=>h
 | (m,k)::r,tw,p,h=>by
   refine jbG (names:=r) ?_;by_cases hk:(k == NameKind.free)=true
   . rw[Ys hk];cases e:cells.lookup m with
     | none=>exact h
     | some d=>exact Yf _ h
   . rw[YJ hk];exact h
theorem jcS{cells:List (Str×Addr)}:∀{names:List (Str×NameKind)} {tw:List (Str×Addr)} {n:Str} {c:Addr},(n,NameKind.free)∈names->cells.lookup n=some c->(n,c)∈jbb cells names tw
 | (m,k)::r,tw,n,c,h,q=>by
   rcases Yl.mp h with z | z
   . have z1:n=m:=congrArg Prod.fst z;have z2:NameKind.free=k:=congrArg Prod.snd z;subst z1 z2;show(n,c)∈jbb cells r (if (NameKind.free == NameKind.free)=true then _ else _);rw[Ys (show(NameKind.free == NameKind.free)=true from rfl),q];exact jbG Yb
   . exact jcS (names:=r) z q
theorem jcX{cells:List (Str×Addr)}{names:List (Str×NameKind)}{n:Str}{c:Addr}(h:(n,NameKind.free)∈names)(q:cells.lookup n=some c):(jbb cells names []).lookup n=some c:=by obtain⟨d,e⟩:=jbV (jcS (tw:=[]) h q);have:=zP e;rw[q]at this;cases this;exact e
theorem Zo{env:Env}:∀{names:List (Str×NameKind)} {x:Str},names.lookup x=some .free->
 ((names.map fun(n,k)=>if (k == NameKind.free && env.scope.kind == .function && env.kindOf n == some .cell)then(n,NameKind.cell)else(n,k)).lookup x=some .cell \/
  (names.map fun(n,k)=>if (k == NameKind.free && env.scope.kind == .function && env.kindOf n == some .cell)then(n,NameKind.cell)else(n,k)).lookup x=some .free)
 | [],_,h=>by simp at h
 | (n,k)::r,x,h=>by
   rw[YO];rw[YN]at h;cases hx:x == n with
   | true=>
     rw[hx]at h;have h:k=.free:=by simpa using h
     subst h;by_cases hk:(NameKind.free == NameKind.free && env.scope.kind == .function && env.kindOf n == some .cell)=true
     . left;simp only[hk,yq,YN,hx]
     . right;simp only[hk,YX,yC,YN,hx]
   | false=>
     rw[hx]at h;have ih:=Zo (env:=env) (names:=r) (x:=x) h;by_cases hk:(k == NameKind.free && env.scope.kind == .function && env.kindOf n == some .cell)=true
     . simpa only[hk,yq,YN,hx]using ih
     . simpa only[hk,YX,yC,YN,hx]using ih
theorem ja8{x:Str}:∀(names:List (Str×NameKind)) (n:Nat) (tw:List (Str×Addr)) (c:Addr),tw.lookup x=some c->∃d,(cellsFrom n names tw).lookup x=some d
 | [],n,tw,c,h=>⟨c,h⟩
 | (m,k)::r,n,tw,c,h=>by
   unfold cellsFrom;split
   . cases e:x == m with
     | true=>exact ja8 r (n+1) _ n (by rw[YN,e])
     | false=>exact ja8 r (n+1) _ c (by rw[YN,e];exact h)
   . exact ja8 r n tw c h
theorem jcd{x:Str}:∀(names:List (Str×NameKind)) (n:Nat) (tw:List (Str×Addr)),(x,NameKind.cell)∈names->∃d,(cellsFrom n names tw).lookup x=some d
 | (m,k)::r,n,tw,h=>by
   rcases Yl.mp h with z | z
   . have z1:x=m:=congrArg Prod.fst z;have z2:NameKind.cell=k:=congrArg Prod.snd z;subst z1 z2;unfold cellsFrom;rw[Ys (show(NameKind.cell == NameKind.cell)=true from rfl)];exact ja8 r (n+1) _ n (by rw[YN,beq_self_eq_true])
   . unfold cellsFrom;split
     . exact jcd r (n+1) _ z
     . exact jcd r n tw z
theorem ja7{x:Str}:∀(names:List (Str×NameKind)) (n:Nat) (tw:List (Str×Addr)),(x,NameKind.cell)∉names->(cellsFrom n names tw).lookup x=tw.lookup x
 | [],n,tw,h=>rfl
 | (m,k)::r,n,tw,h=>by
   have hr:(x,NameKind.cell)∉r:=fun z=>h (Yf _ z);unfold cellsFrom;split
   . rename_i hk;have hk':k=.cell:=by simpa using hk
     rw[ja7 r (n+1) _ hr,YN];have:(x == m)=false:=by rw[beq_eq_false_iff_ne];intro e;subst e hk';exact h Yb
     rw[this]
   . exact ja7 r n tw hr
theorem jcp{x:Str}{c:Addr}:∀(names:List (Str×NameKind)) (n:Nat) (tw:List (Str×Addr)),(x,NameKind.cell)∈names->(cellsFrom n names tw).lookup x=some c->n<=c
 | (m,k)::r,n,tw,h,q=>by
   unfold cellsFrom at q;by_cases hr:(x,NameKind.cell)∈r
   . split at q
     . exact Nat.le_of_succ_le (jcp r (n+1) _ hr q)
     . exact jcp r n tw hr q
   . rcases Yl.mp h with z | z
     . have z1:x=m:=congrArg Prod.fst z;have z2:NameKind.cell=k:=congrArg Prod.snd z;subst z1 z2;rw[Ys (show(NameKind.cell == NameKind.cell)=true from rfl),ja7 r (n+1) _ hr,YN,beq_self_eq_true]at q;cases q;exact Yw _
     . exact absurd z hr
theorem jgK{x:Str}{c:Addr}:∀(names:List (Str×NameKind)) (h:Heap) (tw:List (Str×Addr)),(cellsFrom h.objs.size names tw).lookup x=some c->tw.lookup x=some c\/((pushCells h names).IsCell c none/\h.objs.size<=c)
 | [],h,tw,q=>.inl q
 | (m,k)::r,h,tw,q=>by
   unfold cellsFrom at q;unfold pushCells;split at q
   . rename_i hk;rw[Ys hk];rw[← Y9 h { cls:=.type "cell",data:=.cell none }]at q;rcases jgK r _ _ q with z | ⟨z1,z2⟩
     . rw[YN]at z;cases e:x == m with
       | true=>rw[e]at z;cases z;exact .inr ⟨(show(h.push { cls:=.type "cell",data:=.cell none }).IsCell h.objs.size none from⟨_,YA _ rfl,rfl⟩).keeps (KA r _),Yw _⟩
       | false=>rw[e]at z;exact .inl z
     . rw[Y9]at z2;exact .inr ⟨z1,Nat.le_of_succ_le z2⟩
   . rename_i hk;rw[YJ hk];exact jgK r h tw q
theorem jdH:∀(names:List (Str×NameKind)) (n:Nat) (tw:List (Str×Addr)),(∀x c,tw.lookup x=some c->c<n)->(∀x y c,tw.lookup x=some c->tw.lookup y=some c->x=y)->
 ∀x y c,(cellsFrom n names tw).lookup x=some c->(cellsFrom n names tw).lookup y=some c->x=y
 | [],n,tw,_,h=>h
 | (m,k)::r,n,tw,hl,h=>by
   unfold cellsFrom;split
   . refine jdH r (n+1) _ (fun x c q=>?_) fun x y c q1 q2=>?_
     . rw[YN]at q;cases e:x == m with
       | true=>rw[e]at q;cases q;exact Kc _
       | false=>rw[e]at q;exact yI (hl x c q)
     . rw[YN]at q1 q2;cases e1:x == m with
       | true=>
         cases e2:y == m with
         | true=>rw[beq_iff_eq.mp e1,beq_iff_eq.mp e2]
         | false=>rw[e1]at q1;rw[e2]at q2;cases q1;exact absurd (hl y _ q2) (YV _)
       | false=>
         cases e2:y == m with
         | true=>rw[e1]at q1;rw[e2]at q2;cases q2;exact absurd (hl x _ q1) (YV _)
         | false=>rw[e1]at q1;rw[e2]at q2;exact h x y c q1 q2
   . exact jdH r n tw hl h
theorem ZY{env:Env}:∀{names:List (Str×NameKind)} {x:Str},
 ((names.map fun(n,k)=>if (k == NameKind.free && env.scope.kind == .function && env.kindOf n == some .cell)then(n,NameKind.cell)else(n,k)).lookup x=some .cell \/
  (names.map fun(n,k)=>if (k == NameKind.free && env.scope.kind == .function && env.kindOf n == some .cell)then(n,NameKind.cell)else(n,k)).lookup x=some .free)->(x,NameKind.free)∈names\/(x,NameKind.cell)∈names
 | [],_,h=>by simp at h
 | (n,k)::r,x,h=>by
   have ih:=ZY (env:=env) (names:=r) (x:=x);rw[YO]at h;by_cases hx:x=n
   . subst hx;by_cases hk:(k == NameKind.free && env.scope.kind == .function && env.kindOf x == some .cell)=true
     . have:k=NameKind.free:=by simp only[Ke]at hk;simpa using hk.1.1
       subst this;exact .inl Yb
     . simp only[hk,YN,beq_self_eq_true]at h;rcases h with h | h
       . have:k=NameKind.cell:=by simpa using h
         subst this;exact .inr Yb
       . have:k=NameKind.free:=by simpa using h
         subst this;exact .inl Yb
   . have hb:(x == n)=false:=by simpa using hx
     have ih':=ih (by
       by_cases hk:(k == NameKind.free && env.scope.kind == .function && env.kindOf n == some .cell)=true
       . simpa only[hk,yq,YN,hb]using h
       . simpa only[hk,YX,yC,YN,hb]using h)
     rcases ih' with z | z
     . exact .inl (Yf _ z)
     . exact .inr (Yf _ z)
def QI(scope:Scope)(x:Str):Bool:=match scope.names.lookup x with
 | some .cell=>true
 | _=>false
theorem ja1{scope:Scope}{x:Str}(h:QI scope x=true):(x,NameKind.cell)∈scope.names:=by
 unfold QI at h;split at h
 . rename_i e;exact Qi e
 . cases h
def bcl(C:Addr)(scope:Scope)(cells:List (Str×Addr)):List (Str×Addr):=cellsFrom (C+1) scope.names (jbb cells scope.names [])
section
variable{M:Model}{A:Around}{E:Value->Shared->Prop}{s:Shared}
theorem Jh{scope:Scope}{globals:Addr}{closure:List (Str×Addr)}{qual:Str}{func:Option Addr}{code:Value}{outer:Env}{builtins:Addr}{Q:Env->Shared->Prop}
 (hQ:Q (newEnv scope s.heap.objs.size globals (cellsFrom (s.heap.objs.size+1) scope.names closure) qual func code (some outer) builtins) { s with heap:=pushCells (s.heap.push { cls:=.type "dict",data:=.dict #[] }) scope.names }) :
 wpAny M A (newFunctionEnv scope globals closure [] qual func code (some outer) builtins) Q E s:=by
 simp only[newFunctionEnv,Option.isSome_some,yq];refine QB (wpAny_alloc ?_);refine QB (wpAny_layCells _ (fun name kind cells=>by cases hkc:kind == NameKind.cell <;> simp[hkc]) _ _ _ _ ?_);rw[show({ s with heap:=s.heap.push { cls:=.type "dict",data:=.dict #[] } }:Shared).heap.objs.size=s.heap.objs.size+1 from Y9 ..];rw[List.forIn_nil];exact QB (Yj (Yj hQ))
end
def Cx.blk(X:Cx)(N:List Str)(scope:Scope)(C:Addr)(s:Shared)(H:Hp)(fp:List Addr):Cx:={ X with N:=N,s₀:=s,H₀:=H,env:=compEnvC scope (bcl C scope X.env.cells) C X.env,outer:=X.stack,stack:=X.stack,ex:=fp,fn:=QI scope,pn:=[],xe:=fun _ _=>False }
def capt(σ:St)(ix:List Nat):St:=ix.map fun k=>(σ[k]?).getD none
def zV(n:Nat)(σ:St)(ix:List Nat):St:=List.replicate n none++capt σ ix
def jd3(n:Nat)(g:TG):Prop:=∀x σ H Q,g x σ H Q->g x σ H fun σ2 H2=>Q σ2 H2/\σ2.length=σ.length/\∀j,n<=j->σ2[j]?=σ[j]?
theorem jfx{n i:Nat}(h:i<n):jd3 n (JS i):=fun x σ H Q q=>⟨q,by simp,fun j hj=>by rw[Yh (by omega)]⟩
def PTs(X:Cx)(ifs:List Expr)(t:TT):Prop:=
 ∀(tf:List (Addr×Obj)) (s:Shared) (σ:St) (H:Hp) (Q:Bool->Hp->Prop) (E:Value->Shared->Prop),(∀e s',X.xe e s'->E e s')->Inv X tf σ H s->t σ H Q->
   wpAny (model X.prog X.w) X.A (forIn ifs true fun c r=>if r=true then do let ok <- isTrue c X.env (eval c X.env);pure (ForInStep.yield ok)else pure (ForInStep.yield r)) (TP X tf σ Q) E s
def jiw:TT:=fun _ H Q=>Q true H
theorem jhw{X:Cx}:PTs X [] jiw:=fun _ _ _ H _ _ _ I h=>wpAny_tests_nil ⟨H,I,h⟩
theorem jhA{X:Cx}{c:Expr}{t:TT}(h:PT X c t):PTs X [c] t:=fun tf s σ H Q E hE I q=>wpAny_tests_one (yp (h tf s σ H Q I q) (fun _ _ z=>z) hE)
def tLC(wi:TI)(g:TG)(tt:TT)(te:TE)(n:Nat)(ix:List Nat):TE:=fun σ H Q=>wi σ H fun J H1=>∃W:Nat->Nat->List V->Hp->Prop,(∃m,W 0 m [] H1)/\∀i m ys H,W i m ys H->
 (J.stop i H/\ys.length<=sizeLine/\∀p,H p=none->Q (.ref p) (upd H p (.lst ys))) \/
 (J.go i H/\ys.length<sizeLine/\∃N:List V->Hp->Prop,(∀ys' H',N ys' H'->∃m',m'<m/\W (i+1) m' ys' H')/\∀x H',J.yld i H x H'->g x (zV n σ ix) H' fun σ2 H2=>tt σ2 H2 fun b H3=>if b=true then te σ2 H3 fun v H4=>N (ys++[v]) H4 else N ys H3)
section
variable{prog:Program}{w:World}{A:Around}{E:Value->Shared->Prop}{R:Result->Shared->Prop}{s:Shared}
theorem J8{elt target iter:Expr}{ifs:List Expr}{scope:Scope}{pos:Pos}{it tw:Value}{env:Env}(I:Nat->Shared->Prop)
 (turn:∀n s,I n s->wpAny (model prog w) A (pyNext it) (fun r s₁=>match r with
  | none=>R (.ok .next) s₁
  | some v=>wpAny (model prog w) A (letOwnedTupleGo target it v) (fun _ s₁'=>wpAny (model prog w) A (assign target env v) (fun _ s₂=>
      wpAny (model prog w) A (forIn ifs true fun c r=>if r=true then do let ok <- isTrue c env (eval c env);pure (ForInStep.yield ok)else pure (ForInStep.yield r)) (fun ok s₃=>
        if ok=true then wpAny (model prog w) A (eval elt env) (fun x s₄=>wpAny (model prog w) A (call (.builtin "list.append") [tw,x]) (fun _ s₅=>∃m,m<n ∧ I m s₅) (fun _ _=>False) s₄) (fun _ _=>False) s₃
        else ∃m,m<n/\I m s₃) (fun _ _=>False) s₂) (fun _ _=>False) s₁') (fun _ _=>False) s₁) (fun _ _=>False) s)
 (n:Nat) (h:I n s) :
 codeAny (model prog w) A (.compLoop (.ListComp elt [⟨target,iter,ifs,0⟩] scope pos) 0 it tw env) R s:=by
 refine codeAny_loop rfl I (fun n s hI=>?_) n h;show wpAny _ A ((compTurn (.ListComp elt [⟨target,iter,ifs,0⟩] scope pos) 0 it tw env).onRaise (fun x=>do noteFrame x env;theTreesLotGoes x)) _ _ s;refine wpAny_noted ?_;rw[compTurn_list];refine QB (wpAny_standAt (QB (yp (turn n s hI) (fun r s₁ h₁=>?_) fun _ _ h'=>h'.elim)));cases r with
 | none=>exact Yj h₁
 | some v=>
   refine QB (yp h₁ (fun _ s₁' h₁'=>?_) fun _ _ h'=>h'.elim);refine QB (yp h₁' (fun _ s₂ h₂=>QB (yp h₂ (fun ok s₃ h₃=>?_) fun _ _ h'=>h'.elim)) fun _ _ h'=>h'.elim);cases ok with
   | false=>exact Yj ⟨rfl,h₃⟩
   | true=>exact QB (QB (yp h₃ (fun x s₄ h₄=>QB (yp h₄ (fun _ s₅ h₅=>Yj (Yj ⟨rfl,h₅⟩)) fun _ _ h'=>h'.elim)) fun _ _ h'=>h'.elim))
end
section
variable{X:Cx}{tf:List (Addr×Obj)}{σ:St}{H:Hp}{s:Shared}{scope:Scope}{C:Addr}{fp:List Addr}
theorem Inv.bclOld(I:Inv X tf σ H s)(hC:s.heap.objs.size<=C){x:Str}{c:Addr}(e:(bcl C scope X.env.cells).lookup x=some c):X.env.cells.lookup x=some c\/C<c:=by
 by_cases h:(x,NameKind.cell)∈scope.names
 . exact .inr (jcp _ _ _ h e)
 . unfold bcl at e;rw[ja7 _ _ _ h]at e;exact .inl (zP e)
theorem Inv.blkOk(I:Inv X tf σ H s)(N:List Str)(hC:s.heap.objs.size<=C)(hkind:scope.kind=.function)
 (hfree:∀n,(n,NameKind.free)∈scope.names->X.env.scope.names.lookup n=some .cell\/X.env.scope.names.lookup n=some .free)
 (hf:∀b∈fp,jaX X tf H b) (hfl:∀b∈fp,b<s.heap.objs.size):(X.blk N scope C s H fp).Ok where
 mod:=I.ok.mod
 kind:=hkind
 glob:=I.ok.glob
 blt:=I.ok.blt
 above:=hC
 inj:=jdH _ _ _ (fun x c e=>by obtain⟨v,q⟩:=I.cell x c (zP e);exact yI (Ye q.lt hC)) fun x y c e1 e2=>I.ok.inj x y c (zP e1) (zP e2)
 has:=fun x hx=>by
  rcases ZY (env:=X.env) hx with q | q
  . obtain⟨c,e⟩:=I.ok.has x (hfree x q);exact ja8 _ _ _ c (jcX q e)
  . exact jcd _ _ _ q
 cab:=fun x c e q=>YM hC (yF (jcp _ _ _ (ja1 e) q))
 hd:=I.ok.hd
 frames:=I.ok.frames
 stk:=.inl rfl
 exf:=fun b hb=>⟨Yx (Ye (hfl b hb) hC),fun x c e=>by
  rcases I.bclOld hC e with z | z
  . exact(hf b hb).2.2.2.2.1 x c z
  . exact yg (Ye (hfl b hb) (YM hC (yF z)))⟩
 bs:=I.bs
 bsz:=YM I.ok.bsz I.sz
 noex:=fun b o e hb=>by
  rcases(hf b hb).2.2.2.1 with z | z
  . exact I.ok.noex b o e z
  . exact absurd (Ye (Yz (I.ok.bs b o e).1) z) (YV _)
 exfs:=fun b hb z=>by
  rcases Yl.mp (I.stkSub b z)with q | q
  . exact(hf b hb).2.1 q
  . exact(hf b hb).2.2.1 q
 funs:=I.stack
 frf:=I.stkFree
theorem Inv.unblk{σ':St}{H':Hp}{s':Shared}{N:List Str}{D:Addr}{ys:List V}{tq:List Value}{n:Nat}{pl:List (Addr×Obj)}(I:Inv X tf σ H s)(hf:∀b∈fp,jaX X tf H b)(hD:s.heap.objs.size<=D)
 (J:Inv (X.blk N scope C s H fp) pl σ' H' s') (hv:Vals ys tq) (hz:ys.length ≤ sizeLine) (hl:s'.heap.get? D=some { cls:=.type "list",data:=.seq tq.toArray n }) (hn:H' D=none):Inv X tf σ (upd H' D (.lst ys)) s':=by
 have u:Un (frs X.stack) fp H H' s.heap s'.heap:=J.base;have neD:∀b o,s.heap.get? b=some o->b≠D:=fun b o e=>Yx (Ye (Yz e) hD);refine I.call' (ch:=fp) J.os (u:=⟨u.keep,u.slot,fun b o e n' hx=>?_,u.there,fun b xs e=>?_,fun b o x e=>?_,fun b ps e=>?_⟩) ?_ J.bare fun b hb=>⟨(hf b hb).2.2.2.1,(hf b hb).2.1,(hf b hb).2.2.2.2.1,(hf b hb).2.2.2.2.2⟩
 . rw[ju (neD b o e)];exact u.free b o e n' hx
 . rw[ju (jz (u.tups b xs e) hn)];exact u.tups b xs e
 . rw[ju (jz (u.frzs b o x e) hn)];exact u.frzs b o x e
 . obtain⟨more,q⟩:=u.tbls b ps e;exact⟨more,by rw[ju (jz q hn)];exact q⟩
 . intro b o e;by_cases hb:b=D
   . subst hb;rw[jw]at e;cases e;exact⟨hz,tq,n,hv,hl⟩
   . rw[ju hb]at e;exact(J.hok b o e).stay (fun c v _ q=>q) (fun c q=>by rw[ju (jz q hn)];exact q) fun c xs q=>by rw[ju (jz q hn)];exact q
end
section
variable{X:Cx}{elt iter tg:Expr}{ifs:List Expr}{scope:Scope}{pos:Pos}{Lc F:List Str}{ix:List Nat}{wi:TI}{g:TG}{tt:TT}{te:TE}
theorem jhd{σ:St}{ix:List Nat}{j:Nat}{v:V}(h:(capt σ ix)[j]?=some (some v)):∃k,ix[j]?=some k/\σ[k]?=some (some v):=by
 unfold capt at h;rw[Yr]at h;cases e:ix[j]? with
 | none=>rw[e]at h;cases h
 | some k=>
   rw[e]at h;have h':(σ[k]?).getD none=some v:=Option.some.inj h;refine⟨k,rfl,?_⟩;cases q:σ[k]? with
   | none=>rw[q]at h';cases h'
   | some o=>rw[q]at h';rw[show o=some v from h']
theorem jc3{tf:List (Addr×Obj)}{σ:St}{H:Hp}{s:Shared}{it:Addr}{fp:List Addr}{tn:Nat->Heap->Prop}{J:It}{E:Value->Shared->Prop}{Qv:List V->Hp->Prop}{RR:Value->Addr->Result->Shared->Prop}
 (hc:X.calm=true) (hkind:scope.kind=.function) (hcell:∀y∈scope.names,y.2=.cell->scope.names.lookup y.1=some .cell)
 (hfree:∀n,(n,NameKind.free)∈scope.names->X.env.scope.names.lookup n=some .cell\/X.env.scope.names.lookup n=some .free)
 (hix:ix.length=F.length) (hF:∀(j:Nat) (x:Str) (k:Nat),F[j]?=some x->ix[j]?=some k->X.N[k]?=some x/\(X.env.scope.names.lookup x=some .cell\/X.env.scope.names.lookup x=some .free)/\scope.names.lookup x=some .free)
 (hg:∀C s H fp,PG (X.blk (Lc++F) scope C s H fp) tg g) (hloc:jd3 Lc.length g) (ht:∀C s H fp,PTs (X.blk (Lc++F) scope C s H fp) ifs tt) (he:∀C s H fp,PE (X.blk (Lc++F) scope C s H fp) elt te)
 (I:Inv X tf σ H s) (T:Turn X.prog X.w X.K tg J fp it tn) (st0:tn 0 s.heap) (hf:∀b∈fp,jaX X tf H b)
 (W:Nat->Nat->List V->Hp->Prop) (w0:∃m,W 0 m [] H)
 (turn:∀i m ys H,W i m ys H->(J.stop i H/\ys.length<=sizeLine/\Qv ys H) \/
  (J.go i H/\ys.length<sizeLine/\∃N:List V->Hp->Prop,(∀ys' H',N ys' H'->∃m',m'<m/\W (i+1) m' ys' H')/\∀x H',J.yld i H x H'->g x (zV Lc.length σ ix) H' fun σ2 H2=>tt σ2 H2 fun b H3=>if b=true then te σ2 H3 fun v H4=>N (ys++[v]) H4 else N ys H3))
 (hRR:∀(D C:Addr) (H':Hp) (s':Shared) (ys:List V) (m:Str->Option Value),D≠C->s.heap.objs.size<=D->s.heap.objs.size<=C->H' D=none->H' C=none->s'.heap.Ns C m->Inv X tf σ (upd H' D (.lst ys)) s'->Qv ys H'->RR (.ref D) C (.ok .next) s') :
 wpAny (model X.prog X.w) X.A (newList []) (fun tw s₃=>wpAny (model X.prog X.w) X.A (newFunctionEnv scope X.env.globals (jbb X.env.cells scope.names []) [] X.env.qual none .none (some X.env)) (fun cenv s₄=>codeAny (model X.prog X.w) X.A (.compStart (.ListComp elt [⟨tg,iter,ifs,0⟩] scope pos) 0 (.ref it) tw { cenv with scope:=relabel scope X.env }) (RR tw cenv.locals) s₄) E s₃) E s:=by
 refine yZ (Jh ?_);dsimp only;generalize hH2:s.heap.push { cls:=.type "list",dict:=none,data:=.seq ([]:List Value).toArray }=G;have hCs:G.objs.size=s.heap.objs.size+1:=by rw[<-hH2,Y9]
 have hDC:s.heap.objs.size≠G.objs.size:=by rw[hCs];exact Yx (Kc _)
 have hCle:s.heap.objs.size<=G.objs.size:=by rw[hCs];exact KM _
 have hns₁:(pushCells (G.push { cls:=.type "dict",data:=.dict #[] }) scope.names).Ns G.objs.size fun _=>none:=(Heap.Ns.new G (.type "dict")).keeps (KA _ _);have old:∀b o,s.heap.get? b=some o → (pushCells (G.push { cls:=.type "dict",data:=.dict #[] }) scope.names).get? b=some o:=fun b o e=>KA _ _ _ _ (Yk _ (hH2 ▸ Yk _ e));have hacc:(pushCells (G.push { cls:=.type "dict",data:=.dict #[] }) scope.names).get? s.heap.objs.size=some { cls:=.type "list",data:=.seq ([]:List Value).toArray }:=KA _ _ _ _ (Yk _ (hH2 ▸ YA _ rfl));have hcs:∀x c,(bcl G.objs.size scope X.env.cells).lookup x=some c → X.env.cells.lookup x=some c ∨ ((pushCells (G.push { cls:=.type "dict",data:=.dict #[] }) scope.names).IsCell c none ∧ G.objs.size<c):=fun x c e=>by
  unfold bcl at e;rw[← Y9 G { cls:=.type "dict",data:=.dict #[] }]at e;rcases jgK _ _ _ e with z | ⟨z1,z2⟩
  . exact .inl (zP z)
  . rw[Y9]at z2;exact .inr ⟨z1,z2⟩
 generalize hh1:pushCells (G.push { cls:=.type "dict",data:=.dict #[] }) scope.names=h₁ at hns₁ old hacc hcs ⊢;generalize hD:s.heap.objs.size=D at *
 generalize hC:G.objs.size=C at *
 have hfl:∀b∈fp,b<D:=fun b hb=>by obtain⟨o,e,_⟩:=T.obj 0 _ st0 b hb;rw[<-hD];exact Yz e
 have hfl':∀b∈fp,b<s.heap.objs.size:=fun b hb=>by rw[hD];exact hfl b hb
 have ok:(X.blk (Lc++F) scope C s H fp).Ok:=I.blkOk (Lc++F) (by rw[hD];exact hCle) hkind hfree hf hfl';have hσl:(zV Lc.length σ ix).length=(Lc++F).length:=by unfold zV capt;rw[YS,YS,yL,QC,hix]
 have fpB:∀{H':Hp} {pl:List (Addr×Obj)},(∀b∈fp,H' b=none)->(∀p∈pl,p.1=D)->∀b∈fp,jaX (X.blk (Lc++F) scope C s H fp) pl H' b:=fun{H' pl} hn hp b hb=>
  ⟨hn b hb,Yx (Ye (hfl b hb) hCle),ok.exfs b hb,.inl hb,(ok.exf b hb).2,fun p hp'=>by
   have hp2:p∈pl:=by simpa[Cx.blk]using hp'
   rw[hp p hp2];exact yg (hfl b hb)⟩
 have HD:H D=none:=I.hok.fresh (by rw[hD];exact Yw _);have HC:H C=none:=I.hok.fresh (by rw[hD];exact hCle);have nfsD:∀b,D<=b->b∉frs X.stack:=fun b hb z=>by obtain⟨_,o,ho,_⟩:=I.stack.mem z;have:=Yz ho;rw[hD]at this;exact absurd (Ye this hb) (YV _)
 have nD:∀x c,(bcl C scope X.env.cells).lookup x=some c->c≠D:=fun x c e z=>by
  rcases hcs x c e with e | ⟨_,e⟩
  . obtain⟨v,q⟩:=I.cell x c e;have:=q.lt;rw[hD,z]at this;exact absurd this (YV _)
  . rw[z]at e;exact absurd (Nat.lt_of_le_of_lt hCle e) (YV _)
 have QD:∀s3:Shared,s3={ s with heap:=h₁ } → Inv (X.blk (Lc++F) scope C s H fp) [(D,{ cls:=.type "list",data:=.seq ([]:List Value).toArray })] (zV Lc.length σ ix) H s3:=by
  rintro s3 rfl;refine⟨ok,rfl,I.bare,Un.kept old,⟨_,hns₁,fun i x v e1 e2 e3=>?_⟩,fun x c e=>?_,HC,fun x c e=>?_,fun p hp=>?_,I.hok.kept old,hσl⟩
  . have hi:Lc.length<=i:=by
      rcases YT i Lc.length with q | q
      . unfold zV at e2;rw[YI (by simpa using q),Y5]at e2;rw[Ys q]at e2;cases e2
      . exact q
    have e2':(capt σ ix)[i-Lc.length]?=some (some v):=by
      unfold zV at e2
      rwa [YC (by simpa using hi),yL]at e2
    have e1':F[i-Lc.length]?=some x:=by
      have e1'':(Lc++F)[i]?=some x:=e1
      rwa [YC hi]at e1''
    obtain⟨k,hk,hσ⟩:=jhd e2';obtain⟨hN,hcl,hfr⟩:=hF _ x k e1' hk;obtain⟨m,hn,hl⟩:=I.loc;obtain⟨u,r,lk⟩:=hl k x v hN hσ (by rcases hcl with z | z;exact .inr (.inl z);exact .inr (.inr z));refine⟨u,r,.inr ⟨?_,?_⟩⟩
    . exact Zo (env:=X.env) hfr
    . rcases lk with⟨hk1,_⟩ | ⟨_,c,hc1,hc2⟩
      . have hk1':X.env.scope.names.lookup x=some .local:=hk1;rcases hcl with z | z <;> · rw[hk1']at z;cases z
      . refine⟨c,(ja7 _ _ _ fun z=>?_).trans (jcX (Qi hfr) hc1),?_⟩
        . have:=hcell _ z rfl;rw[hfr]at this;cases this
        obtain⟨o,ho,hd⟩:=hc2;exact⟨o,old c o ho,hd⟩
  . rcases hcs x c e with e | ⟨e,_⟩
    . obtain⟨v,o,ho,hd⟩:=I.cell x c e;exact⟨v,o,old c o ho,hd⟩
    . exact⟨none,e⟩
  . rcases hcs x c e with e | ⟨_,e⟩
    . exact I.freeC x c e
    . exact I.hok.fresh (by rw[hD];exact YM hCle (yF e))
  . have:p=(D,{ cls:=.type "list",data:=.seq ([]:List Value).toArray }):=by simpa[Cx.blk]using hp
    subst this;exact⟨hacc,HD,hDC,nfsD D (Yw _),fun v z=>nomatch z⟩
 have loop:∀s3:Shared,s3={ s with heap:=h₁ }->
  codeAny (model X.prog X.w) X.A (.compLoop (.ListComp elt [⟨tg,iter,ifs,0⟩] scope pos) 0 (.ref it) (.ref D) (X.blk (Lc++F) scope C s H fp).env) (RR (.ref D) C) s3:=by
  intro s3 hs3;obtain⟨m0,w0⟩:=w0;have st3:tn 0 s3.heap:=by subst hs3;exact T.keep 0 _ _ st0 fun b _ o e=>old b o e
  refine J8 (fun n s'=>∃i ys tq k H',Inv (X.blk (Lc++F) scope C s H fp) [(D,{ cls:=.type "list",data:=.seq tq.toArray k })] (zV Lc.length σ ix) H' s' ∧ Vals ys tq ∧ tn i s'.heap ∧ (∀b∈fp,H' b=none) ∧ W i n ys H')
   ?_ m0 ⟨0,[],[],0,H,QD s3 hs3,.nil,st3,fun b hb=>(hf b hb).1,w0⟩
  rintro n s4 ⟨i,ys,tq,k,H4,I4,rv,st4,fr4,w4⟩;have pD:∀p∈[((D,{ cls:=.type "list",data:=.seq tq.toArray k }):Addr×Obj)],p.1=D:=fun p hp=>by simp at hp;rw[hp]
  rcases turn i n ys H4 w4 with⟨stop,hz,q⟩ | ⟨go,hz,N,hN,step⟩
  . refine qH (T.done (X.blk (Lc++F) scope C s H fp) rfl rfl rfl hc i _ s4 _ H4 _ I4 (fpB fr4 pD) st4 stop) fun r s5 zz=>?_;obtain⟨hr,I5⟩:=zz;subst hr;obtain⟨p1,p2,p3,p4,p5⟩:=I5.pin _ (YH _ Yb);obtain⟨m,hn,_⟩:=I5.loc;exact hRR D C H4 s5 ys m hDC (Yw _) hCle p2 I5.free hn (I.unblk (C:=C) (scope:=scope) hf (by rw[hD];exact Yw _) I5 rv hz p1 p2) q
  . refine qH (T.item (X.blk (Lc++F) scope C s H fp) rfl rfl rfl hc i _ s4 _ H4 _ I4 (fpB fr4 pD) st4 go) fun r s5 zz=>?_;obtain⟨u,hr,h5⟩:=zz;subst hr;refine qH h5 fun _ s6 zz=>?_;obtain⟨x,H6,I6,r6,y6,st6,fr6⟩:=zz;have I6':=I6.pinned (fpB fr6 pD) (T.obj _ _ st6);refine qH (hg C s H fp _ s6 _ H6 x u _ I6' r6 (hloc _ _ _ _ (step x H6 y6))) fun _ s7 zz=>?_;obtain⟨σ7,H7,I7,q7,l7,k7⟩:=zz;have weak:∀(j:Nat) v,(zV Lc.length σ ix)[j]?=some (some v)->σ7[j]?=some (some v):=fun j v e=>by
      rw[k7 j ?_];exact e;rcases YT j Lc.length with z | z
      . unfold zV at e;rw[YI (by simpa using z),Y5,Ys z]at e;cases e
      . exact z
    have fin:∀{s':Shared} {H':Hp} {i':Nat} {ys':List V} {its':List Value} {k':Nat},Inv (X.blk (Lc++F) scope C s H fp) [] σ7 H' s' → s'.heap.get? D=some { cls:=.type "list",data:=.seq its'.toArray k' } → H' D=none → Inv (X.blk (Lc++F) scope C s H fp) [(D,{ cls:=.type "list",data:=.seq its'.toArray k' })] (zV Lc.length σ ix) H' s':=fun{s' H' i' ys' its' k'} I' e n'=>
      (I'.weak (by rw[l7]) weak).pins_of fun p hp=>by
       have:p=(D,{ cls:=.type "list",data:=.seq its'.toArray k' }):=by simpa using hp
       subst this;exact⟨e,n',hDC,nfsD D (Yw _),fun v z=>nomatch z⟩
    refine qH (ht C s H fp _ s7 σ7 H7 _ _ (fun _ _ z=>z) I7 q7) fun b s8 zz=>?_;obtain⟨H8,I8,q8⟩:=zz;have keepS:∀{s':Shared} {H':Hp},Inv (X.blk (Lc++F) scope C s H fp) ([((D,{ cls:=.type "list",data:=.seq tq.toArray k }):Addr×Obj)]++jbg fp s6.heap) σ7 H' s' → tn (i+1) s'.heap ∧ (∀b∈fp,H' b=none) ∧ s'.heap.get? D=some { cls:=.type "list",data:=.seq tq.toArray k } ∧ H' D=none:=fun{s' H'} I'=>by
      refine⟨T.keep _ _ _ st6 fun b hb o e=>(I'.pin (b,o) (YH _ (YH _ (JJ hb e)))).1,fun b hb=>?_,?_⟩
      . obtain⟨o,e,d⟩:=T.obj _ _ st6 b hb;exact(I'.pin (b,o) (YH _ (YH _ (JJ hb e)))).2.1
      . have:=I'.pin (D,{ cls:=.type "list",data:=.seq tq.toArray k }) (YH _ (yA _ Yb));exact⟨this.1,this.2.1⟩
    cases b with
    | false=>rw[YJ Ym]at q8 ⊢;obtain⟨m',hm,w8⟩:=hN _ _ q8;obtain⟨a1,a2,a3,a4⟩:=keepS I8;exact⟨m',hm,i+1,ys,tq,k,H8,fin (i':=i) (ys':=ys) (I8.pins_of fun p hp=>nomatch hp) a3 a4,rv,a1,a2,w8⟩
    | true=>
      rw[Ys rfl]at q8 ⊢;refine qH (he C s H fp _ s8 σ7 H8 _ I8 q8) fun xv s9 zz=>?_;obtain⟨v,H9,I9,r9,q9⟩:=zz;obtain⟨m',hm,w9⟩:=hN _ _ q9;obtain⟨a1,a2,a3,a4⟩:=keepS I9;have tJ:=rv.length;refine wpAny_list_append_plain (hsz:=by simp;omega) ⟨k,a3⟩ fun h10 hl10 hs10=>?_;obtain⟨k10,e10⟩:=hl10;have I9':Inv (X.blk (Lc++F) scope C s H fp) [] σ7 H9 s9:=I9.pins_of fun p hp=>nomatch hp;have I10:Inv (X.blk (Lc++F) scope C s H fp) [] σ7 H9 { s9 with heap:=h10,toks:=s9.toks }:=I9'.turned (it:=D) (fun b o hb e=>(hs10.2 b hb).trans e) a4 hDC (.inr (by show s.heap.objs.size<=D;rw[hD];exact Yw _)) nD (fun p hp=>nomatch hp);have e10':h10.get? D=some { cls:=.type "list",data:=.seq (tq++[xv]).toArray k10 }:=by rw[e10,List.push_toArray]
      refine⟨m',hm,i+1,ys++[v],tq++[xv],k10,H9,fin (i':=i) (ys':=ys) I10 e10' a4,Paired.snoc rv r9,?_,a2,w9⟩;exact T.keep _ _ _ a1 fun b hb o e=>(hs10.2 b (Yx (hfl b hb))).trans e
 exact codeAny_compStart_list (loop _ rfl) (T.self _ 0 _ _ _ (T.keep 0 _ _ st0 fun b _ o e=>old b o e) (loop _ rfl))
theorem jk8(hc:X.calm=true)(hkind:scope.kind=.function)(hnames:∀x∈scope.names,x.2=.local->scope.names.lookup x.1=some .local)(hcell:∀y∈scope.names,y.2=.cell->scope.names.lookup y.1=some .cell)
 (hfree:∀n,(n,NameKind.free)∈scope.names->X.env.scope.names.lookup n=some .cell\/X.env.scope.names.lookup n=some .free)
 (hix:ix.length=F.length) (hF:∀(j:Nat) (x:Str) (k:Nat),F[j]?=some x->ix[j]?=some k->X.N[k]?=some x/\(X.env.scope.names.lookup x=some .cell\/X.env.scope.names.lookup x=some .free)/\scope.names.lookup x=some .free)
 (hi:PI X tg iter wi) (hg:∀C s H fp,PG (X.blk (Lc++F) scope C s H fp) tg g) (hloc:jd3 Lc.length g) (ht:∀C s H fp,PTs (X.blk (Lc++F) scope C s H fp) ifs tt) (he:∀C s H fp,PE (X.blk (Lc++F) scope C s H fp) elt te)
 (hs:∀x,foldedSetIterable iter X.env x=pure x:=by intro _;rfl):PE X (.ListComp elt [⟨tg,iter,ifs,0⟩] scope pos) (tLC wi g tt te Lc.length ix):=by
 intro tf s σ H Q I h;rw[eval_ListComp];refine wpAny_comprehension_free (use:=none) rfl hs (Qx fun n hn=>I.ok.has n (hfree n hn)) hkind hnames (qH (hi tf s σ H _ I h) fun xv s₁ h₁=>qH h₁ fun itv s₂ h₂=>?_);obtain⟨it,fp,tn,J,H2,rfl,I2,T,st2,f2,W,w0,turn⟩:=h₂;refine jc3 (RR:=fun tw C=>compPost (model X.prog X.w) X.A X.xe none (EP X tf σ Q) tw C) (Qv:=fun ys H'=>∀p,H' p=none->Q (.ref p) (upd H' p (.lst ys))) hc hkind hcell hfree hix hF hg hloc ht he I2 T st2 f2 W w0 turn ?_;intro D C H' s' ys m hDC hD hC nD nC hn I' q;refine⟨m,hn,fun h' hsb=>⟨.ref D,upd H' D (.lst ys),?_,rfl,q D nD⟩⟩;refine I'.turned (it:=C) (t':=s'.toks) (fun b o hb e=>(hsb.2 b hb).trans e) (by rw[ju (Ne.symm hDC)];exact nC) (fun z=>?_) (.inr (YM I2.sz hC)) (fun x c e z=>?_) fun p hp z=>?_
 . exact absurd (Ye (by rw[z];exact I2.lt) hC) (YV _)
 . obtain⟨v,w⟩:=I2.cell x c e;exact absurd (Ye w.lt (by rw[z];exact hC)) (YV _)
 . have:=Yz (I2.pin p hp).1;rw[z]at this;exact absurd (Ye this hC) (YV _)
theorem jfn{i:Nat}{y:Str}{py spos:Pos}(hN:X.N.Nodup)(hy:X.N[i]?=some y)(hyl:X.env.scope.names.lookup y=some .local)
 (hc:X.calm=true) (hkind:scope.kind=.function) (hnames:∀x∈scope.names,x.2=.local->scope.names.lookup x.1=some .local) (hcell:∀y∈scope.names,y.2=.cell->scope.names.lookup y.1=some .cell)
 (hfree:∀n,(n,NameKind.free)∈scope.names->X.env.scope.names.lookup n=some .cell\/X.env.scope.names.lookup n=some .free)
 (hix:ix.length=F.length) (hF:∀(j:Nat) (x:Str) (k:Nat),F[j]?=some x->ix[j]?=some k->X.N[k]?=some x/\(X.env.scope.names.lookup x=some .cell\/X.env.scope.names.lookup x=some .free)/\scope.names.lookup x=some .free)
 (hi:PI X tg iter wi) (hg:∀C s H fp,PG (X.blk (Lc++F) scope C s H fp) tg g) (hloc:jd3 Lc.length g) (ht:∀C s H fp,PTs (X.blk (Lc++F) scope C s H fp) ifs tt) (he:∀C s H fp,PE (X.blk (Lc++F) scope C s H fp) elt te)
 (hsw:swapsWith (.ListComp elt [⟨tg,iter,ifs,0⟩] scope pos) (some (.Name y py)) spos.line X.env=pure true)
 (hs:∀x,foldedSetIterable iter X.env x=pure x:=by intro _;rfl):PS X (.Assign [.Name y py] (.ListComp elt [⟨tg,iter,ifs,0⟩] scope pos) spos) (ZQ (tLC wi g tt te Lc.length ix) (JS i)):=by
 intro tf s σ H D₀ I h;rw[exec_Assign_Name_used _ _ _ _ hsw];refine QB (wpAny_standAt (QB ?_));show wpAny _ X.A (do let _ <- comprehension (.ListComp elt [⟨tg,iter,ifs,0⟩] scope pos) scope X.env _ (newList []) false (eval iter X.env) (some (assign (.Name y py) X.env))) _ _ s;refine QB (yp (wpAny_comprehension_free (use:=some (assign (.Name y py) X.env)) (Q:=fun _ s'=>SP X tf D₀ .next s') rfl hs (Qx fun n hn=>I.ok.has n (hfree n hn)) hkind hnames
  (qH (hi tf s σ H _ I h) fun xv s₁ h₁=>qH h₁ fun itv s₂ h₂=>?_)) (fun _ s' hq=>Yj (Yj hq)) fun _ _ e=>e)
 obtain⟨it,fp,tn,J,H2,rfl,I2,T,st2,f2,W,w0,turn⟩:=h₂;refine jc3 (RR:=fun tw C=>compPost (model X.prog X.w) X.A X.xe (some (assign (.Name y py) X.env)) (fun _ s'=>SP X tf D₀ .next s') tw C) (Qv:=fun ys H'=>∀p,H' p=none->D₀.nx (σ.set i (some (.ref p))) (upd H' p (.lst ys)))
  hc hkind hcell hfree hix hF hg hloc ht he I2 T st2 f2 W w0 turn ?_
 intro D C H' s' ys m hDC hD hC nD nC hn I' q;show wpAny _ X.A (assign (.Name y py) X.env (.ref D)) _ _ s';refine wpAny_assign_Name (jbD I' hN hy (.inl hyl) (v:=.ref D) rfl (fun s2 I2' zz=>?_) (.inr hyl));obtain⟨a,hsb,ha⟩:=zz;have hCL:C≠X.env.locals:=fun z=>absurd (Ye (by rw[z];exact I2.lt) hC) (YV _);have hCc:∀x c,X.env.cells.lookup x=some c->c≠C:=fun x c e z=>by obtain⟨v,w⟩:=I2.cell x c e;exact absurd (Ye w.lt (by rw[z];exact hC)) (YV _)
 have hCa:C≠a:=by
  rcases ha with z | z
  . rw[z];exact hCL
  . exact fun w=>hCc y a z w.symm
 refine⟨m,hn.sameBut hsb hCa,fun h' hsb'=>⟨σ.set i (some (.ref D)),upd H' D (.lst ys),?_,q D nD⟩⟩;refine I2'.turned (it:=C) (t':=s2.toks) (fun b o hb e=>(hsb'.2 b hb).trans e) (by rw[ju (Ne.symm hDC)];exact nC) hCL (.inr (YM I2.sz hC)) hCc fun p hp z=>?_;have:=Yz (I2.pin p hp).1;rw[z]at this;exact absurd (Ye this hC) (YV _)
end
section
variable{X:Cx}
def jeB(i j:Int):Prop:=0<j/\j<2 ^ 200
theorem jgS:OpR X (binaryOp .FloorDiv) (rI jeB fun i j=>.int (i/j)):=opI fun i j _ _ _ _ _ hc q=>by
 have h1:(0:Int)<j:=hc.1;have h2:j<2 ^ 200:=hc.2;refine floordiv_int (by omega) (by rw[Int.fdiv_eq_ediv_of_nonneg i (by omega)];exact q) (.inl (PyProof.noPylong_of_log2 ?_));have h3:j.natAbs<2 ^ 200:=by omega
 have h4:j.natAbs≠0:=by omega
 have h5:=(Nat.log2_lt h4).mpr h3;omega
def IsT(K:PySem.W.Frag)(H:Hp)(x:V)(T:String)(b:Bool):Prop:=∃t,TyOf K H x t/\PySem.W.kitOne K t (.type T)=some b
theorem jcI:CallR X (.builtin "isinstance") (fun xs H Q=>∃x T b,xs=[x,.ty T] ∧ IsT X.K H x T b ∧ Q (.bl b) H):=by intro tf s σ H xs us Q I r h;obtain⟨x,T,b,rfl,⟨t,ty,e⟩,q⟩:=h;obtain⟨u,v,rfl,rx,ry⟩:=Vals.two r;have:v=Value.type T:=ry;subst this;exact je4 I rx ty e fun tk=>⟨.bl b,H,I.tok _,rfl,q⟩
theorem jgc(hc:X.calm=true):CallR X (.builtin "sum") (fun xs H Q=>∃(p:Addr) (ns:List Int),xs=[.ref p] ∧ zQ X.K H p (ns.map V.int) ∧ Q (.int ns.sum) H):=by
 intro tf s σ H xs us Q I r h;obtain⟨p,ns,rfl,hq,q⟩:=h;obtain⟨u,rfl,rx⟩:=Vals.one r;cases rx;obtain⟨tq,rv,pl,hz⟩:=I.list hq;have hi:IntsAre tq ns:=QQ rv;obtain⟨ys,hx⟩:=hi.allInts.items;have hl':s.heap.IsList p (intItems ys):=hx ▸ pl.isList;refine sum_intListG (I.ok.hd hc) hl' fun h' tk t' hk=>?_;have e1:ns=ys.toList.map (·.1):=by rw[<-nums_intItems,<- hx];exact(show numsOf tq.toArray.toList=ns from hi.numsOf).symm
 have e2:preSum (numAt ys) ys.size=ns.sum:=by rw[preSum_eq,List.take_of_length_le (by simp),e1]
 rw[e2];exact⟨.int ns.sum,H,I.kept hk,⟨_,rfl⟩,q⟩
theorem jfQ(hc:X.calm=true):CallR X (.builtin "all") (fun xs H Q=>∃(p:Addr) (bs:List Bool),xs=[.ref p] ∧ zQ X.K H p (bs.map V.bl) ∧ Q (.bl (bs.all id)) H):=by
 intro tf s σ H xs us Q I r h;obtain⟨p,bs,rfl,hq,q⟩:=h;obtain⟨u,rfl,rx⟩:=Vals.one r;cases rx;obtain⟨tq,rv,pl,hz⟩:=I.list hq;have hl:=pl.isList;have hlt:p<s.heap.objs.size:=by obtain⟨_,e,_⟩:=hl;exact Yz e
 have tJ:tq.length=bs.length:=by have:=rv.length;rw[QC]at this;exact this.symm
 refine call_all_walk (wpAny_pyIter_list hl ?_);refine⟨s.heap.objs.size,[s.heap.objs.size,p],[s.heap.objs.size],tq.toArray.size,_,_,fun i=>(bs[i]?).getD true,rfl,Walks.list (A:=X.A.in1) (I.ok.hd hc) _ p (Yx hlt) tq.toArray,
  ⟨⟨_,YA _ rfl,rfl,rfl⟩,hl.push _⟩,fun i v s' Q' E' hP hQ=>?_,fun h' tk hk=>?_⟩
 . have hP':tq[i]?=some v:=by simpa using hP
   cases e:bs[i]? with
   | none=>have:bs.length<=i:=YZ.mp e;have:tq[i]?=none:=YZ.mpr (by omega);rw[this]at hP';cases hP'
   | some b=>obtain⟨u,e1,e2⟩:=rv.get (i:=i) (x:=V.bl b) (by rw[Yr,e];rfl);rw[hP']at e1;cases e1;have:v=Value.bool b:=e2;subst this;simp only[e,Option.getD_some]at hQ;exact yG hQ
 . have e:((List.range tq.toArray.size).all fun i=>(bs[i]?).getD true)=bs.all id:=by rw[Yu,tJ];exact LSm.range_all bs
   rw[e];exact⟨.bl (bs.all id),H,I.kept (LSm.kept_iter hk),rfl,q⟩
end
theorem jh4{X:Cx}{x:Str}{i:Int}{t:Tok}{pos:Pos}(hg:Gl X x)(hm:X.mg x=some (.int i t))(hd:(x == ("__debug__":Str))=false:=by decide):PE X (.Name x pos) (tC (.int i)):=jht hg hm ⟨t,rfl⟩ hd
theorem jln{X:Cx}{x:Str}{T:String}{pos:Pos}(hg:Gl X x)(hm:X.mg x=none)(hv:bootBuiltins x=some (.type T))(hn:x ≠ "__name__":=by decide)(hd:(x == ("__debug__":Str))=false:=by decide):PE X (.Name x pos) (tC (.ty T)):=jh0 hg hm hv rfl hn hd
theorem Same.upd{H:Hp}{p:Addr}{o:HO}(h:H p=none):Same H (upd H p o):=fun b u e=>by rw[ju (jz e h)];exact e
theorem HOk.grow{P:Program}{w:World}{H H':Hp}{h h':Heap}(x:HOk P w H h)(k:∀b u,h.get? b=some u->h'.get? b=some u)(same:∀b,@LT.lt Nat instLTNat b h.objs.size->H' b=H b)
 (new:∀b o,h.objs.size<=b->H' b=some o->ObjOk P w H' h' b o):HOk P w H' h':=fun b o e=>by
 rcases YT b h.objs.size with z | z
 . rw[same b z]at e;exact(x b o e).stay (fun c v _ q=>k c v q) (fun c q=>by rw[same c (x.lt q)];exact q) fun c xs q=>by rw[same c (x.lt q)];exact q
 . exact new b o z e
section
variable{X:Cx}{tf:List (Addr×Obj)}{σ:St}{H H':Hp}{s:Shared}{h':Heap}
theorem Inv.grow{t':Nat}{d':Drawn}(I:Inv X tf σ H s)(k:∀b u,s.heap.get? b=some u->h'.get? b=some u)(same:∀b,@LT.lt Nat instLTNat b s.heap.objs.size->H' b=H b)
 (new:∀b o,s.heap.objs.size<=b->H' b=some o->ObjOk X.prog X.w H' h' b o):Inv X tf σ H' { s with heap:=h',drawn:=d',toks:=t' }:=
 I.step (g':=s.gens) (d':=d') (ch:=[]) (fun _ z=>nomatch z) (fun b o _ _ _ e _=>k b o e) (fun b o _ _ _ e _=>⟨o.slots,k b o e⟩) (fun b o _ e n=>by rw[same b (Yz e)];exact n) (fun b o _ e=>⟨o,k b o e⟩)
  (fun b xs e=>by rw[same b (I.hok.lt e)];exact e) (fun b o u e=>by rw[same b (I.hok.lt e)];exact e) (fun b ps e=>⟨#[],by rw[same b (I.hok.lt e),e];simp⟩) (fun m hm=>hm.keeps k) (I.hok.grow k same new) I.bare
theorem Inv.turnNew{ch:List Addr}{t:Addr}{o:HO}{tk:Nat}(I:Inv X tf σ H s)(hf:∀b∈ch,jaX X tf H b)(k:∀b u,b∉ch->s.heap.get? b=some u->h'.get? b=some u)(ht:s.heap.objs.size<=t)
 (new:ObjOk X.prog X.w (upd H t o) h' t o):Inv X tf σ (upd H t o) { s with heap:=h',toks:=tk }:=by
 have hn:H t=none:=I.hok.fresh ht;have lt:∀b u,s.heap.get? b=some u->b≠t:=fun b u e=>Yx (Ye (Yz e) ht);have nch:∀b u,H b=some u->b∉ch:=fun b u e z=>by rw[(hf b z).1]at e;cases e
 refine I.step (g':=s.gens) (d':=s.drawn) (ch:=ch) (fun b hb=>⟨(hf b hb).2.2.2.1,(hf b hb).2.1,(hf b hb).2.2.2.2.1,(hf b hb).2.2.2.2.2⟩) (fun b u _ _ hc e _=>k b u hc e) (fun b u _ _ hc e _=>⟨u.slots,k b u hc e⟩)
  (fun b u _ e n=>by rw[ju (lt b u e)];exact n) (fun b u hc e=>⟨u,k b u hc e⟩) (fun b xs e=>by rw[ju (jz e hn)];exact e) (fun b u v e=>by rw[ju (jz e hn)];exact e) (fun b ps e=>⟨#[],by rw[ju (jz e hn),e];simp⟩)
  (fun m hm=>?_) (fun b u e=>?_) I.bare
 . obtain⟨ol,es,ep,ho,r⟩:=hm;exact⟨ol,es,ep,k _ ol (fun z=>(hf _ z).2.1 rfl) ho,r⟩
 . by_cases hb:b=t
   . subst hb;rw[jw]at e;cases e;exact new
   . rw[ju hb]at e;refine(I.hok b u e).stay (fun c v hc q=>k c v ?_ q) (fun c q=>by rw[ju (jz q hn)];exact q) fun c xs q=>by rw[ju (jz q hn)];exact q
     rcases hc with z | z
     . rw[z];exact nch b u e
     . exact nch c _ z
end
def Itz(K:PySem.W.Frag)(p q:Addr):It:=
 ⟨fun i H=>∃xs ys x y,zQ K H p xs/\zQ K H q ys/\xs[i]?=some x/\ys[i]?=some y,
  fun i H v H'=>∃t x y,H t=none/\v=.ref t/\H'=upd H t (.tup [x,y])/\(∀xs,zQ K H p xs->xs[i]?=some x)/\∀ys,zQ K H q ys->ys[i]?=some y,
  fun i H=>∃xs ys,zQ K H p xs/\zQ K H q ys/\(xs.length<=i\/ys.length<=i)⟩
theorem jbk{h:Heap}{T:Addr}{a b:Value}(e:IsPair h T a b):IsTup h T [a,b].toArray:=⟨_,e,rfl,0,rfl⟩
theorem jg6{P:Program}{w:World}{K:PySem.W.Frag}{elts:List Expr}{x1:Nat}{tpos:Pos}{z TI TO i1 i2 p q:Addr}(D:ZipApart z TI TO i1 i2 p q):
 Turn P w K (.Tuple elts x1 tpos) (Itz K p q) [z,TI,TO,i1,i2] z (fun i h=>IsZip h z TI TO .none/\IsPair h TI (.ref i1) (.ref i2)/\(∃a b,IsPair h TO a b)/\h.IsListIter i1 p i/\h.IsListIter i2 q i) where
 mem:=by simp
 obj:=fun i h st b hb=>by
  obtain⟨hz,hTI,⟨a,c,hTO⟩,⟨o1,e1,_,d1⟩,⟨o2,e2,_,d2⟩⟩:=st;simp only[Yl,YR,Kb]at hb;rcases hb with rfl | rfl | rfl | rfl | rfl
  . exact⟨_,hz,fun v y=>nomatch y⟩
  . exact⟨_,hTI,fun v y=>nomatch y⟩
  . exact⟨_,hTO,fun v y=>nomatch y⟩
  . exact⟨o1,e1,fun v y=>by rw[d1]at y;cases y⟩
  . exact⟨o2,e2,fun v y=>by rw[d2]at y;cases y⟩
 keep:=fun i h h' st k=>by obtain⟨hz,hTI,⟨a,c,hTO⟩,h1,h2⟩:=st;exact⟨k _ (by simp) _ hz,k _ (by simp) _ hTI,⟨a,c,k _ (by simp) _ hTO⟩,h1.at fun o e=>k _ (by simp) o e,h2.at fun o e=>k _ (by simp) o e⟩
 item:=by
  intro X hP hw hK hc i tf s σ H E I hf st hg;subst hP hw hK;obtain⟨xs,ys,x,y,hp,hq,hx,hy⟩:=hg;obtain⟨tq,rv,pl,_⟩:=I.list hp;obtain⟨its2,rv2,pl2,_⟩:=I.list hq;obtain⟨u,hu,ru⟩:=rv.get hx;obtain⟨u2,hu2,ru2⟩:=rv2.get hy;obtain⟨hz,hTI,⟨a,c,hTO⟩,h1,h2⟩:=st;refine wpAny_pyNext_zip_item D hz hTI hTO h1 h2 pl.isList pl2.isList (x:=u) (y:=u2) (by simpa using hu) (by simpa using hu2) fun h' r1 r2 r3 r4 r5 r6 r7=>?_;have kk:∀b o,b∉[z,TI,TO,i1,i2]->s.heap.get? b=some o->h'.get? b=some o:=fun b o hb e=>by simp only[Yl,YR,Kb,not_or]at hb;exact r7 b o hb.1 hb.2.2.1 hb.2.2.2.1 hb.2.2.2.2 e
  have I1:Inv X tf σ (upd H s.heap.objs.size (.tup [x,y])) { s with heap:=h',toks:=s.toks }:=I.turnNew hf kk (Yw _) ⟨by show 2<=sizeLine;decide,[u,u2],.cons ru (.cons ru2 .nil),jbk r5⟩;have hTI':IsPair h' TI (.ref i1) (.ref i2):=r7 _ _ D.TIz D.TITO D.TIi1 D.TIi2 hTI;have nt:∀b∈[z,TI,TO,i1,i2],b≠s.heap.objs.size:=fun b hb=>by
   simp only[Yl,YR,Kb]at hb;rcases hb with rfl | rfl | rfl | rfl | rfl
   . exact Yx (ltN hz)
   . exact Yx (ltN hTI)
   . exact Yx (ltN hTO)
   . obtain⟨_,e,_⟩:=h1;exact Yx (ltN e)
   . obtain⟨_,e,_⟩:=h2;exact Yx (ltN e)
  refine⟨_,rfl,wpAny_letOwnedTupleGo_zip (s:={ s with heap:=h' }) r1 fun h'' z' sb=>?_⟩;obtain⟨f0,f1,f2,f3,f4,f5⟩:=hf z (by simp);have hn:H s.heap.objs.size=none:=I.hok.fresh (Yw _);have I2:Inv X tf σ (upd H s.heap.objs.size (.tup [x,y])) { s with heap:=h'',toks:=s.toks }:=Inv.turned (s:={ s with heap:=h',toks:=s.toks }) (h':=h'') I1 (t':=s.toks) (it:=z) (fun b o hb e=>(sb.2 b hb).trans e) (by rw[ju (nt z (by simp))];exact f0) f1 f3 f4 f5;refine⟨.ref s.heap.objs.size,_,I2,rfl,⟨_,x,y,hn,rfl,rfl,fun xs' h'=>by rw[I.list_inj h' hp];exact hx,fun ys' h'=>by rw[I.list_inj h' hq];exact hy⟩,⟨z',sb.extBut _ _ D.TIz hTI',⟨_,_,sb.extBut _ _ D.TOz r2⟩,r3.extBut sb.extBut D.i1z,r4.extBut sb.extBut D.i2z⟩,fun b hb=>?_⟩;rw[ju (nt b hb)];exact(hf b hb).1
 done:=by
  intro X hP hw hK hc i tf s σ H E I hf st hg;subst hP hw hK;obtain⟨xs,ys,hp,hq,he⟩:=hg;obtain⟨tq,rv,pl,_⟩:=I.list hp;obtain⟨its2,rv2,pl2,_⟩:=I.list hq;obtain⟨hz,hTI,⟨a,c,hTO⟩,h1,h2⟩:=st;have l1:=rv.length;have l2:=rv2.length;refine wpAny_pyNext_zip_end (I.ok.hd hc) D hz hTI hTO h1 h2 pl.isList pl2.isList (by rcases he with e | e;exact .inl (by simp;omega);exact .inr (by simp;omega)) fun h' kk=>⟨rfl,?_⟩;have J:∀b o,b∉[z,TI,TO,i1,i2]->s.heap.get? b=some o->h'.get? b=some o:=fun b o hb e=>by simp only[Yl,YR,Kb,not_or]at hb;exact kk b o hb.1 hb.2.2.1 hb.2.2.2.1 hb.2.2.2.2 e
  have nch:∀b u,H b=some u->b∉[z,TI,TO,i1,i2]:=fun b u e y=>by rw[(hf b y).1]at e;cases e
  refine I.step (g':=s.gens) (d':=s.drawn) (t':=s.toks) (ch:=[z,TI,TO,i1,i2]) (fun b hb=>⟨(hf b hb).2.2.2.1,(hf b hb).2.1,(hf b hb).2.2.2.2.1,(hf b hb).2.2.2.2.2⟩) (fun b u _ _ hc e _=>J b u hc e) (fun b u _ _ hc e _=>⟨u.slots,J b u hc e⟩)
   (fun _ _ _ _ n=>n) (fun b u hc e=>⟨u,J b u hc e⟩) (fun _ _ e=>e) (fun _ _ _ e=>e) (fun b ps e=>⟨#[],by rw[e];simp⟩) (fun m hm=>?_) (fun b u e=>?_) I.bare
  . obtain⟨ol,es,ep,ho,r⟩:=hm;exact⟨ol,es,ep,J _ ol (fun y=>(hf _ y).2.1 rfl) ho,r⟩
  . refine(I.hok b u e).stay (fun c v hc q=>J c v ?_ q) (fun _ q=>q) fun _ _ q=>q;rcases hc with y | y
    . rw[y];exact nch b u e
    . exact nch c _ y
 self:=fun _ _ _ _ _ st h=>wpAny_pyIter_zip st.1 h
section
variable{X:Cx}
def jjJ(K:PySem.W.Frag)(ta:TA):TI:=fun σ H R=>ta σ H fun vs H1=>∃p q xs ys,vs=[.ref p,.ref q]/\zQ K H1 p xs/\zQ K H1 q ys/\R (Itz K p q) H1
theorem jjz{a b:Expr}{ta:TA}{p pos:Pos}{elts:List Expr}{x1:Nat}{tpos:Pos}(hg:Gl X "zip")(hm:X.mg "zip"=none)(ha:PA X [a,b] ta)(hs:starEach [a,b] X.env=[(false,eval a X.env),(false,eval b X.env)]:=by rfl)(hs2:starEach [b] X.env=[(false,eval b X.env)]:=by rfl):
 PI X (.Tuple elts x1 tpos) (.Call (.Name "zip" p) [a,b] [] pos) (jjJ X.K ta):=by
 intro tf s σ H R I h;refine Call_ (QT I hg hm boot_zip (yi (qH (ha pos tf s σ H _ I h) fun us s1 zz=>?_) (by rw[hs,hs2]) (by rw[hs2];rfl)));obtain⟨vs,H1,I1,r1,q1⟩:=zz;obtain⟨pa,pb,xs,ys,e,hp,hq,q⟩:=q1;subst e;obtain⟨u,v,rfl,ru,rv⟩:=Vals.two r1;cases ru;cases rv;obtain⟨tq,rx,pl,_⟩:=I1.list hp;obtain⟨its2,ry,pl2,_⟩:=I1.list hq;have lta:@LT.lt Nat instLTNat pa s1.heap.objs.size:=by obtain⟨_,e,_⟩:=pl.isList;exact ltN e
 have ltb:@LT.lt Nat instLTNat pb s1.heap.objs.size:=by obtain⟨_,e,_⟩:=pl2.isList;exact ltN e
 refine call_zip_2 pl.isList pl2.isList fun h' r1 r2 r3 r4 r5 r6 r7=>wpAny_pyIter_zip (s:={ s1 with heap:=h' }) r1 ?_;have I2:Inv X tf σ H1 { s1 with heap:=h',toks:=s1.toks }:=I1.kept (t':=s1.toks) r7;refine⟨_,[s1.heap.objs.size+4,s1.heap.objs.size+2,s1.heap.objs.size+3,s1.heap.objs.size,s1.heap.objs.size+1],_,_,H1,rfl,I2,jg6 (zipApart_new lta ltb),⟨r1,r2,⟨_,_,r3⟩,r4,r5⟩,fun b hb=>?_,q⟩;have ge:s1.heap.objs.size<=b:=by
  simp only[Yl,YR,Kb]at hb;rcases hb with rfl | rfl | rfl | rfl | rfl
  . exact yy _ 4
  . exact yy _ 2
  . exact yy _ 3
  . exact Yw _
  . exact yy _ 1
 exact I1.fpOk ge (I1.hok.fresh ge)
end
section
variable{X:Cx}
def jba(K:PySem.W.Frag)(ta:TA):TE:=fun σ H Q=>ta σ H fun vs H1=>∃p q xs ys,vs=[.ref p,.ref q]/\zQ K H1 p xs/\zQ K H1 q ys/\xs.length<sizeLine /\
 ∀(l:Addr) (ts:List Addr) (H':Hp),H1 l=none->(∀t∈ts,H1 t=none)->l∉ts->ts.Nodup->ts.length=min xs.length ys.length->(∀b,b≠l->b∉ts->H' b=H1 b)->H' l=some (.lst (ts.map V.ref))->
   (∀(i:Nat) t x y,ts[i]?=some t->xs[i]?=some x->ys[i]?=some y->H' t=some (.tup [x,y]))->Q (.ref l) H'
theorem jbX:∀ts:List Addr,Vals (ts.map V.ref) (ts.map Value.ref)
 | []=>.nil
 | _::ts=>.cons rfl (jbX ts)
theorem jcs{ts:List Addr}{b:Addr}(h:b∈ts):ts.idxOf b<ts.length/\ts[ts.idxOf b]?=some b:=by have h1:=List.idxOf_lt_length_of_mem h;exact⟨h1,by rw[Ya h1,List.getElem_idxOf h1]⟩
theorem jdR{a b:Expr}{ta:TA}{p1 p2 pos1 pos2:Pos}(hc:X.calm=true)(hg1:Gl X "list")(hm1:X.mg "list"=none)(hg2:Gl X "zip")(hm2:X.mg "zip"=none)(ha:PA X [a,b] ta)
 (hs:starEach [a,b] X.env=[(false,eval a X.env),(false,eval b X.env)]:=by rfl) (hs2:starEach [b] X.env=[(false,eval b X.env)]:=by rfl)
 (hs3:starEach [.Call (.Name "zip" p2) [a,b] [] pos2] X.env=[(false,eval (.Call (.Name "zip" p2) [a,b] [] pos2) X.env)]:=by rfl) :
 PE X (.Call (.Name "list" p1) [.Call (.Name "zip" p2) [a,b] [] pos2] [] pos1) (jba X.K ta):=by
 intro tf s σ H Q I h;refine Call_ (QT I hg1 hm1 KJ (yi ?_ hs3 rfl));rw[hs3];show wpAny _ _ (spliced ((false,eval (.Call (.Name "zip" p2) [a,b] [] pos2) X.env)::backTo pos1 [])) _ _ s;refine Calls.spliced_cons (Call_ (QT I hg2 hm2 boot_zip (yi (qH (ha pos2 tf s σ H _ I h) fun us s1 zz=>?_) (by rw[hs,hs2]) (by rw[hs2];rfl))));obtain⟨vs,H1,I1,r1,q1⟩:=zz;obtain⟨pa,pb,xs,ys,e,hp,hq,hxl,q⟩:=q1;subst e;obtain⟨u,v,rfl,ru,rv⟩:=Vals.two r1;cases ru;cases rv;obtain⟨tq,rx,pl,hz1⟩:=I1.list hp;obtain⟨its2,ry,pl2,hz2⟩:=I1.list hq;have lx:=rx.length;have ly:=ry.length;have lta:@LT.lt Nat instLTNat pa s1.heap.objs.size:=by obtain⟨_,e,_⟩:=pl.isList;exact ltN e
 have ltb:@LT.lt Nat instLTNat pb s1.heap.objs.size:=by obtain⟨_,e,_⟩:=pl2.isList;exact ltN e
 refine call_zip_2 pl.isList pl2.isList fun h' r1 r2 r3 r4 r5 r6 r7=>?_;refine Calls.spliced_nil ?_;refine jf4 (h₀:=s1.heap) (xs:=tq.toArray) (ys:=its2.toArray) (I.ok.hd hc) (zipApart_new lta ltb) r1 r2 ⟨_,_,r3⟩ r4 r5 pl.isList pl2.isList r7 ⟨yy _ 4,yy _ 3,Yw _,yy _ 1⟩ (by show s1.heap.objs.size<=h'.objs.size;rw[r6];exact yy _ 5) (by simp;omega) fun S g tw c hS eS M=>?_
 -- the tuples' addresses
 have hmin:min tq.toArray.size its2.toArray.size=min xs.length ys.length:=by simp;omega
 have hts:∃ts:List Addr,tw.toList=ts.map Value.ref:=by
  have:∀v∈tw.toList,∃t,v=Value.ref t:=fun v hv=>by
   obtain⟨j,hj,e⟩:=List.getElem_of_mem hv;have hj':j<tw.size:=by simpa using hj
   obtain⟨T,x,y,e1,_⟩:=M.pair j (by rw[<-M.size];exact hj');rw[YE hj']at e1;exact⟨T,by rw[<-e];simpa using Option.some.inj e1⟩
  generalize tw.toList=l at this;clear eS M;induction l with
  | nil=>exact⟨[],rfl⟩
  | cons v l ih=>obtain⟨t,rfl⟩:=this v Yb;obtain⟨ts,e⟩:=ih fun x hx=>this x (Yf _ hx);exact⟨t::ts,by rw[e];rfl⟩
 obtain⟨ts,hts⟩:=hts;have tl:ts.length=min xs.length ys.length:=by have:=congrArg List.length hts;rw[QC,yf,M.size,hmin]at this;exact this.symm
 have at_:∀(j:Nat) (t:Addr),ts[j]?=some t->tw[j]?=some (.ref t):=fun j t e=>by rw[<-yw,hts,Yr,e];rfl
 have info:∀(j:Nat) (t:Addr),ts[j]?=some t->∃x y,tq[j]?=some x/\its2[j]?=some y/\IsPair g t x y/\s1.heap.objs.size<=t/\t≠S/\∀k,k<j->tw[k]?≠some (.ref t):=fun j t e=>by
  have hj:j<ts.length:=(Yg.mp e).1;obtain⟨T,x,y,e1,e2,e3,e4,e5,e6,_,e7⟩:=M.pair j (by rw[hmin,<- tl];exact hj);rw[at_ j t e]at e1;have:t=T:=by injection (Option.some.inj e1)
  subst this;exact⟨x,y,by simpa using e2,by simpa using e3,e4,e5,e6,e7⟩
 have nd:ts.Nodup:=by rw[List.nodup_iff_pairwise_ne,List.pairwise_iff_getElem];intro i j hi hj hij e;obtain⟨_,_,_,_,_,_,_,q7⟩:=info j ts[j] (Ya hj);exact q7 i hij (by rw[<-e];exact at_ i _ (Ya hi))
 have fresh:∀t∈ts,s1.heap.objs.size<=t/\t≠S:=fun t ht=>by obtain⟨h1,h2⟩:=jcs ht;obtain⟨_,_,_,_,_,q5,q6,_⟩:=info _ t h2;exact⟨q5,q6⟩
 let H':Hp:=fun b=>if b=S then some (.lst (ts.map V.ref))else if b∈ts then some (.tup [(xs[ts.idxOf b]?).getD .non,(ys[ts.idxOf b]?).getD .non])else H1 b
 have HS:H' S=some (.lst (ts.map V.ref)):=Ys rfl;have HT:∀(i:Nat) t x y,ts[i]?=some t->xs[i]?=some x->ys[i]?=some y->H' t=some (.tup [x,y]):=fun i t x y e e1 e2=>by
  have hi:i<ts.length:=(Yg.mp e).1;have ht:t∈ts:=Yq e;have hix:ts.idxOf t=i:=by obtain⟨h1,h2⟩:=jcs ht;exact(List.getElem_inj (h₀:=h1) (h₁:=hi) nd).mp ((Yg.mp h2).2.trans (Yg.mp e).2.symm)
  show(if t=S then _ else if t∈ts then _ else _)=_;rw[YJ (fresh t ht).2,Ys ht,hix,e1,e2];rfl
 have HO':∀b,b≠S->b∉ts->H' b=H1 b:=fun b h1 h2=>by show(if b=S then _ else if b∈ts then _ else _)=_;rw[YJ h1,YJ h2]
 have I2:Inv X tf σ H' { s1 with heap:=g,drawn:=s1.drawn,toks:=s1.toks }:=by
  refine I1.grow M.keep (fun b hb=>HO' b (fun z=>?_) (fun z=>?_)) fun b o hb e=>?_
  . rw[z]at hb;exact Nat.not_lt.mpr hS hb
  . exact Nat.not_lt.mpr (fresh b z).1 hb
  . by_cases hbS:b=S
    . subst hbS;rw[HS]at e;cases e;refine⟨by rw[QC,tl];omega,tw.toList,c,?_,by simpa using eS⟩;rw[hts];exact jbX ts
    . by_cases hbt:b∈ts
      . obtain⟨h1,h2⟩:=jcs hbt;obtain⟨x,y,e1,e2,e3,_⟩:=info _ b h2;have hxi:ts.idxOf b<xs.length:=by omega
        have hyi:ts.idxOf b<ys.length:=by omega
        rw[HT _ b _ _ h2 (Ya hxi) (Ya hyi)]at e;cases e;obtain⟨u1,g1,g2⟩:=rx.get (Ya hxi);obtain⟨u2,g3,g4⟩:=ry.get (Ya hyi);rw[e1]at g1;rw[e2]at g3;cases g1;cases g3;exact⟨by show 2<=sizeLine;decide,[x,y],.cons g2 (.cons g4 .nil),jbk e3⟩
      . rw[HO' b hbS hbt]at e;exact absurd (I1.hok.lt e) (Nat.not_lt.mpr hb)
 have nS:H1 S=none:=I1.hok.fresh hS;exact⟨.ref S,H',I2,rfl,q S ts H' nS (fun t ht=>I1.hok.fresh (fresh t ht).1) (fun z=>(fresh S z).2 rfl) nd tl HO' HS HT⟩
def jcf(X:Cx)(a:Addr)(ns:List Int):HO:=.ext fun h=>L2S.Ql X.prog X.w h a ns
theorem jfa{P:Program}{w:World}{a:Addr}{ns:List Int}{h1 h2:Heap}(r:L2S.Ql P w h1 a ns)(k:∀o,h1.get? a=some o->h2.get? a=some o):L2S.Ql P w h2 a ns:=by obtain⟨o,es,ep,t,ho,q⟩:=r;exact⟨o,es,ep,t,k o ho,q⟩
theorem jd0(hc:X.calm=true):CallR X (.type "set") (fun xs H Q=>∃(p:Addr) (ns:List Int),xs=[.ref p] ∧ zQ X.K H p (ns.map V.int) ∧ ns.length<64 ∧ ∀a,H a=none → Q (.ref a) (upd H a (jcf X a ns))):=by intro tf s σ H xs us Q I r h;obtain⟨p,ns,rfl,hq,hl,q⟩:=h;obtain⟨u,rfl,rx⟩:=Vals.one r;cases rx;obtain⟨tq,rv,pl,hz⟩:=I.list hq;have hi:IntsAre tq ns:=QQ rv;refine L2S.jd5 (I.ok.hd hc) pl.isList (by simpa using hi) (by show ns.length+1<4096;omega) fun h' tk hS hk=>?_;refine⟨.ref s.heap.objs.size,upd H s.heap.objs.size (jcf X s.heap.objs.size ns),?_,rfl,q _ (I.hok.fresh (Yw _))⟩;refine I.laid hk (Yw _) ⟨hS,?_,fun h1 h2 r k=>jfa r k⟩;obtain⟨o,es,ep,t,ho,_⟩:=hS;exact⟨o,ho⟩
theorem jaJ(hc:X.calm=true):CallR X (.builtin "sorted") (fun xs H Q=>∃(a:Addr) (ns:List Int),xs=[.ref a] ∧ H a=some (jcf X a ns) ∧ ns.length<64 ∧
 ∀(l:Addr) (ks:List Int),H l=none->ks.Pairwise (· < ·)->(∀k,k∈ks ↔ k∈ns)->ks.length<=ns.length->Q (.ref l) (upd H l (.lst (ks.map V.int)))):=by
 intro tf s σ H xs us Q I r h;obtain⟨a,ns,rfl,ha,hl,q⟩:=h;obtain⟨u,rfl,rx⟩:=Vals.one r;cases rx;obtain⟨hS,_,_⟩:=I.hok a _ ha;refine L2S.jdW (I.ok.hd hc) hS hl fun h' d tk l out c ks hk hle he hi hp hm hn=>?_;have nl:H l=none:=I.hok.fresh hle;refine⟨.ref l,upd H l (.lst (ks.map V.int)),?_,rfl,q l ks nl hp hm hn⟩;refine I.grow hk (fun b hb=>ju (Yx (Ye hb hle))) fun b o hb e=>?_;by_cases hbl:b=l
 . subst hbl;rw[jw]at e;cases e;refine⟨by rw[QC];exact YM (by omega:ks.length<=64) (by decide),out.toList,c,Zx hi,by simpa using he⟩
 . rw[ju hbl]at e;exact absurd (I.hok.lt e) (Nat.not_lt.mpr hb)
end
def ins(k:Int):List Int->List Int
 | []=>[k]
 | x::l=>if k<x then k::x::l else if k=x then x::l else x::ins k l
def srt(l:List Int):List Int:=l.foldr ins []
theorem mem_ins{k j:Int}:∀{l:List Int},j∈ins k l ↔ j=k\/j∈l
 | []=>by simp[ins]
 | x::l=>by
   unfold ins;split
   . simp
   . split
     . rename_i h;subst h;simp
     . rw[Yl,mem_ins (l:=l),Yl];constructor
       . rintro(h | h | h) <;> simp[h]
       . rintro(h | h | h) <;> simp[h]
theorem jaC{k:Int}:∀{l:List Int},l.Pairwise (· < ·)->(ins k l).Pairwise (· < ·)
 | [],_=>by simp[ins]
 | x::l,h=>by
   have h':=Yy.mp h;unfold ins;split
   . rename_i hk;exact Yy.mpr ⟨fun y hy=>by
       rcases Yl.mp hy with rfl | hy
       . exact hk
       . exact Int.lt_trans hk (h'.1 y hy),h⟩
   . split
     . exact h
     . rename_i h1 h2;refine Yy.mpr ⟨fun y hy=>?_,jaC h'.2⟩;rcases mem_ins.mp hy with rfl | hy
       . omega
       . exact h'.1 y hy
theorem jat{j:Int}:∀{l:List Int},j∈srt l ↔ j∈l
 | []=>by simp[srt]
 | x::l=>by show j∈ins x (srt l) ↔ _;rw[mem_ins,jat (l:=l),Yl]
theorem JK:∀{l:List Int},(srt l).Pairwise (· < ·)
 | []=>by simp[srt]
 | x::l=>jaC (JK (l:=l))
theorem QJ:∀{l m:List Int},l.Pairwise (· < ·)->m.Pairwise (· < ·)->(∀k,k∈l ↔ k∈m)->l=m
 | [],[],_,_,_=>rfl
 | [],y::m,_,_,h=>absurd ((h y).mpr Yb) (by simp)
 | x::l,[],_,_,h=>absurd ((h x).mp Yb) (by simp)
 | x::l,y::m,h1,h2,h=>by
   have p1:=Yy.mp h1;have p2:=Yy.mp h2;have e:x=y:=by
     rcases Yl.mp ((h x).mp Yb)with z | z
     . exact z
     . rcases Yl.mp ((h y).mpr Yb)with z' | z'
       . exact z'.symm
       . have:=p2.1 x z;have:=p1.1 y z';omega
   subst e;rw[QJ p1.2 p2.2 fun k=>⟨fun hk=>?_,fun hk=>?_⟩]
   . rcases Yl.mp ((h k).mp (Yf _ hk))with z | z
     . have:=p1.1 k hk;omega
     . exact z
   . rcases Yl.mp ((h k).mpr (Yf _ hk))with z | z
     . have:=p2.1 k hk;omega
     . exact z
structure Ship where
 b:Int
 e:Int
 n:Int
 m:Int
structure Ship.Ok(s:Ship):Prop where
 lt:s.b<s.e
 long:s.e-s.b<=300000000000000
 lo:-500000000000000<=s.b
 hi:s.b<=500000000000000
 m0:0<=s.m
 m1:s.m<=1000000000000000
 n0:0<=s.n
 n1:s.n<=s.m*(s.e-s.b)
def hrs(fl:List Ship):List Int:=fl.map (·.b)++fl.map (·.e)
def zG(fl:List Ship):List Int:=srt (hrs fl)
def jt(fl:List Ship):List (Int×Int):=(zG fl).zip (zG fl).tail
section
variable{K:PySem.W.Frag}{H H':Hp}
def jiq(K:PySem.W.Frag)(H:Hp)(v:V)(s:Ship):Prop:=∃a,v=.ref a/\SqT K H a [.int s.b,.int s.e,.int s.n,.int s.m]
def FleetAt(K:PySem.W.Frag)(H:Hp)(a:Addr)(fl:List Ship):Prop:=∃vs,zQ K H a vs/\Paired (jiq K H) vs fl
theorem FleetAt.len{a:Addr}{fl:List Ship}{vs:List V}(h2:Paired (jiq K H) vs fl):vs.length=fl.length:=Paired.length h2
end
set_option genInjectivity true in
inductive D where
 | int (i:Int) | bl (b:Bool) | non | str (x:Str) | lst (l:List D) | tup (l:List D)
 /-- the script -/
 | scr (ns:List Int)
 /-- a dict: tq keys, whole numbers, and what stands at each -/
 | dic (ks:List Int) (ds:List D)
 /-- a tuple of texts that the program itself holds -/
 | kst (xs:List Str)
 /-- a desk, let go: what it keeps -/
 | obj (l:List D)
theorem bind_some{α β:Type}{o:Option α}{f:α->Option β}{b:β}(h:o.bind f=some b):∃a,o=some a/\f a=some b:=by
 cases o with
 | none=>cases h
 | some a=>exact⟨a,rfl,h⟩
theorem map_some{α β:Type}{o:Option α}{f:α->β}{b:β}(h:o.map f=some b):∃a,o=some a/\f a=b:=by
 cases o with
 | none=>cases h
 | some a=>exact⟨a,rfl,Option.some.inj h⟩
theorem jhS{α β:Type}{f:α->β}{l:List α}{i:Int}:L2.atI (l.map f) i=(L2.atI l i).map f:=by
 unfold L2.atI;rw[QC];cases QX l.length i with
 | none=>rfl
 | some j=>simp
instance (i j:Int):Decidable (CMul i j):=inferInstanceAs (Decidable (_\/_))
def CMulB(i j:Int):Prop:=CMul i j\/(i.natAbs<2 ^ 400/\j.natAbs<2 ^ 400)
instance (i j:Int):Decidable (CMulB i j):=inferInstanceAs (Decidable (_\/_))
theorem CMulB.ok{i j:Int}(h:CMulB i j):IntMulOk i j:=by
 rcases h with h | ⟨h1,h2⟩
 . exact h.ok
 . exact IntMulOk.of_bits (YM (intBits_le h1) (by decide)) (YM (intBits_le h2) (by decide))
theorem jhM{X:Cx}:OpR X (binaryOp .Mult) (rI CMulB fun i j=>.int (i*j)):=opI fun _ _ _ _ _ _ _ hc q=>mul_int q hc.ok
class Fr where
 K:PySem.W.Frag
section
variable[Fr]
def qB:D->Bool
 | .lst _=>false
 | .tup _=>false
 | .scr _=>false
 | .dic _ _=>false
 | .kst _=>false
 | .obj _=>false
 | _=>true
def je1(ks:List Int)(vs:List V):List (Key×V):=(ks.map Sum.inl).zip vs
mutual
/-- the value v stands for the data d in the heap G -/
inductive Rep(G:Hp):V->D->Prop where
 | int (i:Int):Rep G (.int i) (.int i)
 | bl (b:Bool):Rep G (.bl b) (.bl b)
 | non:Rep G .non .non
 | str (x:Str):Rep G (.str x) (.str x)
 | lst {a:Addr} {vs:List V} {ds:List D} (h:Rd G a (.lst vs)) (r:Reps G vs ds):Rep G (.ref a) (.lst ds)
 | tup {a:Addr} {vs:List V} {ds:List D} (h:G a=some (.tup vs)) (r:Reps G vs ds):Rep G (.ref a) (.tup ds)
 | scr {a:Addr} {ns:List Int} (h:zQ Fr.K G a (ns.map V.int)):Rep G (.ref a) (.scr ns)
 | dic {a:Addr} {o:Obj} {ks:List Int} {vs:List V} {ds:List D} (h:G a=some (.frz o (.dK (je1 ks vs)))) (hl:ks.length=vs.length) (r:Reps G vs ds):Rep G (.ref a) (.dic ks ds)
 | kst {a:Addr} {xs:List Str} (h:SqT Fr.K (fun _=>none) a (xs.map V.str)):Rep G (.ref a) (.kst xs)
 | obj {a C dx:Addr} {v1 v2 v3:V} {ds:List D} (hc:PySem.W.nsIn Fr.K mainGlobals "Desk"=some (some (.ref C))) (h:G a=some (.ins C dx [("names",v1),("fleet",v2),("plan",v3)])) (r:Reps G [v1,v2,v3] ds):Rep G (.ref a) (.obj ds)
inductive Reps(G:Hp):List V->List D->Prop where
 | nil:Reps G [] []
 | cons {v:V} {d:D} {vs:List V} {ds:List D}:Rep G v d->Reps G vs ds->Reps G (v::vs) (d::ds)
end
theorem Rd.same{G H:Hp}{a:Addr}{u:HO}(e:Same G H)(h:Rd G a u):Rd H a u:=by
 rcases h with h | ⟨o,h⟩
 . exact .inl (e _ _ h)
 . exact .inr ⟨o,e _ _ h⟩
theorem Rep.mono{G G':Hp}(e:Same G G'){v:V}{d:D}(h:Rep G v d):Rep G' v d:=Rep.rec (motive_1:=fun v d _=>Rep G' v d) (motive_2:=fun vs ds _=>Reps G' vs ds) .int .bl .non .str (fun h _ i=>.lst (h.same e) i) (fun h _ i=>.tup (e _ _ h) i) (fun h=>.scr (e.seq h)) (fun h hl _ i=>.dic (e _ _ h) hl i) (fun h=>.kst h) (fun hc h _ i=>.obj hc (e _ _ h) i) .nil (fun _ _ i j=>.cons i j) h
theorem Reps.ind{G:Hp}{P:List V->List D->Prop}(h0:P [] [])(h1:∀{v:V} {d:D} {vs:List V} {ds:List D},Rep G v d->Reps G vs ds->P vs ds->P (v::vs) (d::ds)){vs:List V}{ds:List D}(h:Reps G vs ds):P vs ds:=Reps.rec (motive_1:=fun _ _ _=>True) (motive_2:=fun vs ds _=>P vs ds) (fun _=>trivial) (fun _=>trivial) trivial (fun _=>trivial) (fun _ _ _=>trivial) (fun _ _ _=>trivial) (fun _=>trivial) (fun _ _ _ _=>trivial) (fun _=>trivial) (fun _ _ _ _=>trivial) h0 (fun r t _ i=>h1 r t i) h
theorem Reps.mono{G G':Hp}(e:Same G G'){vs:List V}{ds:List D}(h:Reps G vs ds):Reps G' vs ds:=h.ind (P:=fun vs ds=>Reps G' vs ds) .nil fun r _ i=>.cons (r.mono e) i
theorem Rep.flat{G G':Hp}{v:V}{d:D}(h:Rep G v d)(f:qB d=true):Rep G' v d:=by
 cases h with
 | int i=>exact .int i
 | bl i=>exact .bl i
 | non=>exact .non
 | str i=>exact .str i
 | lst h r=>cases f
 | tup h r=>cases f
 | scr h=>cases f
 | dic h hl r=>cases f
 | kst h=>cases f
 | obj hc h r=>cases f
section
variable{G G':Hp}{vs us:List V}{ds es:List D}{v:V}{d:D}
theorem Reps.length{vs:List V}{ds:List D}(h:Reps G vs ds):vs.length=ds.length:=h.ind (P:=fun vs ds=>vs.length=ds.length) rfl fun _ _ i=>congrArg (· + 1) i
theorem Reps.get{vs:List V}{ds:List D}{i:Nat}{d:D}(h:Reps G vs ds):ds[i]?=some d->∃v,vs[i]?=some v/\Rep G v d:=
 h.ind (P:=fun vs ds=>∀i d,ds[i]?=some d->∃v,vs[i]?=some v/\Rep G v d) (fun _ _ e=>by rw[Ks]at e;cases e) (fun r _ ih i _ e=>by
  cases i with
  | zero=>cases e;exact⟨_,rfl,r⟩
  | succ i=>exact ih i _ e) i d
theorem Reps.getV{vs:List V}{ds:List D}{i:Nat}{v:V}(h:Reps G vs ds):vs[i]?=some v->∃d,ds[i]?=some d/\Rep G v d:=
 h.ind (P:=fun vs ds=>∀i v,vs[i]?=some v->∃d,ds[i]?=some d/\Rep G v d) (fun _ _ e=>by rw[Ks]at e;cases e) (fun r _ ih i _ e=>by
  cases i with
  | zero=>cases e;exact⟨_,rfl,r⟩
  | succ i=>exact ih i _ e) i v
theorem Reps.append{vs us:List V}{ds es:List D}(h:Reps G vs ds)(s:Reps G us es):Reps G (vs++us) (ds++es):=h.ind (P:=fun vs ds=>Reps G (vs++us) (ds++es)) s fun r _ i=>.cons r i
theorem Reps.snoc(r:Reps G vs ds)(q:Rep G v d):Reps G (vs++[v]) (ds++[d]):=r.append (.cons q .nil)
theorem Reps.set(q:Rep G v d){vs:List V}{ds:List D}(i:Nat)(h:Reps G vs ds):Reps G (vs.set i v) (ds.set i d):=
 h.ind (P:=fun vs ds=>∀i,Reps G (vs.set i v) (ds.set i d)) (fun _=>.nil) (fun r t ih i=>by
  cases i with
  | zero=>exact .cons q t
  | succ i=>exact .cons r (ih i)) i
theorem Reps.take{vs:List V}{ds:List D}(n:Nat)(h:Reps G vs ds):Reps G (vs.take n) (ds.take n):=
 h.ind (P:=fun vs ds=>∀n,Reps G (vs.take n) (ds.take n)) (fun n=>by cases n <;> exact .nil) (fun r t ih n=>by
  cases n with
  | zero=>exact .nil
  | succ n=>exact .cons r (ih n)) n
theorem Reps.drop{vs:List V}{ds:List D}(n:Nat)(h:Reps G vs ds):Reps G (vs.drop n) (ds.drop n):=
 h.ind (P:=fun vs ds=>∀n,Reps G (vs.drop n) (ds.drop n)) (fun n=>by cases n <;> exact .nil) (fun r t ih n=>by
  cases n with
  | zero=>exact .cons r t
  | succ n=>exact ih n) n
theorem Reps.one_inv{vs:List V}{d:D}{ds:List D}(h:Reps G vs (d::ds)):∃v us,vs=v::us/\Rep G v d/\Reps G us ds:=by cases h with | cons r t=>exact⟨_,_,rfl,r,t⟩
theorem Reps.ints{ns:List Int}{vs:List V}(h:Reps G vs (ns.map D.int)):vs=ns.map V.int:=by
 induction ns generalizing vs with
 | nil=>cases h;rfl
 | cons n ns ih=>obtain⟨v,us,rfl,r,t⟩:=h.one_inv;cases r;rw[ih t];rfl
theorem Reps.of_ints:∀(ns:List Int),Reps G (ns.map V.int) (ns.map D.int)
 | []=>.nil
 | n::ns=>.cons (.int n) (Reps.of_ints ns)
theorem Reps.bls{ns:List Bool}{vs:List V}(h:Reps G vs (ns.map D.bl)):vs=ns.map V.bl:=by
 induction ns generalizing vs with
 | nil=>cases h;rfl
 | cons n ns ih=>obtain⟨v,us,rfl,r,t⟩:=h.one_inv;cases r;rw[ih t];rfl
end
inductive RepT(G H:Hp):V->D->Prop where
 | int (i:Int):RepT G H (.int i) (.int i)
 | bl (b:Bool):RepT G H (.bl b) (.bl b)
 | non:RepT G H .non .non
 | str (x:Str):RepT G H (.str x) (.str x)
 | lst {a:Addr} {vs:List V} {ds:List D} (h:Rd H a (.lst vs)) (r:Reps G vs ds):RepT G H (.ref a) (.lst ds)
 | tup {a:Addr} {vs:List V} {ds:List D} (h:H a=some (.tup vs)) (r:Reps G vs ds):RepT G H (.ref a) (.tup ds)
 | scr {a:Addr} {ns:List Int} (h:zQ Fr.K H a (ns.map V.int)):RepT G H (.ref a) (.scr ns)
 | dic {a:Addr} {ks:List Int} {vs:List V} {ds:List D} (h:Rd H a (.dK (je1 ks vs))) (hl:ks.length=vs.length) (r:Reps G vs ds):RepT G H (.ref a) (.dic ks ds)
 | kst {a:Addr} {xs:List Str} (h:SqT Fr.K (fun _=>none) a (xs.map V.str)):RepT G H (.ref a) (.kst xs)
 | obj {a C dx:Addr} {v1 v2 v3:V} {ds:List D} (hc:PySem.W.nsIn Fr.K mainGlobals "Desk"=some (some (.ref C))) (h:H a=some (.ins C dx [("names",v1),("fleet",v2),("plan",v3)])) (r:Reps G [v1,v2,v3] ds):RepT G H (.ref a) (.obj ds)
inductive RepTs(G H:Hp):List V->List D->Prop where
 | nil:RepTs G H [] []
 | cons {v:V} {d:D} {vs:List V} {ds:List D}:RepT G H v d->RepTs G H vs ds->RepTs G H (v::vs) (d::ds)
theorem Rep.top{G H:Hp}{v:V}{d:D}(h:Rep G v d)(e:Same G H):RepT G H v d:=by
 cases h with
 | int i=>exact .int i
 | bl i=>exact .bl i
 | non=>exact .non
 | str i=>exact .str i
 | lst h r=>exact .lst (h.same e) r
 | tup h r=>exact .tup (e _ _ h) r
 | scr h=>exact .scr (e.seq h)
 | dic h hl r=>exact .dic (.inr ⟨_,e _ _ h⟩) hl r
 | kst h=>exact .kst h
 | obj hc h r=>exact .obj hc (e _ _ h) r
theorem RepT.of_int{G H:Hp}{v:V}{i:Int}(h:RepT G H v (.int i)):v=.int i:=by cases h;rfl
theorem RepT.of_bl{G H:Hp}{v:V}{i:Bool}(h:RepT G H v (.bl i)):v=.bl i:=by cases h;rfl
theorem RepT.of_str{G H:Hp}{v:V}{i:Str}(h:RepT G H v (.str i)):v=.str i:=by cases h;rfl
theorem RepT.of_lst{G H:Hp}{v:V}{ds:List D}(h:RepT G H v (.lst ds)):∃a vs,v=.ref a/\Rd H a (.lst vs)/\Reps G vs ds:=by cases h;exact⟨_,_,rfl,by assumption,by assumption⟩
theorem RepT.of_tup{G H:Hp}{v:V}{ds:List D}(h:RepT G H v (.tup ds)):∃a vs,v=.ref a/\H a=some (.tup vs)/\Reps G vs ds:=by cases h;exact⟨_,_,rfl,by assumption,by assumption⟩
theorem RepT.of_scr{G H:Hp}{v:V}{ns:List Int}(h:RepT G H v (.scr ns)):∃a,v=.ref a/\zQ Fr.K H a (ns.map V.int):=by cases h;exact⟨_,rfl,by assumption⟩
theorem Rep.tt{G:Hp}{v:V}{d:D}(h:Rep G v d):RepT G G v d:=h.top fun _ _ e=>e
theorem Rep.of_int{G:Hp}{v:V}{i:Int}(h:Rep G v (.int i)):v=.int i:=h.tt.of_int
theorem Rep.of_bl{G:Hp}{v:V}{i:Bool}(h:Rep G v (.bl i)):v=.bl i:=h.tt.of_bl
theorem Rep.of_lst{G:Hp}{v:V}{ds:List D}(h:Rep G v (.lst ds)):∃a vs,v=.ref a/\Rd G a (.lst vs)/\Reps G vs ds:=h.tt.of_lst
theorem Rep.of_tup{G:Hp}{v:V}{ds:List D}(h:Rep G v (.tup ds)):∃a vs,v=.ref a/\G a=some (.tup vs)/\Reps G vs ds:=h.tt.of_tup
theorem RepT.mono{G H G' H':Hp}{v:V}{d:D}(h:RepT G H v d)(e:Same G G')(e':Same H H'):RepT G' H' v d:=by
 cases h with
 | int i=>exact .int i
 | bl i=>exact .bl i
 | non=>exact .non
 | str i=>exact .str i
 | lst h r=>exact .lst (h.same e') (r.mono e)
 | tup h r=>exact .tup (e' _ _ h) (r.mono e)
 | scr h=>exact .scr (e'.seq h)
 | dic h hl r=>exact .dic (h.same e') hl (r.mono e)
 | kst h=>exact .kst h
 | obj hc h r=>exact .obj hc (e' _ _ h) (r.mono e)
theorem RepTs.mono{G H G' H':Hp}(e:Same G G')(e':Same H H'){vs:List V}{ds:List D}(h:RepTs G H vs ds):RepTs G' H' vs ds:=by
 induction h with
 | nil=>exact .nil
 | cons r _ ih=>exact .cons (r.mono e e') ih
structure Ext(G H G' H':Hp):Prop where
 hh:Same H H'
 gg:Same G G'
 gh:Same G' H'
 nw:∀a o,G' a=some o->G a=some o\/H a=none
section
variable{G H G' H' G'' H'':Hp}{a:Addr}{o:HO}
theorem Ext.refl(h:Same G H):Ext G H G H:=⟨.refl _,.refl _,h,fun _ _ e=>.inl e⟩
theorem Ext.trans(x:Ext G H G' H')(y:Ext G' H' G'' H''):Ext G H G'' H'':=
 ⟨x.hh.trans y.hh,x.gg.trans y.gg,y.gh,fun a o e=>by
  rcases y.nw a o e with z | z
  . exact x.nw a o z
  . exact .inr (x.hh.free z)⟩
theorem Ext.new(h:Same G H)(hn:H a=none):Ext G H G (upd H a o):=⟨.upd hn,.refl _,fun b u e=>by rw[ju (jz (h b u e) hn)];exact h b u e,fun _ _ e=>.inl e⟩
theorem Ext.freeze(x:Ext G H G' H')(hn:H a=none)(hg:G' a=none)(ho:H' a=some o):Ext G H (upd G' a o) H':=
 ⟨x.hh,x.gg.trans (.upd hg),fun b u e=>by
  by_cases hb:b=a
  . subst hb;rw[jw]at e;cases e;exact ho
  . rw[ju hb]at e;exact x.gh b u e,fun b u e=>by
  by_cases hb:b=a
  . subst hb;exact .inr hn
  . rw[ju hb]at e;exact x.nw b u e⟩
theorem Ext.gone(x:Ext G H G' H')(hg:G a=none)(hh:H a=some o):G' a=none:=by
 cases e:G' a with
 | none=>rfl
 | some u=>
   rcases x.nw a u e with z | z
   . rw[hg]at z;cases z
   . rw[hh]at z;cases z
end
inductive Slot where
 | un | sh (d:D) | ow (ds:List D)
 /-- a dict of one's own -/
 | od (ks:List Int) (ds:List D)
 /-- a list of one's own, of lists of one's own -/
 | oo (dss:List (List D))
 /-- a tuple of one's own: a thing, a list of lists of one's own, a list of one's own -/
 | ot (d:D) (dss:List (List D)) (es:List D)
abbrev Env:=List Slot
abbrev ee:=L2.Env
inductive Rows(G H:Hp):List Addr->List (List D)->Prop where
 | nil:Rows G H [] []
 | cons {b:Addr} {us:List V} {ds:List D} {bs:List Addr} {dss:List (List D)} (h:H b=some (.lst us)) (r:Reps G us ds) (t:Rows G H bs dss):Rows G H (b::bs) (ds::dss)
def qq(H:Hp):Option V->Slot->Addr->Prop
 | some (.ref a),.ow _,b=>b=a
 | some (.ref a),.od _ _,b=>b=a
 | some (.ref a),.oo _,b=>b=a\/∃vs,H a=some (.lst vs)/\V.ref b∈vs
 | some (.ref t),.ot _ _ _,b=>b=t\/∃v a c vs,H t=some (.tup [v,.ref a,.ref c])/\H a=some (.lst vs)/\(b=c\/b=a\/V.ref b∈vs)
 | _,_,_=>False
inductive SlotOk(H0 G H:Hp):Option V->Slot->Prop where
 | un (o:Option V):SlotOk H0 G H o .un
 | sh {v:V} {d:D} (r:Rep G v d):SlotOk H0 G H (some v) (.sh d)
 | ow {a:Addr} {vs:List V} {ds:List D} (h0:H0 a=none) (hg:G a=none) (h:H a=some (.lst vs)) (r:Reps G vs ds):SlotOk H0 G H (some (.ref a)) (.ow ds)
 | od {a:Addr} {ks:List Int} {vs:List V} {ds:List D} (h0:H0 a=none) (hg:G a=none) (h:H a=some (.dK (je1 ks vs))) (hl:ks.length=vs.length) (r:Reps G vs ds):SlotOk H0 G H (some (.ref a)) (.od ks ds)
 | oo {a:Addr} {bs:List Addr} {dss:List (List D)} (h:H a=some (.lst (bs.map V.ref))) (nd:(a::bs).Nodup) (own:∀b∈a::bs,H0 b=none/\G b=none) (rows:Rows G H bs dss):SlotOk H0 G H (some (.ref a)) (.oo dss)
 | ot {t a c:Addr} {bs:List Addr} {v:V} {us:List V} {d:D} {dss:List (List D)} {es:List D} (ht:H t=some (.tup [v,.ref a,.ref c])) (h:H a=some (.lst (bs.map V.ref))) (hc:H c=some (.lst us)) (nd:(t::c::a::bs).Nodup) (own:∀b∈t::c::a::bs,H0 b=none/\G b=none) (r0:Rep G v d) (rows:Rows G H bs dss) (r:Reps G us es):SlotOk H0 G H (some (.ref t)) (.ot d dss es)
structure EnvOk(G0 H0 G H:Hp)(σ:St)(ρ:ee):Prop where
 ext:Ext G0 H0 G H
 len:σ.length=ρ.length
 slot:∀(i:Nat) o s,σ[i]?=some o->ρ[i]?=some s->SlotOk H0 G H o s
 dist:∀(i j:Nat) o o' s s' b,σ[i]?=some o->ρ[i]?=some s->σ[j]?=some o'->ρ[j]?=some s'->qq H o s b->qq H o' s' b->i=j
section
variable{G0 H0 G H G' H':Hp}{σ:St}{ρ:ee}{i:Nat}{d:D}{ds:List D}{v:V}{vs:List V}{a:Addr}
theorem Rows.there{bs:List Addr}{dss:List (List D)}(h:Rows G H bs dss):∀b∈bs,∃us,H b=some (.lst us):=by
 induction h with
 | nil=>intro b hb;cases hb
 | cons h r t ih=>
   intro b hb;rcases Yl.mp hb with rfl | hb
   . exact⟨_,h⟩
   . exact ih b hb
theorem Rows.keep{bs:List Addr}{dss:List (List D)}(h:Rows G H bs dss)(gg:Same G G')(k:∀b∈bs,H' b=H b):Rows G' H' bs dss:=by
 induction h with
 | nil=>exact .nil
 | cons h r t ih=>exact .cons (by rw[k _ Yb];exact h) (r.mono gg) (ih fun b hb=>k b (Yf _ hb))
theorem Rows.length{bs:List Addr}{dss:List (List D)}(h:Rows G H bs dss):bs.length=dss.length:=by
 induction h with
 | nil=>rfl
 | cons h r t ih=>simp[ih]
theorem Rows.get{bs:List Addr}{dss:List (List D)}(h:Rows G H bs dss):∀{j:Nat} {ds:List D},dss[j]?=some ds->∃b us,bs[j]?=some b/\H b=some (.lst us)/\Reps G us ds:=by
 induction h with
 | nil=>intro j ds e;simp at e
 | cons h r t ih=>
   intro j ds e;cases j with
   | zero=>simp at e;subst e;exact⟨_,_,rfl,h,r⟩
   | succ j=>obtain⟨b,us,h1,h2,h3⟩:=ih (j:=j) (ds:=ds) (by simpa using e);exact⟨b,us,by simpa using h1,h2,h3⟩
theorem Rows.put{bs:List Addr}{dss:List (List D)}{us:List V}(h:Rows G H bs dss)(r:Reps G us ds):∀{j:Nat} {b:Addr},bs.Nodup->bs[j]?=some b->Rows G (upd H b (.lst us)) bs (dss.set j ds):=by
 induction h with
 | nil=>intro j b _ e;simp at e
 | @cons c us' ds' bs dss h q t ih=>
   intro j b nd e;have nd':=YY.mp nd;cases j with
   | zero=>simp at e;subst e;exact .cons jw r (t.keep (.refl _) fun b' hb'=>ju fun z=>nd'.1 (z ▸ hb'))
   | succ j=>
     have e':bs[j]?=some b:=by simpa using e
     have hb:c≠b:=fun z=>nd'.1 (z ▸ Yq e');exact .cons (by rw[ju hb];exact h) q (ih nd'.2 e')
theorem Rows.frozen{bs:List Addr}{dss:List (List D)}(h:Rows G H bs dss)(gg:Same G G')(k:∀b∈bs,G' b=H b):Reps G' (bs.map V.ref) (dss.map D.lst):=by
 induction h with
 | nil=>exact .nil
 | cons h r t ih=>exact .cons (.lst (.inl ((k _ Yb).trans h)) (r.mono gg)) (ih fun b hb=>k b (Yf _ hb))
theorem EnvOk.same(e:EnvOk G0 H0 G H σ ρ):Same G H:=e.ext.gh
theorem Zj{t a c:Addr}{bs:List Addr}{v:V}{d:D}{dss:List (List D)}{es:List D}{b:Addr}(ht:H t=some (.tup [v,.ref a,.ref c]))(h:H a=some (.lst (bs.map V.ref))):qq H (some (.ref t)) (.ot d dss es) b ↔ b∈t::c::a::bs:=by
 show(b=t\/∃v a c vs,H t=some (.tup [v,.ref a,.ref c])/\H a=some (.lst vs)/\(b=c\/b=a\/V.ref b∈vs)) ↔ _;rw[Yl,Yl,Yl];constructor
 . rintro(z | ⟨v',a',c',vs,q,q2,hb⟩)
   . exact .inl z
   . rw[ht]at q;cases q;rw[h]at q2;cases q2;rcases hb with z | z | z
     . exact .inr (.inl z)
     . exact .inr (.inr (.inl z))
     . obtain⟨c,hc,e⟩:=yk.mp z;injection e with e;subst e;exact .inr (.inr (.inr hc))
 . rintro(z | z)
   . exact .inl z
   . refine .inr ⟨_,_,_,_,ht,h,?_⟩;rcases z with z | z | z
     . exact .inl z
     . exact .inr (.inl z)
     . exact .inr (.inr (yJ z))
theorem SlotOk.foot{o:Option V}{s:Slot}{b:Addr}(h:SlotOk H0 G H o s)(f:qq H o s b):H0 b=none/\G b=none/\∃u,H b=some u:=by
 cases h with
 | un=>cases o with | none=>exact f.elim | some v=>cases v <;> exact f.elim
 | @sh v d r=>cases v <;> exact f.elim
 | ow h0 hg h r=>cases (show b=_ from f);exact⟨h0,hg,_,h⟩
 | od h0 hg h hl r=>cases (show b=_ from f);exact⟨h0,hg,_,h⟩
 | @oo a bs dss h nd own rows=>
   have f':b=a\/∃vs,H a=some (.lst vs)/\V.ref b∈vs:=f;rcases f' with rfl | ⟨vs,q,hb⟩
   . exact⟨(own b Yb).1,(own b Yb).2,_,h⟩
   . rw[h]at q;cases q;obtain⟨c,hc,e⟩:=yk.mp hb;injection e with e;subst e;obtain⟨us,hu⟩:=rows.there c hc;exact⟨(own c (Yf _ hc)).1,(own c (Yf _ hc)).2,_,hu⟩
 | ot ht h hc nd own r0 rows r=>
   have m:=(Zj ht h).mp f;refine⟨(own b m).1,(own b m).2,?_⟩;rcases Yl.mp m with z | m
   . rw[z];exact⟨_,ht⟩
   rcases Yl.mp m with z | m
   . rw[z];exact⟨_,hc⟩
   rcases Yl.mp m with z | m
   . rw[z];exact⟨_,h⟩
   obtain⟨us,hu⟩:=rows.there b m;exact⟨_,hu⟩
theorem qo{bs:List Addr}{dss:List (List D)}{b:Addr}(h:H a=some (.lst (bs.map V.ref))):qq H (some (.ref a)) (.oo dss) b ↔ b∈a::bs:=by
 show(b=a\/∃vs,H a=some (.lst vs)/\V.ref b∈vs) ↔ _;rw[Yl];constructor
 . rintro(z | ⟨vs,q,hb⟩)
   . exact .inl z
   . rw[h]at q;cases q;obtain⟨c,hc,e⟩:=yk.mp hb;injection e with e;subst e;exact .inr hc
 . rintro(z | z)
   . exact .inl z
   . exact .inr ⟨_,h,yJ z⟩
theorem SlotOk.keep{o:Option V}{s:Slot}(h:SlotOk H0 G H o s)(gg:Same G G')(k:∀b,qq H o s b->H' b=H b/\G' b=none):SlotOk H0 G' H' o s/\∀b,qq H' o s b->qq H o s b:=by
 cases h with
 | un=>exact⟨.un _,fun b f=>by cases o with | none=>exact f.elim | some v=>cases v <;> exact f.elim⟩
 | @sh v d r=>exact⟨.sh (r.mono gg),fun b f=>by cases v <;> exact f.elim⟩
 | @ow a vs ds h0 hg h r=>have q:=k a rfl;exact⟨.ow h0 q.2 (by rw[q.1];exact h) (r.mono gg),fun b f=>f⟩
 | @od a ks vs ds h0 hg h hl r=>have q:=k a rfl;exact⟨.od h0 q.2 (by rw[q.1];exact h) hl (r.mono gg),fun b f=>f⟩
 | @oo a bs dss h nd own rows=>
   have h':H' a=some (.lst (bs.map V.ref)):=by rw[(k a (.inl rfl)).1];exact h
   refine⟨.oo h' nd (fun b hb=>⟨(own b hb).1,(k b ((qo h).mpr hb)).2⟩) (rows.keep gg fun b hb=>(k b ((qo h).mpr (Yf _ hb))).1),fun b f=>?_⟩;exact(qo h).mpr ((qo h').mp f)
 | @ot t a c bs v us d dss es ht h hc nd own r0 rows r=>
   have kk:=fun b hb=>k b ((Zj ht h).mpr hb);have ht':H' t=some (.tup [v,.ref a,.ref c]):=by rw[(kk t (by simp)).1];exact ht
   have h':H' a=some (.lst (bs.map V.ref)):=by rw[(kk a (by simp)).1];exact h
   have hc':H' c=some (.lst us):=by rw[(kk c (by simp)).1];exact hc
   exact⟨.ot ht' h' hc' nd (fun b hb=>⟨(own b hb).1,(kk b hb).2⟩) (r0.mono gg) (rows.keep gg fun b hb=>(kk b (by simp[hb])).1) (r.mono gg),fun b f=>(Zj ht h).mpr ((Zj ht' h').mp f)⟩
theorem EnvOk.grow(e:EnvOk G0 H0 G H σ ρ)(x:Ext G H G' H'):EnvOk G0 H0 G' H' σ ρ:=by
 have key:∀(i:Nat) o s,σ[i]?=some o->ρ[i]?=some s->_:=fun i o s h1 h2=>(e.slot i o s h1 h2).keep (H':=H') x.gg fun b f=>by obtain⟨_,g,u,hu⟩:=(e.slot i o s h1 h2).foot f;exact⟨by rw[hu];exact x.hh _ _ hu,x.gone g hu⟩
 exact⟨e.ext.trans x,e.len,fun i o s h1 h2=>(key i o s h1 h2).1,fun i j o o' s s' b h1 h2 h3 h4 f f'=>e.dist i j o o' s s' b h1 h2 h3 h4 ((key i o s h1 h2).2 b f) ((key j o' s' h3 h4).2 b f')⟩
theorem EnvOk.at{s:Slot}(e:EnvOk G0 H0 G H σ ρ)(h:ρ[i]?=some s):∃o,σ[i]?=some o/\SlotOk H0 G H o s:=by
 have hi:i<σ.length:=by rw[e.len];exact(Yg.mp h).1
 exact⟨σ[i],Ya hi,e.slot i _ _ (Ya hi) h⟩
theorem EnvOk.sh(e:EnvOk G0 H0 G H σ ρ)(h:ρ[i]?=some (.sh d)):∃v,σ[i]?=some (some v)/\Rep G v d:=by
 obtain⟨o,h1,h2⟩:=e.at h;cases h2 with
 | sh r=>exact⟨_,h1,r⟩
theorem EnvOk.ow(e:EnvOk G0 H0 G H σ ρ)(h:ρ[i]?=some (.ow ds)):∃a vs,σ[i]?=some (some (.ref a))/\H0 a=none/\G a=none/\H a=some (.lst vs)/\Reps G vs ds:=by
 obtain⟨o,h1,h2⟩:=e.at h;cases h2 with
 | ow h0 hg h r=>exact⟨_,_,h1,h0,hg,h,r⟩
theorem EnvOk.od{ks:List Int}(e:EnvOk G0 H0 G H σ ρ)(h:ρ[i]?=some (.od ks ds)):∃a vs,σ[i]?=some (some (.ref a))/\H0 a=none/\G a=none/\H a=some (.dK (je1 ks vs))/\ks.length=vs.length/\Reps G vs ds:=by
 obtain⟨o,h1,h2⟩:=e.at h;cases h2 with
 | od h0 hg h hl r=>exact⟨_,_,h1,h0,hg,h,hl,r⟩
theorem EnvOk.oo{dss:List (List D)}(e:EnvOk G0 H0 G H σ ρ)(h:ρ[i]?=some (.oo dss)):∃a bs,σ[i]?=some (some (.ref a))/\H a=some (.lst (bs.map V.ref))/\(a::bs).Nodup/\(∀b∈a::bs,H0 b=none/\G b=none)/\Rows G H bs dss:=by
 obtain⟨o,h1,h2⟩:=e.at h;cases h2 with
 | oo h nd own rows=>exact⟨_,_,h1,h,nd,own,rows⟩
theorem EnvOk.ot{dss:List (List D)}{es:List D}(e:EnvOk G0 H0 G H σ ρ)(h:ρ[i]?=some (.ot d dss es)):∃t a c bs v us,σ[i]?=some (some (.ref t))/\H t=some (.tup [v,.ref a,.ref c])/\H a=some (.lst (bs.map V.ref))/\H c=some (.lst us)/\(t::c::a::bs).Nodup/\(∀b∈t::c::a::bs,H0 b=none/\G b=none)/\Rep G v d/\Rows G H bs dss/\Reps G us es:=by
 obtain⟨o,h1,h2⟩:=e.at h;cases h2 with
 | ot ht h hc nd own r0 rows r=>exact⟨_,_,_,_,_,_,h1,ht,h,hc,nd,own,r0,rows,r⟩
theorem EnvOk.change{o':Option V}{s':Slot}(e:EnvOk G0 H0 G H σ ρ)(x:Ext G0 H0 G' H')(gg:Same G G')
 (keep:∀j,j≠i->∀o s,σ[j]?=some o->ρ[j]?=some s->∀b,qq H o s b->H' b=H b/\G' b=none) (new:SlotOk H0 G' H' o' s')
 (foot:∀b,qq H' o' s' b->H b=none\/∃o s,σ[i]?=some o/\ρ[i]?=some s/\qq H o s b):EnvOk G0 H0 G' H' (σ.set i o') (ρ.set i s'):=by
 have key:∀(j:Nat) o s,j≠i->σ[j]?=some o->ρ[j]?=some s->_:=fun j o s hj h1 h2=>(e.slot j o s h1 h2).keep (H':=H') gg (keep j hj o s h1 h2);have at_i:∀o s,(σ.set i o')[i]?=some o->(ρ.set i s')[i]?=some s->o=o'/\s=s':=fun o s h1 h2=>by rw[yr]at h1 h2;simp at h1 h2;exact⟨h1.2.symm,h2.2.symm⟩
 refine⟨x,by simp[e.len],fun j o s h1 h2=>?_,fun j k o p s t b h1 h2 h3 h4 f g=>?_⟩
 . by_cases hj:i=j
   . subst hj;obtain⟨rfl,rfl⟩:=at_i o s h1 h2;exact new
   . rw[Yh hj]at h1 h2;exact(key j o s (Ne.symm hj) h1 h2).1
 . have other:∀(m:Nat) q u,i≠m->(σ.set i o')[m]?=some q->(ρ.set i s')[m]?=some u->qq H' q u b->qq H' o' s' b->False:=fun m q u hm g1 g2 f1 f2=>by
    rw[Yh hm]at g1 g2;have f1':=(key m q u (Ne.symm hm) g1 g2).2 b f1;obtain⟨_,_,w,hw⟩:=(e.slot m q u g1 g2).foot f1';rcases foot b f2 with z | ⟨o2,s2,z1,z2,z3⟩
    . rw[hw]at z;cases z
    . exact hm (e.dist i m _ _ _ _ b z1 z2 g1 g2 z3 f1')
   by_cases hj:i=j
   . by_cases hk:i=k
     . exact hj.symm.trans hk
     . subst hj;obtain⟨rfl,rfl⟩:=at_i o s h1 h2;exact(other k p t hk h3 h4 g f).elim
   . by_cases hk:i=k
     . subst hk;obtain⟨rfl,rfl⟩:=at_i p t h3 h4;exact(other j o s hj h1 h2 f g).elim
     . rw[Yh hj]at h1 h2;rw[Yh hk]at h3 h4;exact e.dist j k o p s t b h1 h2 h3 h4 ((key j o s (Ne.symm hj) h1 h2).2 b f) ((key k p t (Ne.symm hk) h3 h4).2 b g)
theorem EnvOk.stay(e:EnvOk G0 H0 G H σ ρ):∀j,j≠i->∀o s,σ[j]?=some o->ρ[j]?=some s->∀b,qq H o s b->H b=H b/\G b=none:=fun j _ o s h1 h2 b f=>⟨rfl,((e.slot j o s h1 h2).foot f).2.1⟩
theorem EnvOk.set(e:EnvOk G0 H0 G H σ ρ)(r:Rep G v d):EnvOk G0 H0 G H (σ.set i (some v)) (ρ.set i (.sh d)):=e.change e.ext (.refl _) e.stay (.sh r) fun b f=>by cases v <;> exact f.elim
theorem EnvOk.fresh(e:EnvOk G0 H0 G H σ ρ)(x:Ext G H G' H'){o':Option V}{s':Slot}(new:SlotOk H0 G' H' o' s')(foot:∀b,qq H' o' s' b->H b=none):EnvOk G0 H0 G' H' (σ.set i o') (ρ.set i s'):=
 e.change (e.ext.trans x) x.gg (fun j _ o s h1 h2 b f=>by obtain⟨_,g,u,hu⟩:=(e.slot j o s h1 h2).foot f;exact⟨by rw[hu];exact x.hh _ _ hu,x.gone g hu⟩) new fun b f=>.inl (foot b f)
theorem EnvOk.setO(e:EnvOk G0 H0 G H σ ρ)(x:Ext G H G' H')(hn:H a=none)(hg:G' a=none)(h:H' a=some (.lst vs))(r:Reps G' vs ds):EnvOk G0 H0 G' H' (σ.set i (some (.ref a))) (ρ.set i (.ow ds)):=e.fresh x (.ow (e.ext.hh.free hn) hg h r) fun b f=>by cases (show b=a from f);exact hn
theorem EnvOk.setOO{bs:List Addr}{dss:List (List D)}(e:EnvOk G0 H0 G H σ ρ)(x:Ext G H G' H')(hn:∀b∈a::bs,H b=none/\G' b=none)(nd:(a::bs).Nodup)(h:H' a=some (.lst (bs.map V.ref)))(r:Rows G' H' bs dss):EnvOk G0 H0 G' H' (σ.set i (some (.ref a))) (ρ.set i (.oo dss)):=e.fresh x (.oo h nd (fun b hb=>⟨e.ext.hh.free (hn b hb).1,(hn b hb).2⟩) r) fun b f=>(hn b ((qo h).mp f)).1
theorem EnvOk.write{u:HO}{o:Option V}{s s':Slot}(e:EnvOk G0 H0 G H σ ρ)(h1:ρ[i]?=some s)(h2:σ[i]?=some o)(f:qq H o s a)(new:SlotOk H0 G (upd H a u) o s')(foot:∀b,qq (upd H a u) o s' b->qq H o s b):EnvOk G0 H0 G (upd H a u) σ (ρ.set i s'):=by
 obtain⟨q1,q2,_⟩:=(e.slot i o s h2 h1).foot f;have hi:i<σ.length:=(Yg.mp h2).1;have key:=e.change (i:=i) (o':=o) (s':=s') (G':=G) (H':=upd H a u) ⟨fun b o z=>by rw[ju (jz z q1)];exact e.ext.hh b o z,e.ext.gg,fun b o z=>by rw[ju (jz z q2)];exact e.ext.gh b o z,e.ext.nw⟩ (.refl _)
  (fun j hj o' s' g1 g2 b f'=>by
   have hb:b≠a:=fun z=>by subst z;exact hj (e.dist j i _ _ _ _ b g1 g2 h2 h1 f' f)
   exact⟨ju hb,((e.slot j o' s' g1 g2).foot f').2.1⟩) new fun b f'=>.inr ⟨o,s,h2,h1,foot b f'⟩
 have e':σ.set i o=σ:=by
  refine y9 fun j=>?_;by_cases hj:i=j
  . subst hj;rw[YG hi,h2]
  . rw[Yh hj]
 rw[e']at key;exact key
theorem EnvOk.put(e:EnvOk G0 H0 G H σ ρ)(h1:ρ[i]?=some (.ow ds))(h2:σ[i]?=some (some (.ref a))){es:List D}(r:Reps G vs es):EnvOk G0 H0 G (upd H a (.lst vs)) σ (ρ.set i (.ow es)):=by obtain⟨b,us,q1,q2,q3,q4,q5⟩:=e.ow h1;rw[h2]at q1;cases q1;exact e.write h1 h2 rfl (.ow q2 q3 jw r) fun b f=>f
theorem EnvOk.putOO{dss:List (List D)}{bs:List Addr}{j:Nat}{b:Addr}(e:EnvOk G0 H0 G H σ ρ)(h1:ρ[i]?=some (.oo dss))(h2:σ[i]?=some (some (.ref a)))(h3:H a=some (.lst (bs.map V.ref)))(hb:bs[j]?=some b)(r:Reps G vs ds):EnvOk G0 H0 G (upd H b (.lst vs)) σ (ρ.set i (.oo (dss.set j ds))):=by
 obtain⟨a',bs',q1,q2,q3,q4,q5⟩:=e.oo h1;rw[h2]at q1;cases q1;rw[h3]at q2;have ebs:bs'=bs:=by have:=HO.lst.inj (Option.some.inj q2);exact((Kn (f:=V.ref) fun x y z=>V.ref.inj z).mp this).symm
 subst ebs;have nd':=YY.mp q3;have hm:=Yq hb;have hab:a≠b:=fun z=>nd'.1 (z ▸ hm);have h3':upd H b (.lst vs) a=some (.lst (bs'.map V.ref)):=by rw[ju hab];exact h3
 exact e.write h1 h2 ((qo h3).mpr (Yf _ hm)) (.oo h3' q3 q4 (q5.put r nd'.2 hb)) fun c f=>(qo h3).mpr ((qo h3').mp f)
def frz(i:Nat)(ρ:ee):ee:=match ρ[i]? with
 | some (.ow ds)=>ρ.set i (.sh (.lst ds))
 | some (.oo dss)=>ρ.set i (.sh (.lst (dss.map .lst)))
 | some (.ot d dss es)=>ρ.set i (.sh (.tup [d,.lst (dss.map .lst),.lst es]))
 | _=>ρ
def hfrz(i:Nat)(ρ:ee):ee:=match ρ[i]? with
 | some (.oo dss)=>ρ.set i (.ow (dss.map .lst))
 | _=>ρ
theorem EnvOk.let{o:Option V}{s s':Slot}(e:EnvOk G0 H0 G H σ ρ)(h1:ρ[i]?=some s)(h2:σ[i]?=some o)(gg:Same G G')(gh:Same G' H)(nw:∀b u,G' b=some u->G b=some u\/qq H o s b)
 (new:SlotOk H0 G' H o s') (foot:∀b,qq H o s' b->qq H o s b):EnvOk G0 H0 G' H σ (ρ.set i s'):=by
 have hi:i<σ.length:=(Yg.mp h2).1;have key:=e.change (i:=i) (o':=o) (s':=s') (G':=G') (H':=H) ⟨e.ext.hh,e.ext.gg.trans gg,gh,fun b u z=>by
  rcases nw b u z with w | w
  . exact e.ext.nw b u w
  . exact .inr ((e.slot i o s h2 h1).foot w).1⟩ gg
  (fun j hj o' s' g1 g2 b f'=>⟨rfl,by
   obtain⟨_,g,_⟩:=(e.slot j o' s' g1 g2).foot f';cases q:G' b with
   | none=>rfl
   | some u=>
     rcases nw b u q with w | w
     . rw[g]at w;cases w
     . exact(hj (e.dist j i _ _ _ _ b g1 g2 h2 h1 f' w)).elim⟩) new fun b f'=>.inr ⟨o,s,h2,h1,foot b f'⟩
 have e':σ.set i o=σ:=by
  refine y9 fun j=>?_;by_cases hj:i=j
  . subst hj;rw[YG hi,h2]
  . rw[Yh hj]
 rw[e']at key;exact key
theorem ji3{u w:HO}{b:Addr}(h:upd G a u b=some w):G b=some w\/b=a:=by
 by_cases hb:b=a
 . exact .inr hb
 . rw[ju hb]at h;exact .inl h
theorem jj7{u:HO}(s:Same G H)(h:H a=some u):Same (upd G a u) H:=fun b w e=>by
 by_cases hb:b=a
 . subst hb;rw[jw]at e;cases e;exact h
 . rw[ju hb]at e;exact s b w e
theorem EnvOk.freeze(e:EnvOk G0 H0 G H σ ρ)(h1:ρ[i]?=some (.ow ds))(h2:σ[i]?=some (some (.ref a)))(h3:H a=some (.lst vs))(h4:Reps G vs ds):EnvOk G0 H0 (upd G a (.lst vs)) H σ (ρ.set i (.sh (.lst ds))):=by obtain⟨b,us,q1,q2,q3,q4,q5⟩:=e.ow h1;rw[h2]at q1;cases q1;have up:Same G (upd G a (.lst vs)):=.upd q3;exact e.let h1 h2 up (jj7 e.same h3) (fun b u z=>ji3 z) (.sh (.lst (.inl jw) (h4.mono up))) fun b f=>f.elim
open Classical in
/-- the heap with more of it known -/
def more(G H:Hp)(bs:List Addr):Hp:=fun b=>if b∈bs then H b else G b
theorem Qd{bs:List Addr}{b:Addr}(h:b∈bs):more G H bs b=H b:=Ys h
theorem qS{bs:List Addr}{b:Addr}(h:b∉bs):more G H bs b=G b:=YJ h
theorem zO{bs:List Addr}(s:Same G H):Same G (more G H bs)/\Same (more G H bs) H:=by
 refine⟨fun b u e=>?_,fun b u e=>?_⟩
 . by_cases hb:b∈bs
   . rw[Qd hb];exact s b u e
   . rw[qS hb];exact e
 . by_cases hb:b∈bs
   . rw[Qd hb]at e;exact e
   . rw[qS hb]at e;exact s b u e
theorem EnvOk.half{dss:List (List D)}{bs:List Addr}(e:EnvOk G0 H0 G H σ ρ)(h1:ρ[i]?=some (.oo dss))(h2:σ[i]?=some (some (.ref a)))(h3:H a=some (.lst (bs.map V.ref)))(nd:(a::bs).Nodup)(own:∀b∈a::bs,H0 b=none/\G b=none)(rows:Rows G H bs dss):
 EnvOk G0 H0 (more G H bs) H σ (ρ.set i (.ow (dss.map .lst)))/\Reps (more G H bs) (bs.map V.ref) (dss.map D.lst):=by
 have ss:=zO (bs:=bs) e.same;have nd':=YY.mp nd;have rr:=rows.frozen ss.1 fun b hb=>Qd hb;refine⟨e.let h1 h2 ss.1 ss.2 (fun b u z=>?_) (.ow (own a Yb).1 (by rw[qS nd'.1];exact(own a Yb).2) h3 rr) fun b f=>.inl f,rr⟩;by_cases hb:b∈bs
 . exact .inr ((qo h3).mpr (Yf _ hb))
 . rw[qS hb]at z;exact .inl z
end
def EOk(t:TE)(f:ee->Option D):Prop:=∀G0 H0 G H σ ρ (Q:VK) d,EnvOk G0 H0 G H σ ρ->f ρ=some d->(∀v G' H',Ext G H G' H'->Rep G' v d->Q v H')->t σ H Q
def Jk(t:TE)(f:ee->Option D):Prop:=∀G0 H0 G H σ ρ (Q:VK) d,EnvOk G0 H0 G H σ ρ->f ρ=some d->(∀v G' H',Ext G H G' H'->RepT G' H' v d->Q v H')->t σ H Q
def EOkO(t:TE)(f:ee->Option (List D)):Prop:=∀G0 H0 G H σ ρ (Q:VK) ds,EnvOk G0 H0 G H σ ρ->f ρ=some ds->
 (∀a vs G' H',Ext G H G' H'->H a=none->G' a=none->H' a=some (.lst vs)->Reps G' vs ds->Q (.ref a) H')->t σ H Q
def TOk(t:TT)(f:ee->Option Bool):Prop:=∀G0 H0 G H σ ρ (Q:Bool->Hp->Prop) b,EnvOk G0 H0 G H σ ρ->f ρ=some b->(∀G' H',Ext G H G' H'->Q b H')->t σ H Q
def AOk(t:TA)(f:ee->Option (List D)):Prop:=∀G0 H0 G H σ ρ (Q:List V->Hp->Prop) ds,EnvOk G0 H0 G H σ ρ->f ρ=some ds->(∀vs G' H',Ext G H G' H'->Reps G' vs ds->Q vs H')->t σ H Q
def jaN(t:TA)(f:ee->Option (List D)):Prop:=∀G0 H0 G H σ ρ (Q:List V->Hp->Prop) ds,EnvOk G0 H0 G H σ ρ->f ρ=some ds->(∀vs G' H',Ext G H G' H'->RepTs G' H' vs ds->Q vs H')->t σ H Q
def jM(f:ee->Option (List D)):ee->Option D:=fun ρ=>(f ρ).map .lst
theorem EOkO.e{t:TE}{f:ee->Option (List D)}(h:EOkO t f):EOk t (jM f):=fun G0 H0 G H σ ρ Q d e q k=>by
 unfold jM at q;cases z:f ρ with
 | none=>rw[z]at q;cases q
 | some ds=>rw[z]at q;cases q;exact h G0 H0 G H σ ρ Q ds e z fun a vs G' H' x hn hg ha r=>k _ _ _ (x.freeze hn hg ha) (.lst (.inl jw) (r.mono (.upd hg)))
theorem EOk.t{t:TE}{f:ee->Option D}(h:EOk t f):Jk t f:=fun G0 H0 G H σ ρ Q d e q k=>h G0 H0 G H σ ρ Q d e q fun v G' H' x r=>k v G' H' x (r.top x.gh)
theorem AOk.t{t:TA}{f:ee->Option (List D)}(h:AOk t f):jaN t f:=fun G0 H0 G H σ ρ Q d e q k=>h G0 H0 G H σ ρ Q d e q fun v G' H' x r=>k v G' H' x (by
 clear k e q;induction r using Reps.rec (motive_1:=fun _ _ _=>True)with
 | nil=>exact .nil
 | cons r _ _ ih=>exact .cons (r.top x.gh) ih
 | _=>trivial)
def jB(i:Nat):ee->Option D:=fun ρ=>match ρ[i]? with
 | some (.sh d)=>some d
 | _=>none
def ja(i:Nat):ee->Option D:=fun ρ=>match ρ[i]? with
 | some (.sh d)=>some d
 | some (.ow ds)=>some (.lst ds)
 | some (.od ks ds)=>some (.dic ks ds)
 | _=>none
def eC(d:D):ee->Option D:=fun _=>some d
theorem jlB(i:Nat):EOk (Ji i) (jB i):=fun G0 H0 G H σ ρ Q d e q k=>by
 unfold jB at q;split at q
 . rename_i d' h;cases q;obtain⟨v,h1,r⟩:=e.sh h;exact⟨v,h1,k v G H (.refl e.same) r⟩
 . cases q
theorem jjF(i:Nat):Jk (Ji i) (ja i):=fun G0 H0 G H σ ρ Q d e q k=>by
 unfold ja at q;split at q
 . rename_i d' h;cases q;obtain⟨v,h1,r⟩:=e.sh h;exact⟨v,h1,k v G H (.refl e.same) (r.top e.same)⟩
 . rename_i ds h;cases q;obtain⟨a,vs,h1,_,_,h2,r⟩:=e.ow h;exact⟨_,h1,k _ G H (.refl e.same) (.lst (.inl h2) r)⟩
 . rename_i ks ds h;cases q;obtain⟨a,vs,h1,_,_,h2,hl,r⟩:=e.od h;exact⟨_,h1,k _ G H (.refl e.same) (.dic (.inl h2) hl r)⟩
 . cases q
theorem jiV{i:Int}:EOk (tC (.int i)) (eC (.int i)):=fun G0 H0 G H σ ρ Q d e q k=>by cases q;exact k _ G H (.refl e.same) (.int i)
theorem jmq{i:Bool}:EOk (tC (.bl i)) (eC (.bl i)):=fun G0 H0 G H σ ρ Q d e q k=>by cases q;exact k _ G H (.refl e.same) (.bl i)
theorem jlq:EOk (tC .non) (eC .non):=fun G0 H0 G H σ ρ Q d e q k=>by cases q;exact k _ G H (.refl e.same) .non
theorem jld{i:Str}:EOk (tC (.str i)) (eC (.str i)):=fun G0 H0 G H σ ρ Q d e q k=>by cases q;exact k _ G H (.refl e.same) (.str i)
def ROk(r:R2)(f:D->D->Option D):Prop:=∀G H x y dx dy d (Q:VK),Same G H->RepT G H x dx->RepT G H y dy->f dx dy=some d->(∀v G' H',Ext G H G' H'->Rep G' v d->Q v H')->r x y H Q
def jkI(r:R2)(f:D->D->Option (List D)):Prop:=∀G H x y dx dy ds (Q:VK),Same G H->RepT G H x dx->RepT G H y dy->f dx dy=some ds->
 (∀a vs G' H',Ext G H G' H'->H a=none->G' a=none->H' a=some (.lst vs)->Reps G' vs ds->Q (.ref a) H')->r x y H Q
def jg{β:Type}(f:D->D->Option β)(a b:ee->Option D):ee->Option β:=fun ρ=>(a ρ).bind fun x=>(b ρ).bind fun y=>f x y
section
variable{ta tb tc:TE}{fa fb fc:ee->Option D}{r r':R2}{f f':D->D->Option D}
theorem jhD(h:ROk r f)(ha:Jk ta fa)(hb:Jk tb fb):EOk (tOp r ta tb) (jg f fa fb):=fun G0 H0 G H σ ρ Q d e q k=>by obtain⟨x,qa,q⟩:=bind_some q;obtain⟨y,qb,q⟩:=bind_some q;refine ha G0 H0 G H σ ρ _ x e qa fun u G1 H1 x1 r1=>?_;refine hb G0 H0 G1 H1 σ ρ _ y (e.grow x1) qb fun v G2 H2 x2 r2=>?_;exact h G2 H2 u v x y d Q x2.gh (r1.mono x2.gg x2.hh) r2 q fun w G3 H3 x3 r3=>k w G3 H3 ((x1.trans x2).trans x3) r3
theorem jly{f:D->D->Option (List D)}(h:jkI r f)(ha:Jk ta fa)(hb:Jk tb fb):EOkO (tOp r ta tb) (jg f fa fb):=fun G0 H0 G H σ ρ Q d e q k=>by obtain⟨x,qa,q⟩:=bind_some q;obtain⟨y,qb,q⟩:=bind_some q;refine ha G0 H0 G H σ ρ _ x e qa fun u G1 H1 x1 r1=>?_;refine hb G0 H0 G1 H1 σ ρ _ y (e.grow x1) qb fun v G2 H2 x2 r2=>?_;exact h G2 H2 u v x y d Q x2.gh (r1.mono x2.gg x2.hh) r2 q fun w vs G3 H3 x3 hn hg hh r3=>k w vs G3 H3 ((x1.trans x2).trans x3) ((x1.hh.trans x2.hh).free hn) hg hh r3
def dI0(g:Int->Int->D):D->D->Option D
 | .int i,.int j=>some (g i j)
 | _,_=>none
def dI(C:Int->Int->Prop)[∀i j,Decidable (C i j)](g:Int->Int->D):D->D->Option D
 | .int i,.int j=>if C i j then some (g i j)else none
 | _,_=>none
theorem qg{α:Type}{P:Prop}{d:α}(h:none=some d):P:=nomatch h
theorem jhF{m:Int->Int->D}{x y d:D}(q:dI0 m x y=some d):∃i j,x=.int i/\y=.int j/\m i j=d:=by
 cases x with
 | int i=>
   cases y with
   | int j=>exact⟨i,j,rfl,rfl,Option.some.inj q⟩
   | _=>exact qg q
 | _=>exact qg q
theorem jjn{C:Int->Int->Prop}[∀i j,Decidable (C i j)]{m:Int->Int->D}{x y d:D}(q:dI C m x y=some d):∃i j,x=.int i/\y=.int j/\C i j/\m i j=d:=by
 cases x with
 | int i=>
   cases y with
   | int j=>
     by_cases c:C i j
     . exact⟨i,j,rfl,rfl,c,Option.some.inj ((Ys c).symm.trans q)⟩
     . exact qg ((YJ c).symm.trans q)
   | _=>exact qg q
 | _=>exact qg q
theorem jgN{g:Int->Int->V}{m:Int->Int->D}(hg:∀G i j,Rep G (g i j) (m i j)):ROk (rI0 g) (dI0 m):=fun G H x y dx dy d Q s rx ry q k=>by
 obtain⟨i,j,rfl,rfl,rfl⟩:=jhF q
 (have hh:=RepT.of_int rx;subst hh)
 (have hh:=RepT.of_int ry;subst hh)
 exact⟨_,_,rfl,rfl,k _ G H (.refl s) (hg _ _ _)⟩
theorem o_I{C:Int->Int->Prop}[∀i j,Decidable (C i j)]{g:Int->Int->V}{m:Int->Int->D}(hg:∀G i j,Rep G (g i j) (m i j)):ROk (rI C g) (dI C m):=fun G H x y dx dy d Q s rx ry q k=>by
 obtain⟨i,j,rfl,rfl,hc,rfl⟩:=jjn q
 (have hh:=RepT.of_int rx;subst hh)
 (have hh:=RepT.of_int ry;subst hh)
 exact⟨_,_,rfl,rfl,hc,k _ G H (.refl s) (hg _ _ _)⟩
instance (i j:Int):Decidable (jeB i j):=inferInstanceAs (Decidable (_/\_))
instance (i j:Int):Decidable (jbn i j):=inferInstanceAs (Decidable (_/\_))
def qj:=dI0 fun i j=>.int (i+j)
def qP:=dI0 fun i j=>.int (i-j)
def zu:=dI CMulB fun i j=>.int (i*j)
def zx:=dI jeB fun i j=>.int (i/j)
def jF:=dI (fun _ j=>0<j) fun i j=>.int (i%j)
def Jt:=dI jbn fun i j=>.int (i ^ j.toNat)
def dLt:=dI0 fun i j=>.bl (decide (i<j))
def dLe:=dI0 fun i j=>.bl (decide (i<=j))
def dGt:=dI0 fun i j=>.bl (decide (j<i))
def dGe:=dI0 fun i j=>.bl (decide (j<=i))
theorem jlj:ROk (rI0 fun i j=>.int (i+j)) qj:=jgN fun _ _ _=>.int _
theorem jlm:ROk (rI0 fun i j=>.int (i-j)) qP:=jgN fun _ _ _=>.int _
theorem jlH:ROk (rI CMulB fun i j=>.int (i*j)) zu:=o_I fun _ _ _=>.int _
theorem jlu:ROk (rI jeB fun i j=>.int (i/j)) zx:=o_I fun _ _ _=>.int _
theorem jk0:ROk (rI (fun _ j=>0<j) fun i j=>.int (i%j)) jF:=o_I fun _ _ _=>.int _
theorem jkY:ROk (rI jbn fun i j=>.int (i ^ j.toNat)) Jt:=o_I fun _ _ _=>.int _
theorem jmo:ROk (rI0 fun i j=>.bl (decide (i<j))) dLt:=jgN fun _ _ _=>.bl _
theorem jmu:ROk (rI0 fun i j=>.bl (decide (i<=j))) dLe:=jgN fun _ _ _=>.bl _
theorem jmh:ROk (rI0 fun i j=>.bl (decide (j<i))) dGt:=jgN fun _ _ _=>.bl _
def jI:D->D->Option D
 | .lst l,.int i=>atI l i
 | .tup l,.int i=>atI l i
 | .scr ns,.int i=>(atI ns i).map .int
 | .str z,.int i=>if z.length<=sizeLine then(atI z.cps.toList i).map fun c=>.str ⟨#[c]⟩else none
 | _,_=>none
theorem Reps.atI{G:Hp}{vs:List V}{ds:List D}{i:Int}{d:D}(r:Reps G vs ds)(h:L2.atI ds i=some d):∃v,L2.atI vs i=some v/\Rep G v d:=by unfold L2.atI at h ⊢;rw[r.length];obtain⟨j,h1,h2⟩:=bind_some h;obtain⟨v,h3,h4⟩:=r.get h2;exact⟨v,by rw[h1];exact h3,h4⟩
theorem jhk{x y d:D}(q:jI x y=some d):∃i,y=.int i/\((∃l,x=.lst l/\atI l i=some d)\/(∃l,x=.tup l/\atI l i=some d)\/(∃ns n,x=.scr ns/\atI ns i=some n/\d=.int n)\/∃z c,x=.str z/\z.length<=sizeLine/\atI z.cps.toList i=some c/\d=.str ⟨#[c]⟩):=by
 cases y with
 | int i=>
   refine⟨i,rfl,?_⟩;cases x with
   | lst l=>exact .inl ⟨l,rfl,q⟩
   | tup l=>exact .inr (.inl ⟨l,rfl,q⟩)
   | scr ns=>obtain⟨n,h1,h2⟩:=map_some (show(atI ns i).map D.int=some d from q);exact .inr (.inr (.inl ⟨ns,n,rfl,h1,h2.symm⟩))
   | str z=>
     have q':(if z.length<=sizeLine then(atI z.cps.toList i).map fun c=>D.str ⟨#[c]⟩else none)=some d:=q;by_cases c:z.length<=sizeLine
     . rw[Ys c]at q';obtain⟨n,h1,h2⟩:=map_some q';exact .inr (.inr (.inr ⟨z,n,rfl,c,h1,h2.symm⟩))
     . rw[YJ c]at q';exact qg q'
   | _=>exact qg q
 | _=>exact qg (show none=some d from by cases x <;> exact q)
theorem jmy:ROk (rIx Fr.K) jI:=fun G H x y dx dy d Q s rx ry q k=>by
 obtain⟨i,rfl,z⟩:=jhk q
 (have hh:=RepT.of_int ry;subst hh)
 rcases z with⟨l,rfl,q⟩ | ⟨l,rfl,q⟩ | ⟨ns,n,rfl,e,rfl⟩ | ⟨z,c,rfl,hz,e,rfl⟩
 . cases rx with
   | lst h r=>obtain⟨v,h1,h2⟩:=r.atI q;exact .inl ⟨_,_,_,v,rfl,rfl,.inl h,h1,k v G H (.refl s) h2⟩
 . cases rx with
   | tup h r=>obtain⟨v,h1,h2⟩:=r.atI q;exact .inr (.inl ⟨_,_,_,v,rfl,rfl,.inl (.inl h),h1,k v G H (.refl s) h2⟩)
 . cases rx with
   | scr h=>exact .inl ⟨_,_,_,_,rfl,rfl,h,by rw[jhS,e];rfl,k _ G H (.refl s) (.int n)⟩
 . cases rx with
   | str z=>exact .inr (.inr ⟨_,_,c,rfl,rfl,hz,e,k _ G H (.refl s) (.str _)⟩)
def ja4(fa:ee->Option D):ee->Option D:=fun ρ=>match fa ρ with
 | some (.int i)=>some (.int (-i))
 | _=>none
theorem jlN(ha:Jk ta fa):EOk (tUn (rU fun i=>.int (-i)) ta) (ja4 fa):=fun G0 H0 G H σ ρ Q d e q k=>by
 unfold ja4 at q;split at q
 . rename_i i h;cases q;refine ha G0 H0 G H σ ρ _ _ e h fun v G' H' x r=>?_
   (have hh:=RepT.of_int r;subst hh)
   exact⟨_,rfl,k _ G' H' x (.int _)⟩
 . cases q
def jZ(fa:ee->Option D):ee->Option Bool:=fun ρ=>match fa ρ with
 | some (.bl b)=>some b
 | _=>none
theorem jaz(ha:Jk ta fa){G0 H0 G H:Hp}{σ:St}{ρ:ee}{b:Bool}{Q:VK}(e:EnvOk G0 H0 G H σ ρ)(q:jZ fa ρ=some b)(k:∀G' H',Ext G H G' H'->Q (.bl b) H'):ta σ H Q:=by
 unfold jZ at q;split at q
 . rename_i i h;cases q;refine ha G0 H0 G H σ ρ _ _ e h fun v G' H' x r=>?_
   (have hh:=RepT.of_bl r;subst hh)
   exact k G' H' x
 . cases q
def jdS(fa:ee->Option D):ee->Option D:=fun ρ=>(jZ fa ρ).map fun b=>.bl (!b)
theorem jkH(ha:Jk ta fa):EOk (jik ta) (jdS fa):=fun G0 H0 G H σ ρ Q d e q k=>by
 unfold jdS at q;cases h:jZ fa ρ with
 | none=>rw[h]at q;cases q
 | some b=>rw[h]at q;cases q;exact jaz ha e h fun G' H' x=>⟨_,rfl,k _ G' H' x (.bl _)⟩
def jai(fa fb:ee->Option D):ee->Option D:=fun ρ=>match jZ fa ρ with
 | some true=>fb ρ
 | some false=>some (.bl false)
 | none=>none
def eOr(fa fb:ee->Option D):ee->Option D:=fun ρ=>match jZ fa ρ with
 | some true=>some (.bl true)
 | some false=>fb ρ
 | none=>none
theorem jla(ha:Jk ta fa)(hb:EOk tb fb):EOk (jiH ta tb) (jai fa fb):=fun G0 H0 G H σ ρ Q d e q k=>by
 unfold jai at q;split at q
 . rename_i h;exact jaz ha e h fun G' H' x=>⟨true,rfl,by rw[Ys rfl];exact hb _ _ _ _ _ _ _ _ (e.grow x) q fun v G2 H2 x2 r=>k v G2 H2 (x.trans x2) r⟩
 . rename_i h;cases q;exact jaz ha e h fun G' H' x=>⟨false,rfl,by rw[YJ Ym];exact k _ G' H' x (.bl _)⟩
 . cases q
def jkM(fa:ee->Option D):ee->Option D:=fun ρ=>(fa ρ).map fun d=>.bl (match d with | .non=>true | _=>false)
def jiD(fa:ee->Option D):ee->Option D:=fun ρ=>(fa ρ).map fun d=>.bl (match d with | .non=>false | _=>true)
def zR(f f':D->D->Option D)(fa fb fc:ee->Option D):ee->Option D:=fun ρ=>(fa ρ).bind fun x=>(fb ρ).bind fun y=>(f x y).bind fun z=>match z with
 | .bl true=>(fc ρ).bind fun w=>f' y w
 | .bl false=>some (.bl false)
 | _=>none
theorem jhJ(h:ROk r f)(h':ROk r' f')(ha:Jk ta fa)(hb:Jk tb fb)(hc:Jk tc fc):EOk (jf9 r r' ta tb tc) (zR f f' fa fb fc):=fun G0 H0 G H σ ρ Q d e q k=>by
 obtain⟨x,qa,q⟩:=bind_some q;obtain⟨y,qb,q⟩:=bind_some q;obtain⟨z,qz,q⟩:=bind_some q;refine ha G0 H0 G H σ ρ _ x e qa fun u G1 H1 x1 r1=>?_;refine hb G0 H0 G1 H1 σ ρ _ y (e.grow x1) qb fun v G2 H2 x2 r2=>?_;refine h G2 H2 u v x y z _ x2.gh (r1.mono x2.gg x2.hh) r2 qz fun w G3 H3 x3 r3=>?_;cases r3 with
 | bl b=>
   refine⟨b,rfl,?_⟩;cases b with
   | false=>rw[YJ Ym];cases q;exact k _ G3 H3 ((x1.trans x2).trans x3) (.bl _)
   | true=>rw[Ys rfl];obtain⟨w,qc,q⟩:=bind_some q;refine hc G0 H0 G3 H3 σ ρ _ w (e.grow ((x1.trans x2).trans x3)) qc fun w' G4 H4 x4 r4=>?_;exact h' G4 H4 v w' y w d Q x4.gh (r2.mono (x3.trans x4).gg (x3.trans x4).hh) r4 q fun z G5 H5 x5 r5=>k z G5 H5 ((((x1.trans x2).trans x3).trans x4).trans x5) r5
 | _=>cases q
theorem t_B(ha:Jk ta fa):TOk (tB ta) (jZ fa):=fun G0 H0 G H σ ρ Q b e q k=>jaz ha e q fun G' H' x=>⟨b,rfl,k G' H' x⟩
theorem ji0(ha:Jk ta fa):TOk (jij ta) (jZ fa):=fun G0 H0 G H σ ρ Q b e q k=>jaz ha e q fun G' H' x=>⟨b,rfl,k G' H' x⟩
variable{ca cb:TT}{ga gb:ee->Option Bool}
def zZ(ga gb:ee->Option Bool):ee->Option Bool:=fun ρ=>match ga ρ with
 | some true=>gb ρ
 | some false=>some false
 | none=>none
def bOr(ga gb:ee->Option Bool):ee->Option Bool:=fun ρ=>match ga ρ with
 | some true=>some true
 | some false=>gb ρ
 | none=>none
def Jr(ga:ee->Option Bool):ee->Option Bool:=fun ρ=>(ga ρ).map (!·)
theorem jdn(ha:TOk ca ga)(hb:TOk cb gb):TOk (jlR ca cb) (zZ ga gb):=fun G0 H0 G H σ ρ Q b e q k=>by
 unfold zZ at q;split at q
 . rename_i h;exact ha _ _ _ _ _ _ _ _ e h fun G' H' x=>by rw[Ys rfl];exact hb _ _ _ _ _ _ _ _ (e.grow x) q fun G2 H2 x2=>k G2 H2 (x.trans x2)
 . rename_i h;cases q;exact ha _ _ _ _ _ _ _ _ e h fun G' H' x=>by rw[YJ Ym];exact k G' H' x
 . cases q
theorem jme(ha:TOk ca ga)(hb:TOk cb gb):TOk (tOr ca cb) (bOr ga gb):=fun G0 H0 G H σ ρ Q b e q k=>by
 unfold bOr at q;split at q
 . rename_i h;cases q;exact ha _ _ _ _ _ _ _ _ e h fun G' H' x=>by rw[Ys rfl];exact k G' H' x
 . rename_i h;exact ha _ _ _ _ _ _ _ _ e h fun G' H' x=>by rw[YJ Ym];exact hb _ _ _ _ _ _ _ _ (e.grow x) q fun G2 H2 x2=>k G2 H2 (x.trans x2)
 . cases q
theorem Js(ha:TOk ca ga):TOk (jlK ca) (Jr ga):=fun G0 H0 G H σ ρ Q b e q k=>by
 unfold Jr at q;cases h:ga ρ with
 | none=>rw[h]at q;cases q
 | some c=>rw[h]at q;cases q;exact ha _ _ _ _ _ _ _ _ e h fun G' H' x=>k G' H' x
theorem jka:TOk jiw (fun _=>some true):=fun G0 H0 G H σ ρ Q b e q k=>by cases q;exact k G H (.refl e.same)
def eIf(ga:ee->Option Bool)(fa fb:ee->Option D):ee->Option D:=fun ρ=>match ga ρ with
 | some true=>fa ρ
 | some false=>fb ρ
 | none=>none
theorem jmw(hc:TOk ca ga)(ha:EOk ta fa)(hb:EOk tb fb):EOk (tIf ca ta tb) (eIf ga fa fb):=fun G0 H0 G H σ ρ Q d e q k=>by
 unfold eIf at q;split at q
 . rename_i h;exact hc _ _ _ _ _ _ _ _ e h fun G' H' x=>by rw[Ys rfl];exact ha _ _ _ _ _ _ _ _ (e.grow x) q fun v G2 H2 x2 r=>k v G2 H2 (x.trans x2) r
 . rename_i h;exact hc _ _ _ _ _ _ _ _ e h fun G' H' x=>by rw[YJ Ym];exact hb _ _ _ _ _ _ _ _ (e.grow x) q fun v G2 H2 x2 r=>k v G2 H2 (x.trans x2) r
 . cases q
end
section
variable{ta tb tc:TE}{fa fb fc:ee->Option D}{As:TA}{fs:ee->Option (List D)}
def ji:ee->Option (List D):=fun _=>some []
def jb(fa:ee->Option D)(fs:ee->Option (List D)):ee->Option (List D):=fun ρ=>(fa ρ).bind fun d=>(fs ρ).map (d::·)
theorem jbf{ρ:ee}{ds:List D}(h:jb fa fs ρ=some ds):∃d es,fa ρ=some d/\fs ρ=some es/\ds=d::es:=by
 obtain⟨d,h1,h2⟩:=bind_some h;cases z:fs ρ with
 | none=>rw[z]at h2;cases h2
 | some es=>rw[z]at h2;cases h2;exact⟨d,es,h1,rfl,rfl⟩
theorem a_nil:AOk ja9 ji:=fun G0 H0 G H σ ρ Q d e q k=>by cases q;exact k [] G H (.refl e.same) .nil
theorem jjy(ha:EOk ta fa)(hs:AOk As fs):AOk (JT ta As) (jb fa fs):=fun G0 H0 G H σ ρ Q ds e q k=>by obtain⟨d,es,q1,q2,rfl⟩:=jbf q;refine ha _ _ _ _ _ _ _ _ e q1 fun v G1 H1 x1 r1=>hs _ _ _ _ _ _ _ _ (e.grow x1) q2 fun vs G2 H2 x2 r2=>?_;exact k _ G2 H2 (x1.trans x2) (.cons (r1.mono x2.gg) r2)
theorem jjj:jaN ja9 ji:=a_nil.t
theorem jhL(ha:Jk ta fa)(hs:jaN As fs):jaN (JT ta As) (jb fa fs):=fun G0 H0 G H σ ρ Q ds e q k=>by obtain⟨d,es,q1,q2,rfl⟩:=jbf q;refine ha _ _ _ _ _ _ _ _ e q1 fun v G1 H1 x1 r1=>hs _ _ _ _ _ _ _ _ (e.grow x1) q2 fun vs G2 H2 x2 r2=>?_;exact k _ G2 H2 (x1.trans x2) (.cons (r1.mono x2.gg x2.hh) r2)
def zp(n:Nat):Bool:=decide (n<sizeLine)
def ZM(fs:ee->Option (List D)):ee->Option D:=fun ρ=>(fs ρ).bind fun ds=>if zp ds.length then some (.tup ds)else none
def qt(fs:ee->Option (List D)):ee->Option (List D):=fun ρ=>(fs ρ).bind fun ds=>if zp ds.length then some ds else none
theorem jcU{n:Nat}(h:zp n=true):n<=sizeLine:=yF (yH h)
theorem JZ{n:Nat}(h:zp n=true):n<sizeLine:=yH h
theorem jkJ(h:AOk As fs):EOk (jlU As) (ZM fs):=fun G0 H0 G H σ ρ Q d e q k=>by
 obtain⟨ds,q1,q2⟩:=bind_some q;split at q2
 . rename_i hz;cases q2;refine h _ _ _ _ _ _ _ _ e q1 fun vs G1 H1 x1 r1=>⟨by rw[r1.length];exact jcU hz,fun p hp=>?_⟩;have hg:G1 p=none:=x1.gh.free hp;have x2:Ext G1 H1 (upd G1 p (.tup vs)) (upd H1 p (.tup vs)):=(Ext.new x1.gh hp).freeze hp hg jw;exact k _ _ _ (x1.trans x2) (.tup jw (r1.mono x2.gg))
 . cases q2
theorem jk7(h:AOk As fs):EOkO (jjD As) (qt fs):=fun G0 H0 G H σ ρ Q d e q k=>by
 obtain⟨ds,q1,q2⟩:=bind_some q;split at q2
 . rename_i hz;cases q2;refine h _ _ _ _ _ _ _ _ e q1 fun vs G1 H1 x1 r1=>⟨by rw[r1.length];exact jcU hz,fun p hp=>?_⟩;exact k p vs G1 _ (x1.trans (.new x1.gh hp)) (x1.hh.free hp) (x1.gh.free hp) jw r1
 . cases q2
def jb8(r:List V->Hp->VK->Prop)(f:List D->Option D):Prop:=∀G H xs ds d (Q:VK),Same G H->RepTs G H xs ds->f ds=some d->(∀v G' H',Ext G H G' H'->Rep G' v d->Q v H')->r xs H Q
def jeG(r:List V->Hp->VK->Prop)(f:List D->Option (List D)):Prop:=∀G H xs ds es (Q:VK),Same G H->RepTs G H xs ds->f ds=some es->
 (∀a vs G' H',Ext G H G' H'->H a=none->G' a=none->H' a=some (.lst vs)->Reps G' vs es->Q (.ref a) H')->r xs H Q
def jf{β:Type}(f:List D->Option β)(fs:ee->Option (List D)):ee->Option β:=fun ρ=>(fs ρ).bind f
theorem jll{r:List V->Hp->VK->Prop}{f:List D->Option D}(h:jb8 r f)(ha:jaN As fs):EOk (tCB r As) (jf f fs):=fun G0 H0 G H σ ρ Q d e q k=>by obtain⟨ds,q1,q2⟩:=bind_some q;exact ha _ _ _ _ _ _ _ _ e q1 fun vs G1 H1 x1 r1=>h G1 H1 vs ds d Q x1.gh r1 q2 fun v G2 H2 x2 r2=>k v G2 H2 (x1.trans x2) r2
theorem jiA{r:List V->Hp->VK->Prop}{f:List D->Option (List D)}(h:jeG r f)(ha:jaN As fs):EOkO (tCB r As) (jf f fs):=fun G0 H0 G H σ ρ Q d e q k=>by obtain⟨ds,q1,q2⟩:=bind_some q;exact ha _ _ _ _ _ _ _ _ e q1 fun vs G1 H1 x1 r1=>h G1 H1 vs ds d Q x1.gh r1 q2 fun a us G2 H2 x2 hn hg hh r2=>k a us G2 H2 (x1.trans x2) (x1.hh.free hn) hg hh r2
def spS(f:List D->Option D):Sp:=fun vs H Q _=>∃G ds d,Same G H/\Reps G vs ds/\f ds=some d/\∀v G' H',Ext G H G' H'->Rep G' v d->Q v H'
def spO(f:List D->Option (List D)):Sp:=fun vs H Q _=>∃G ds es,Same G H/\Reps G vs ds/\f ds=some es/\∀a us G' H',Ext G H G' H'->H a=none->G' a=none->H' a=some (.lst us)->Reps G' us es->Q (.ref a) H'
theorem jjI{f:List D->Option D}{E:XK}(ha:AOk As fs):EOk (jcW (spS f) [] E As) (jf f fs):=fun G0 H0 G H σ ρ Q d e q k=>by obtain⟨ds,q1,q2⟩:=bind_some q;exact ha _ _ _ _ _ _ _ _ e q1 fun vs G1 H1 x1 r1=>⟨G1,ds,d,x1.gh,by rw[yO];exact r1,q2,fun v G2 H2 x2 r2=>k v G2 H2 (x1.trans x2) r2⟩
theorem jhj{f:List D->Option (List D)}{E:XK}(ha:AOk As fs):EOkO (jcW (spO f) [] E As) (jf f fs):=fun G0 H0 G H σ ρ Q d e q k=>by obtain⟨ds,q1,q2⟩:=bind_some q;exact ha _ _ _ _ _ _ _ _ e q1 fun vs G1 H1 x1 r1=>⟨G1,ds,d,x1.gh,by rw[yO];exact r1,q2,fun a us G2 H2 x2 hn hg hh r2=>k a us G2 H2 (x1.trans x2) (x1.hh.free hn) hg hh r2⟩
end
inductive Res where
 | next (ρ:ee) | ret (d:D) | retO (ds:List D) | retT (d:D) (dss:List (List D)) (es:List D) | retOO (dss:List (List D)) | brk (ρ:ee) | cnt (ρ:ee) | fail
def ResOk(G0 H0 Gc:Hp)(r:Res)(E:Ends):Prop:=match r with
 | .next ρ=>∀G H σ,Same Gc G->EnvOk G0 H0 G H σ ρ->E.nx σ H
 | .brk ρ=>∀G H σ,Same Gc G->EnvOk G0 H0 G H σ ρ->E.bk σ H
 | .cnt ρ=>∀G H σ,Same Gc G->EnvOk G0 H0 G H σ ρ->E.ct σ H
 | .ret d=>∀G H v,Ext G0 H0 G H->Rep G v d->E.rt v H
 | .retO ds=>∀G H a vs,Ext G0 H0 G H->H0 a=none->G a=none->H a=some (.lst vs)->Reps G vs ds->E.rt (.ref a) H
 | .retT d dss es=>∀G H t a c bs v us,Ext G0 H0 G H->H t=some (.tup [v,.ref a,.ref c])->H a=some (.lst (bs.map V.ref))->H c=some (.lst us)->(t::c::a::bs).Nodup->(∀b∈t::c::a::bs,H0 b=none/\G b=none)->Rep G v d->Rows G H bs dss->Reps G us es->E.rt (.ref t) H
 | .retOO dss=>∀G H a bs,Ext G0 H0 G H->(∀b∈a::bs,H0 b=none/\G b=none)->(a::bs).Nodup->H a=some (.lst (bs.map V.ref))->Rows G H bs dss->E.rt (.ref a) H
 | .fail=>False
theorem ResOk.mono{G0 H0 G G':Hp}{r:Res}{E:Ends}(s:Same G G')(h:ResOk G0 H0 G r E):ResOk G0 H0 G' r E:=by
 cases r with
 | next ρ=>exact fun G2 H2 σ s2 e=>h G2 H2 σ (s.trans s2) e
 | brk ρ=>exact fun G2 H2 σ s2 e=>h G2 H2 σ (s.trans s2) e
 | cnt ρ=>exact fun G2 H2 σ s2 e=>h G2 H2 σ (s.trans s2) e
 | ret d=>exact h
 | retO d=>exact h
 | retT d dss es=>exact h
 | retOO dss=>exact h
 | fail=>exact h
abbrev FS:=ee->Res
def QK(t:TS)(F:FS):Prop:=∀G0 H0 G H σ ρ E,EnvOk G0 H0 G H σ ρ->ResOk G0 H0 G (F ρ) E->t E σ H
section
variable{t u:TS}{F F':FS}{te:TE}{fe:ee->Option D}{fo:ee->Option (List D)}{tc:TT}{fc:ee->Option Bool}
def j2:FS:=.next
theorem jje:QK jgX j2:=fun G0 H0 G H σ ρ E e h=>h G H σ (.refl _) e
def jn(F F':FS):FS:=fun ρ=>match F ρ with
 | .next ρ'=>F' ρ'
 | r=>r
theorem jlw(h:QK t F)(h':QK u F'):QK (jgb t u) (jn F F'):=fun G0 H0 G H σ ρ E e q=>by
 refine h G0 H0 G H σ ρ _ e ?_;unfold jn at q;cases z:F ρ with
 | next ρ'=>rw[z]at q;exact fun G' H' σ' s' e'=>h' G0 H0 G' H' σ' ρ' E e' (q.mono s')
 | ret d=>rw[z]at q;exact q
 | retO d=>rw[z]at q;exact q
 | retT d dss es=>rw[z]at q;exact q
 | retOO dss=>rw[z]at q;exact q
 | brk d=>rw[z]at q;exact q
 | cnt d=>rw[z]at q;exact q
 | fail=>rw[z]at q;exact q
def jiE(fe:ee->Option D):FS:=fun ρ=>match fe ρ with
 | some _=>.next ρ
 | none=>.fail
def qO(fe:ee->Option D):FS:=fun ρ=>match fe ρ with
 | some d=>.ret d
 | none=>.fail
theorem jkT(h:EOk te fe):QK (jfm te) (qO fe):=fun G0 H0 G H σ ρ E e q=>by
 unfold qO at q;split at q
 . rename_i d z;exact h _ _ _ _ _ _ _ _ e z fun v G' H' x r=>q G' H' v (e.ext.trans x) r
 . exact q.elim
def J5(fo:ee->Option (List D)):FS:=fun ρ=>match fo ρ with
 | some d=>.retO d
 | none=>.fail
theorem jjr(h:EOkO te fo):QK (jfm te) (J5 fo):=fun G0 H0 G H σ ρ E e q=>by
 unfold J5 at q;split at q
 . rename_i d z;exact h _ _ _ _ _ _ _ _ e z fun a vs G' H' x hn hg hh r=>q G' H' a vs (e.ext.trans x) (e.ext.hh.free hn) hg hh r
 . exact q.elim
def ja6(i:Nat):FS:=fun ρ=>match ρ[i]? with
 | some (.ow ds)=>.retO ds
 | _=>.fail
theorem jjm(i:Nat):QK (jfm (Ji i)) (ja6 i):=fun G0 H0 G H σ ρ E e q=>by
 unfold ja6 at q;split at q
 . rename_i ds z;obtain⟨a,vs,h1,h2,h3,h4,h5⟩:=e.ow z;exact⟨_,h1,q G H a vs e.ext h2 h3 h4 h5⟩
 . exact q.elim
def JR(fc:ee->Option Bool)(F F':FS):FS:=fun ρ=>match fc ρ with
 | some true=>F ρ
 | some false=>F' ρ
 | none=>.fail
theorem jma(hc:TOk tc fc)(h:QK t F)(h':QK u F'):QK (jkg tc t u) (JR fc F F'):=fun G0 H0 G H σ ρ E e q=>by
 unfold JR at q;split at q
 . rename_i z;exact hc _ _ _ _ _ _ _ _ e z fun G' H' x=>by rw[Ys rfl];exact h _ _ _ _ _ _ _ (e.grow x) (q.mono x.gg)
 . rename_i z;exact hc _ _ _ _ _ _ _ _ e z fun G' H' x=>by rw[YJ Ym];exact h' _ _ _ _ _ _ _ (e.grow x) (q.mono x.gg)
 . exact q.elim
def jD(i:Nat)(fe:ee->Option D):FS:=fun ρ=>match fe ρ with
 | some d=>.next (ρ.set i (.sh d))
 | none=>.fail
theorem jiB(i:Nat)(h:EOk te fe):QK (ZQ te (JS i)) (jD i fe):=fun G0 H0 G H σ ρ E e q=>by
 unfold jD at q;split at q
 . rename_i d z;exact h _ _ _ _ _ _ _ _ e z fun v G' H' x r=>q G' H' _ x.gg ((e.grow x).set r)
 . exact q.elim
def Qb(i:Nat)(fo:ee->Option (List D)):FS:=fun ρ=>match fo ρ with
 | some d=>.next (ρ.set i (.ow d))
 | none=>.fail
theorem jkx(i:Nat)(h:EOkO te fo):QK (ZQ te (JS i)) (Qb i fo):=fun G0 H0 G H σ ρ E e q=>by
 unfold Qb at q;split at q
 . rename_i d z;exact h _ _ _ _ _ _ _ _ e z fun a vs G' H' x hn hg hh r=>q G' H' _ x.gg (e.setO x hn hg hh r)
 . exact q.elim
def QP(i:Nat)(F:FS):FS:=fun ρ=>F (frz i ρ)
theorem Ext.back{G G' H:Hp}(sg:Same G G')(gh:Same G' H):∀G2 H2,Ext G' H G2 H2->∃G3,Ext G H G3 H2/\∀v d,qB d=true->Rep G2 v d->Rep G3 v d:=fun G2 H2 x=>by
 refine⟨fun b=>match G b,G' b with | none,some _=>none | _,_=>G2 b,⟨x.hh,fun b o q=>?_,fun b o q=>?_,fun b o q=>?_⟩,fun v d f r=>r.flat f⟩
 . show(match G b,G' b with | none,some _=>none | _,_=>G2 b)=some o;rw[q,sg b o q];exact x.gg b o (sg b o q)
 . have q':(match G b,G' b with | none,some _=>none | _,_=>G2 b)=some o:=q;split at q'
   . cases q'
   . exact x.gh b o q'
 . have q':(match G b,G' b with | none,some _=>none | _,_=>G2 b)=some o:=q;cases g:G b with
   | some u=>rw[g,sg b u g]at q';have:G2 b=some u:=x.gg b u (sg b u g);rw[this]at q';exact .inl q'
   | none=>
     cases g':G' b with
     | some u=>rw[g,g']at q';cases q'
     | none=>
       rw[g,g']at q';rcases x.nw b o q' with w | w
       . rw[g']at w;cases w
       . exact .inr w
theorem EnvOk.frz{G0 H0 G H:Hp}{σ:St}{ρ:ee}(i:Nat)(e:EnvOk G0 H0 G H σ ρ):∃G',EnvOk G0 H0 G' H σ (L2.frz i ρ)/\Same G G'/\∀G2 H2,Ext G' H G2 H2->∃G3,Ext G H G3 H2/\∀v d,qB d=true->Rep G2 v d->Rep G3 v d:=by
 have fin:∀(ρ':ee) G',EnvOk G0 H0 G' H σ ρ'->Same G G'->∃G',EnvOk G0 H0 G' H σ ρ'/\Same G G'/\∀G2 H2,Ext G' H G2 H2->∃G3,Ext G H G3 H2/\∀v d,qB d=true->Rep G2 v d->Rep G3 v d:=fun ρ' G' e' s=>⟨G',e',s,Ext.back s e'.same⟩;unfold L2.frz;split
 . rename_i ds z;obtain⟨a,vs,h1,h2,h3,h4,h5⟩:=e.ow z;exact fin _ _ (e.freeze z h1 h4 h5) (.upd h3)
 . rename_i dss z;obtain⟨a,bs,h1,h2,h3,h4,h5⟩:=e.oo z;obtain⟨e1,rr⟩:=e.half z h1 h2 h3 h4 h5;have hi:i<ρ.length:=(Yg.mp z).1;have e2:=e1.freeze (i:=i) (by rw[YG hi]) h1 h2 rr;rw[List.set_set]at e2;have nd':=YY.mp h3;exact fin _ _ e2 ((zO e.same).1.trans (.upd (by rw[qS nd'.1];exact(h4 a Yb).2)))
 . rename_i d dss es z;obtain⟨t,a,c,bs,v,us,h1,ht,h,hc,nd,own,r0,rows,r⟩:=e.ot z;have ss:=zO (bs:=t::c::a::bs) e.same;have m:=fun b (hb:b∈t::c::a::bs)=>Qd (G:=G) (H:=H) hb;have rr:=rows.frozen (G':=more G H (t::c::a::bs)) ss.1 fun b hb=>m b (by simp[hb]);refine fin _ _ (e.let z h1 ss.1 ss.2 (fun b u q=>?_) (.sh (.tup (by rw[m t (by simp)];exact ht) (.cons (r0.mono ss.1) (.cons (.lst (.inl (by rw[m a (by simp)];exact h)) rr) (.cons (.lst (.inl (by rw[m c (by simp)];exact hc)) (r.mono ss.1)) .nil))))) fun b f=>f.elim) ss.1;by_cases hb:b∈t::c::a::bs
   . exact .inr ((Zj ht h).mpr hb)
   . rw[qS hb]at q;exact .inl q
 . exact fin _ _ e (.refl _)
theorem EnvOk.hfrz{G0 H0 G H:Hp}{σ:St}{ρ:ee}(i:Nat)(e:EnvOk G0 H0 G H σ ρ):∃G',EnvOk G0 H0 G' H σ (L2.hfrz i ρ)/\Same G G':=by
 unfold L2.hfrz;split
 . rename_i dss z;obtain⟨a,bs,h1,h2,h3,h4,h5⟩:=e.oo z;exact⟨_,(e.half z h1 h2 h3 h4 h5).1,(zO e.same).1⟩
 . exact⟨G,e,.refl _⟩
theorem jlM(i:Nat)(h:QK t F):QK t (QP i F):=fun G0 H0 G H σ ρ E e q=>by obtain⟨G',e',sg,_⟩:=e.frz i;exact h G0 H0 G' H σ _ E e' (q.mono sg)
def jlf(i:Nat)(fe:ee->Option D):ee->Option D:=fun ρ=>match fe (frz i ρ)with
 | some d=>if qB d then some d else none
 | none=>none
def jlp(i:Nat)(fc:ee->Option Bool):ee->Option Bool:=fun ρ=>fc (frz i ρ)
variable{ta:TE}{fa:ee->Option D}
def JU(i:Nat)(fa:ee->Option D):FS:=fun ρ=>match ρ[i]?,fa ρ with
 | some (.ow ds),some d=>if zp ds.length then .next (ρ.set i (.ow (ds++[d])))else .fail
 | _,_=>.fail
theorem jlc(i:Nat)(h:EOk ta fa):QK (jbE (tBM Fr.K "list" JF (Ji i) (JT ta ja9))) (JU i fa):=fun G0 H0 G H σ ρ E e q=>by
 unfold JU at q;split at q
 . rename_i ds d z1 z2;split at q
   . rename_i hz;obtain⟨a,vs,h1,h2,h3,h4,h5⟩:=e.ow z1;refine⟨_,h1,.inl ⟨rfl,vs,.inl (.inl h4)⟩,h _ _ _ _ _ _ _ _ e z2 fun v G' H' x r=>?_⟩;have e':=e.grow x;exact⟨a,vs,v,rfl,rfl,x.hh _ _ h4,by rw[h5.length];exact JZ hz,q G' _ σ x.gg (e'.put z1 h1 ((h5.mono x.gg).snoc r))⟩
   . exact q.elim
 . exact q.elim
def jf7(i:Nat):FS:=fun ρ=>match ρ[i]? with
 | some (.ow _)=>.next (ρ.set i (.ow []))
 | _=>.fail
def jkZ(i:Nat)(fa fb:ee->Option D):FS:=fun ρ=>match ρ[i]?,fa ρ,fb ρ with
 | some (.ow ds),some (.int k),some d=>if 0<=k/\k<=ds.length/\zp ds.length then .next (ρ.set i (.ow (ds.take k.toNat++d::ds.drop k.toNat)))else .fail
 | _,_,_=>.fail
def Jz(i:Nat)(fk fa:ee->Option D):FS:=fun ρ=>match ρ[i]?,fa ρ,fk ρ with
 | some (.ow ds),some d,some (.int k)=>match QX ds.length k with
   | some j=>.next (ρ.set i (.ow (ds.set j d)))
   | none=>.fail
 | _,_,_=>.fail
theorem jlE{tk:TE}{fk:ee->Option D}(i:Nat)(hk:EOk tk fk)(h:EOk ta fa):QK (ZQ ta (jjf (Ji i) tk jhb)) (Jz i fk fa):=fun G0 H0 G H σ ρ E e q=>by
 unfold Jz at q;split at q
 . rename_i ds d k z1 z2 z3;split at q
   . rename_i j hj;obtain⟨a,vs,h1,h2,h3,h4,h5⟩:=e.ow z1;refine h _ _ _ _ _ _ _ _ e z2 fun v G' H' x r=>⟨_,h1,hk _ _ _ _ _ _ _ _ (e.grow x) z3 fun w G2 H2 x2 r2=>?_⟩
     (have hh:=Rep.of_int r2;subst hh)
     have e':=(e.grow x).grow x2;exact⟨a,vs,k,j,rfl,rfl,(x.trans x2).hh _ _ h4,by rw[h5.length];exact hj,q G2 _ σ (x.trans x2).gg (e'.put z1 h1 ((h5.mono (x.trans x2).gg).set (r.mono x2.gg) j))⟩
   . exact q.elim
 . exact q.elim
end
def GOk(g:TG)(m:D->ee->Option ee):Prop:=∀G0 H0 G H σ ρ v d ρ' (Q:St->Hp->Prop),EnvOk G0 H0 G H σ ρ->Rep G v d->m d ρ=some ρ'->(∀σ',EnvOk G0 H0 G H σ' ρ'->Q σ' H)->g v σ H Q
def jfy(g:TGs)(m:List D->ee->Option ee):Prop:=∀G0 H0 G H σ ρ vs ds ρ' (Q:St->Hp->Prop),EnvOk G0 H0 G H σ ρ->Reps G vs ds->m ds ρ=some ρ'->(∀σ',EnvOk G0 H0 G H σ' ρ'->Q σ' H)->g vs σ H Q
def jT(i:Nat):D->ee->Option ee:=fun d ρ=>some (ρ.set i (.sh d))
def jaj:List D->ee->Option ee
 | [],ρ=>some ρ
 | _,_=>none
def zd(m:D->ee->Option ee)(ms:List D->ee->Option ee):List D->ee->Option ee
 | d::ds,ρ=>(m d ρ).bind fun ρ'=>ms ds ρ'
 | [],_=>none
def ZO(n:Nat)(ms:List D->ee->Option ee):D->ee->Option ee
 | .tup ds,ρ=>if ds.length=n then ms ds ρ else none
 | _,_=>none
theorem jed(i:Nat):GOk (JS i) (jT i):=fun G0 H0 G H σ ρ v d ρ' Q e r q k=>by cases q;exact k _ (e.set r)
theorem jiy:jfy jkb jaj:=fun G0 H0 G H σ ρ vs ds ρ' Q e r q k=>by
 cases r with
 | nil=>cases q;exact⟨rfl,k _ e⟩
 | cons _ _=>cases q
theorem jgq{g:TG}{gs:TGs}{m:D->ee->Option ee}{ms:List D->ee->Option ee}(h:GOk g m)(hs:jfy gs ms):jfy (jiR g gs) (zd m ms):=fun G0 H0 G H σ ρ vs ds ρ' Q e r q k=>by
 cases r with
 | nil=>cases q
 | cons r t=>obtain⟨ρ1,q1,q2⟩:=bind_some q;exact⟨_,_,rfl,h _ _ _ _ _ _ _ _ _ _ e r q1 fun σ' e'=>hs _ _ _ _ _ _ _ _ _ _ e' t q2 k⟩
theorem jif{n:Nat}{gs:TGs}{ms:List D->ee->Option ee}(hs:jfy gs ms):GOk (jhO Fr.K n gs) (ZO n ms):=fun G0 H0 G H σ ρ v d ρ' Q e r q k=>by
 cases r with
 | tup h r=>
   simp only[ZO]at q;split at q
   . rename_i hl;exact⟨_,_,rfl,.inl (.inl (e.same _ _ h)),by rw[r.length];exact hl,hs _ _ _ _ _ _ _ _ _ _ e r q k⟩
   . cases q
 | _=>cases q
def jfP(m:D->ee->Option ee)(fe:ee->Option D):FS:=fun ρ=>match (fe ρ).bind fun d=>m d ρ with
 | some ρ'=>.next ρ'
 | none=>.fail
theorem jkN{g:TG}{m:D->ee->Option ee}{te:TE}{fe:ee->Option D}(hg:GOk g m)(h:EOk te fe):QK (ZQ te g) (jfP m fe):=fun G0 H0 G H σ ρ E e q=>by
 unfold jfP at q;split at q
 . rename_i ρ' z;obtain⟨d,z1,z2⟩:=bind_some z;exact h _ _ _ _ _ _ _ _ e z1 fun v G' H' x r=>hg _ _ _ _ _ _ _ _ _ _ (e.grow x) r z2 fun σ' e'=>q G' H' σ' x.gg e'
 . exact q.elim
def Iter(G1 H1:Hp)(J:It)(ds:List D):Prop:=∀(i:Nat) G H,Same G1 G->Same H1 H->Same G H->
 (∀d,ds[i]?=some d->J.go i H/\∀x H',J.yld i H x H'->∃G',Ext G H G' H'/\Rep G' x d)/\(ds[i]?=none->J.stop i H)
def jgC(wi:TI)(f:ee->Option (List D)):Prop:=∀G0 H0 G H σ ρ (R:It->Hp->Prop) ds,EnvOk G0 H0 G H σ ρ->f ρ=some ds->(∀J G' H',Ext G H G' H'->Iter G' H' J ds->R J H')->wi σ H R
def IOk(wi:TI)(f:ee->Option (List D)):Prop:=∀G0 H0 G H σ ρ (R:It->Hp->Prop) ds,EnvOk G0 H0 G H σ ρ->f ρ=some ds->(∀J G' H',Ext G H G' H'->Iter G' G' J ds->R J H')->wi σ H R
theorem Iter.weak{G H:Hp}{J:It}{ds:List D}(h:Iter G G J ds):Iter G H J ds:=fun i G' H' a b c=>h i G' H' a (a.trans c) c
theorem IOk.t{wi:TI}{f:ee->Option (List D)}(h:IOk wi f):jgC wi f:=fun G0 H0 G H σ ρ R ds e q k=>h _ _ _ _ _ _ _ _ e q fun J G' H' x j=>k J G' H' x j.weak
section
variable{te:TE}{fe:ee->Option D}{ta:TA}{fa:ee->Option (List D)}
def zq(fe:ee->Option D):ee->Option (List D):=fun ρ=>match fe ρ with
 | some (.lst l)=>some l
 | _=>none
end
end
section
variable[Fr]
section
variable{te:TE}{fe:ee->Option D}{ta:TA}{fa:ee->Option (List D)}
theorem Reps.none_of{G:Hp}{vs:List V}{ds:List D}{i:Nat}(r:Reps G vs ds)(h:ds[i]?=none):vs.length<=i:=by rw[r.length];exact YZ.mp h
theorem jbT{G1 H1:Hp}{a:Addr}{vs:List V}{ds:List D}(h:Rd H1 a (.lst vs))(r:Reps G1 vs ds):Iter G1 H1 (Itl Fr.K a) ds:=fun i G H s1 s2 s3=>by have hq:zQ Fr.K H a vs:=.inl (h.same s2);refine⟨fun d hd=>?_,fun hd=>⟨vs,hq,r.none_of hd⟩⟩;obtain⟨v,h1,h2⟩:=r.get hd;refine⟨⟨vs,v,hq,h1⟩,fun x H' y=>?_⟩;obtain⟨e,y⟩:=y;subst e;have z:=y vs hq;rw[h1]at z;cases z;exact⟨G,.refl s3,h2.mono s1⟩
def rng(lo:Int)(n:Nat):List D:=(List.range n).map fun(i:Nat)=>D.int (lo+(i:Int))
theorem jgk{G1 H1:Hp}{lo:Int}{n:Nat}:Iter G1 H1 (Itr lo n) (rng lo n):=fun i G H s1 s2 s3=>by
 refine⟨fun d hd=>?_,fun hd=>?_⟩
 . unfold rng at hd;rw[Yr]at hd;cases e:(List.range n)[i]? with
   | none=>rw[e]at hd;cases hd
   | some j=>rw[e]at hd;cases hd;obtain⟨hi,hj⟩:=Yg.mp e;simp at hi hj;subst hj;refine⟨hi,fun x H' y=>?_⟩;obtain⟨e1,e2⟩:=y;subst e1 e2;exact⟨G,.refl s3,.int _⟩
 . have:=YZ.mp hd;simp[rng]at this;exact this
theorem Ext.newT{G H:Hp}{t:Addr}{o:HO}(s:Same G H)(hn:H t=none):Ext G H (upd G t o) (upd H t o):=(Ext.new s hn).freeze hn (s.free hn) jw
def jaE(l m:List D):List D:=(l.zip m).map fun p=>.tup [p.1,p.2]
theorem jgJ{G1 H1:Hp}{a b:Addr}{vs us:List V}{ds es:List D}(h:Rd H1 a (.lst vs))(h':Rd H1 b (.lst us))(r:Reps G1 vs ds)(r':Reps G1 us es):Iter G1 H1 (Itz Fr.K a b) (jaE ds es):=fun i G H s1 s2 s3=>by
 have hq:zQ Fr.K H a vs:=.inl (h.same s2);have hq':zQ Fr.K H b us:=.inl (h'.same s2);refine⟨fun d hd=>?_,fun hd=>⟨vs,us,hq,hq',?_⟩⟩
 . unfold jaE at hd;rw[Yr]at hd;cases e:(ds.zip es)[i]? with
   | none=>rw[e]at hd;cases hd
   | some p=>rw[e]at hd;cases hd;obtain⟨g1,g2⟩:=YU.mp e;obtain⟨v,h1,h2⟩:=r.get g1;obtain⟨u,h3,h4⟩:=r'.get g2;refine⟨⟨vs,us,v,u,hq,hq',h1,h3⟩,fun x H' y=>?_⟩;obtain⟨t,x',y',hn,e1,e2,y1,y2⟩:=y;subst e1 e2;have z1:=y1 vs hq;have z2:=y2 us hq';rw[h1]at z1;rw[h3]at z2;cases z1;cases z2;have x:=Ext.newT (o:=.tup [v,u]) s3 hn;exact⟨_,x,.tup jw (.cons (h2.mono (s1.trans x.gg)) (.cons (h4.mono (s1.trans x.gg)) .nil))⟩
 . have:=YZ.mp hd;simp[jaE]at this;rw[r.length,r'.length];omega
theorem jax{ρ:ee}{ds:List D}(h:zq fe ρ=some ds):fe ρ=some (.lst ds):=by unfold zq at h;split at h <;> first | (cases h;assumption) | cases h
theorem jjd(h:EOk te fe):IOk (jc9 Fr.K te) (zq fe):=fun G0 H0 G H σ ρ R ds e q k=>by refine h _ _ _ _ _ _ _ _ e (jax q) fun v G' H' x r=>?_;obtain⟨_,_,rfl,h,r⟩:=r.of_lst;exact⟨_,rfl,⟨_,.inl (h.same x.gh)⟩,k _ G' H' x (jbT h r)⟩
theorem jhe(h:Jk te fe):jgC (jc9 Fr.K te) (zq fe):=fun G0 H0 G H σ ρ R ds e q k=>by refine h _ _ _ _ _ _ _ _ e (jax q) fun v G' H' x r=>?_;obtain⟨_,_,rfl,h,r⟩:=r.of_lst;exact⟨_,rfl,⟨_,.inl h⟩,k _ G' H' x (jbT h r)⟩
def Qc(fa:ee->Option (List D)):ee->Option (List D):=fun ρ=>match fa ρ with
 | some [.int j]=>if -(2 ^ 62)<=j/\j<2 ^ 62 then some (rng 0 j.toNat)else none
 | _=>none
theorem jjS(h:jaN ta fa):IOk (jih ta) (Qc fa):=fun G0 H0 G H σ ρ R ds e q k=>by
 unfold Qc at q;split at q
 . rename_i j z;split at q
   . rename_i hb;cases q;refine h _ _ _ _ _ _ _ _ e z fun vs G' H' x r=>?_;cases r with
     | cons r t=>(have hh:=RepT.of_int r;subst hh);cases t;exact⟨j,rfl,hb.1,hb.2,k _ G' H' x jgk⟩
   . cases q
 . cases q
def Zc(fa:ee->Option (List D)):ee->Option (List D):=fun ρ=>match fa ρ with
 | some [.lst l,.lst m]=>some (jaE l m)
 | _=>none
theorem ji8(h:jaN ta fa):jgC (jjJ Fr.K ta) (Zc fa):=fun G0 H0 G H σ ρ R ds e q k=>by
 unfold Zc at q;split at q
 . rename_i l m z;cases q;refine h _ _ _ _ _ _ _ _ e z fun vs G' H' x r=>?_;cases r with
   | cons r t=>cases t with | cons r' t=>cases t;cases r with | lst h1 r1=>cases r' with | lst h2 r2=>exact⟨_,_,_,_,rfl,.inl h1,.inl h2,k _ G' H' x (jgJ h1 h2 r1 r2)⟩
 . cases q
end
def Jv(m:D->ee->Option ee)(B:FS):List D->FS
 | [],ρ=>.next ρ
 | d::ds,ρ=>match m d ρ with
   | none=>.fail
   | some ρ1=>match B ρ1 with
     | .next ρ2=>Jv m B ds ρ2
     | .cnt ρ2=>Jv m B ds ρ2
     | .brk ρ2=>.next ρ2
     | .ret d=>.ret d
     | .retO l=>.retO l
     | .retT d dss es=>.retT d dss es
     | .retOO dss=>.retOO dss
     | .fail=>.fail
def JI(fi:ee->Option (List D))(m:D->ee->Option ee)(B:FS):FS:=fun ρ=>match fi ρ with
 | some ds=>Jv m B ds ρ
 | none=>.fail
theorem jkV{wi:TI}{fi:ee->Option (List D)}{g:TG}{m:D->ee->Option ee}{tb:TS}{B:FS}(hi:IOk wi fi)(hg:GOk g m)(hb:QK tb B):QK (jkO wi g tb) (JI fi m B):=fun G0 H0 G H σ ρ E e q=>by
 unfold JI at q;split at q
 . rename_i ds z;refine hi _ _ _ _ _ _ _ _ e z fun J G1 H1 x1 it=>?_;refine⟨fun i n σ' H'=>n=ds.length-i/\i<=ds.length/\∃G' ρ',Same G1 G'/\EnvOk G0 H0 G' H' σ' ρ'/\ResOk G0 H0 G' (Jv m B (ds.drop i) ρ') E,⟨_,rfl,yY _,G1,ρ,.refl _,e.grow x1,q.mono x1.gg⟩,?_⟩;rintro i n σ' H' ⟨rfl,hl,G',ρ',s1,e1,q1⟩;obtain⟨go,stop⟩:=it i G' H' s1 (s1.trans e1.same) e1.same;by_cases hlt:i<ds.length
   . have hd:ds[i]?=some ds[i]:=Ya hlt;obtain⟨g1,g2⟩:=go _ hd;rw[List.drop_eq_getElem_cons hlt]at q1;simp only[Jv]at q1;split at q1
     . exact q1.elim
     . rename_i ρ1 hm;refine .inr ⟨g1,fun σ2 H2=>∃G2 ρ2,Same G1 G2/\EnvOk G0 H0 G2 H2 σ2 ρ2/\ResOk G0 H0 G2 (Jv m B (ds.drop (i+1)) ρ2) E,fun σ2 H2 ⟨G2,ρ2,a1,a2,a3⟩=>⟨_,by omega,rfl,hlt,G2,ρ2,a1,a2,a3⟩,fun x H2 y=>?_⟩;obtain⟨G2,x2,r2⟩:=g2 x H2 y;refine hg _ _ _ _ _ _ _ _ _ _ (e1.grow x2) r2 hm fun σ2 e2=>hb _ _ _ _ _ _ _ e2 ?_;have q2:=q1.mono x2.gg;have s2:=s1.trans x2.gg;cases hB:B ρ1 with
       | next ρ2=>rw[hB]at q2;exact fun G3 H3 σ3 s3 e3=>⟨G3,ρ2,s2.trans s3,e3,q2.mono s3⟩
       | cnt ρ2=>rw[hB]at q2;exact fun G3 H3 σ3 s3 e3=>⟨G3,ρ2,s2.trans s3,e3,q2.mono s3⟩
       | brk ρ2=>rw[hB]at q2;exact q2
       | ret d=>rw[hB]at q2;exact q2
       | retO d=>rw[hB]at q2;exact q2
       | retT d dss es=>rw[hB]at q2;exact q2
       | retOO dss=>rw[hB]at q2;exact q2
       | fail=>rw[hB]at q2;exact q2
   . have hd:ds[i]?=none:=YZ.mpr (by omega);rw[List.drop_eq_nil_of_le (by omega)]at q1;exact .inl ⟨stop hd,q1 G' H' σ' (.refl _) e1⟩
 . exact q.elim
def wh(c:ee->Option Bool)(B:FS):Nat->ee->Option Res
 | 0,_=>none
 | n+1,ρ=>match c ρ with
   | none=>some .fail
   | some false=>some (.next ρ)
   | some true=>match B ρ with
     | .next ρ2=>wh c B n ρ2
     | .cnt ρ2=>wh c B n ρ2
     | .brk ρ2=>some (.next ρ2)
     | .ret d=>some (.ret d)
     | .retO l=>some (.retO l)
     | .retT d dss es=>some (.retT d dss es)
     | .retOO dss=>some (.retOO dss)
     | .fail=>some .fail
def JE(n:Nat)(ix:List Nat)(ρ:ee):ee:=List.replicate n .un++ix.map fun k=>match ρ[k]? with
 | some (.sh d)=>.sh d
 | _=>.un
theorem jjT{G0 H0 G H:Hp}{σ:St}{ρ:ee}(n:Nat)(ix:List Nat)(e:EnvOk G0 H0 G H σ ρ):EnvOk G0 H0 G H (zV n σ ix) (JE n ix ρ):=by
 have key:∀(i:Nat) s,(JE n ix ρ)[i]?=some s->s=.un\/∃d k,s=.sh d/\n<=i/\ix[i-n]?=some k/\ρ[k]?=some (.sh d):=fun i s h=>by
  unfold JE at h;rcases YT i n with hi | hi
  . rw[YI (by simpa using hi),Y5]at h;simp[hi]at h;exact .inl h.symm
  . rw[YC (by simpa using hi),yL,Yr]at h;cases e1:ix[i-n]? with
    | none=>rw[e1]at h;cases h
    | some k=>
      rw[e1]at h;simp only[Yp,Option.some.injEq]at h;split at h
      . rename_i d hd;exact .inr ⟨d,k,h.symm,hi,rfl,hd⟩
      . exact .inl h.symm
 refine⟨e.ext,by simp[zV,JE,capt],fun i o s h1 h2=>?_,fun i j o o' s s' b h1 h2 h3 h4 f f'=>?_⟩
 . rcases key i s h2 with rfl | ⟨d,k,rfl,hi,hk,hd⟩
   . exact .un _
   . obtain⟨v,hv,r⟩:=e.sh hd;unfold zV at h1;rw[YC (by simpa using hi),yL]at h1;unfold capt at h1;rw[Yr,hk]at h1;simp only[Yp,Option.some.injEq]at h1;rw[hv]at h1;subst h1;exact .sh r
 . rcases key i _ h2 with z | ⟨d,k,z,_⟩
   . subst z;cases o with | none=>exact f.elim | some v=>cases v <;> exact f.elim
   . subst z;cases o with | none=>exact f.elim | some v=>cases v <;> exact f.elim
def Zl(m:D->ee->Option ee)(ft:ee->Option Bool)(fe:ee->Option D)(ρ:ee):List D->Option (List D)
 | []=>some []
 | d::ds=>(m d ρ).bind fun ρ1=>(ft ρ1).bind fun b=>if b then(fe ρ1).bind fun y=>(Zl m ft fe ρ ds).map (y::·)else Zl m ft fe ρ ds
def eLC(fi:ee->Option (List D))(m:D->ee->Option ee)(ft:ee->Option Bool)(fe:ee->Option D)(n:Nat)(ix:List Nat):ee->Option (List D):=fun ρ=>(fi ρ).bind fun ds=>if zp ds.length then Zl m ft fe (JE n ix ρ) ds else none
theorem jls{wi:TI}{fi:ee->Option (List D)}{g:TG}{m:D->ee->Option ee}{tt:TT}{ft:ee->Option Bool}{te:TE}{fe:ee->Option D}(n:Nat)(ix:List Nat)(hi:jgC wi fi)(hg:GOk g m)(ht:TOk tt ft)(he:EOk te fe):
 EOkO (tLC wi g tt te n ix) (eLC fi m ft fe n ix):=fun G0 H0 G H σ ρ Q es e q k=>by
 obtain⟨ds,q1,q2⟩:=bind_some q;split at q2
 . rename_i hz;refine hi _ _ _ _ _ _ _ _ e q1 fun J G1 H1 x1 it=>?_;refine⟨fun i n' ys H'=>n'=ds.length-i/\i<=ds.length/\ys.length<=i/\∃G' gs hs,Ext G1 H1 G' H'/\Reps G' ys gs/\Zl m ft fe (JE n ix ρ) (ds.drop i)=some hs/\gs++hs=es,⟨_,rfl,yY _,Yw _,G1,[],es,.refl x1.gh,.nil,q2,rfl⟩,?_⟩;rintro i n' ys H' ⟨rfl,hl,hy,G',gs,hs,x2,r2,hlc,hes⟩;have hz':=JZ hz;obtain⟨go,stop⟩:=it i G' H' x2.gg x2.hh x2.gh;by_cases hlt:i<ds.length
   . have hd:ds[i]?=some ds[i]:=Ya hlt;obtain⟨g1,g2⟩:=go _ hd;rw[List.drop_eq_getElem_cons hlt]at hlc;simp only[Zl]at hlc;obtain⟨ρ1,hm,hlc⟩:=bind_some hlc;obtain⟨b,hb,hlc⟩:=bind_some hlc;refine .inr ⟨g1,by omega,fun ys' H'=>ys'.length<=i+1/\∃G' gs hs,Ext G1 H1 G' H'/\Reps G' ys' gs/\Zl m ft fe (JE n ix ρ) (ds.drop (i+1))=some hs/\gs++hs=es,fun ys' H' ⟨a0,a⟩=>⟨_,by omega,rfl,hlt,a0,a⟩,fun x H2 y=>?_⟩;obtain⟨G2,x3,r3⟩:=g2 x H2 y;have e3:EnvOk G0 H0 G2 H2 (zV n σ ix) (JE n ix ρ):=(jjT n ix e).grow ((x1.trans x2).trans x3);refine hg _ _ _ _ _ _ _ _ _ _ e3 r3 hm fun σ2 e4=>ht _ _ _ _ _ _ _ _ e4 hb fun G4 H4 x4=>?_;have x24:=(x2.trans x3).trans x4;cases b with
     | false=>rw[YJ Ym]at hlc ⊢;exact⟨by omega,G4,gs,hs,x24,r2.mono (x3.trans x4).gg,hlc,hes⟩
     | true=>rw[Ys rfl]at hlc ⊢;obtain⟨y',hy',hlc⟩:=bind_some hlc;obtain⟨hs',hh,hlc⟩:=map_some hlc;subst hlc;refine he _ _ _ _ _ _ _ _ (e4.grow x4) hy' fun v G5 H5 x5 r5=>⟨by simp;omega,G5,gs++[y'],hs',x24.trans x5,((r2.mono ((x3.trans x4).trans x5).gg).snoc r5),hh,by simpa using hes⟩
   . have hd:ds[i]?=none:=YZ.mpr (by omega);rw[List.drop_eq_nil_of_le (by omega)]at hlc;cases hlc;rw[yO]at hes;subst hes;refine .inl ⟨stop hd,by omega,fun p hp=>?_⟩;exact k p ys G' _ ((x1.trans x2).trans (.new x2.gh hp)) ((x1.trans x2).hh.free hp) (x2.gh.free hp) jw r2
 . cases q2
def qh(n:Nat)(ds:List D):ee:=ds.map .sh++List.replicate (n-ds.length) .un
def jcB:Res->Option D
 | .ret d=>some d
 | .retO es=>some (.lst es)
 | .next _=>some .non
 | _=>none
def jdl:Res->Option (List D)
 | .retO es=>some es
 | _=>none
def Ja(k n:Nat)(F:FS)(ds:List D):Option D:=if ds.length=k then jcB (F (qh n ds))else none
def jae(k n:Nat)(F:FS)(ds:List D):Option (List D):=if ds.length=k then jdl (F (qh n ds))else none
theorem jb3{G H:Hp}{vs:List V}{ds:List D}{k n:Nat}(s:Same G H)(r:Reps G vs ds)(hk:k=n-vs.length):EnvOk G H G H (vs.map some++List.replicate k none) (qh n ds):=by
 have hl:=r.length;refine⟨.refl s,by simp[qh,hl,hk],fun i o s' h1 h2=>?_,fun i j o o' s s' b h1 h3 _ _ f _=>?_⟩
 . unfold qh at h2;rcases YT i ds.length with hi | hi
   . rw[YI (by simpa using hi),Yr]at h2;rw[YI (by simpa[hl]using hi),Yr]at h1;have hd:ds[i]?=some ds[i]:=Ya hi;obtain⟨v,g1,g2⟩:=r.get hd;rw[g1]at h1;rw[hd]at h2;cases h1;cases h2;exact .sh g2
   . rw[YC (by simpa using hi),Y5]at h2;split at h2
     . cases h2;exact .un _
     . cases h2
 . exfalso;unfold qh at h3;rcases YT i ds.length with hi | hi
   . rw[YI (by simpa using hi),Yr]at h3;have hd:ds[i]?=some ds[i]:=Ya hi;rw[hd]at h3;cases h3;cases o with | none=>exact f.elim | some v=>cases v <;> exact f.elim
   . rw[YC (by simpa using hi),Y5]at h3;split at h3
     . cases h3;cases o with | none=>exact f.elim | some v=>cases v <;> exact f.elim
     . cases h3
theorem jlh{k n:Nat}{F:FS}{vs:List V}{H:Hp}{Q:VK}{E:XK}(q:spS (Ja k n F) vs H Q E):vs.length=k:=by
 obtain⟨G,ds,d,s,r,hf,fin⟩:=q;unfold Ja at hf;split at hf
 . rename_i h;rw[r.length];exact h
 . cases hf
theorem jk1{k n:Nat}{F:FS}{vs:List V}{H:Hp}{Q:VK}{E:XK}(q:spO (jae k n F) vs H Q E):vs.length=k:=by
 obtain⟨G,ds,d,s,r,hf,fin⟩:=q;unfold jae at hf;split at hf
 . rename_i h;rw[r.length];exact h
 . cases hf
theorem jjC{t:TS}{F:FS}{a n k:Nat}{vs:List V}{H:Hp}{Q:VK}{E:XK}(h:QK t F)(hk:k=n-vs.length)(q:spS (Ja a n F) vs H Q E):t { nx:=fun _ H'=>Q .non H',rt:=Q } (vs.map some++List.replicate k none) H:=by
 obtain⟨G,ds,d,s,r,hf,fin⟩:=q;refine h G H G H _ _ _ (jb3 s r hk) ?_;unfold Ja at hf;split at hf
 . cases z:F (qh n ds)with
   | next ρ=>rw[z]at hf;cases hf;exact fun G' H' σ _ e=>fin _ G' H' e.ext .non
   | ret d=>rw[z]at hf;cases hf;exact fun G' H' v x r=>fin v G' H' x r
   | retO es=>rw[z]at hf;cases hf;exact fun G' H' a us x hn hg hh r=>fin _ _ H' (x.freeze hn hg hh) (.lst (.inl jw) (r.mono (.upd hg)))
   | retT _ _ _=>rw[z]at hf;cases hf
   | retOO _=>rw[z]at hf;cases hf
   | brk _=>rw[z]at hf;cases hf
   | cnt _=>rw[z]at hf;cases hf
   | fail=>rw[z]at hf;cases hf
 . cases hf
theorem jiX{t:TS}{F:FS}{a n k:Nat}{vs:List V}{H:Hp}{Q:VK}{E:XK}(h:QK t F)(hk:k=n-vs.length)(q:spO (jae a n F) vs H Q E):t { nx:=fun _ H'=>Q .non H',rt:=Q } (vs.map some++List.replicate k none) H:=by
 obtain⟨G,ds,d,s,r,hf,fin⟩:=q;refine h G H G H _ _ _ (jb3 s r hk) ?_;unfold jae at hf;split at hf
 . cases z:F (qh n ds)with
   | retO es=>rw[z]at hf;cases hf;exact fun G' H' a us x hn hg hh r=>fin a us G' H' x hn hg hh r
   | _=>rw[z]at hf;cases hf
 . cases hf
end
def Q7:List D->Option (List Int)
 | []=>some []
 | .int i::l=>(Q7 l).map (i::·)
 | _=>none
theorem Qg:∀ns:List Int,Q7 (ns.map D.int)=some ns
 | []=>rfl
 | n::ns=>by simp[Q7,Qg ns]
theorem JM:∀{l:List D} {ns:List Int},Q7 l=some ns->l=ns.map D.int
 | [],_,h=>by cases h;rfl
 | .int i::l,ns,h=>by obtain⟨ms,h1,h2⟩:=map_some h;subst h2;rw[JM h1];rfl
 | .bl _::_,_,h=>by cases h
 | .non::_,_,h=>by cases h
 | .str _::_,_,h=>by cases h
 | .lst _::_,_,h=>by cases h
 | .tup _::_,_,h=>by cases h
 | .scr _::_,_,h=>by cases h
def je3:List D->Option (List Bool)
 | []=>some []
 | .bl i::l=>(je3 l).map (i::·)
 | _=>none
theorem jc7:∀ns:List Bool,je3 (ns.map D.bl)=some ns
 | []=>rfl
 | n::ns=>by simp[je3,jc7 ns]
theorem jbL:∀{l:List D} {ns:List Bool},je3 l=some ns->l=ns.map D.bl
 | [],_,h=>by cases h;rfl
 | .bl i::l,ns,h=>by obtain⟨ms,h1,h2⟩:=map_some h;subst h2;rw[jbL h1];rfl
 | .int _::_,_,h=>by cases h
 | .non::_,_,h=>by cases h
 | .str _::_,_,h=>by cases h
 | .lst _::_,_,h=>by cases h
 | .tup _::_,_,h=>by cases h
 | .scr _::_,_,h=>by cases h
section
variable[Fr]
theorem RepTs.one{G H:Hp}{xs:List V}{d:D}(h:RepTs G H xs [d]):∃v,xs=[v]/\RepT G H v d:=by cases h with | cons r t=>cases t;exact⟨_,rfl,r⟩
theorem RepTs.two{G H:Hp}{xs:List V}{d e:D}(h:RepTs G H xs [d,e]):∃v u,xs=[v,u]/\RepT G H v d/\RepT G H u e:=by cases h with | cons r t=>cases t with | cons r' t=>cases t;exact⟨_,_,rfl,r,r'⟩
theorem RepTs.three{G H:Hp}{xs:List V}{d e f:D}(h:RepTs G H xs [d,e,f]):∃v u w,xs=[v,u,w]/\RepT G H v d/\RepT G H u e/\RepT G H w f:=by cases h with | cons r t=>cases t with | cons r' t=>cases t with | cons r2 t=>cases t;exact⟨_,_,_,rfl,r,r',r2⟩
section
variable{As:TA}{fs:ee->Option (List D)}{ta:TE}{fa:ee->Option D}
def jN:List D->Option D
 | [.lst l]=>some (.int l.length)
 | [.tup l]=>some (.int l.length)
 | [.scr l]=>some (.int l.length)
 | [.str z]=>if z.length<=sizeLine then some (.int z.length)else none
 | _=>none
theorem jge{ds:List D}{d:D}(q:jN ds=some d):(∃l,ds=[.lst l]/\D.int l.length=d)\/(∃l,ds=[.tup l]/\D.int l.length=d)\/(∃l,ds=[.scr l]/\D.int l.length=d)\/∃z,ds=[.str z]/\z.length<=sizeLine/\D.int z.length=d:=by
 cases ds with
 | nil=>exact qg q
 | cons x t=>
   cases t with
   | cons y t=>cases x <;> exact qg q
   | nil=>
     cases x with
     | lst l=>exact .inl ⟨l,rfl,Option.some.inj q⟩
     | tup l=>exact .inr (.inl ⟨l,rfl,Option.some.inj q⟩)
     | scr l=>exact .inr (.inr (.inl ⟨l,rfl,Option.some.inj q⟩))
     | str z=>
       by_cases c:z.length<=sizeLine
       . exact .inr (.inr (.inr ⟨z,rfl,c,Option.some.inj ((Ys c).symm.trans q)⟩))
       . exact qg ((YJ c).symm.trans q)
     | _=>exact qg q
theorem jkG:jb8 (fun xs H Q=>(∃p ys,xs=[.ref p]/\(zQ Fr.K H p ys\/SqT Fr.K H p ys)/\Q (.int ys.length) H)\/∃z,xs=[.str z]/\z.length<=sizeLine/\Q (.int z.length) H) jN:=fun G H xs ds d Q s rr q k=>by
 rcases jge q with⟨l,rfl,rfl⟩ | ⟨l,rfl,rfl⟩ | ⟨l,rfl,rfl⟩ | ⟨z,rfl,hz,rfl⟩
 . obtain⟨v,rfl,r⟩:=rr.one;cases r with | lst h r=>exact .inl ⟨_,_,rfl,.inl (.inl h),by rw[r.length];exact k _ G H (.refl s) (.int _)⟩
 . obtain⟨v,rfl,r⟩:=rr.one;cases r with | tup h r=>exact .inl ⟨_,_,rfl,.inr (.inl (.inl h)),by rw[r.length];exact k _ G H (.refl s) (.int _)⟩
 . obtain⟨v,rfl,r⟩:=rr.one;cases r with | scr h=>exact .inl ⟨_,_,rfl,.inl h,by rw[QC];exact k _ G H (.refl s) (.int _)⟩
 . obtain⟨v,rfl,r⟩:=rr.one
   (have hh:=RepT.of_str r;subst hh)
   exact .inr ⟨_,rfl,hz,k _ G H (.refl s) (.int _)⟩
def Q3:List D->Option (List D)
 | [.lst l]=>some l
 | [.tup l]=>some l
 | _=>none
theorem jkf:jeG (fun xs H Q=>∃p ys,xs=[.ref p]/\(zQ Fr.K H p ys\/SqT Fr.K H p ys)/\∀l,H l=none->Q (.ref l) (upd H l (.lst ys))) Q3:=fun G H xs ds d Q s rr q k=>by
 unfold Q3 at q;split at q
 . cases q;obtain⟨v,rfl,r⟩:=rr.one;cases r with | lst h r=>exact⟨_,_,rfl,.inl (.inl h),fun l hl=>k l _ G _ (.new s hl) hl (s.free hl) jw r⟩
 . cases q;obtain⟨v,rfl,r⟩:=rr.one;cases r with | tup h r=>exact⟨_,_,rfl,.inr (.inl (.inl h)),fun l hl=>k l _ G _ (.new s hl) hl (s.free hl) jw r⟩
 . cases q
def QH:List D->Option D
 | [.lst l]=>some (.tup l)
 | _=>none
theorem ji5:jb8 (fun xs H Q=>∃p ys,xs=[.ref p]/\((zQ Fr.K H p ys/\∀l,H l=none->Q (.ref l) (upd H l (.tup ys)))\/(SqT Fr.K H p ys/\Q (.ref p) H))) QH:=fun G H xs ds d Q s rr q k=>by
 unfold QH at q;split at q
 . cases q;obtain⟨v,rfl,r⟩:=rr.one;cases r with
   | @lst a vs ds h r=>refine⟨_,_,rfl,.inl ⟨.inl h,fun l hl=>?_⟩⟩;have x:=Ext.newT (o:=.tup vs) s hl;exact k _ _ _ x (.tup jw (r.mono x.gg))
 . cases q
def jd6:List D->Option D
 | [.lst l]=>(Q7 l).map fun ns=>.int ns.sum
 | _=>none
theorem jlL:jb8 (fun xs H Q=>∃(p:Addr) (ns:List Int),xs=[.ref p]/\zQ Fr.K H p (ns.map V.int)/\Q (.int ns.sum) H) jd6:=fun G H xs ds d Q s rr q k=>by
 unfold jd6 at q;split at q
 . obtain⟨ns,q1,q2⟩:=map_some q;subst q2;obtain⟨v,rfl,r⟩:=rr.one;obtain⟨_,_,rfl,h,r⟩:=r.of_lst;rw[JM q1]at r;rw[r.ints]at h;exact⟨_,ns,rfl,.inl h,k _ G H (.refl s) (.int _)⟩
 . cases q
def jc2:List D->Option D
 | [.lst l]=>(je3 l).map fun ns=>.bl (ns.all id)
 | _=>none
theorem jlx:jb8 (fun xs H Q=>∃(p:Addr) (ns:List Bool),xs=[.ref p]/\zQ Fr.K H p (ns.map V.bl)/\Q (.bl (ns.all id)) H) jc2:=fun G H xs ds d Q s rr q k=>by
 unfold jc2 at q;split at q
 . obtain⟨ns,q1,q2⟩:=map_some q;subst q2;obtain⟨v,rfl,r⟩:=rr.one;obtain⟨_,_,rfl,h,r⟩:=r.of_lst;rw[jbL q1]at r;rw[r.bls]at h;exact⟨_,ns,rfl,.inl h,k _ G H (.refl s) (.bl _)⟩
 . cases q
def Qw:List D->Option D
 | [.int i,.int j]=>some (.int (if j<i then j else i))
 | _=>none
def jiG:List D->Option D
 | [.int i,.int j]=>some (.int (if j>i then j else i))
 | _=>none
theorem jjq:jb8 (fun xs H Q=>∃i j,xs=[.int i,.int j]/\Q (.int (if j<i then j else i)) H) Qw:=fun G H xs ds d Q s rr q k=>by
 unfold Qw at q;split at q
 . cases q;obtain⟨v,u,rfl,r,r'⟩:=rr.two
   (have hh:=RepT.of_int r;subst hh)
   (have hh:=RepT.of_int r';subst hh)
   exact⟨_,_,rfl,k _ G H (.refl s) (.int _)⟩
 . cases q
def jaH(i j k:Int):Int:=if k<(if j<i then j else i)then k else if j<i then j else i
def ZS:List D->Option D
 | [.int i,.int j,.int k]=>some (.int (jaH i j k))
 | _=>none
theorem jj5:jb8 (fun xs H Q=>∃i j k,xs=[.int i,.int j,.int k]/\Q (.int (jaH i j k)) H) ZS:=fun G H xs ds d Q s rr q k=>by
 unfold ZS at q;split at q
 . cases q;obtain⟨v,u,w,rfl,r,r',r2⟩:=rr.three
   (have hh:=RepT.of_int r;subst hh)
   (have hh:=RepT.of_int r';subst hh)
   (have hh:=RepT.of_int r2;subst hh)
   exact⟨_,_,_,rfl,k _ G H (.refl s) (.int _)⟩
 . cases q
def jjt:List D->Option D
 | [.int i]=>some (.int i)
 | [.bl b]=>some (.int (if b then 1 else 0))
 | _=>none
theorem jkK:jb8 (fun xs H Q=>(∃i,xs=[.int i]/\Q (.int i) H)\/∃k,xs=[.bl k]/\Q (.int (if k then 1 else 0)) H) jjt:=fun G H xs ds d Q s rr q k=>by
 unfold jjt at q;split at q
 . cases q;obtain⟨v,rfl,r⟩:=rr.one
   (have hh:=RepT.of_int r;subst hh)
   exact .inl ⟨_,rfl,k _ G H (.refl s) (.int _)⟩
 . cases q;obtain⟨v,rfl,r⟩:=rr.one
   (have hh:=RepT.of_bl r;subst hh)
   exact .inr ⟨_,rfl,k _ G H (.refl s) (.int _)⟩
 . cases q
def dIs:D->D->Option D
 | .bl a,.bl b=>some (.bl (decide (a=b)))
 | _,_=>none
def jii:D->D->Option D
 | .bl a,.bl b=>some (.bl (!decide (a=b)))
 | _,_=>none
def vOf:D->V
 | .int i=>.int i
 | .bl b=>.bl b
 | .str z=>.str z
 | _=>.non
theorem RepT.v{G H:Hp}{v:V}{d:D}(r:RepT G H v d)(f:qB d=true):v=vOf d:=by cases r <;> first | rfl | cases f
theorem Rep.v{G:Hp}{v:V}{d:D}(r:Rep G v d)(f:qB d=true):v=vOf d:=by cases r <;> first | rfl | cases f
theorem Zv{d:D}(f:qB d=true):jem (vOf d)=true:=by cases d <;> first | rfl | cases f
def jcC(xs:List D)(lo hi:Option Int):List D:=(xs.drop (HT.sIx xs.length 0 lo)).take (HT.sIx xs.length xs.length hi-HT.sIx xs.length 0 lo)
def POk(t:TO)(f:ee->Option (Option Int)):Prop:=∀G0 H0 G H σ ρ (Q:Option Int->Hp->Prop) b,EnvOk G0 H0 G H σ ρ->f ρ=some b->(∀G' H',Ext G H G' H'->Q b H')->t σ H Q
def pNo:ee->Option (Option Int):=fun _=>some none
def pSo(fa:ee->Option D):ee->Option (Option Int):=fun ρ=>match fa ρ with
 | some (.int i)=>some (some i)
 | _=>none
theorem jmt:POk jeF pNo:=fun G0 H0 G H σ ρ Q b e q k=>by cases q;exact k G H (.refl e.same)
theorem jmm(h:Jk ta fa):POk (jiJ ta) (pSo fa):=fun G0 H0 G H σ ρ Q b e q k=>by
 unfold pSo at q;split at q
 . rename_i i z;cases q;refine h _ _ _ _ _ _ _ _ e z fun v G' H' x r=>?_
   (have hh:=RepT.of_int r;subst hh)
   exact⟨_,rfl,k G' H' x⟩
 . cases q
def eSl(fa:ee->Option D)(fl fh:ee->Option (Option Int)):ee->Option (List D):=fun ρ=>match fa ρ,fl ρ,fh ρ with
 | some (.lst l),some lo,some hi=>some (jcC l lo hi)
 | some (.scr ns),some lo,some hi=>some (jcC (ns.map .int) lo hi)
 | _,_,_=>none
theorem jl7{tl th:TO}{fl fh:ee->Option (Option Int)}(h:Jk ta fa)(hl:POk tl fl)(hh:POk th fh):EOkO (tSl (jju Fr.K) ta tl th) (eSl fa fl fh):=fun G0 H0 G H σ ρ Q ds e q k=>by
 unfold eSl at q;split at q
 . rename_i l lo hi z1 z2 z3;cases q;refine h _ _ _ _ _ _ _ _ e z1 fun v G1 H1 x1 r=>hl _ _ _ _ _ _ _ _ (e.grow x1) z2 fun G2 H2 x2=>hh _ _ _ _ _ _ _ _ ((e.grow x1).grow x2) z3 fun G3 H3 x3=>?_;obtain⟨_,_,rfl,h,r⟩:=r.of_lst;have x:=(x1.trans x2).trans x3;have r3:=r.mono (x2.trans x3).gg;refine⟨_,_,rfl,.inl (h.same (x2.trans x3).hh),fun p hp=>k p _ G3 _ (x.trans (.new x3.gh hp)) (x.hh.free hp) (x3.gh.free hp) jw ?_⟩;unfold je6 jcC;rw[r.length];exact(r3.drop _).take _
 . rename_i ns lo hi z1 z2 z3;cases q;refine h _ _ _ _ _ _ _ _ e z1 fun v G1 H1 x1 r=>hl _ _ _ _ _ _ _ _ (e.grow x1) z2 fun G2 H2 x2=>hh _ _ _ _ _ _ _ _ ((e.grow x1).grow x2) z3 fun G3 H3 x3=>?_;obtain⟨_,rfl,h⟩:=r.of_scr;have x:=(x1.trans x2).trans x3;refine⟨_,_,rfl,(x2.trans x3).hh.seq h,fun p hp=>k p _ G3 _ (x.trans (.new x3.gh hp)) (x.hh.free hp) (x3.gh.free hp) jw ?_⟩;unfold je6 jcC;rw[QC,QC];exact((Reps.of_ints ns).drop _).take _
 . cases q
def JL(T:String):D->Option Bool
 | .int _=>some (T == "int")
 | .bl _=>some (T == "bool" || T == "int")
 | .non=>some false
 | .str _=>some (T == "str")
 | .lst _=>some (T == "list")
 | .tup _=>some (T == "tuple")
 | .scr _=>none
 | .dic _ _=>none
 | .kst _=>none
 | .obj _=>none
def Jl(T:String)(fa:ee->Option D):ee->Option D:=fun ρ=>(fa ρ).bind fun d=>(JL T d).map .bl
def eLZ(fs:ee->Option (List D)):ee->Option (List D):=fun ρ=>match fs ρ with
 | some [.lst l,.lst m]=>if zp l.length then some (jaE l m)else none
 | _=>none
theorem jl8(h:jaN As fs):EOkO (jba Fr.K As) (eLZ fs):=fun G0 H0 G H σ ρ Q ds e q k=>by
 unfold eLZ at q;split at q
 . rename_i l m z;split at q
   . rename_i hz;cases q;refine h _ _ _ _ _ _ _ _ e z fun vs G1 H1 x1 rr=>?_;obtain⟨v,u,rfl,r1,r2⟩:=rr.two;cases r1 with
     | @lst a vs l h1 r1=>
       cases r2 with
       | @lst b us m h2 r2=>
         refine⟨a,b,vs,us,rfl,.inl h1,.inl h2,by rw[r1.length];exact JZ hz,fun c ts H' hc hts hcn hnd tJ hoth hcl htup=>?_⟩;have G2:∃G2:Hp,G2=fun x=>if x∈ts then H' x else G1 x:=⟨_,rfl⟩
         obtain⟨G2,eG2⟩:=G2;have inT:∀x,x∈ts->G2 x=H' x:=fun x hx=>by rw[eG2];exact Ys hx
         have outT:∀x,x∉ts->G2 x=G1 x:=fun x hx=>by rw[eG2];exact YJ hx
         have sG:Same G1 G2:=fun x o w=>by rw[outT x fun z=>by have:=hts x z;rw[x1.gh x o w]at this;cases this];exact w
         have sH:Same H1 H':=fun x o w=>by rw[hoth x (jz w hc) fun z=>by have:=hts x z;rw[w]at this;cases this];exact w
         have x2:Ext G1 H1 G2 H':=⟨sH,sG,fun x o w=>by
          by_cases hx:x∈ts
          . rw[inT x hx]at w;exact w
          . rw[outT x hx]at w;exact sH x o (x1.gh x o w),fun x o w=>by
          by_cases hx:x∈ts
          . exact .inr (hts x hx)
          . rw[outT x hx]at w;exact .inl w⟩
         have gc:G2 c=none:=by rw[outT c hcn];exact x1.gh.free hc
         refine k c _ G2 H' (x1.trans x2) (x1.hh.free hc) gc hcl ?_;have len:(ts.map V.ref).length=(jaE l m).length:=by simp[jaE,tJ,r1.length,r2.length]
         have build:∀(vs:List V) (ds:List D),vs.length=ds.length->(∀(i:Nat) v d,vs[i]?=some v->ds[i]?=some d->Rep G2 v d)->Reps G2 vs ds:=by
          intro vs;induction vs with
          | nil=>intro ds hl _;cases ds with | nil=>exact .nil | cons _ _=>simp at hl
          | cons v vs ih=>
            intro ds hl hh;cases ds with
            | nil=>simp at hl
            | cons d ds=>exact .cons (hh 0 v d rfl rfl) (ih ds (by simpa using hl) fun i v d h1 h2=>hh (i+1) v d (by simpa using h1) (by simpa using h2))
         refine build _ _ len fun i v d g1 g2=>?_;rw[Yr]at g1;cases et:ts[i]? with
         | none=>rw[et]at g1;cases g1
         | some t=>
           rw[et]at g1;cases g1;unfold jaE at g2;rw[Yr]at g2;cases ep:(l.zip m)[i]? with
           | none=>rw[ep]at g2;cases g2
           | some p=>rw[ep]at g2;cases g2;obtain⟨w1,w2⟩:=YU.mp ep;obtain⟨v1,y1,y2⟩:=r1.get w1;obtain⟨v2,y3,y4⟩:=r2.get w2;have ht:=htup i t v1 v2 et y1 y3;exact .tup (by rw[inT t (Yq et)];exact ht) (.cons (y2.mono sG) (.cons (y4.mono sG) .nil))
   . cases q
 . cases q
end
def eqB(x y:D):Option Bool:=if qB x=true then(if qB y=true then some (eqV (vOf x) (vOf y))else none)else none
def QM(f:D->D->Option Bool):List D->List D->Option Bool
 | x::l,y::m=>(f x y).bind fun b=>(QM f l m).map (b && ·)
 | _,_=>some true
def Zn:Nat->D->D->Option Bool
 | n+1,.lst l,.lst m=>if l.length=m.length then QM (Zn n) l m else some false
 | n+1,.tup l,.tup m=>(QM (Zn n) l m).map (· && l.length == m.length)
 | _,x,y=>eqB x y
def jbA(x y:D):Option Bool:=if qB x && qB y then(if jj2 (vOf x) (vOf y)then some (decide (vOf x=vOf y))else none)else Zn 40 x y
def jdN:R2:=fun x y H Q=>∃G dx dy b,Same G H/\RepT G H x dx/\RepT G H y dy/\jbA dx dy=some b/\Q (.bl b) H
def jeb:R2:=fun x y H Q=>∃G dx dy b,Same G H/\RepT G H x dx/\RepT G H y dy/\jbA dx dy=some b/\Q (.bl (!b)) H
def zb:D->D->Option D:=fun x y=>(jbA x y).map .bl
def dNe:D->D->Option D:=fun x y=>(jbA x y).map fun b=>.bl (!b)
theorem jmn:ROk jdN zb:=fun G H x y dx dy d Q s rx ry q k=>by obtain⟨b,q1,q2⟩:=map_some q;subst q2;exact⟨G,dx,dy,b,s,rx,ry,q1,k _ G H (.refl s) (.bl _)⟩
theorem jmj:ROk jeb dNe:=fun G H x y dx dy d Q s rx ry q k=>by obtain⟨b,q1,q2⟩:=map_some q;subst q2;exact⟨G,dx,dy,b,s,rx,ry,q1,k _ G H (.refl s) (.bl _)⟩
def jiS:R2:=fun x y H Q=>∃l b xs zs,x=.ref l/\y=.ref b/\Rd H l (.lst xs)/\Rd H b (.lst zs)/\xs.length+zs.length<=sizeLine/\∀p,H p=none->Q (.ref p) (upd H p (.lst (xs++zs)))
def jbo:D->D->Option (List D)
 | .lst l,.lst m=>if l.length+m.length<=sizeLine then some (l++m)else none
 | _,_=>none
theorem jlr:jkI jiS jbo:=fun G H x y dx dy d Q s rx ry q k=>by
 unfold jbo at q;split at q
 . split at q
   . rename_i hz;cases q;obtain⟨_,_,rfl,h,r⟩:=rx.of_lst;obtain⟨_,_,rfl,h',r'⟩:=ry.of_lst;exact⟨_,_,_,_,rfl,rfl,h,h',by rw[r.length,r'.length];exact hz,fun p hp=>k p _ G _ (.new s hp) hp (s.free hp) jw (r.append r')⟩
   . cases q
 . cases q
end
section
variable{X:Cx}
theorem jfL:CallR X (.builtin "len") (fun xs H Q=>(∃p ys,xs=[.ref p] ∧ (zQ X.K H p ys ∨ SqT X.K H p ys) ∧ Q (.int ys.length) H) ∨ ∃z,xs=[.str z] ∧ z.length ≤ sizeLine ∧ Q (.int z.length) H):=call_len_seq.or jcv
theorem jh1:OpR X (binaryOp .Add) jiS:=by
 intro tf s σ H x y v u Q I rx ry h;obtain⟨l,b,xs,zs,rfl,rfl,hH,hB,hz,q⟩:=h;cases rx;cases ry;obtain⟨z,tq,n,r,e⟩:=hH.ok I.hok;obtain⟨z2,its2,n2,r2,e2⟩:=hB.ok I.hok;have hl:=r.length;have hl2:=r2.length;refine PySem.P.add_list e e2 ?_ (by rw[Yu,Yu];omega);have ea:tq.toArray++its2.toArray=(tq++its2).toArray:=by simp
 rw[ea];exact⟨.ref _,_,I.lnew (t':=s.toks) (r.append r2) (by rw[YS];omega),rfl,q _ I.fresh⟩
theorem je5(hc:X.calm=true):CallR X (.builtin "min") (fun xs H Q=>∃i j k,xs=[.int i,.int j,.int k] ∧ Q (.int (jaH i j k)) H):=by
 intro tf s σ H xs us Q I r h;obtain⟨i,j,k,rfl,q⟩:=h;cases r with
 | cons r1 r=>
   cases r with
   | cons r2 r=>
     cases r with
     | cons r3 r=>
       cases r;obtain⟨t1,rfl⟩:=r1;obtain⟨t2,rfl⟩:=r2;obtain⟨t3,rfl⟩:=r3;refine min_three_ints (I.ok.hd hc) fun h' tk kk=>⟨_,H,I.kept kk,?_,q⟩;unfold jaH;by_cases h1:j<i
       . rw[Ys h1,Ys h1];by_cases h2:k<j
         . rw[Ys h2,Ys h2];exact⟨_,rfl⟩
         . rw[YJ h2,YJ h2];exact⟨_,rfl⟩
       . rw[YJ h1,YJ h1];by_cases h2:k<i
         . rw[Ys h2,Ys h2];exact⟨_,rfl⟩
         . rw[YJ h2,YJ h2];exact⟨_,rfl⟩
end
def jee(k:Int):List Int->List Int
 | []=>[k]
 | x::l=>if k<=x then k::x::l else x::jee k l
def JN(l:List Int):List Int:=l.foldr jee []
theorem ZN(k:Int):∀l:List Int,(jee k l).Perm (k::l)
 | []=>.refl _
 | x::l=>by
   unfold jee;split
   . exact .refl _
   . exact((ZN k l).cons x).trans (.swap k x l)
theorem Jn:∀l:List Int,(JN l).Perm l
 | []=>.refl _
 | x::l=>(ZN x (JN l)).trans ((Jn l).cons x)
theorem ZZ{k:Int}:∀{l:List Int},l.Pairwise (· <= ·)->(jee k l).Pairwise (· <= ·)
 | [],_=>by simp[jee]
 | x::l,h=>by
   have h':=Yy.mp h;unfold jee;split
   . rename_i hk;refine Yy.mpr ⟨fun y hy=>?_,h⟩;rcases Yl.mp hy with rfl | hy
     . exact hk
     . exact Int.le_trans hk (h'.1 y hy)
   . rename_i hk;refine Yy.mpr ⟨fun y hy=>?_,ZZ h'.2⟩;rcases Yl.mp ((ZN k l).mem_iff.mp hy)with rfl | hy
     . omega
     . exact h'.1 y hy
theorem zy:∀l:List Int,(JN l).Pairwise (· <= ·)
 | []=>by simp[JN]
 | x::l=>ZZ (zy l)
theorem jay:∀{l m:List Int},l.Pairwise (· <= ·)->m.Pairwise (· <= ·)->l.Perm m->l=m
 | [],m,_,_,h=>(List.nil_perm.mp h).symm ▸ rfl
 | x::l,[],_,_,h=>absurd h.length_eq (by simp)
 | x::l,y::m,h1,h2,h=>by
   have p1:=Yy.mp h1;have p2:=Yy.mp h2;have e:x=y:=by
     rcases Yl.mp (h.mem_iff.mp Yb)with z | z
     . exact z
     . rcases Yl.mp (h.mem_iff.mpr Yb)with z' | z'
       . exact z'.symm
       . have:=p2.1 x z;have:=p1.1 y z';omega
   subst e;rw[jay p1.2 p2.2 ((List.perm_cons x).mp h)]
theorem jhT{l m:List Int}(h:m.Perm l)(hs:m.Pairwise (· <= ·)):m=JN l:=jay hs (zy l) (h.trans (Jn l).symm)
section
variable{X:Cx}
theorem jd1(hc:X.calm=true):CallR X (.builtin "sorted") (fun xs H Q=>∃(p:Addr) (ns:List Int),xs=[.ref p] ∧ zQ X.K H p (ns.map V.int) ∧ ns.length<64 ∧ ∀l,H l=none → Q (.ref l) (upd H l (.lst ((JN ns).map V.int)))):=by
 intro tf s σ H xs us Q I r h;obtain⟨p,ns,rfl,hq,hl,q⟩:=h;obtain⟨u,rfl,rx⟩:=Vals.one r;cases rx;obtain⟨tq,rv,pl,hz⟩:=I.list hq;have hi:IntsAre tq ns:=QQ rv;have tJ:tq.length=ns.length:=by have:=rv.length;rw[QC]at this;exact this.symm
 refine sorted_ints pl.isList hi (by omega) fun out ks q1 q2 q3=>?_;have ek:ks=JN ns:=jhT q2 q3;subst ek;have hn:H (s.heap.objs.size+1)=none:=I.hok.fresh (KM _);obtain⟨e,he⟩:=sortedAll_at s.heap tq out;refine⟨.ref (s.heap.objs.size+1),upd H (s.heap.objs.size+1) (.lst ((JN ns).map V.int)),?_,rfl,q _ hn⟩;refine I.laid (t':=s.toks) (fun b o e=>sortedAll_old e) (KM _) ⟨?_,out.toList,e,Zx q1,by simpa using he⟩;have:=(Jn ns).length_eq;rw[QC];exact YM (by omega:(JN ns).length<=64) (by decide)
end
section
variable[Fr]
def jdo:List D->Option (List D)
 | [.lst l]=>(Q7 l).bind fun ns=>if ns.length<64 then some ((JN ns).map .int)else none
 | _=>none
theorem jjO:jeG (fun xs H Q=>∃(p:Addr) (ns:List Int),xs=[.ref p]/\zQ Fr.K H p (ns.map V.int)/\ns.length<64/\∀l,H l=none->Q (.ref l) (upd H l (.lst ((JN ns).map V.int)))) jdo:=fun G H xs ds es Q s rr q k=>by
 unfold jdo at q;split at q
 . obtain⟨ns,q1,q2⟩:=bind_some q;split at q2
   . rename_i hz;cases q2;obtain⟨v,rfl,r⟩:=rr.one;obtain⟨_,_,rfl,h,r⟩:=r.of_lst;rw[JM q1]at r;rw[r.ints]at h;exact⟨_,ns,rfl,.inl h,hz,fun l hl=>k l _ G _ (.new s hl) hl (s.free hl) jw (Reps.of_ints _)⟩
   . cases q2
 . cases q
def jdy(fs:ee->Option (List D)):ee->Option (List D):=fun ρ=>match fs ρ with
 | some [.lst l]=>(Q7 l).bind fun ns=>if ns.length<64 then some ((srt ns).map .int)else none
 | _=>none
theorem jj9{X:Cx}{As:TA}{fs:ee->Option (List D)}(ha:jaN As fs):EOkO (tCB (fun xs H Q=>∃(a:Addr) (ns:List Int),xs=[.ref a]/\H a=some (jcf X a ns)/\ns.length<64 /\
 ∀(l:Addr) (ks:List Int),H l=none->ks.Pairwise (· < ·)->(∀k,k∈ks ↔ k∈ns)->ks.length<=ns.length->Q (.ref l) (upd H l (.lst (ks.map V.int))))
 (JT (tCB (fun xs H Q=>∃(p:Addr) (ns:List Int),xs=[.ref p]/\zQ Fr.K H p (ns.map V.int)/\ns.length<64/\∀a,H a=none->Q (.ref a) (upd H a (jcf X a ns))) As) ja9)) (jdy fs):=fun G0 H0 G H σ ρ Q es e q k=>by
 unfold jdy at q;split at q
 . rename_i l z;obtain⟨ns,q1,q2⟩:=bind_some q;split at q2
   . rename_i hz;cases q2;refine ha _ _ _ _ _ _ _ _ e z fun vs G1 H1 x1 rr=>?_;obtain⟨v,rfl,r⟩:=rr.one;obtain⟨_,_,rfl,h,r⟩:=r.of_lst;rw[JM q1]at r;rw[r.ints]at h;refine⟨_,ns,rfl,.inl h,hz,fun a ha'=>?_⟩;have x2:Ext G1 H1 G1 (upd H1 a (jcf X a ns)):=.new x1.gh ha';refine⟨a,ns,rfl,jw,hz,fun l ks hl hp hm hn=>?_⟩;have ek:ks=srt ns:=QJ hp JK fun j=>by rw[hm j,jat]
     subst ek;exact k l _ G1 _ ((x1.trans x2).trans (.new x2.gh hl)) ((x1.trans x2).hh.free hl) (x2.gh.free hl) jw (Reps.of_ints _)
   . cases q2
 . cases q
def okT(T:String):Bool:=T == "int" || T == "bool" || T == "str" || T == "list" || T == "tuple"
theorem jh6{G H:Hp}{x:V}{d:D}{T:String}{b:Bool}(r:RepT G H x d)(q:JL T d=some b)(hT:okT T=true):IsT Fr.K H x T b:=by
 have hT':T = "int" ∨ T="bool" ∨ T="str" ∨ T="list" ∨ T="tuple":=by simpa[okT,or_assoc]using hT
 cases r with
 | int i=>rcases hT' with rfl | rfl | rfl | rfl | rfl <;> (simp[JL]at q;subst q;exact⟨_,.int i,by rfl⟩)
 | bl i=>rcases hT' with rfl | rfl | rfl | rfl | rfl <;> (simp[JL]at q;subst q;exact⟨_,.bl i,by rfl⟩)
 | non=>rcases hT' with rfl | rfl | rfl | rfl | rfl <;> (simp[JL]at q;subst q;exact⟨_,.non,by rfl⟩)
 | str i=>rcases hT' with rfl | rfl | rfl | rfl | rfl <;> (simp[JL]at q;subst q;exact⟨_,.str i,by rfl⟩)
 | lst h r=>
   rcases h with h | ⟨o,h⟩
   . rcases hT' with rfl | rfl | rfl | rfl | rfl <;> (simp[JL]at q;subst q;exact⟨_,.lst h,by rfl⟩)
   . rcases hT' with rfl | rfl | rfl | rfl | rfl <;> (simp[JL]at q;subst q;exact⟨_,.frz h,by rfl⟩)
 | tup h r=>rcases hT' with rfl | rfl | rfl | rfl | rfl <;> (simp[JL]at q;subst q;exact⟨_,.tup h,by rfl⟩)
 | scr h=>cases q
 | dic h hl r=>cases q
 | kst h=>cases q
 | obj hc h r=>cases q
theorem jlv{T:String}{ta:TE}{fa:ee->Option D}(ha:Jk ta fa)(hT:okT T=true):EOk (tCB (fun xs H Q=>∃x T b,xs=[x,.ty T]/\IsT Fr.K H x T b/\Q (.bl b) H) (JT ta (JT (tC (.ty T)) ja9))) (Jl T fa):=fun G0 H0 G H σ ρ Q d e q k=>by obtain⟨dx,q1,q2⟩:=bind_some q;obtain⟨b,q4,q3⟩:=map_some q2;subst q3;exact ha _ _ _ _ _ _ _ _ e q1 fun v G' H' x r=>⟨v,T,b,rfl,jh6 r q4 hT,k _ G' H' x (.bl _)⟩
end
section
variable[Fr]
theorem jdj{v:V}(f:jem v=true):eqV v v=true:=by cases v <;> first | rfl | exact absurd f Ym | simp[eqV]
theorem J3{x y:D}{b:Bool}(h:eqB x y=some b):qB x=true/\qB y=true/\b=eqV (vOf x) (vOf y):=by
 unfold eqB at h;by_cases f1:qB x=true
 . by_cases f2:qB y=true
   . rw[Ys f1,Ys f2]at h;exact⟨f1,f2,(Option.some.inj h).symm⟩
   . rw[Ys f1,YJ f2]at h;exact qg h
 . rw[YJ f1]at h;exact qg h
theorem jam{n:Nat}{dx dy:D}{b:Bool}(h:Zn (n+1) dx dy=some b):(∃l m,dx=.lst l/\dy=.lst m/\(if l.length=m.length then QM (Zn n) l m else some false)=some b)\/(∃l m,dx=.tup l/\dy=.tup m/\(QM (Zn n) l m).map (· && l.length == m.length)=some b)\/eqB dx dy=some b:=by
 cases dx with
 | lst l=>
   cases dy with
   | lst m=>exact .inl ⟨l,m,rfl,rfl,h⟩
   | _=>exact qg h
 | tup l=>
   cases dy with
   | tup m=>exact .inr (.inl ⟨l,m,rfl,rfl,h⟩)
   | _=>exact qg h
 | _=>exact .inr (.inr h)
theorem Zw{f:D->D->Option Bool}:∀{l m:List D} {b:Bool},QM f l m=some b->∃e:Nat->Bool,(∀(j:Nat) x y,l[j]?=some x->m[j]?=some y->f x y=some (e j))/\(List.range (min l.length m.length)).all e=b:=by
 intro l;induction l with
 | nil=>intro m b h;cases h;exact⟨fun _=>true,fun j x y h1 _=>(by rw[Ks]at h1;cases h1),by rw[Y1,Nat.zero_min];rfl⟩
 | cons x l ih=>
   intro m b h;cases m with
   | nil=>cases h;exact⟨fun _=>true,fun j x y _ h2=>(by rw[Ks]at h2;cases h2),by rw[Y1,Nat.min_zero];rfl⟩
   | cons y m=>
     obtain⟨c,h1,h2⟩:=bind_some h;obtain⟨c',h3,h4⟩:=map_some h2;obtain⟨e,he,hb⟩:=ih h3;refine⟨fun j=>Nat.casesOn j c e,fun j u v g1 g2=>?_,?_⟩
     . cases j with
       | zero=>cases g1;cases g2;exact h1
       | succ j=>exact he j u v g1 g2
     . rw[<-h4,<- hb];simp only[Yt,Nat.add_min_add_right,Kq,List.all_cons,List.all_map];rfl
end
section
variable{X:Cx}{tf:List (Addr×Obj)}{σ:St}{H G:Hp}{s:Shared}
theorem jeL[Fr](hK:Fr.K=X.K)(I:Inv X tf σ H s)(sg:Same G H):∀(n:Nat) {v:V} {dx dy:D} {b:Bool},Rep G v dx->Rep G v dy->Zn n dx dy=some b->b=true:=by
 intro n;induction n with
 | zero=>intro v dx dy b rx ry h;obtain⟨f1,f2,rfl⟩:=J3 (show eqB dx dy=some b from h);rw[<-rx.v f1,<- ry.v f2];exact jdj (by rw[rx.v f1];exact Zv f1)
 | succ n ih=>
   have zz:∀{vs:List V} {l m:List D} {b:Bool},Reps G vs l->Reps G vs m->QM (Zn n) l m=some b->b=true:=by
    intro vs;induction vs with
    | nil=>intro l m b r1 r2 h;cases r1;cases r2;cases h;rfl
    | cons v vs ihv=>
      intro l m b r1 r2 h;cases r1 with
      | cons a1 t1=>
        cases r2 with
        | cons a2 t2=>obtain⟨c,h1,h2⟩:=bind_some h;obtain⟨c',h3,h4⟩:=map_some h2;rw[ih a1 a2 h1,ihv t1 t2 h3]at h4;exact h4.symm
   intro v dx dy b rx ry h;rcases jam h with⟨l,m,rfl,rfl,q⟩ | ⟨l,m,rfl,rfl,q⟩ | q
   . obtain⟨_,_,rfl,h1,r1⟩:=rx.of_lst;obtain⟨_,_,e0,h2,r2⟩:=ry.of_lst;cases e0;have e:=I.list_inj (.inl (h1.same sg)) (.inl (h2.same sg));subst e;rw[Ys (show l.length=m.length by rw[<-r1.length,<- r2.length])]at q;exact zz r1 r2 q
   . obtain⟨_,_,rfl,h1,r1⟩:=rx.of_tup;obtain⟨_,_,e0,h2,r2⟩:=ry.of_tup;cases e0;rw[h1]at h2;cases h2;have hl:l.length=m.length:=by rw[<-r1.length,<- r2.length]
     obtain⟨c,h3,h4⟩:=map_some q;rw[zz r1 r2 h3,hl]at h4;simpa using h4.symm
   . obtain⟨f1,f2,rfl⟩:=J3 q;rw[<-rx.v f1,<- ry.v f2];exact jdj (by rw[rx.v f1];exact Zv f1)
theorem jey[Fr]{x y:V}{dx dy:D}{b:Bool}{u v:Value}{A:Around}(rx:Rep G x dx)(ry:Rep G y dy)(h:eqB dx dy=some b)(ru:RelV x u)(rv:RelV y v):SeqAt.EqAt A s u v b:=by obtain⟨f1,f2,rfl⟩:=J3 h;rw[<-rx.v f1,<- ry.v f2];exact jja ru rv (by rw[rx.v f1];exact Zv f1) (by rw[ry.v f2];exact Zv f2)
theorem Zs[Fr]{vs us:List V}{l m:List D}{i1 i2:List Value}{e:Nat->Bool}{A:Around}{n:Nat}(r1:Reps G vs l)(r2:Reps G us m)(v1:Vals vs i1)(v2:Vals us i2)
 (he:∀(j:Nat) x y,l[j]?=some x->m[j]?=some y->Zn n x y=some (e j))
 (ih:∀{x y:V} {dx dy:D} {b:Bool} {u v:Value},Rep G x dx->Rep G y dy->Zn n dx dy=some b->RelV x u->RelV y v->SeqAt.EqAt A s u v b) :
 ∀j (h1:j<i1.toArray.size) (h2:j<i2.toArray.size),SeqAt.EqAt A s i1.toArray[j] i2.toArray[j] (e j):=fun j h1 h2=>by
 have l1:=v1.length;have l2:=v2.length;have hj1:j<vs.length:=by simp at h1;omega
 have hj2:j<us.length:=by simp at h2;omega
 obtain⟨u1,g1,g2⟩:=v1.get (Ya hj1);obtain⟨u2,g3,g4⟩:=v2.get (Ya hj2);obtain⟨d1,k1,k2⟩:=r1.getV (Ya hj1);obtain⟨d2,k3,k4⟩:=r2.getV (Ya hj2);have e1:i1.toArray[j]=u1:=by have:=Yg.mp g1;simpa using this.2
 have e2:i2.toArray[j]=u2:=by have:=Yg.mp g3;simpa using this.2
 rw[e1,e2];exact ih k2 k4 (he j _ _ k1 k3) g2 g4
theorem jdz[Fr](hK:Fr.K=X.K)(I:Inv X tf σ H s){a c:Addr}{vs us:List V}{l m:List D}{b:Bool}{n:Nat}{A:Around}(h1:Rd H a (.lst vs))(h2:Rd H c (.lst us))(r1:Reps G vs l)(r2:Reps G us m)(h:(if l.length=m.length then QM (Zn n) l m else some false)=some b)(hu:A.units<cLine)
 (ih:∀{x y:V} {dx dy:D} {b:Bool} {u v:Value},Rep G x dx->Rep G y dy->Zn n dx dy=some b->RelV x u->RelV y v->SeqAt.EqAt A.in1 s u v b):SeqAt.RcAt A s (.ref a) (.ref c) b:=by
 obtain⟨i1,v1,p1,_⟩:=I.list (.inl h1);obtain⟨i2,v2,p2,_⟩:=I.list (.inl h2);have l1:=v1.length;have l2:=v2.length;have k1:=r1.length;have k2:=r2.length;split at h
 . rename_i hl;obtain⟨e,he,hb⟩:=Zw h;have hb':(List.range i1.toArray.size).all e=b:=by rw[<-hb,<- hl,Nat.min_self,Yu,<- l1,k1]
   rw[<-hb'];exact SeqAt.RcAt.lists p1.isList p2.isList (by simp;omega) hu (Zs r1 r2 v1 v2 he ih)
 . rename_i hl;cases h;exact SeqAt.RcAt.lists_lengths p1.isList p2.isList (by simp;omega) hu
theorem jeP[Fr](hK:Fr.K=X.K)(I:Inv X tf σ H s){a c:Addr}{vs us:List V}{l m:List D}{b:Bool}{n:Nat}{A:Around}(h1:H a=some (.tup vs))(h2:H c=some (.tup us))(r1:Reps G vs l)(r2:Reps G us m)(h:(QM (Zn n) l m).map (· && l.length == m.length)=some b)(hu:A.units<cLine)
 (ih:∀{x y:V} {dx dy:D} {b:Bool} {u v:Value},Rep G x dx->Rep G y dy->Zn n dx dy=some b->RelV x u->RelV y v->SeqAt.EqAt A.in1 s u v b):SeqAt.RcAt A s (.ref a) (.ref c) b:=by
 obtain⟨i1,v1,p1,_⟩:=I.tuple (SqT.of h1);obtain⟨i2,v2,p2,_⟩:=I.tuple (SqT.of h2);have l1:=v1.length;have l2:=v2.length;have k1:=r1.length;have k2:=r2.length;obtain⟨c,h3,h4⟩:=map_some h;obtain⟨e,he,hb⟩:=Zw h3;have q1:i1.toArray.size=l.length:=by simp;omega
 have q2:i2.toArray.size=m.length:=by simp;omega
 have hb':((List.range (min i1.toArray.size i2.toArray.size)).all e && i1.toArray.size == i2.toArray.size)=b:=by rw[q1,q2,hb];exact h4
 rw[<-hb'];exact SeqAt.RcAt.tuples (show s.heap.IsTuple a i1.toArray from p1) (show s.heap.IsTuple _ i2.toArray from p2) hu (Zs r1 r2 v1 v2 he ih)
theorem jix[Fr](hK:Fr.K=X.K)(I:Inv X tf σ H s)(sg:Same G H):∀(n:Nat) {x y:V} {dx dy:D} {b:Bool} {u v:Value} {A:Around},Rep G x dx->Rep G y dy->Zn n dx dy=some b->RelV x u->RelV y v->A.units+n<cLine->SeqAt.EqAt A s u v b:=by
 intro n;induction n with
 | zero=>intro x y dx dy b u v A rx ry h ru rv _;exact jey rx ry (show eqB dx dy=some b from h) ru rv
 | succ n ih=>
   intro x y dx dy b u v A rx ry h ru rv hu;have hu1:A.units<cLine:=by omega
   have ih':∀{x y:V} {dx dy:D} {b:Bool} {u v:Value},Rep G x dx->Rep G y dy->Zn n dx dy=some b->RelV x u->RelV y v->SeqAt.EqAt A.in1 s u v b:=fun r1 r2 h ru rv=>ih r1 r2 h ru rv (by show A.units+1+n<cLine;omega);rcases jam h with⟨l,m,rfl,rfl,q⟩ | ⟨l,m,rfl,rfl,q⟩ | q
   . cases rx with
     | @lst a vs _ h1 r1=>
       cases ry with
       | @lst c us _ h2 r2=>
         cases ru;cases rv;by_cases hac:a=c
         . subst hac;rw[jeL hK I sg (n+1) (.lst h1 r1) (.lst h2 r2) h];exact SeqAt.EqAt.same _
         . exact SeqAt.EqAt.of_refs hac (jdz hK I (h1.same sg) (h2.same sg) r1 r2 q hu1 ih')
   . cases rx with
     | @tup a vs _ h1 r1=>
       cases ry with
       | @tup c us _ h2 r2=>
         cases ru;cases rv;by_cases hac:a=c
         . subst hac;rw[jeL hK I sg (n+1) (.tup h1 r1) (.tup h2 r2) h];exact SeqAt.EqAt.same _
         . exact SeqAt.EqAt.of_refs hac (jeP hK I (sg _ _ h1) (sg _ _ h2) r1 r2 q hu1 ih')
   . exact jey rx ry q ru rv
end
section
variable{X:Cx}
theorem ji7[Fr](hK:Fr.K=X.K){tf:List (Addr×Obj)}{σ:St}{H G:Hp}{s:Shared}(hu:X.A.units+64<cLine)(I:Inv X tf σ H s)(sg:Same G H){x y:V}{dx dy:D}{b:Bool}{u v:Value}(rx:RepT G H x dx)(ry:RepT G H y dy)(h:Zn 40 dx dy=some b)
 (hf:(qB dx && qB dy)=false) (ru:RelV x u) (rv:RelV y v):SeqAt.RcAt X.A s u v b:=by
 have ih:∀{x y:V} {dx dy:D} {b:Bool} {u v:Value},Rep G x dx->Rep G y dy->Zn 39 dx dy=some b->RelV x u->RelV y v->SeqAt.EqAt X.A.in1 s u v b:=fun r1 r2 h ru rv=>jix hK I sg 39 r1 r2 h ru rv (by show X.A.units+1+39<cLine;omega);rcases jam (n:=39) h with⟨l,m,rfl,rfl,q⟩ | ⟨l,m,rfl,rfl,q⟩ | q
 . obtain⟨_,_,rfl,h1,r1⟩:=rx.of_lst;obtain⟨_,_,rfl,h2,r2⟩:=ry.of_lst;cases ru;cases rv;exact jdz hK I h1 h2 r1 r2 q (by omega) ih
 . obtain⟨_,_,rfl,h1,r1⟩:=rx.of_tup;obtain⟨_,_,rfl,h2,r2⟩:=ry.of_tup;cases ru;cases rv;exact jeP hK I h1 h2 r1 r2 q (by omega) ih
 . obtain⟨f1,f2,_⟩:=J3 q;rw[f1,f2]at hf;exact absurd hf Bool.noConfusion
theorem jfE[Fr](hK:Fr.K=X.K)(I:Inv X tf σ H s){a c:Addr}{vs us:List V}{l m:List D}{b:Bool}{n:Nat}{A:Around}(h1:Rd H a (.lst vs))(h2:Rd H c (.lst us))(r1:Reps G vs l)(r2:Reps G us m)(h:(if l.length=m.length then QM (Zn n) l m else some false)=some b)(hu:A.units<cLine)
 (ih:∀{x y:V} {dx dy:D} {b:Bool} {u v:Value},Rep G x dx->Rep G y dy->Zn n dx dy=some b->RelV x u->RelV y v->SeqAt.EqAt A.in1 s u v b):SeqAt.RcNeAt A s (.ref a) (.ref c) (!b):=by
 obtain⟨i1,v1,p1,_⟩:=I.list (.inl h1);obtain⟨i2,v2,p2,_⟩:=I.list (.inl h2);have l1:=v1.length;have l2:=v2.length;have k1:=r1.length;have k2:=r2.length;split at h
 . rename_i hl;obtain⟨e,he,hb⟩:=Zw h;have hb':(List.range i1.toArray.size).all e=b:=by rw[<-hb,<- hl,Nat.min_self,Yu,<- l1,k1]
   rw[<-hb'];exact SeqAt.RcNeAt.lists p1.isList p2.isList (by simp;omega) hu (Zs r1 r2 v1 v2 he ih)
 . rename_i hl;cases h;exact SeqAt.RcNeAt.lists_lengths p1.isList p2.isList (by simp;omega) hu
theorem jgI[Fr](hK:Fr.K=X.K)(I:Inv X tf σ H s){a c:Addr}{vs us:List V}{l m:List D}{b:Bool}{n:Nat}{A:Around}(h1:H a=some (.tup vs))(h2:H c=some (.tup us))(r1:Reps G vs l)(r2:Reps G us m)(h:(QM (Zn n) l m).map (· && l.length == m.length)=some b)(hu:A.units<cLine)
 (ih:∀{x y:V} {dx dy:D} {b:Bool} {u v:Value},Rep G x dx->Rep G y dy->Zn n dx dy=some b->RelV x u->RelV y v->SeqAt.EqAt A.in1 s u v b):SeqAt.RcNeAt A s (.ref a) (.ref c) (!b):=by
 obtain⟨i1,v1,p1,_⟩:=I.tuple (SqT.of h1);obtain⟨i2,v2,p2,_⟩:=I.tuple (SqT.of h2);have l1:=v1.length;have l2:=v2.length;have k1:=r1.length;have k2:=r2.length;obtain⟨c,h3,h4⟩:=map_some h;obtain⟨e,he,hb⟩:=Zw h3;have q1:i1.toArray.size=l.length:=by simp;omega
 have q2:i2.toArray.size=m.length:=by simp;omega
 have hb':((List.range (min i1.toArray.size i2.toArray.size)).all e && i1.toArray.size == i2.toArray.size)=b:=by rw[q1,q2,hb];exact h4
 rw[<-hb'];exact SeqAt.RcNeAt.tuples (show s.heap.IsTuple a i1.toArray from p1) (show s.heap.IsTuple _ i2.toArray from p2) hu (Zs r1 r2 v1 v2 he ih)
theorem jho[Fr](hK:Fr.K=X.K){tf:List (Addr×Obj)}{σ:St}{H G:Hp}{s:Shared}(hu:X.A.units+64<cLine)(I:Inv X tf σ H s)(sg:Same G H){x y:V}{dx dy:D}{b:Bool}{u v:Value}(rx:RepT G H x dx)(ry:RepT G H y dy)(h:Zn 40 dx dy=some b)
 (hf:(qB dx && qB dy)=false) (ru:RelV x u) (rv:RelV y v):SeqAt.RcNeAt X.A s u v (!b):=by
 have ih:∀{x y:V} {dx dy:D} {b:Bool} {u v:Value},Rep G x dx->Rep G y dy->Zn 39 dx dy=some b->RelV x u->RelV y v->SeqAt.EqAt X.A.in1 s u v b:=fun r1 r2 h ru rv=>jix hK I sg 39 r1 r2 h ru rv (by show X.A.units+1+39<cLine;omega);rcases jam (n:=39) h with⟨l,m,rfl,rfl,q⟩ | ⟨l,m,rfl,rfl,q⟩ | q
 . obtain⟨_,_,rfl,h1,r1⟩:=rx.of_lst;obtain⟨_,_,rfl,h2,r2⟩:=ry.of_lst;cases ru;cases rv;exact jfE hK I h1 h2 r1 r2 q (by omega) ih
 . obtain⟨_,_,rfl,h1,r1⟩:=rx.of_tup;obtain⟨_,_,rfl,h2,r2⟩:=ry.of_tup;cases ru;cases rv;exact jgI hK I h1 h2 r1 r2 q (by omega) ih
 . obtain⟨f1,f2,_⟩:=J3 q;rw[f1,f2]at hf;exact absurd hf Bool.noConfusion
theorem jgz(hu:X.A.units+64<cLine):OpR X (compareOp .Eq) (@jdN ⟨X.K⟩):=by
 intro tf s σ H x y v u Q I rx ry h;obtain⟨G,dx,dy,b,sg,r1,r2,he,q⟩:=h;unfold jbA at he;split at he
 . rename_i hf;simp only[Ke]at hf;split at he
   . rename_i hs;cases he;have e1:=@RepT.v ⟨X.K⟩ _ _ _ _ r1 hf.1;have e2:=@RepT.v ⟨X.K⟩ _ _ _ _ r2 hf.2;rw[<-e1,<- e2]at q hs;exact jkU tf s σ H x y v u Q I rx ry ⟨hs,q⟩
   . cases he
 . rename_i hf;exact @ji7 X ⟨X.K⟩ rfl _ _ _ _ _ hu I sg _ _ _ _ _ _ _ r1 r2 he (by simpa using hf) rx ry X.prog X.w _ _ ⟨.bl b,H,I,rfl,q⟩
theorem jfZ(hu:X.A.units+64<cLine):OpR X (compareOp .NotEq) (@jeb ⟨X.K⟩):=by
 intro tf s σ H x y v u Q I rx ry h;obtain⟨G,dx,dy,b,sg,r1,r2,he,q⟩:=h;unfold jbA at he;split at he
 . rename_i hf;simp only[Ke]at hf;split at he
   . rename_i hs;cases he;have e1:=@RepT.v ⟨X.K⟩ _ _ _ _ r1 hf.1;have e2:=@RepT.v ⟨X.K⟩ _ _ _ _ r2 hf.2;rw[<-e1,<- e2]at q hs;exact jk3 tf s σ H x y v u Q I rx ry ⟨hs,q⟩
   . cases he
 . rename_i hf;exact @jho X ⟨X.K⟩ rfl _ _ _ _ _ hu I sg _ _ _ _ _ _ _ r1 r2 he (by simpa using hf) rx ry X.prog X.w _ _ ⟨.bl (!b),H,I,rfl,q⟩
end
def LcOk(sc:Scope)(N:List Str)(scope:Scope)(F:List Str)(ix:List Nat):Prop:=
 scope.kind=.function/\(∀x∈scope.names,x.2=.local->scope.names.lookup x.1=some .local)/\(∀y∈scope.names,y.2=.cell->scope.names.lookup y.1=some .cell) /\
 (∀y∈scope.names,y.2=.free->sc.names.lookup y.1=some .cell\/sc.names.lookup y.1=some .free)/\ix.length=F.length /\
 (∀p∈F.zip ix,N[p.2]?=some p.1/\(sc.names.lookup p.1=some .cell\/sc.names.lookup p.1=some .free)/\scope.names.lookup p.1=some .free)
instance (sc:Scope) (N:List Str) (scope:Scope) (F:List Str) (ix:List Nat):Decidable (LcOk sc N scope F ix):=by unfold LcOk;infer_instance
section
variable{X:Cx}{tg iter elt:Expr}{ifs:List Expr}{scope:Scope}{pos:Pos}{wi:TI}{g:TG}{tt:TT}{te:TE}{Lc F N:List Str}{ix:List Nat}{sc:Scope}
theorem LcOk.free(ok:LcOk sc N scope F ix)(hsc:X.env.scope=sc):∀n,(n,NameKind.free)∈scope.names->X.env.scope.names.lookup n=some .cell\/X.env.scope.names.lookup n=some .free:=fun n hn=>by rw[hsc];exact ok.2.2.2.1 (n,.free) hn rfl
theorem LcOk.capt(ok:LcOk sc N scope F ix)(hsc:X.env.scope=sc)(hN:X.N=N):∀(j:Nat) (x:Str) (k:Nat),F[j]?=some x->ix[j]?=some k->X.N[k]?=some x/\(X.env.scope.names.lookup x=some .cell\/X.env.scope.names.lookup x=some .free)/\scope.names.lookup x=some .free:=fun j x k h1 h2=>by rw[hsc,hN];exact ok.2.2.2.2.2 (x,k) (Yq (i:=j) (YU.mpr ⟨h1,h2⟩))
theorem jjg(hsc:X.env.scope=sc)(hN:X.N=N)(hc:X.calm=true)(ok:LcOk sc N scope F ix)
 (hi:PI X tg iter wi) (hg:∀C s H fp,PG (X.blk (Lc++F) scope C s H fp) tg g) (hloc:jd3 Lc.length g) (ht:∀C s H fp,PTs (X.blk (Lc++F) scope C s H fp) ifs tt) (he:∀C s H fp,PE (X.blk (Lc++F) scope C s H fp) elt te)
 (hs:∀x,foldedSetIterable iter X.env x=pure x:=by intro _;rfl):PE X (.ListComp elt [⟨tg,iter,ifs,0⟩] scope pos) (tLC wi g tt te Lc.length ix):=
 jk8 hc ok.1 ok.2.1 ok.2.2.1 (ok.free hsc) ok.2.2.2.2.1 (ok.capt hsc hN) hi hg hloc ht he hs
theorem jdU{i:Nat}{y:Str}{py spos:Pos}(hNd:X.N.Nodup)(hy:X.N[i]?=some y)(hyl:X.env.scope.names.lookup y=some .local)(hsc:X.env.scope=sc)(hN:X.N=N)(hc:X.calm=true)(ok:LcOk sc N scope F ix)
 (hi:PI X tg iter wi) (hg:∀C s H fp,PG (X.blk (Lc++F) scope C s H fp) tg g) (hloc:jd3 Lc.length g) (ht:∀C s H fp,PTs (X.blk (Lc++F) scope C s H fp) ifs tt) (he:∀C s H fp,PE (X.blk (Lc++F) scope C s H fp) elt te)
 (hsw:swapsWith (.ListComp elt [⟨tg,iter,ifs,0⟩] scope pos) (some (.Name y py)) spos.line X.env=pure true)
 (hs:∀x,foldedSetIterable iter X.env x=pure x:=by intro _;rfl):PS X (.Assign [.Name y py] (.ListComp elt [⟨tg,iter,ifs,0⟩] scope pos) spos) (ZQ (tLC wi g tt te Lc.length ix) (JS i)):=
 jfn hNd hy hyl hc ok.1 ok.2.1 ok.2.2.1 (ok.free hsc) ok.2.2.2.2.1 (ok.capt hsc hN) hi hg hloc ht he hsw hs
end
section
variable{i j:Int}{F F':FS}{ρ ρ':ee}{r:Res}
theorem Jq(h:F ρ=.next ρ')(h':F' ρ'=r):jn F F' ρ=r:=by unfold jn;rw[h];exact h'
theorem jO:qj (.int i) (.int j)=some (.int (i+j)):=rfl
theorem qd:qP (.int i) (.int j)=some (.int (i-j)):=rfl
theorem JX(h1:-18446744073709551616<i)(h2:i<18446744073709551616):zu (.int i) (.int j)=some (.int (i*j)):=by unfold zu dI;simp only;rw[Ys];exact .inl (.inl ⟨by omega,by omega⟩)
theorem JD(h1:-18446744073709551616<j)(h2:j<18446744073709551616):zu (.int i) (.int j)=some (.int (i*j)):=by unfold zu dI;simp only;rw[Ys];exact .inl (.inr ⟨by omega,by omega⟩)
theorem qu(h1:0<j)(h2:j<1606938044258990275541962092341162602522202993782792835301376):zx (.int i) (.int j)=some (.int (i/j)):=by unfold zx dI;simp only;rw[Ys];exact⟨h1,by show j<2 ^ 200;omega⟩
theorem jC(h1:0<j):jF (.int i) (.int j)=some (.int (i%j)):=by unfold jF dI;simp only;rw[Ys];exact h1
theorem Zk(h:jbn i j):Jt (.int i) (.int j)=some (.int (i ^ j.toNat)):=by unfold Jt dI;simp only;rw[Ys h]
theorem jew:Jt (.int 10) (.int 5)=some (.int 100000):=by rw[Zk (by unfold jbn;omega)];rfl
theorem jeq:Jt (.int 10) (.int 9)=some (.int 1000000000):=by rw[Zk (by unfold jbn;omega)];rfl
theorem jgd:Jt (.int 10) (.int 14)=some (.int 100000000000000):=by rw[Zk (by unfold jbn;omega)];rfl
theorem jdF:Jt (.int 10) (.int 15)=some (.int 1000000000000000):=by rw[Zk (by unfold jbn;omega)];rfl
theorem jgU:Jt (.int 10) (.int 16)=some (.int 10000000000000000):=by rw[Zk (by unfold jbn;omega)];rfl
theorem dLt_ok:dLt (.int i) (.int j)=some (.bl (decide (i<j))):=rfl
theorem ZR:dLe (.int i) (.int j)=some (.bl (decide (i<=j))):=rfl
theorem dGt_ok:dGt (.int i) (.int j)=some (.bl (decide (j<i))):=rfl
theorem jgZ:dGe (.int i) (.int j)=some (.bl (decide (j<=i))):=rfl
theorem jgh:decide (V.int i=V.int j)=decide (i=j):=by
 by_cases q:i=j
 . subst q;simp
 . have:¬V.int i=V.int j:=fun z=>q (by injection z);simp[q,this]
theorem jgr:zb (.int i) (.int j)=some (.bl (decide (i=j))):=by show some (D.bl (decide (V.int i=V.int j)))=_;rw[jgh]
theorem jhK:dNe (.int i) (.int j)=some (.bl (!decide (i=j))):=by show some (D.bl (!decide (V.int i=V.int j)))=_;rw[jgh]
theorem dEqB{a b:Bool}:zb (.bl a) (.bl b)=some (.bl (decide (a=b))):=by cases a <;> cases b <;> rfl
theorem jlb{a b:Bool}:dNe (.bl a) (.bl b)=some (.bl (!decide (a=b))):=by cases a <;> cases b <;> rfl
theorem jeJ{ds:List D}{i:Int}(h0:0<=i)(h1:i<ds.length):∃m,m∈ds/\jI (.lst ds) (.int i)=some m:=by
 have hi:i.toNat<ds.length:=by omega
 refine⟨ds[i.toNat],Kd hi,?_⟩;show atI ds i=_;unfold atI QX;rw[Ys h0,Ys h1];simp[hi]
theorem ZK{ds:List D}{i:Int}{d:D}(h0:0<=i)(h:ds[i.toNat]?=some d):jI (.lst ds) (.int i)=some d:=by have hi:i.toNat<ds.length:=(Yg.mp h).1;show atI ds i=_;unfold atI QX;rw[Ys h0,Ys (by omega)];simpa using h
theorem j5{n:Nat}(h:n<16777216):zp n=true:=YW h
theorem Z9{i:Int}:JL "int" (.int i)=some true:=by rfl
theorem jbh{b:Bool}:JL "int" (.bl b)=some true:=by rfl
theorem ZT  : JL "int" .non=some false:=by rfl
theorem ZV{z:Str}:JL "int" (.str z)=some false:=by rfl
theorem Z5{l:List D}:JL "int" (.lst l)=some false:=by rfl
theorem Z4{l:List D}:JL "int" (.tup l)=some false:=by rfl
theorem Zb{i:Int}:JL "bool" (.int i)=some false:=by rfl
theorem ZX{b:Bool}:JL "bool" (.bl b)=some true:=by rfl
theorem Zt  : JL "bool" .non=some false:=by rfl
theorem Zq{z:Str}:JL "bool" (.str z)=some false:=by rfl
theorem Q9{l:List D}:JL "bool" (.lst l)=some false:=by rfl
theorem Zp{l:List D}:JL "bool" (.tup l)=some false:=by rfl
theorem Z0{i:Int}:JL "str" (.int i)=some false:=by rfl
theorem jaZ{b:Bool}:JL "str" (.bl b)=some false:=by rfl
theorem Z3  : JL "str" .non=some false:=by rfl
theorem Z1{z:Str}:JL "str" (.str z)=some true:=by rfl
theorem Z2{l:List D}:JL "str" (.lst l)=some false:=by rfl
theorem Z6{l:List D}:JL "str" (.tup l)=some false:=by rfl
theorem Zm{i:Int}:JL "list" (.int i)=some false:=by rfl
theorem ZW{b:Bool}:JL "list" (.bl b)=some false:=by rfl
theorem Q6  : JL "list" .non=some false:=by rfl
theorem QY{z:Str}:JL "list" (.str z)=some false:=by rfl
theorem Q5{l:List D}:JL "list" (.lst l)=some true:=by rfl
theorem Zh{l:List D}:JL "list" (.tup l)=some false:=by rfl
theorem QE{i:Int}:JL "tuple" (.int i)=some false:=by rfl
theorem Zf{b:Bool}:JL "tuple" (.bl b)=some false:=by rfl
theorem Qm  : JL "tuple" .non=some false:=by rfl
theorem Qr{z:Str}:JL "tuple" (.str z)=some false:=by rfl
theorem Qq{l:List D}:JL "tuple" (.lst l)=some false:=by rfl
theorem QG{l:List D}:JL "tuple" (.tup l)=some true:=by rfl
theorem QU{a:D}{l:List D}:jI (.tup (a::l)) (.int 0)=some a:=by show atI (a::l) 0=_;unfold atI QX;rw[Ys (by decide),Ys (by simp only[Yt];omega)];rfl
theorem QW{a b:D}{l:List D}:jI (.tup (a::b::l)) (.int 1)=some b:=by show atI (a::b::l) 1=_;unfold atI QX;rw[Ys (by decide),Ys (by simp only[Yt];omega)];rfl
theorem ZP{a b c:D}{l:List D}:jI (.tup (a::b::c::l)) (.int 2)=some c:=by show atI (a::b::c::l) 2=_;unfold atI QX;rw[Ys (by decide),Ys (by simp only[Yt];omega)];rfl
theorem jcb{a b c d:D}{l:List D}:jI (.tup (a::b::c::d::l)) (.int 3)=some d:=by show atI (a::b::c::d::l) 3=_;unfold atI QX;rw[Ys (by decide),Ys (by simp only[Yt];omega)];rfl
theorem jg9{a:D}{l:List D}:jI (.lst (a::l)) (.int 0)=some a:=by show atI (a::l) 0=_;unfold atI QX;rw[Ys (by decide),Ys (by simp only[Yt];omega)];rfl
theorem jg0{a b:D}{l:List D}:jI (.lst (a::b::l)) (.int 1)=some b:=by show atI (a::b::l) 1=_;unfold atI QX;rw[Ys (by decide),Ys (by simp only[Yt];omega)];rfl
theorem jf3{a b c:D}{l:List D}:jI (.lst (a::b::c::l)) (.int 2)=some c:=by show atI (a::b::c::l) 2=_;unfold atI QX;rw[Ys (by decide),Ys (by simp only[Yt];omega)];rfl
theorem jgu{a b c d:D}{l:List D}:jI (.lst (a::b::c::d::l)) (.int 3)=some d:=by show atI (a::b::c::d::l) 3=_;unfold atI QX;rw[Ys (by decide),Ys (by simp only[Yt];omega)];rfl
end
structure Fm where
 ι:Type
 X:ι->Cx
 K:PySem.W.Frag
 N:List Str
 hK:∀i,(X i).K=K
 hN:∀i,(X i).N=N
 calm:∀i,(X i).calm=true
abbrev Fm.fr(M:Fm):Fr:=⟨M.K⟩
structure WE(M:Fm)(e:Expr)(f:ee->Option D):Prop where
 h:∃t,(∀i,PE (M.X i) e t)/\@EOk M.fr t f
structure WT(M:Fm)(e:Expr)(f:ee->Option D):Prop where
 h:∃t,(∀i,PE (M.X i) e t)/\@Jk M.fr t f
structure WO(M:Fm)(e:Expr)(f:ee->Option (List D)):Prop where
 h:∃t,(∀i,PE (M.X i) e t)/\@EOkO M.fr t f
structure WC(M:Fm)(e:Expr)(f:ee->Option Bool):Prop where
 h:∃t,(∀i,PT (M.X i) e t)/\@TOk M.fr t f
structure WW(M:Fm)(e:Expr)(f:ee->Option Bool):Prop where
 h:∃t,(∀i,PW (M.X i) e t)/\@TOk M.fr t f
structure WTs(M:Fm)(e:List Expr)(f:ee->Option Bool):Prop where
 h:∃t,(∀i,PTs (M.X i) e t)/\@TOk M.fr t f
structure WA(M:Fm)(e:List Expr)(f:ee->Option (List D)):Prop where
 h:∃t,(∀i,PA (M.X i) e t)/\@AOk M.fr t f
structure WAT(M:Fm)(e:List Expr)(f:ee->Option (List D)):Prop where
 h:∃t,(∀i,PA (M.X i) e t)/\@jaN M.fr t f
structure WP(M:Fm)(e:Option Expr)(f:ee->Option (Option Int)):Prop where
 h:∃t,(∀i,PO (M.X i) e t)/\@POk M.fr t f
structure WI(M:Fm)(tg e:Expr)(f:ee->Option (List D)):Prop where
 h:∃t,(∀i,PI (M.X i) tg e t)/\@IOk M.fr t f
structure WIT(M:Fm)(tg e:Expr)(f:ee->Option (List D)):Prop where
 h:∃t,(∀i,PI (M.X i) tg e t)/\@jgC M.fr t f
structure WG(M:Fm)(tg:Expr)(m:D->ee->Option ee):Prop where
 h:∃t,(∀i,PG (M.X i) tg t)/\@GOk M.fr t m
structure WGs(M:Fm)(tg:List Expr)(m:List D->ee->Option ee):Prop where
 h:∃t,(∀i,PGs (M.X i) tg t)/\@jfy M.fr t m
structure WL(M:Fm)(n:Nat)(tg:Expr)(m:D->ee->Option ee):Prop where
 h:∃t,(∀i,PG (M.X i) tg t)/\@GOk M.fr t m/\jd3 n t
structure WS(M:Fm)(st:Stmt)(F:FS):Prop where
 h:∃t,(∀i,PS (M.X i) st t)/\@QK M.fr t F
structure WSs(M:Fm)(st:List Stmt)(F:FS):Prop where
 h:∃t,(∀i,PSs (M.X i) st t)/\@QK M.fr t F
def jH:Expr->Bool
 | .Starred _ _=>true
 | _=>false
theorem jV{e:Expr}{es:List Expr}{env:PySem.Env}(h:jH e=false):starEach (e::es) env=(false,eval e env)::starEach es env:=by cases e <;> first | rfl | cases h
theorem qw{pos:Pos}{env:PySem.Env}:∀{es:List Expr},(es.all fun e=>!jH e)=true->(backTo pos (starEach es env)).any (·.1)=false
 | [],_=>rfl
 | e::es,h=>by simp only[List.all_cons,Ke,Bool.not_eq_true']at h;rw[jV h.1];show(false || (backTo pos (starEach es env)).any (·.1))=false;rw[qw h.2];rfl
section
variable{M:Fm}{a b c e o:Expr}{es:List Expr}{fa fb fc fe:ee->Option D}{fo:ee->Option (List D)}{fs:ee->Option (List D)}{ga gb:ee->Option Bool}{pos p apos cpos:Pos}{x:Str}
theorem WO.toE(h:WO M e fo):WE M e (jM fo):=let ⟨t,h1,h2⟩:=h.h;⟨t,h1,@EOkO.e M.fr _ _ h2⟩
theorem WE.toT(h:WE M e fe):WT M e fe:=let ⟨t,h1,h2⟩:=h.h;⟨t,h1,@EOk.t M.fr _ _ h2⟩
abbrev ef:=@WE.toT
theorem jK(i:Nat)(hN:M.N[i]?=some x:=by rfl)(hv:autoParam (∀j,Vis (M.X j).env.scope x) QA.a6._auto_1)(hd:(x == ("__debug__":Str))=false:=by decide)
 (hcd:(x == ("__classdict__":Str))=false:=by decide):WE M (.Name x pos) (jB i):=⟨_,fun j=>qN (by rw[M.hN j];exact hN) (hv j) hd hcd,@jlB M.fr i⟩
theorem jc(i:Nat)(hN:M.N[i]?=some x:=by rfl)(hv:autoParam (∀j,Vis (M.X j).env.scope x) QA.a6._auto_1)(hd:(x == ("__debug__":Str))=false:=by decide)
 (hcd:(x == ("__classdict__":Str))=false:=by decide):WT M (.Name x pos) (ja i):=⟨_,fun j=>qN (by rw[M.hN j];exact hN) (hv j) hd hcd,@jjF M.fr i⟩
theorem Jj{i:Int}{t:Tok}(hg:∀j,Gl (M.X j) x)(hm:∀j,(M.X j).mg x=some (.int i t))(hd:(x == ("__debug__":Str))=false:=by decide):WE M (.Name x pos) (eC (.int i)):=⟨_,fun j=>jh4 (hg j) (hm j) hd,@jiV M.fr i⟩
theorem jk{i:Int}{k:Nat}:WE M (.Constant (.int i) k pos) (eC (.int i)):=⟨_,fun _=>jkj,@jiV M.fr i⟩
theorem ZF{i:Bool}{k:Nat}:WE M (.Constant (.bool i) k pos) (eC (.bl i)):=⟨_,fun _=>jk2,@jmq M.fr i⟩
theorem jgs{k:Nat}:WE M (.Constant .none k pos) (eC .non):=⟨_,fun _=>jj3,@jlq M.fr⟩
theorem jgf{i:Str}{k:Nat}:WE M (.Constant (.str i) k pos) (eC (.str i)):=⟨_,fun _=>jj0,@jld M.fr i⟩
theorem jbB{op:Operator}{r:R2}{f:D->D->Option D}(ho:∀j,OpR (M.X j) (binaryOp op) r)(hr:@ROk M.fr r f)(ha:WT M a fa)(hb:WT M b fb):WE M (.BinOp a op b pos) (jg f fa fb):=let ⟨_,h1,h2⟩:=ha.h;let ⟨_,k1,k2⟩:=hb.h;⟨_,fun j=>jiU (ho j) (h1 j) (k1 j),@jhD M.fr _ _ _ _ _ _ hr h2 k2⟩
theorem qW(ha:WT M a fa)(hb:WT M b fb):WE M (.BinOp a .Add b pos) (jg qj fa fb):=jbB (fun _=>jjN) (@jlj M.fr) ha hb
theorem Jo(ha:WT M a fa)(hb:WT M b fb):WE M (.BinOp a .Sub b pos) (jg qP fa fb):=jbB (fun _=>jki) (@jlm M.fr) ha hb
theorem Jp(ha:WT M a fa)(hb:WT M b fb):WE M (.BinOp a .Mult b pos) (jg zu fa fb):=jbB (fun _=>jhM) (@jlH M.fr) ha hb
theorem J9(ha:WT M a fa)(hb:WT M b fb):WE M (.BinOp a .FloorDiv b pos) (jg zx fa fb):=jbB (fun _=>jgS) (@jlu M.fr) ha hb
theorem j4(ha:WT M a fa)(hb:WT M b fb):WE M (.BinOp a .Mod b pos) (jg jF fa fb):=jbB (fun _=>jkp) (@jk0 M.fr) ha hb
theorem jdf(ha:WT M a fa)(hb:WT M b fb):WE M (.BinOp a .Pow b pos) (jg Jt fa fb):=jbB (fun _=>jji) (@jkY M.fr) ha hb
theorem jfS(ha:WT M a fa)(hb:WT M b fb):WO M (.BinOp a .Add b pos) (jg jbo fa fb):=let ⟨_,h1,h2⟩:=ha.h;let ⟨_,k1,k2⟩:=hb.h;⟨_,fun j=>jiU jh1 (h1 j) (k1 j),@jly M.fr _ _ _ _ _ _ (@jlr M.fr) h2 k2⟩
theorem jim(ha:WT M a fa):WE M (.UnaryOp .USub a pos) (ja4 fa):=let ⟨_,h1,h2⟩:=ha.h;⟨_,fun j=>jlO jjB (h1 j),@jlN M.fr _ _ h2⟩
theorem w_not(ha:WT M a fa):WE M (.UnaryOp .Not a pos) (jdS fa):=let ⟨_,h1,h2⟩:=ha.h;⟨_,fun j=>ji1 (h1 j),@jkH M.fr _ _ h2⟩
theorem jW(ha:WT M a fa)(hb:WT M b fb)(hs:jev b:=by exact fun _ _=>rfl):WE M (.Subscript a b pos) (jg jI fa fb):=let ⟨_,h1,h2⟩:=ha.h;let ⟨_,k1,k2⟩:=hb.h;⟨_,fun j=>jiu (r:=rIx M.K) (by rw[<-M.hK j];exact jgj) (h1 j) (k1 j) hs,@jhD M.fr _ _ _ _ _ _ (@jmy M.fr) h2 k2⟩
structure WCmp(M:Fm)(op:CmpOp)(f:D->D->Option D):Prop where
 h:∃r,(∀j,OpR (M.X j) (compareOp op) r)/\@ROk M.fr r f
theorem ji2:WCmp M .Lt dLt:=⟨_,fun _=>jk6,@jmo M.fr⟩
theorem jfI:WCmp M .LtE dLe:=⟨_,fun _=>jlQ,@jmu M.fr⟩
theorem jko:WCmp M .Gt dGt:=⟨_,fun _=>jkL,@jmh M.fr⟩
theorem Jx(hu:∀j,(M.X j).A.units+64<cLine):WCmp M .Eq zb:=⟨@jdN M.fr,fun j=>by have:=jgz (hu j);rw[M.hK j]at this;exact this,@jmn M.fr⟩
theorem jfi(hu:∀j,(M.X j).A.units+64<cLine):WCmp M .NotEq dNe:=⟨@jeb M.fr,fun j=>by have:=jfZ (hu j);rw[M.hK j]at this;exact this,@jmj M.fr⟩
variable{op op':CmpOp}{f f':D->D->Option D}
theorem jeU(ho:WCmp M op f)(ha:WT M a fa)(hb:WT M b fb)(hm:autoParam (behindInMarks op b=false) QA.a8._auto_1):WE M (.Compare a [op] [b] pos) (jg f fa fb):=let ⟨_,r1,r2⟩:=ho.h;let ⟨_,h1,h2⟩:=ha.h;let ⟨_,k1,k2⟩:=hb.h;⟨_,fun j=>jhn (r1 j) (h1 j) (k1 j) hm,@jhD M.fr _ _ _ _ _ _ r2 h2 k2⟩
theorem j7(ho:WCmp M op f)(ha:WT M a fa)(hb:WT M b fb)(hm:autoParam (behindInMarks op b=false) QA.a8._auto_1):WC M (.Compare a [op] [b] pos) (jZ (jg f fa fb)):=let ⟨_,r1,r2⟩:=ho.h;let ⟨_,h1,h2⟩:=ha.h;let ⟨_,k1,k2⟩:=hb.h;⟨_,fun j=>jhp (r1 j) (h1 j) (k1 j) hm,@ji0 M.fr _ _ (@EOk.t M.fr _ _ (@jhD M.fr _ _ _ _ _ _ r2 h2 k2))⟩
theorem jh2(ho:WCmp M op f)(ho':WCmp M op' f')(ha:WT M a fa)(hb:WT M b fb)(hc:WT M c fc)(hm:autoParam (lastMarks [op,op'] [b,c]=false) QA.a5._auto_1):WE M (.Compare a [op,op'] [b,c] pos) (zR f f' fa fb fc):=let ⟨_,r1,r2⟩:=ho.h;let ⟨_,r3,r4⟩:=ho'.h;let ⟨_,h1,h2⟩:=ha.h;let ⟨_,k1,k2⟩:=hb.h;let ⟨_,l1,l2⟩:=hc.h;⟨_,fun j=>jgL (r1 j) (r3 j) (h1 j) (k1 j) (l1 j) hm,@jhJ M.fr _ _ _ _ _ _ _ _ _ _ r2 r4 h2 k2 l2⟩
theorem jfU{bo:BoolOp}(h:WE M a fa):WE M (.BoolOp bo [a] pos) fa:=let ⟨_,h1,h2⟩:=h.h;⟨_,fun j=>jjl (h1 j),h2⟩
theorem jdm(ha:WT M a fa)(hb:WE M (.BoolOp .And (b::es) pos) fb):WE M (.BoolOp .And (a::b::es) pos) (jai fa fb):=let ⟨_,h1,h2⟩:=ha.h;let ⟨_,k1,k2⟩:=hb.h;⟨_,fun j=>ji4 (h1 j) (k1 j),@jla M.fr _ _ _ _ h2 k2⟩
theorem jmP(hc:WC M c ga)(ha:WE M a fa)(hb:WE M b fb):WE M (.IfExp c a b pos) (eIf ga fa fb):=let ⟨_,l1,l2⟩:=hc.h;let ⟨_,h1,h2⟩:=ha.h;let ⟨_,k1,k2⟩:=hb.h;⟨_,fun j=>jfW (l1 j) (h1 j) (k1 j),@jmw M.fr _ _ _ _ _ _ l2 h2 k2⟩
theorem jaA(h:WT M a fa)(he:∀j whole,isTrue a (M.X j).env whole=(do let v <- whole;standAt a.pos;holding [v] (truthy v)):=by intro _ _;rfl):WC M a (jZ fa):=let ⟨_,h1,h2⟩:=h.h;⟨_,fun j=>jkd (h1 j) (he j),@t_B M.fr _ _ h2⟩
theorem WW.toC(h:WW M a ga):WC M a ga:=let ⟨_,h1,h2⟩:=h.h;⟨_,fun j=>(h1 j).pt,h2⟩
theorem jck(h:WC M a ga):WW M (.BoolOp .And [a] pos) ga:=let ⟨_,h1,h2⟩:=h.h;⟨_,fun j=>jhB (h1 j),h2⟩
theorem jda(h:WC M a ga):WW M (.BoolOp .Or [a] pos) ga:=let ⟨_,h1,h2⟩:=h.h;⟨_,fun j=>jkv (h1 j),h2⟩
theorem jes(ha:WC M a ga)(hb:WW M (.BoolOp .And (b::es) pos) gb):WW M (.BoolOp .And (a::b::es) pos) (zZ ga gb):=let ⟨_,h1,h2⟩:=ha.h;let ⟨_,k1,k2⟩:=hb.h;⟨_,fun j=>jjG (h1 j) (k1 j),@jdn M.fr _ _ _ _ h2 k2⟩
theorem jfz(ha:WC M a ga)(hb:WW M (.BoolOp .Or (b::es) pos) gb):WW M (.BoolOp .Or (a::b::es) pos) (bOr ga gb):=let ⟨_,h1,h2⟩:=ha.h;let ⟨_,k1,k2⟩:=hb.h;⟨_,fun j=>jle (h1 j) (k1 j),@jme M.fr _ _ _ _ h2 k2⟩
theorem jaS(ha:WC M a ga):WC M (.UnaryOp .Not a pos) (Jr ga):=let ⟨_,h1,h2⟩:=ha.h;⟨_,fun j=>jjo (h1 j),@Js M.fr _ _ h2⟩
theorem jE:WA M [] ji:=⟨_,fun _=>JA,@a_nil M.fr⟩
theorem jd(ha:WE M e fe)(hs:WA M es fs)(h:jH e=false:=by rfl):WA M (e::es) (jb fe fs):=let ⟨_,h1,h2⟩:=ha.h;let ⟨_,k1,k2⟩:=hs.h;⟨_,fun j=>zw (h1 j) (k1 j) (jV h),@jjy M.fr _ _ _ _ h2 k2⟩
theorem jy:WAT M [] ji:=⟨_,fun _=>JA,@jjj M.fr⟩
theorem jr(ha:WT M e fe)(hs:WAT M es fs)(h:jH e=false:=by rfl):WAT M (e::es) (jb fe fs):=let ⟨_,h1,h2⟩:=ha.h;let ⟨_,k1,k2⟩:=hs.h;⟨_,fun j=>zw (h1 j) (k1 j) (jV h),@jhL M.fr _ _ _ _ h2 k2⟩
theorem jgH{k:Nat}(h:WA M es fs):WE M (.Tuple es k pos) (ZM fs):=let ⟨_,h1,h2⟩:=h.h;⟨_,fun j=>jkq (h1 j),@jkJ M.fr _ _ h2⟩
theorem Jb(h:WA M es fs):WO M (.List es pos) (qt fs):=let ⟨_,h1,h2⟩:=h.h;⟨_,fun j=>jgP (h1 j),@jk7 M.fr _ _ h2⟩
theorem jlC:WP M none pNo:=⟨_,fun _=>jhv,@jmt M.fr⟩
theorem jgx(h:WT M e fe):WP M (some e) (pSo fe):=let ⟨_,h1,h2⟩:=h.h;⟨_,fun j=>jhU (h1 j),@jmm M.fr _ _ h2⟩
theorem jlz{lo hi:Option Expr}{fl fh:ee->Option (Option Int)}{p2:Pos}(h:WT M e fe)(hl:WP M lo fl)(hh:WP M hi fh):WO M (.Subscript e (.Slice lo hi none p2) pos) (eSl fe fl fh):=let ⟨_,h1,h2⟩:=h.h;let ⟨_,k1,k2⟩:=hl.h;let ⟨_,l1,l2⟩:=hh.h;⟨_,fun j=>jfR (r:=jju M.K) (by rw[<-M.hK j];exact jhy) (h1 j) (k1 j) (l1 j),@jl7 M.fr _ _ _ _ _ _ h2 k2 l2⟩
structure WB(M:Fm)(g:Value)(f:List D->Option D):Prop where
 h:∃r,(∀j,CallR (M.X j) g r)/\@jb8 M.fr r f
structure WBO(M:Fm)(g:Value)(f:List D->Option (List D)):Prop where
 h:∃r,(∀j,CallR (M.X j) g r)/\@jeG M.fr r f
theorem tm:WB M (.builtin "len") jN:=⟨_,fun j=>by have:=jfL (X:=M.X j);rw[M.hK j]at this;exact this,@jkG M.fr⟩
theorem tL:WBO M (.type "list") Q3:=⟨_,fun j=>by have:=jb2 (X:=M.X j);rw[M.hK j]at this;exact this,@jkf M.fr⟩
theorem jgQ:WB M (.type "tuple") QH:=⟨_,fun j=>by have:=jbs (X:=M.X j);rw[M.hK j]at this;exact this,@ji5 M.fr⟩
theorem uN:WB M (.builtin "sum") jd6:=⟨_,fun j=>by have:=jgc (M.calm j);rw[M.hK j]at this;exact this,@jlL M.fr⟩
theorem uB:WB M (.builtin "all") jc2:=⟨_,fun j=>by have:=jfQ (M.calm j);rw[M.hK j]at this;exact this,@jlx M.fr⟩
theorem jg1:WB M (.builtin "min") Qw:=⟨_,fun j=>jfw (M.calm j),@jjq M.fr⟩
theorem jjY:WB M (.builtin "min") ZS:=⟨_,fun j=>je5 (M.calm j),@jj5 M.fr⟩
theorem uT:WB M (.type "int") jjt:=⟨_,fun _=>jfK,@jkK M.fr⟩
theorem jkt:WBO M (.builtin "sorted") jdo:=⟨_,fun j=>by have:=jd1 (M.calm j);rw[M.hK j]at this;exact this,@jjO M.fr⟩
variable{id T:String}{f1:List D->Option D}{f2:List D->Option (List D)}
theorem qA(hc:WB M (.builtin id) f1)(hg:∀j,Gl (M.X j) x)(hm:∀j,(M.X j).mg x=none)(hv:bootBuiltins x=some (.builtin id))(ha:WAT M (e::es) fs)(hn:x ≠ "__name__":=by decide)(hdb:(x == ("__debug__":Str))=false:=by decide)
 (h:jH e=false:=by rfl) (h':(es.all fun e=>!jH e)=true:=by rfl):WE M (.Call (.Name x p) (e::es) [] pos) (jf f1 fs):=
 let ⟨_,r1,r2⟩:=hc.h;let ⟨_,h1,h2⟩:=ha.h;⟨_,fun j=>JY (r1 j) (hg j) (hm j) hv (h1 j) hn hdb (jV h) (qw h'),@jll M.fr _ _ _ _ r2 h2⟩
theorem jkS(hc:WBO M (.builtin id) f2)(hg:∀j,Gl (M.X j) x)(hm:∀j,(M.X j).mg x=none)(hv:bootBuiltins x=some (.builtin id))(ha:WAT M (e::es) fs)(hn:x ≠ "__name__":=by decide)(hdb:(x == ("__debug__":Str))=false:=by decide)
 (h:jH e=false:=by rfl) (h':(es.all fun e=>!jH e)=true:=by rfl):WO M (.Call (.Name x p) (e::es) [] pos) (jf f2 fs):=
 let ⟨_,r1,r2⟩:=hc.h;let ⟨_,h1,h2⟩:=ha.h;⟨_,fun j=>JY (r1 j) (hg j) (hm j) hv (h1 j) hn hdb (jV h) (qw h'),@jiA M.fr _ _ _ _ r2 h2⟩
theorem jk9(hc:WB M (.type T) f1)(hg:∀j,Gl (M.X j) x)(hm:∀j,(M.X j).mg x=none)(hv:bootBuiltins x=some (.type T))(ha:WAT M (e::es) fs)(hn:x ≠ "__name__":=by decide)(hdb:(x == ("__debug__":Str))=false:=by decide)
 (h:jH e=false:=by rfl) (h':(es.all fun e=>!jH e)=true:=by rfl):WE M (.Call (.Name x p) (e::es) [] pos) (jf f1 fs):=
 let ⟨_,r1,r2⟩:=hc.h;let ⟨_,h1,h2⟩:=ha.h;⟨_,fun j=>Zz (r1 j) (hg j) (hm j) hv (h1 j) hn hdb (jV h) (qw h'),@jll M.fr _ _ _ _ r2 h2⟩
theorem jio(hc:WBO M (.type T) f2)(hg:∀j,Gl (M.X j) x)(hm:∀j,(M.X j).mg x=none)(hv:bootBuiltins x=some (.type T))(ha:WAT M (e::es) fs)(hn:x ≠ "__name__":=by decide)(hdb:(x == ("__debug__":Str))=false:=by decide)
 (h:jH e=false:=by rfl) (h':(es.all fun e=>!jH e)=true:=by rfl):WO M (.Call (.Name x p) (e::es) [] pos) (jf f2 fs):=
 let ⟨_,r1,r2⟩:=hc.h;let ⟨_,h1,h2⟩:=ha.h;⟨_,fun j=>Zz (r1 j) (hg j) (hm j) hv (h1 j) hn hdb (jV h) (qw h'),@jiA M.fr _ _ _ _ r2 h2⟩
theorem Zd{y:Str}{p':Pos}(hg:∀j,Gl (M.X j) "isinstance")(hm:∀j,(M.X j).mg "isinstance"=none)(hg':∀j,Gl (M.X j) y)(hm':∀j,(M.X j).mg y=none)(hv':bootBuiltins y=some (.type T))(hT:okT T=true)(ha:WT M a fa)
 (hn:y ≠ "__name__":=by decide) (hdb:(y == ("__debug__":Str))=false:=by decide) (h:jH a=false:=by rfl):WE M (.Call (.Name "isinstance" p) [a,.Name y p'] [] pos) (Jl T fa):=
 let ⟨_,h1,h2⟩:=ha.h
 ⟨_,fun j=>JY (r:=fun xs H Q=>∃x T b,xs=[x,.ty T]/\IsT M.K H x T b/\Q (.bl b) H) (by have:=jcI (X:=M.X j);rw[M.hK j]at this;exact this) (hg j) (hm j) boot_isinstance (zw (h1 j) (zw (jln (hg' j) (hm' j) hv' hn hdb) JA (jV rfl)) (jV h)) (by decide) (by decide) (jV h) (qw rfl),@jlv M.fr T _ _ h2 hT⟩
theorem jjE{p' pos':Pos}(hg:∀j,Gl (M.X j) "sorted")(hm:∀j,(M.X j).mg "sorted"=none)(hg':∀j,Gl (M.X j) "set")(hm':∀j,(M.X j).mg "set"=none)(ha:WAT M [e] fs)(h:jH e=false:=by rfl)(sub:∀i j,(M.X i).prog=(M.X j).prog ∧ (M.X i).w=(M.X j).w)(j0:M.ι):
 WO M (.Call (.Name "sorted" p) [.Call (.Name "set" p') [e] [] pos'] [] pos) (jdy fs):=
 let ⟨ta,h1,h2⟩:=ha.h
 ⟨_,fun j=>by
  have r1:=jd0 (X:=M.X j) (M.calm j);have r2:=jaJ (X:=M.X j) (M.calm j);have eS:∀a ns,jcf (M.X j) a ns=jcf (M.X j0) a ns:=fun a ns=>by unfold jcf;rw[(sub j j0).1,(sub j j0).2]
  rw[M.hK j]at r1;simp only[eS]at r1 r2;exact JY r2 (hg j) (hm j) boot_sorted (zw (Zz r1 (hg' j) (hm' j) boot_set (h1 j) (by decide) (by decide) (jV h) (qw rfl)) JA (jV rfl)) (by decide) (by decide) (jV rfl) (qw rfl),@jj9 M.fr (M.X j0) _ _ h2⟩
theorem jml{p1 p2 pos1 pos2:Pos}(hg1:∀j,Gl (M.X j) "list")(hm1:∀j,(M.X j).mg "list"=none)(hg2:∀j,Gl (M.X j) "zip")(hm2:∀j,(M.X j).mg "zip"=none)(ha:WAT M [a,b] fs)(h:jH a=false:=by rfl)(h':jH b=false:=by rfl):
 WO M (.Call (.Name "list" p1) [.Call (.Name "zip" p2) [a,b] [] pos2] [] pos1) (eLZ fs):=
 let ⟨_,h1,h2⟩:=ha.h
 ⟨jba M.K _,fun j=>by have:=jdR (p1:=p1) (p2:=p2) (pos1:=pos1) (pos2:=pos2) (M.calm j) (hg1 j) (hm1 j) (hg2 j) (hm2 j) (h1 j) (by rw[jV h,jV h'];rfl) (by rw[jV h'];rfl) (by rw[jV rfl];rfl);rw[M.hK j]at this;exact this,@jl8 M.fr _ _ h2⟩
theorem jkn{k:Nat}{g:Addr}{fd:FuncData}{ps:List Str}(F:∀j,FnOk (M.X j).prog (M.X j).w (M.X j).K (M.X j).mg (M.X j).base JV k g fd ps (@spS M.fr f1))(hr:∀j,Room k (M.X j).A)(hg:∀j,Gl (M.X j) x)(hm:∀j,(M.X j).mg x=some (.ref g))(hk:∀j,PySem.W.keepIn (M.X j).K (.ref g)=true)
 (hb:∀j,Binds (M.X j).K fd ps []) (ha:WA M (e::es) fs) (hdb:(x == ("__debug__":Str))=false:=by decide) (h:jH e=false:=by rfl) (h':(es.all fun e=>!jH e)=true:=by rfl):WE M (.Call (.Name x p) (e::es) [] pos) (jf f1 fs):=
 let ⟨_,h1,h2⟩:=ha.h;⟨_,fun j=>jal (F j) (hr j) (hg j) (hm j) (hk j) (hb j) .nil jeI (h1 j) hdb (jV h) (qw h'),@jjI M.fr _ _ f1 E0 h2⟩
theorem jh5{k:Nat}{g:Addr}{fd:FuncData}{ps:List Str}(F:∀j,FnOk (M.X j).prog (M.X j).w (M.X j).K (M.X j).mg (M.X j).base JV k g fd ps (@spO M.fr f2))(hr:∀j,Room k (M.X j).A)(hg:∀j,Gl (M.X j) x)(hm:∀j,(M.X j).mg x=some (.ref g))(hk:∀j,PySem.W.keepIn (M.X j).K (.ref g)=true)
 (hb:∀j,Binds (M.X j).K fd ps []) (ha:WA M (e::es) fs) (hdb:(x == ("__debug__":Str))=false:=by decide) (h:jH e=false:=by rfl) (h':(es.all fun e=>!jH e)=true:=by rfl):WO M (.Call (.Name x p) (e::es) [] pos) (jf f2 fs):=
 let ⟨_,h1,h2⟩:=ha.h;⟨_,fun j=>jal (F j) (hr j) (hg j) (hm j) (hk j) (hb j) .nil jeI (h1 j) hdb (jV h) (qw h'),@jhj M.fr _ _ f2 E0 h2⟩
variable{m:D->ee->Option ee}{ms:List D->ee->Option ee}{tg iter:Expr}
theorem Je{i:Nat}(hN:∀j,(M.X j).N.Nodup)(hi:M.N[i]?=some x)(hx:∀j,Loc (M.X j).env.scope x)(hf:∀j,(M.X j).fn x=true\/(M.X j).env.scope.names.lookup x=some .local):WG M (.Name x pos) (jT i):=⟨_,fun j=>jcA (hN j) (by rw[M.hN j];exact hi) (hx j) (hf j),@jed M.fr i⟩
theorem jjM:WGs M [] jaj:=⟨_,fun _=>jeH,@jiy M.fr⟩
theorem je0(h1:WG M e m)(h2:WGs M es ms)(hs:∀j,(assignEach (e::es) (M.X j).env).map (·.2)=assign e (M.X j).env::(assignEach es (M.X j).env).map (·.2):=by intro _;rfl):WGs M (e::es) (zd m ms):=let ⟨_,a1,a2⟩:=h1.h;let ⟨_,b1,b2⟩:=h2.h;⟨_,fun j=>jdx (a1 j) (b1 j) (hs j),@jgq M.fr _ _ _ _ a2 b2⟩
theorem jiY{k n:Nat}(h:WGs M es ms)(hn:∀j,(assignEach es (M.X j).env).length=n:=by intro _;rfl)(hst:∀j,(assignEach es (M.X j).env).findIdx? (·.1)=none:=by intro _;rfl):WG M (.Tuple es k pos) (ZO n ms):=let ⟨_,a1,a2⟩:=h.h;⟨jhO M.K n _,fun j=>by have:=jg4 (k:=k) (pos:=pos) (M.calm j) (a1 j) (hn j) (hst j);rw[M.hK j]at this;exact this,@jif M.fr n _ _ a2⟩
theorem WI.toT{f:ee->Option (List D)}(h:WI M tg e f):WIT M tg e f:=let ⟨_,h1,h2⟩:=h.h;⟨_,h1,@IOk.t M.fr _ _ h2⟩
theorem jhg(h:WE M e fe):WI M tg e (zq fe):=let ⟨_,h1,h2⟩:=h.h;⟨jc9 M.K _,fun j=>by have:=jeE (tg:=tg) (h1 j);rw[M.hK j]at this;exact this,@jjd M.fr _ _ h2⟩
theorem J6(h:WT M e fe):WIT M tg e (zq fe):=let ⟨_,h1,h2⟩:=h.h;⟨jc9 M.K _,fun j=>by have:=jeE (tg:=tg) (h1 j);rw[M.hK j]at this;exact this,@jhe M.fr _ _ h2⟩
theorem JB(hg:∀j,Gl (M.X j) "range")(hm:∀j,(M.X j).mg "range"=none)(ha:WAT M [a] fs)(h:jH a=false:=by rfl):WI M tg (.Call (.Name "range" p) [a] [] pos) (Qc fs):=let ⟨_,h1,h2⟩:=ha.h;⟨_,fun j=>jfu (hg j) (hm j) (h1 j) (by rw[jV h];rfl),@jjS M.fr _ _ h2⟩
theorem jeD{ts:List Expr}{k:Nat}{tp:Pos}(hg:∀j,Gl (M.X j) "zip")(hm:∀j,(M.X j).mg "zip"=none)(ha:WAT M [a,b] fs)(h:jH a=false:=by rfl)(h':jH b=false:=by rfl):WIT M (.Tuple ts k tp) (.Call (.Name "zip" p) [a,b] [] pos) (Zc fs):=let ⟨_,h1,h2⟩:=ha.h;⟨jjJ M.K _,fun j=>by have:=jjz (elts:=ts) (x1:=k) (tpos:=tp) (p:=p) (pos:=pos) (hg j) (hm j) (h1 j) (by rw[jV h,jV h'];rfl) (by rw[jV h'];rfl);rw[M.hK j]at this;exact this,@ji8 M.fr _ _ h2⟩
variable{st:Stmt}{sts body:List Stmt}{F F' B:FS}
theorem qp:WSs M [] j2:=⟨_,fun _=>jeR,@jje M.fr⟩
theorem jA(h:WS M st F):WSs M [st] F:=let ⟨_,h1,h2⟩:=h.h;⟨_,fun j=>jan (h1 j),h2⟩
theorem jm(h:WS M st F)(h':WSs M sts F'):WSs M (st::sts) (jn F F'):=let ⟨_,h1,h2⟩:=h.h;let ⟨_,k1,k2⟩:=h'.h;⟨_,fun j=>Q4 (h1 j) (k1 j),@jlw M.fr _ _ _ _ h2 k2⟩
theorem ql(h:WE M e fe):WS M (.Return (some e) pos) (qO fe):=let ⟨_,h1,h2⟩:=h.h;⟨_,fun j=>ja2 (h1 j),@jkT M.fr _ _ h2⟩
theorem jcr(h:WO M e fo):WS M (.Return (some e) pos) (J5 fo):=let ⟨_,h1,h2⟩:=h.h;⟨_,fun j=>ja2 (h1 j),@jjr M.fr _ _ h2⟩
theorem jek(i:Nat)(hN:M.N[i]?=some x:=by rfl)(hv:autoParam (∀j,Vis (M.X j).env.scope x) QA.a6._auto_1)(hd:(x == ("__debug__":Str))=false:=by decide)
 (hcd:(x == ("__classdict__":Str))=false:=by decide):WS M (.Return (some (.Name x p)) pos) (ja6 i):=⟨_,fun j=>ja2 (qN (by rw[M.hN j];exact hN) (hv j) hd hcd),@jjm M.fr i⟩
theorem zF(hc:WC M c ga)(h:WSs M sts F)(h':WSs M body F'):WS M (.If c sts body pos) (JR ga F F'):=let ⟨_,l1,l2⟩:=hc.h;let ⟨_,h1,h2⟩:=h.h;let ⟨_,k1,k2⟩:=h'.h;⟨_,fun j=>jiL (l1 j) (h1 j) (k1 j),@jma M.fr _ _ _ _ _ _ l2 h2 k2⟩
theorem jJ{i:Nat}{pos':Pos}(h:WE M e fe)(hN:∀j,(M.X j).N.Nodup)(hi:M.N[i]?=some x)(hx:∀j,Loc (M.X j).env.scope x)(hf:∀j,(M.X j).fn x=true\/(M.X j).env.scope.names.lookup x=some .local)(hs:∀j,swapsWith e (some (.Name x pos')) pos.line (M.X j).env=pure false:=by intro _;rfl):
 WS M (.Assign [.Name x pos'] e pos) (jD i fe):=let ⟨_,h1,h2⟩:=h.h;⟨_,fun j=>ZD (hN j) (by rw[M.hN j];exact hi) (hx j) (h1 j) (hs j) (hf j),@jiB M.fr _ _ i h2⟩
theorem jca{i:Nat}{pos':Pos}(h:WO M e fo)(hN:∀j,(M.X j).N.Nodup)(hi:M.N[i]?=some x)(hx:∀j,Loc (M.X j).env.scope x)(hf:∀j,(M.X j).fn x=true\/(M.X j).env.scope.names.lookup x=some .local)(hs:∀j,swapsWith e (some (.Name x pos')) pos.line (M.X j).env=pure false:=by intro _;rfl):
 WS M (.Assign [.Name x pos'] e pos) (Qb i fo):=let ⟨_,h1,h2⟩:=h.h;⟨_,fun j=>ZD (hN j) (by rw[M.hN j];exact hi) (hx j) (h1 j) (hs j) (hf j),@jkx M.fr _ _ i h2⟩
theorem jl6(h:WE M e fe)(hg:WG M tg m)(hs:∀j,swapsWithSole [tg] e pos.line (M.X j).env=pure false:=by intro _;rfl)(hw:∀j,swappedStores [tg] e (M.X j).env=pure none:=by intro _;rfl)(h1:∀j,(assignEach [tg] (M.X j).env).map (·.2)=[assign tg (M.X j).env]:=by intro _;rfl):
 WS M (.Assign [tg] e pos) (jfP m fe):=let ⟨_,a1,a2⟩:=h.h;let ⟨_,b1,b2⟩:=hg.h;⟨_,fun j=>jdM (a1 j) (b1 j) (hs j) (hw j) (h1 j),@jkN M.fr _ _ _ _ b2 a2⟩
theorem jch{i:Nat}{pos':Pos}{y:Str}{py:Pos}(hN:M.N[i]?=some y)(hv:∀j,Vis (M.X j).env.scope y)(hk:WE M b fb)(h:WE M e fe)(hd:(y == ("__debug__":Str))=false:=by decide)(hcd:(y == ("__classdict__":Str))=false:=by decide)
 (ha:autoParam (∀j v,assign (.Subscript (.Name y py) b pos') (M.X j).env v=(do
  let ov <- holding [v] (eval (.Name y py) (M.X j).env)
  let iv <- holding [v,ov] (eval b (M.X j).env)
  standAt pos'
  holding [v,ov,iv] (setItem ov iv v)
  release [v,ov,iv] [])) QA.a9._auto_1)
 (hs:∀j,swapsWithSole [.Subscript (.Name y py) b pos'] e pos.line (M.X j).env=pure false:=by intro _;rfl) (hw:∀j,swappedStores [.Subscript (.Name y py) b pos'] e (M.X j).env=pure none:=by intro _;rfl)
 (h1:∀j,(assignEach [.Subscript (.Name y py) b pos'] (M.X j).env).map (·.2)=[assign (.Subscript (.Name y py) b pos') (M.X j).env]:=by intro _;rfl):WS M (.Assign [.Subscript (.Name y py) b pos'] e pos) (Jz i fb fe):=
 let ⟨_,a1,a2⟩:=h.h;let ⟨_,b1,b2⟩:=hk.h;⟨_,fun j=>jdM (a1 j) (jgv (qN (by rw[M.hN j];exact hN) (hv j) hd hcd) (b1 j) jcK (ha j)) (hs j) (hw j) (h1 j),@jlE M.fr _ _ _ _ i b2 a2⟩
theorem jaO(i:Nat)(h:WS M st F):WS M st (QP i F):=let ⟨_,h1,h2⟩:=h.h;⟨_,h1,@jlM M.fr _ _ i h2⟩
theorem QO(hi:WI M tg iter fo)(hg:WG M tg m)(hb:WSs M body B)(hp:autoParam (∀j,PassesOwn (model (M.X j).prog (M.X j).w) (M.X j).A (M.X j).env (M.X j).xe) QA.a10._auto_1)(hs:∀j x,foldedSetIterable iter (M.X j).env x=pure x:=by intro _ _;rfl):WS M (.For tg iter body [] pos) (JI fo m B):=let ⟨_,i1,i2⟩:=hi.h;let ⟨_,g1,g2⟩:=hg.h;let ⟨_,b1,b2⟩:=hb.h;⟨_,fun j=>jj6 (hp j) (M.calm j) (i1 j) (g1 j) (b1 j) (hs j),@jkV M.fr _ _ _ _ _ _ i2 g2 b2⟩
theorem jaB{i:Nat}{y:Str}{py:Pos}(hN:M.N[i]?=some y)(hv:∀j,Vis (M.X j).env.scope y)(h:WE M e fe)(hd:(y == ("__debug__":Str))=false:=by decide)(hcd:(y == ("__classdict__":Str))=false:=by decide)
 (hbase:∀j,attributeBase (.Name y py) "append" (M.X j).env (eval (.Name y py) (M.X j).env)=eval (.Name y py) (M.X j).env:=by intro _;rfl) (hline:(apos.endLine == cpos.line)=true:=by rfl) (h':jH e=false:=by rfl)
 (hs:∀j,swapsWith (.Call (.Attribute (.Name y py) "append" apos) [e] [] cpos) none pos.line (M.X j).env=pure false:=by intro _;rfl):WS M (.Expr (.Call (.Attribute (.Name y py) "append" apos) [e] [] cpos) pos) (JU i fe):=
 let ⟨_,a1,a2⟩:=h.h
 ⟨_,fun j=>Zr (te:=tBM M.K "list" JF _ _) (by have:=jei (X:=M.X j) (apos:=apos) (cpos:=cpos) yD Kj Ki ZG (qN (i:=i) (pos:=py) (by rw[M.hN j];exact hN) (hv j) hd hcd) (zw (a1 j) JA (jV h')) (hbase j) (by rw[jV h'];rfl) hline (jV h') (qw rfl);rw[M.hK j]at this;exact this) (hs j),@jlc M.fr _ _ i a2⟩
def Fm.blk(M:Fm)(N:List Str)(scope:Scope):Fm:=⟨M.ι×Addr×Shared×Hp×List Addr,fun i=>(M.X i.1).blk N scope i.2.1 i.2.2.1 i.2.2.2.1 i.2.2.2.2,M.K,N,fun i=>M.hK i.1,fun _=>rfl,fun i=>M.calm i.1⟩
variable{ifs:List Expr}{scope sc:Scope}{Lc Fn:List Str}{ix:List Nat}
theorem Qh{i n:Nat}(hN:∀j,(M.X j).N.Nodup)(hi:M.N[i]?=some x)(hn:i<n)(hx:∀j,Loc (M.X j).env.scope x)(hf:∀j,(M.X j).fn x=true\/(M.X j).env.scope.names.lookup x=some .local):WL M n (.Name x pos) (jT i):=⟨_,fun j=>jcA (hN j) (by rw[M.hN j];exact hi) (hx j) (hf j),@jed M.fr i,jfx hn⟩
def jk5(n:Nat)(t:TGs):Prop:=(∀xs σ H Q,t xs σ H Q->t xs σ H fun σ2 H2=>Q σ2 H2/\σ2.length=σ.length/\∀j,n<=j->σ2[j]?=σ[j]?)/\∀xs σ H (Q Q':St->Hp->Prop),(∀σ H,Q σ H->Q' σ H)->t xs σ H Q->t xs σ H Q'
structure WLs(M:Fm)(n:Nat)(tg:List Expr)(m:List D->ee->Option ee):Prop where
 h:∃t:TGs,(∀i,PGs (M.X i) tg t)/\@jfy M.fr t m/\jk5 n t
theorem jg5{n:Nat}:WLs M n [] jaj:=⟨jkb,fun _=>jeH,@jiy M.fr,fun xs σ H Q h=>⟨h.1,h.2,rfl,fun _ _=>rfl⟩,fun xs σ H Q Q' hq h=>⟨h.1,hq _ _ h.2⟩⟩
theorem jav{i n:Nat}(hN:∀j,(M.X j).N.Nodup)(hi:M.N[i]?=some x)(hn:i<n)(hx:∀j,Loc (M.X j).env.scope x)(hf:∀j,(M.X j).fn x=true\/(M.X j).env.scope.names.lookup x=some .local)(h:WLs M n es ms)
 (hs:∀j,(assignEach (.Name x pos::es) (M.X j).env).map (·.2)=assign (.Name x pos) (M.X j).env::(assignEach es (M.X j).env).map (·.2):=by intro _;rfl):WLs M n (.Name x pos::es) (zd (jT i) ms):=
 let ⟨_,b1,b2,b3,b4⟩:=h.h
 ⟨_,fun j=>jdx (jcA (hN j) (by rw[M.hN j];exact hi) (hx j) (hf j)) (b1 j) (hs j),@jgq M.fr _ _ _ _ (@jed M.fr i) b2,fun xs σ H Q ⟨v,r,e,q⟩=>⟨v,r,e,b4 _ _ _ _ _ (fun σ2 H2 ⟨q1,q2,q3⟩=>⟨q1,by rw[q2];simp,fun k hk=>by rw[q3 k hk,Yh (by omega)]⟩) (b3 _ _ _ _ q)⟩,
  fun xs σ H Q Q' hq ⟨v,r,e,q⟩=>⟨v,r,e,b4 _ _ _ _ _ hq q⟩⟩
theorem jf1{k n l:Nat}(h:WLs M n es ms)(hn:∀j,(assignEach es (M.X j).env).length=l:=by intro _;rfl)(hst:∀j,(assignEach es (M.X j).env).findIdx? (·.1)=none:=by intro _;rfl):WL M n (.Tuple es k pos) (ZO l ms):=let ⟨_,a1,a2,a3,_⟩:=h.h;⟨jhO M.K l _,fun j=>by have:=jg4 (k:=k) (pos:=pos) (M.calm j) (a1 j) (hn j) (hst j);rw[M.hK j]at this;exact this,@jif M.fr l _ _ a2,fun x σ H Q ⟨a,xs,e,hq,hl,q⟩=>⟨a,xs,e,hq,hl,a3 _ _ _ _ q⟩⟩
theorem JH:WTs M [] (fun _=>some true):=⟨_,fun _=>jhw,@jka M.fr⟩
theorem jhE(h:WC M e ga):WTs M [e] ga:=let ⟨_,h1,h2⟩:=h.h;⟨_,fun j=>jhA (h1 j),h2⟩
theorem jfD(hsc:∀j,(M.X j).env.scope=sc)(ok:LcOk sc M.N scope Fn ix)(hi:WIT M tg iter fo)(hg:WL (M.blk (Lc++Fn) scope) Lc.length tg m)(ht:WTs (M.blk (Lc++Fn) scope) ifs ga)(he:WE (M.blk (Lc++Fn) scope) e fe)
 (hs:∀j x,foldedSetIterable iter (M.X j).env x=pure x:=by intro _ _;rfl):WO M (.ListComp e [⟨tg,iter,ifs,0⟩] scope pos) (eLC fo m ga fe Lc.length ix):=
 let ⟨_,i1,i2⟩:=hi.h;let ⟨_,g1,g2,g3⟩:=hg.h;let ⟨_,t1,t2⟩:=ht.h;let ⟨_,e1,e2⟩:=he.h
 ⟨_,fun j=>jjg (hsc j) (M.hN j) (M.calm j) ok (i1 j) (fun C s H fp=>g1 (j,C,s,H,fp)) g3 (fun C s H fp=>t1 (j,C,s,H,fp)) (fun C s H fp=>e1 (j,C,s,H,fp)) (hs j),@jls M.fr _ _ _ _ _ _ _ _ _ _ i2 g2 t2 e2⟩
theorem jir{i:Nat}{y:Str}{py spos:Pos}(hNd:∀j,(M.X j).N.Nodup)(hy:M.N[i]?=some y)(hyl:∀j,(M.X j).env.scope.names.lookup y=some .local)(hsc:∀j,(M.X j).env.scope=sc)(ok:LcOk sc M.N scope Fn ix)(hi:WIT M tg iter fo)(hg:WL (M.blk (Lc++Fn) scope) Lc.length tg m)(ht:WTs (M.blk (Lc++Fn) scope) ifs ga)(he:WE (M.blk (Lc++Fn) scope) e fe)
 (hsw:∀j,swapsWith (.ListComp e [⟨tg,iter,ifs,0⟩] scope pos) (some (.Name y py)) spos.line (M.X j).env=pure true:=by intro _;rfl) (hs:∀j x,foldedSetIterable iter (M.X j).env x=pure x:=by intro _ _;rfl):WS M (.Assign [.Name y py] (.ListComp e [⟨tg,iter,ifs,0⟩] scope pos) spos) (jD i (jM (eLC fo m ga fe Lc.length ix))):=
 let ⟨_,i1,i2⟩:=hi.h;let ⟨_,g1,g2,g3⟩:=hg.h;let ⟨_,t1,t2⟩:=ht.h;let ⟨_,e1,e2⟩:=he.h
 ⟨_,fun j=>jdU (hNd j) (by rw[M.hN j];exact hy) (hyl j) (hsc j) (M.hN j) (M.calm j) ok (i1 j) (fun C s H fp=>g1 (j,C,s,H,fp)) g3 (fun C s H fp=>t1 (j,C,s,H,fp)) (fun C s H fp=>e1 (j,C,s,H,fp)) (hsw j) (hs j),@jiB M.fr _ _ i (@EOkO.e M.fr _ _ (@jls M.fr _ _ _ _ _ _ _ _ _ _ i2 g2 t2 e2))⟩
end
section
variable{P:Program}{w:World}{K:PySem.W.Frag}{mg:Str->Option Value}{base:Heap}{y qual:Str}{st:Stmt}{f:Addr}{fd:FuncData}{N ps:List Str}{k a n:Nat}{m:FS}
abbrev jeV(P:Program)(w:World)(K:PySem.W.Frag)(mg:Str->Option Value)(base:Heap)(N:List Str)(qual:Str)(scope:Scope)(f:Addr)(cdv:Value)(A:Around)(outer:List PySem.Env)(s:Shared)(H:Hp)(E:XK):Fm:=⟨Unit,fun _=>(jdX JV P w K mg base N qual scope f cdv A outer s H E).nox,K,N,fun _=>rfl,fun _=>rfl,fun _=>rfl⟩
theorem Qt(F:Fun K y qual st f fd)(S:FnScope N ps (jh st))(ha:a=ps.length)(hn:N.length=n)
 (h:∀(cdv:Value) (A:Around) (outer:List PySem.Env) (s:Shared) (H:Hp) (E:XK),Room k (A.deeper (envOfC qual (jh st) s.heap.objs.size f cdv))->WSs (jeV P w K mg base N qual (jh st) f cdv A outer s H E) (jP st) m) :
 FnOk P w K mg base JV (k+1) f fd ps (@spS ⟨K⟩ (Ja a n m)):=by
 letI:Fr:=⟨K⟩
 refine F.ok S (fun vs H Q E h=>(jlh h).trans ha) (fun cdv A outer s H vs Q E hr q=>?_);obtain⟨t,h1,h2⟩:=(h cdv A outer s H E hr).h;exact⟨t,h1 (),jjC h2 (by rw[<-hn]) q⟩
theorem jdA(F:Fun K y qual st f fd)(S:FnScope N ps (jh st))(ha:a=ps.length)(hn:N.length=n)
 (h:∀(cdv:Value) (A:Around) (outer:List PySem.Env) (s:Shared) (H:Hp) (E:XK),Room k (A.deeper (envOfC qual (jh st) s.heap.objs.size f cdv))->WSs (jeV P w K mg base N qual (jh st) f cdv A outer s H E) (jP st) m) :
 FnOk P w K mg base JV (k+1) f fd ps (@spO ⟨K⟩ (jae a n m)):=by
 letI:Fr:=⟨K⟩
 refine F.ok S (fun vs H Q E h=>(jk1 h).trans ha) (fun cdv A outer s H vs Q E hr q=>?_);obtain⟨t,h1,h2⟩:=(h cdv A outer s H E hr).h;exact⟨t,h1 (),jiX h2 (by rw[<-hn]) q⟩
end
section
variable[Fr]{G H:Hp}
def EOkD(t:TE)(f:ee->Option (List Int×List D)):Prop:=∀G0 H0 G H σ ρ (Q:VK) p,EnvOk G0 H0 G H σ ρ->f ρ=some p->
 (∀a vs G' H',Ext G H G' H'->H a=none->G' a=none->H' a=some (.dK (je1 p.1 vs))->p.1.length=vs.length->Reps G' vs p.2->Q (.ref a) H')->t σ H Q
def tFz(t:TE):TE:=fun σ H Q=>t σ H fun v H1=>∃a kvs,v=.ref a/\H1 a=some (.dK kvs)/\∀o,Q v (upd H1 a (.frz o (.dK kvs)))
def jlT(f:ee->Option (List Int×List D)):ee->Option D:=fun ρ=>(f ρ).map fun p=>.dic p.1 p.2
theorem EOkD.e{t:TE}{f:ee->Option (List Int×List D)}(h:EOkD t f):EOk (tFz t) (jlT f):=fun G0 H0 G H σ ρ Q d e q k=>by
 unfold jlT at q;cases z:f ρ with
 | none=>rw[z]at q;cases q
 | some ds=>rw[z]at q;cases q;refine h G0 H0 G H σ ρ _ ds e z fun a vs G' H' x hn hg ha hl r=>⟨a,_,rfl,ha,fun o=>?_⟩;have x':Ext G H G' (upd H' a (.frz o (.dK (je1 ds.1 vs)))):=⟨fun b u w=>by rw[ju (jz w hn)];exact x.hh b u w,x.gg,fun b u w=>by rw[ju (jz w hg)];exact x.gh b u w,x.nw⟩;exact k _ _ _ (x'.freeze hn hg jw) (.dic jw hl (r.mono (.upd hg)))
end
section
variable[Fr]
def EOkOO(t:TE)(f:ee->Option (List (List D))):Prop:=∀G0 H0 G H σ ρ (Q:VK) dss,EnvOk G0 H0 G H σ ρ->f ρ=some dss->
 (∀a bs G' H',Ext G H G' H'->(∀b∈a::bs,H b=none/\G' b=none)->(a::bs).Nodup->H' a=some (.lst (bs.map V.ref))->Rows G' H' bs dss->Q (.ref a) H')->t σ H Q
theorem Rows.snoc{G H:Hp}{bs:List Addr}{dss:List (List D)}{b:Addr}{us:List V}{ds:List D}(h:Rows G H bs dss)(hb:H b=some (.lst us))(r:Reps G us ds):Rows G H (bs++[b]) (dss++[ds]):=by
 induction h with
 | nil=>exact .cons hb r .nil
 | cons h q t ih=>exact .cons h q ih
def ZH(i:Nat)(fo:ee->Option (List (List D))):FS:=fun ρ=>match fo ρ with
 | some dss=>.next (ρ.set i (.oo dss))
 | none=>.fail
theorem jhx{te:TE}{fo:ee->Option (List (List D))}(i:Nat)(h:EOkOO te fo):QK (ZQ te (JS i)) (ZH i fo):=fun G0 H0 G H σ ρ E e q=>by
 unfold ZH at q;split at q
 . rename_i dss z;exact h _ _ _ _ _ _ _ _ e z fun a bs G' H' x hn nd ha r=>q G' H' _ x.gg (e.setOO x hn nd ha r)
 . exact q.elim
def asI:D->Option Int
 | .int i=>some i
 | _=>none
def jfA:Slot->Option (List (List D))
 | .oo d=>some d
 | _=>none
theorem jip{o:Option D}{i:Int}(h:o.bind asI=some i):o=some (.int i):=by obtain⟨d,h1,h2⟩:=bind_some h;cases d <;> cases h2;exact h1
theorem jaL{o:Option Slot}{d:List (List D)}(h:o.bind jfA=some d):o=some (.oo d):=by obtain⟨s,h1,h2⟩:=bind_some h;cases s <;> cases h2;exact h1
end
structure WOO(M:Fm)(e:Expr)(f:ee->Option (List (List D))):Prop where
 h:∃t,(∀i,PE (M.X i) e t)/\@EOkOO M.fr t f
abbrev TLk:=V->TT
end L2
namespace QS
open PySem.W PyProof.Rows
def ans{α:Type}(n:Nat)(K:Nat->Int):KasT α->(α->Prop)->Prop
 | .ret a,Q=>Q a
 | .ask i j k,Q=>i<n/\j<n/\ans n K (k (decide (K i<K j))) Q
structure PA(n:Nat)(p:Array Nat):Prop where
 size:p.size=n
 perm:p.toList.Perm (List.range n)
def key(K:Nat->Int)(p:Array Nat)(i:Nat):Int:=K (p.getD i 0)
section
variable{n:Nat}{K:Nat->Int}{p:Array Nat}
def Ris(K:Nat->Int)(p:Array Nat)(m:Nat):Prop:=∀i,i+1<m->key K p i<key K p (i+1)
variable(hK:∀i j,i<n->j<n->i≠j->K i≠K j)
include hK
end
end QS
namespace QS
open PySem PySem.W PySem.Calls PyProof.Rows
abbrev Tr:=Value×Int×Int
def t0:Tr:=(.none,0,0)
end QS
namespace QS
open PySem PySem.W PySem.Calls PyProof.Rows PyProof.V PySem.Spec
section
variable{prog:Program}{w:World}{A:Around}{R:Result->Shared->Prop}{I S:Addr}{fp wr:List Addr}{n:Nat}{P:Nat->Value->Prop}{St:Nat->Heap->Prop}{val:Nat->Int}{d:Value}
theorem gt_int{a b:Int}{t u:Tok}{s:Shared}{Q:Value->Shared->Prop}{E:Value->Shared->Prop}(h:Q (.bool (decide (a>b))) s):wpAny (model prog w) A (richCompare .Gt (.int a t) (.int b u)) Q E s:=CmpOf.ints_gt (P:=fun i v=>v=.int (if i=0 then a else b) (if i=0 then t else u)) (fun i=>if i=0 then a else b) (fun i v hv=>⟨_,hv⟩) 0 1 _ _ s Q E rfl rfl h
end
end QS
namespace L2
open PySem PySem.Spec PyProof.Rows
section
variable[Fr]
def ooO(f:ee->Option (List (List D))):ee->Option D:=fun ρ=>(f ρ).map fun dss=>.lst (dss.map .lst)
theorem EOkOO.e{t:TE}{f:ee->Option (List (List D))}(h:EOkOO t f):EOk t (ooO f):=fun G0 H0 G H σ ρ Q d e q k=>by
 obtain⟨dss,q1,q2⟩:=map_some q;subst q2;refine h _ _ _ _ _ _ _ _ e q1 fun a bs G' H' x hn nd ha r=>?_;have ss:=zO (bs:=bs) x.gh;have nd':=YY.mp nd;have rr:=r.frozen ss.1 fun b hb=>Qd hb;have x1:Ext G H (more G' H' bs) H':=⟨x.hh,x.gg.trans ss.1,ss.2,fun b u z=>by
  by_cases hb:b∈bs
  . exact .inr (hn b (Yf _ hb)).1
  . rw[qS hb]at z;exact x.nw b u z⟩
 have ga:more G' H' bs a=none:=by rw[qS nd'.1];exact(hn a Yb).2
 exact k _ _ H' (x1.freeze (hn a Yb).1 ga ha) (.lst (.inl jw) (rr.mono (.upd ga)))
def jea(f:List D->Option (List (List D))):Sp:=fun vs H Q _=>∃G ds dss,Same G H/\Reps G vs ds/\f ds=some dss/\∀a bs G' H',Ext G H G' H'->(∀b∈a::bs,H b=none/\G' b=none)->(a::bs).Nodup->H' a=some (.lst (bs.map V.ref))->Rows G' H' bs dss->Q (.ref a) H'
variable{As:TA}{fs:ee->Option (List D)}
theorem jgy{f:List D->Option (List (List D))}{E:XK}(ha:AOk As fs):EOkOO (jcW (jea f) [] E As) (jf f fs):=fun G0 H0 G H σ ρ Q d e q k=>by obtain⟨ds,q1,q2⟩:=bind_some q;exact ha _ _ _ _ _ _ _ _ e q1 fun vs G1 H1 x1 r1=>⟨G1,ds,d,x1.gh,by rw[yO];exact r1,q2,fun a bs G2 H2 x2 hn nd hh r2=>k a bs G2 H2 (x1.trans x2) (fun b hb=>⟨x1.hh.free (hn b hb).1,(hn b hb).2⟩) nd hh r2⟩
def jga(t:TS)(F:FS)(f:ee->Option (List (List D))):Prop:=∀G0 H0 G H σ ρ E ρ' dss,EnvOk G0 H0 G H σ ρ->F ρ=.next ρ'->f ρ'=some dss->
 (∀G' H' a bs,Ext G0 H0 G' H'->(∀b∈a::bs,H0 b=none/\G' b=none)->(a::bs).Nodup->H' a=some (.lst (bs.map V.ref))->Rows G' H' bs dss->E.rt (.ref a) H')->t E σ H
theorem jjK{t u:TS}{F F':FS}{f:ee->Option (List (List D))}(h:QK t F)(h':jga u F' f):jga (jgb t u) (jn F F') f:=fun G0 H0 G H σ ρ E ρ' dss e q hf k=>by
 refine h G0 H0 G H σ ρ _ e ?_;unfold jn at q;cases z:F ρ with
 | next ρ1=>rw[z]at q;exact fun G' H' σ' s' e'=>h' G0 H0 G' H' σ' ρ1 E ρ' dss e' q hf k
 | ret d=>rw[z]at q;cases q
 | retO d=>rw[z]at q;cases q
 | retT d dss es=>rw[z]at q;cases q
 | retOO dss=>rw[z]at q;cases q
 | brk d=>rw[z]at q;cases q
 | cnt d=>rw[z]at q;cases q
 | fail=>rw[z]at q;cases q
def ooV(i:Nat):ee->Option (List (List D)):=fun ρ=>ρ[i]?.bind jfA
theorem jkr(i:Nat):jga (jfm (Ji i)) j2 (ooV i):=fun G0 H0 G H σ ρ E ρ' dss e q hf k=>by cases q;obtain⟨a,bs,h1,h2,h3,h4,h5⟩:=e.oo (jaL hf);exact⟨_,h1,k G H a bs e.ext h4 h3 h2 h5⟩
def jis(f:ee->Option (List (List D))):Res->Option (List (List D))
 | .next ρ=>f ρ
 | _=>none
def jbS(k n:Nat)(F:FS)(f:ee->Option (List (List D)))(ds:List D):Option (List (List D)):=if ds.length=k then jis f (F (qh n ds))else none
theorem jku{k n:Nat}{F:FS}{f:ee->Option (List (List D))}{vs:List V}{H:Hp}{Q:VK}{E:XK}(q:jea (jbS k n F f) vs H Q E):vs.length=k:=by
 obtain⟨G,ds,d,s,r,hf,fin⟩:=q;unfold jbS at hf;split at hf
 . rename_i h;rw[r.length];exact h
 . cases hf
theorem jhY{t:TS}{F:FS}{f:ee->Option (List (List D))}{a n k:Nat}{vs:List V}{H:Hp}{Q:VK}{E:XK}(h:jga t F f)(hk:k=n-vs.length)(q:jea (jbS a n F f) vs H Q E):t { nx:=fun _ H'=>Q .non H',rt:=Q } (vs.map some++List.replicate k none) H:=by
 obtain⟨G,ds,d,s,r,hf,fin⟩:=q;unfold jbS at hf;split at hf
 . cases z:F (qh n ds)with
   | next ρ=>rw[z]at hf;exact h G H G H _ _ _ ρ d (jb3 s r hk) z hf fun G' H' a bs x hn nd ha r=>fin a bs G' H' x hn nd ha r
   | ret d=>rw[z]at hf;cases hf
   | retO es=>rw[z]at hf;cases hf
   | retT _ _ _=>rw[z]at hf;cases hf
   | retOO _=>rw[z]at hf;cases hf
   | brk _=>rw[z]at hf;cases hf
   | cnt _=>rw[z]at hf;cases hf
   | fail=>rw[z]at hf;cases hf
 . cases hf
end
structure WR(M:Fm)(st:List Stmt)(F:FS)(f:ee->Option (List (List D))):Prop where
 h:∃t,(∀i,PSs (M.X i) st t)/\@jga M.fr t F f
section
variable{M:Fm}{a b c e o:Expr}{es:List Expr}{fa fb fe:ee->Option D}{fs:ee->Option (List D)}{g:ee->Option (List (List D))}{pos p apos cpos:Pos}{x:Str}{st:Stmt}{sts:List Stmt}{F F':FS}{f2:List D->Option (List (List D))}
theorem WOO.toE(h:WOO M e g):WE M e (ooO g):=let ⟨_,h1,h2⟩:=h.h;⟨_,h1,@EOkOO.e M.fr _ _ h2⟩
theorem jcn(h:WS M st F)(h':WR M sts F' g):WR M (st::sts) (jn F F') g:=let ⟨_,h1,h2⟩:=h.h;let ⟨_,k1,k2⟩:=h'.h;⟨_,fun j=>Q4 (h1 j) (k1 j),@jjK M.fr _ _ _ _ _ h2 k2⟩
theorem jh8(i:Nat)(hN:M.N[i]?=some x:=by rfl)(hv:autoParam (∀j,Vis (M.X j).env.scope x) QA.a6._auto_1)(hd:(x == ("__debug__":Str))=false:=by decide)
 (hcd:(x == ("__classdict__":Str))=false:=by decide):WR M [.Return (some (.Name x p)) pos] j2 (ooV i):=⟨_,fun j=>jan (ja2 (qN (by rw[M.hN j];exact hN) (hv j) hd hcd)),@jkr M.fr i⟩
theorem jgG{k:Nat}{g:Addr}{fd:FuncData}{ps:List Str}(F:∀j,FnOk (M.X j).prog (M.X j).w (M.X j).K (M.X j).mg (M.X j).base JV k g fd ps (@jea M.fr f2))(hr:∀j,Room k (M.X j).A)(hg:∀j,Gl (M.X j) x)(hm:∀j,(M.X j).mg x=some (.ref g))(hk:∀j,PySem.W.keepIn (M.X j).K (.ref g)=true)
 (hb:∀j,Binds (M.X j).K fd ps []) (ha:WA M (e::es) fs) (hdb:(x == ("__debug__":Str))=false:=by decide) (h:jH e=false:=by rfl) (h':(es.all fun e=>!jH e)=true:=by rfl):WOO M (.Call (.Name x p) (e::es) [] pos) (jf f2 fs):=
 let ⟨_,h1,h2⟩:=ha.h;⟨_,fun j=>jal (F j) (hr j) (hg j) (hm j) (hk j) (hb j) .nil jeI (h1 j) hdb (jV h) (qw h'),@jgy M.fr _ _ f2 E0 h2⟩
theorem jcG{i:Nat}{pos':Pos}(h:WOO M e g)(hN:∀j,(M.X j).N.Nodup)(hi:M.N[i]?=some x)(hx:∀j,Loc (M.X j).env.scope x)(hf:∀j,(M.X j).fn x=true\/(M.X j).env.scope.names.lookup x=some .local)(hs:∀j,swapsWith e (some (.Name x pos')) pos.line (M.X j).env=pure false:=by intro _;rfl):
 WS M (.Assign [.Name x pos'] e pos) (ZH i g):=let ⟨_,h1,h2⟩:=h.h;⟨_,fun j=>ZD (hN j) (by rw[M.hN j];exact hi) (hx j) (h1 j) (hs j) (hf j),@jhx M.fr _ _ i h2⟩
variable{P:Program}{w:World}{K:PySem.W.Frag}{mg:Str->Option Value}{base:Heap}{y qual:Str}{f:Addr}{fd:FuncData}{N ps:List Str}{k n:Nat}{m:FS}
theorem jiW{a:Nat}(F:Fun K y qual st f fd)(S:FnScope N ps (jh st))(ha:a=ps.length)(hn:N.length=n)
 (h:∀(cdv:Value) (A:Around) (outer:List PySem.Env) (s:Shared) (H:Hp) (E:XK),Room k (A.deeper (envOfC qual (jh st) s.heap.objs.size f cdv))->WR (jeV P w K mg base N qual (jh st) f cdv A outer s H E) (jP st) m g) :
 FnOk P w K mg base JV (k+1) f fd ps (@jea ⟨K⟩ (jbS a n m g)):=by
 letI:Fr:=⟨K⟩
 refine F.ok S (fun vs H Q E h=>(jku h).trans ha) (fun cdv A outer s H vs Q E hr q=>?_);obtain⟨t,h1,h2⟩:=(h cdv A outer s H E hr).h;exact⟨t,h1 (),jhY h2 (by rw[<-hn]) q⟩
end
structure FX(K:PySem.W.Frag)(mg:Str->Option Value)(x:Str)(st:Stmt)(a:Addr)(d:FuncData)(ps:List Str):Prop where
 f:Fun K x x st a d
 b:Binds K d ps []
 m:mg x=some (.ref a)
section
variable{M:Fm}{e:Expr}{es:List Expr}{fs:ee->Option (List D)}{pos p:Pos}{x:Str}{st:Stmt}{f1:List D->Option D}{f2:List D->Option (List D)}{f3:List D->Option (List (List D))}{k:Nat}{g:Addr}{fd:FuncData}{ps:List Str}
theorem qv(F:∀j,FnOk (M.X j).prog (M.X j).w (M.X j).K (M.X j).mg (M.X j).base JV k g fd ps (@spS M.fr f1))(hr:∀j,Room k (M.X j).A)(hg:∀j,Gl (M.X j) x)(hx:∀j,FX (M.X j).K (M.X j).mg x st g fd ps)
 (ha:WA M (e::es) fs) (hdb:(x == ("__debug__":Str))=false:=by decide) (h:jH e=false:=by rfl) (h':(es.all fun e=>!jH e)=true:=by rfl):WE M (.Call (.Name x p) (e::es) [] pos) (jf f1 fs):=jkn F hr hg (fun j=>(hx j).m) (fun j=>(hx j).f.kp) (fun j=>(hx j).b) ha hdb h h'
theorem zU(F:∀j,FnOk (M.X j).prog (M.X j).w (M.X j).K (M.X j).mg (M.X j).base JV k g fd ps (@spO M.fr f2))(hr:∀j,Room k (M.X j).A)(hg:∀j,Gl (M.X j) x)(hx:∀j,FX (M.X j).K (M.X j).mg x st g fd ps)
 (ha:WA M (e::es) fs) (hdb:(x == ("__debug__":Str))=false:=by decide) (h:jH e=false:=by rfl) (h':(es.all fun e=>!jH e)=true:=by rfl):WO M (.Call (.Name x p) (e::es) [] pos) (jf f2 fs):=jh5 F hr hg (fun j=>(hx j).m) (fun j=>(hx j).f.kp) (fun j=>(hx j).b) ha hdb h h'
theorem jfJ(F:∀j,FnOk (M.X j).prog (M.X j).w (M.X j).K (M.X j).mg (M.X j).base JV k g fd ps (@jea M.fr f3))(hr:∀j,Room k (M.X j).A)(hg:∀j,Gl (M.X j) x)(hx:∀j,FX (M.X j).K (M.X j).mg x st g fd ps)
 (ha:WA M (e::es) fs) (hdb:(x == ("__debug__":Str))=false:=by decide) (h:jH e=false:=by rfl) (h':(es.all fun e=>!jH e)=true:=by rfl):WOO M (.Call (.Name x p) (e::es) [] pos) (jf f3 fs):=jgG F hr hg (fun j=>(hx j).m) (fun j=>(hx j).f.kp) (fun j=>(hx j).b) ha hdb h h'
end
section
variable[Fr]
abbrev T3:=D×List (List D)×List D
structure Own3(H G' H':Hp)(t:Addr)(q:T3):Prop where
 ex:∃a c bs v us,H' t=some (.tup [v,.ref a,.ref c])/\H' a=some (.lst (bs.map V.ref))/\H' c=some (.lst us)/\(t::c::a::bs).Nodup/\(∀b∈t::c::a::bs,H b=none/\G' b=none)/\Rep G' v q.1/\Rows G' H' bs q.2.1/\Reps G' us q.2.2
theorem Own3.mono{H Hb G' H':Hp}{t:Addr}{q:T3}(h:Own3 H G' H' t q)(f:∀b,H b=none->Hb b=none):Own3 Hb G' H' t q:=by obtain⟨a,c,bs,v,us,h1,h2,h3,h4,h5,h6⟩:=h.ex;exact⟨a,c,bs,v,us,h1,h2,h3,h4,fun b hb=>⟨f b (h5 b hb).1,(h5 b hb).2⟩,h6⟩
end
section
variable[Fr]
open Classical in
def jb9(H:Hp)(l:List Addr):Hp:=fun b=>if b∈l then none else H b
theorem jeY{H:Hp}{l:List Addr}{b:Addr}(h:b∈l):jb9 H l b=none:=Ys h
theorem zW{H:Hp}{l:List Addr}{b:Addr}(h:b∉l):jb9 H l b=H b:=YJ h
end
section
variable[Fr]
abbrev Q2:=Option (List (List D))
abbrev Q1:=Option (List D)
structure OwnQ(H G' H':Hp)(v:V)(q:Q2):Prop where
 so:∀dss,q=some dss->∃a bs,v=.ref a/\(∀b∈a::bs,H b=none/\G' b=none)/\(a::bs).Nodup/\H' a=some (.lst (bs.map V.ref))/\Rows G' H' bs dss
 no:q=none->v=.non
structure OwnP(H G' H':Hp)(v:V)(q:Q1):Prop where
 so:∀ds,q=some ds->∃a us,v=.ref a/\H a=none/\G' a=none/\H' a=some (.lst us)/\Reps G' us ds
 no:q=none->v=.non
theorem OwnQ.mono{H Hb G' H':Hp}{v:V}{q:Q2}(h:OwnQ H G' H' v q)(f:∀b,H b=none->Hb b=none):OwnQ Hb G' H' v q:=⟨fun dss e=>let ⟨a,bs,h1,h2,h3⟩:=h.so dss e;⟨a,bs,h1,fun b hb=>⟨f b (h2 b hb).1,(h2 b hb).2⟩,h3⟩,h.no⟩
theorem OwnP.mono{H Hb G' H':Hp}{v:V}{q:Q1}(h:OwnP H G' H' v q)(f:∀b,H b=none->Hb b=none):OwnP Hb G' H' v q:=⟨fun ds e=>let ⟨a,us,h1,h2,h3⟩:=h.so ds e;⟨a,us,h1,f a h2,h3⟩,h.no⟩
def EOkQ(t:TE)(f:ee->Option Q2):Prop:=∀G0 H0 G H σ ρ (Q:VK) q,EnvOk G0 H0 G H σ ρ->f ρ=some q->(∀v G' H',Ext G H G' H'->OwnQ H G' H' v q->Q v H')->t σ H Q
def EOkP(t:TE)(f:ee->Option Q1):Prop:=∀G0 H0 G H σ ρ (Q:VK) q,EnvOk G0 H0 G H σ ρ->f ρ=some q->(∀v G' H',Ext G H G' H'->OwnP H G' H' v q->Q v H')->t σ H Q
def qD:Q2->D
 | some dss=>.lst (dss.map .lst)
 | none=>.non
def pD:Q1->D
 | some ds=>.lst ds
 | none=>.non
def qE(f:ee->Option Q2):ee->Option D:=fun ρ=>(f ρ).map qD
def pE(f:ee->Option Q1):ee->Option D:=fun ρ=>(f ρ).map pD
theorem EOkQ.e{t:TE}{f:ee->Option Q2}(h:EOkQ t f):EOk t (qE f):=fun G0 H0 G H σ ρ Q d e q k=>by
 obtain⟨q2,q1,q⟩:=map_some q;subst q;refine h _ _ _ _ _ _ _ _ e q1 fun v G' H' x o=>?_;cases q2 with
 | none=>rw[o.no rfl];exact k _ G' H' x .non
 | some dss=>
   obtain⟨a,bs,rfl,hn,nd,ha,r⟩:=o.so dss rfl;have ss:=zO (bs:=bs) x.gh;have nd':=YY.mp nd;have rr:=r.frozen ss.1 fun b hb=>Qd hb;have x1:Ext G H (more G' H' bs) H':=⟨x.hh,x.gg.trans ss.1,ss.2,fun b u z=>by
    by_cases hb:b∈bs
    . exact .inr (hn b (Yf _ hb)).1
    . rw[qS hb]at z;exact x.nw b u z⟩
   have ga:more G' H' bs a=none:=by rw[qS nd'.1];exact(hn a Yb).2
   exact k _ _ H' (x1.freeze (hn a Yb).1 ga ha) (.lst (.inl jw) (rr.mono (.upd ga)))
theorem EOkP.e{t:TE}{f:ee->Option Q1}(h:EOkP t f):EOk t (pE f):=fun G0 H0 G H σ ρ Q d e q k=>by
 obtain⟨q2,q1,q⟩:=map_some q;subst q;refine h _ _ _ _ _ _ _ _ e q1 fun v G' H' x o=>?_;cases q2 with
 | none=>rw[o.no rfl];exact k _ G' H' x .non
 | some ds=>obtain⟨a,us,rfl,hn,hg,ha,r⟩:=o.so ds rfl;exact k _ _ H' (x.freeze hn hg ha) (.lst (.inl jw) (r.mono (.upd hg)))
end
section
variable[Fr]
theorem jhQ:EOkOO (jjD ja9) (fun _=>some []):=fun G0 H0 G H σ ρ Q dss e q k=>by cases q;exact⟨yY _,fun p hp=>k p [] G _ (.new e.same hp) (fun b hb=>by rw[YL.mp hb];exact⟨hp,e.same.free hp⟩) (by simp) jw .nil⟩
theorem EnvOk.growH{G0 H0 G H G' H':Hp}{σ:St}{ρ:ee}{L:List Addr}(e:EnvOk G0 H0 G H σ ρ)(x:Ext G (jb9 H L) G' H')(own:∀b∈L,H0 b=none/\G b=none)(far:∀(m:Nat) o s,σ[m]?=some o->ρ[m]?=some s->∀b,qq H o s b->b∉L):EnvOk G0 H0 G' H' σ ρ:=by
 have up:∀b u,b∉L->H b=some u->H' b=some u:=fun b u hb hu=>x.hh b u (by rw[zW hb];exact hu);have key:∀(i:Nat) o s,σ[i]?=some o->ρ[i]?=some s->_:=fun i o s h1 h2=>(e.slot i o s h1 h2).keep (H':=H') x.gg fun b f=>by
  obtain⟨_,g,u,hu⟩:=(e.slot i o s h1 h2).foot f;have nb:=far i o s h1 h2 b f;refine⟨by rw[hu];exact up b u nb hu,?_⟩;cases q:G' b with
  | none=>rfl
  | some w=>
    rcases x.nw b w q with y | y
    . rw[g]at y;cases y
    . rw[zW nb,hu]at y;cases y
 refine⟨⟨fun b u hb=>?_,e.ext.gg.trans x.gg,x.gh,fun b u hb=>?_⟩,e.len,fun i o s h1 h2=>(key i o s h1 h2).1,fun i j o o' s s' b h1 h2 h3 h4 f f'=>e.dist i j o o' s s' b h1 h2 h3 h4 ((key i o s h1 h2).2 b f) ((key j o' s' h3 h4).2 b f')⟩
 . exact up b u (fun m=>by rw[(own b m).1]at hb;cases hb) (e.ext.hh b u hb)
 . rcases x.nw b u hb with y | y
   . exact e.ext.nw b u y
   . by_cases m:b∈L
     . exact .inr (own b m).1
     . rw[zW m]at y;exact .inr (e.ext.hh.free y)
theorem EnvOk.freshH{G0 H0 G H G' H':Hp}{σ:St}{ρ:ee}{L:List Addr}{i:Nat}{o':Option V}{s':Slot}(e:EnvOk G0 H0 G H σ ρ)(x:Ext G (jb9 H L) G' H')(own:∀b∈L,H0 b=none/\G b=none)(far:∀(m:Nat) o s,σ[m]?=some o->ρ[m]?=some s->∀b,qq H o s b->b∉L)(new:SlotOk H0 G' H' o' s')(foot:∀b,qq H' o' s' b->jb9 H L b=none):EnvOk G0 H0 G' H' (σ.set i o') (ρ.set i s'):=by
 have e2:=e.growH x own far;have back:∀(m:Nat) o s,σ[m]?=some o->ρ[m]?=some s->∀b,qq H' o s b->jb9 H L b≠none:=fun m o s h1 h2 b f z=>by
  have k:=((e.slot m o s h1 h2).keep (H':=H') x.gg fun b f=>by
   obtain⟨_,g,u,hu⟩:=(e.slot m o s h1 h2).foot f;have nb:=far m o s h1 h2 b f;refine⟨by rw[hu];exact x.hh b u (by rw[zW nb];exact hu),?_⟩;cases q:G' b with
   | none=>rfl
   | some w=>
     rcases x.nw b w q with y | y
     . rw[g]at y;cases y
     . rw[zW nb,hu]at y;cases y).2 b f
  obtain⟨_,_,u,hu⟩:=(e.slot m o s h1 h2).foot k;rw[zW (far m o s h1 h2 b k),hu]at z;cases z
 have at_m:∀(m:Nat) o s,(σ.set i o')[m]?=some o->(ρ.set i s')[m]?=some s->(m=i/\o=o'/\s=s')\/(m≠i/\σ[m]?=some o/\ρ[m]?=some s):=fun m o s g1 g2=>by
  by_cases h:i=m
  . subst h;rw[yr]at g1 g2;simp at g1 g2;exact .inl ⟨rfl,g1.2.symm,g2.2.symm⟩
  . rw[Yh h]at g1 g2;exact .inr ⟨Ne.symm h,g1,g2⟩
 refine⟨e2.ext,by simp[e.len],fun m o s g1 g2=>?_,fun m n o o2 s s2 b g1 g2 g3 g4 f f'=>?_⟩
 . rcases at_m m o s g1 g2 with⟨_,rfl,rfl⟩ | ⟨_,q1,q2⟩
   . exact new
   . exact e2.slot m o s q1 q2
 . rcases at_m m o s g1 g2 with⟨rfl,rfl,rfl⟩ | ⟨_,q1,q2⟩
   . rcases at_m n o2 s2 g3 g4 with⟨rfl,_,_⟩ | ⟨_,p1,p2⟩
     . rfl
     . exact absurd (foot b f) (back n o2 s2 p1 p2 b f')
   . rcases at_m n o2 s2 g3 g4 with⟨rfl,rfl,rfl⟩ | ⟨_,p1,p2⟩
     . exact absurd (foot b f') (back m o s q1 q2 b f)
     . exact e2.dist m n o o2 s s2 b q1 q2 p1 p2 f f'
theorem EnvOk.drop{G0 H0 G H:Hp}{σ:St}{ρ:ee}{i:Nat}(e:EnvOk G0 H0 G H σ ρ):EnvOk G0 H0 G H σ (ρ.set i .un):=by
 have at_m:∀(m:Nat) o s,σ[m]?=some o->(ρ.set i .un)[m]?=some s->s=.un\/(m≠i/\ρ[m]?=some s):=fun m o s _ g=>by
  by_cases h:i=m
  . subst h;rw[yr]at g;simp at g;exact .inl g.2.symm
  . rw[Yh h]at g;exact .inr ⟨Ne.symm h,g⟩
 refine⟨e.ext,by simp[e.len],fun m o s g1 g2=>?_,fun m n o o' s s' b g1 g2 g3 g4 f f'=>?_⟩
 . rcases at_m m o s g1 g2 with rfl | ⟨_,g⟩
   . exact .un _
   . exact e.slot m o s g1 g
 . rcases at_m m o s g1 g2 with rfl | ⟨_,g⟩
   . cases o with | none=>exact f.elim | some w=>cases w <;> exact f.elim
   . rcases at_m n o' s' g3 g4 with rfl | ⟨_,g'⟩
     . cases o' with | none=>exact f'.elim | some w=>cases w <;> exact f'.elim
     . exact e.dist m n o o' s s' b g1 g g3 g' f f'
end
section
variable{M:Fm}{a e:Expr}{es:List Expr}{fa fe:ee->Option D}{fs:ee->Option (List D)}{g:ee->Option (List (List D))}{f3:ee->Option T3}{pos p p1 p2:Pos}{x y z:Str}{st:Stmt}{f2:List D->List (List D)->Option T3}{k:Nat}
theorem jhz:WOO M (.List [] pos) (fun _=>some []):=⟨_,fun j=>jgP JA,@jhQ M.fr⟩
end
abbrev Cx.fr(X:Cx):Fr:=⟨X.K⟩
section
variable[Fr]{G0 H0 G H:Hp}{σ:St}{ρ:ee}
theorem jcw{o:Option V}{b:Addr}(h:qq H o .un b):False:=by
 cases o with
 | none=>exact h
 | some v=>cases v <;> exact h
theorem EnvOk.lend{dss:List (List D)}{ds:List D}{fi ri:Nat}{a b:Addr}{bs:List Addr}{us:List V}(e:EnvOk G0 H0 G H σ ρ)(h1:ρ[fi]?=some (.oo dss))(h2:σ[fi]?=some (some (.ref a)))(h3:H a=some (.lst (bs.map V.ref)))(hb:b∈bs)(hu:H b=some (.lst us))(r:Reps G us ds):
 EnvOk G0 H0 G H (σ.set ri (some (.ref b))) ((ρ.set fi .un).set ri (.ow ds)):=by
 have hf:qq H (some (.ref a)) (.oo dss) b:=(qo h3).mpr (Yf _ hb);obtain⟨q1,q2,_⟩:=(e.slot fi _ _ h2 h1).foot hf;have other:∀(j:Nat) o s,j≠ri->(σ.set ri (some (.ref b)))[j]?=some o->((ρ.set fi .un).set ri (.ow ds))[j]?=some s->s=.un\/(j≠fi/\σ[j]?=some o/\ρ[j]?=some s):=fun j o s hj g1 g2=>by
  rw[Yh (Ne.symm hj)]at g1 g2;by_cases hf:fi=j
  . subst hf;rw[yr]at g2;simp at g2;exact .inl g2.2.symm
  . rw[Yh hf]at g2;exact .inr ⟨Ne.symm hf,g1,g2⟩
 have at_ri:∀o s,(σ.set ri (some (.ref b)))[ri]?=some o->((ρ.set fi .un).set ri (.ow ds))[ri]?=some s->o=some (.ref b)/\s=.ow ds:=fun o s g1 g2=>by rw[yr]at g1 g2;simp at g1 g2;exact⟨g1.2.symm,g2.2.symm⟩
 have key:∀(j:Nat) o s,j≠ri->(σ.set ri (some (.ref b)))[j]?=some o->((ρ.set fi .un).set ri (.ow ds))[j]?=some s->qq H o s b->False:=fun j o s hj g1 g2 f=>by
  rcases other j o s hj g1 g2 with rfl | ⟨hjf,g1,g2⟩
  . exact jcw f
  . exact hjf (e.dist j fi _ _ _ _ b g1 g2 h2 h1 f hf)
 refine⟨e.ext,by simp[e.len],fun j o s g1 g2=>?_,fun i j o o' s s' c g1 g2 g3 g4 f1 f2=>?_⟩
 . by_cases hj:j=ri
   . subst hj;obtain⟨rfl,rfl⟩:=at_ri o s g1 g2;exact .ow q1 q2 hu r
   . rcases other j o s hj g1 g2 with rfl | ⟨_,g1,g2⟩
     . exact .un _
     . exact e.slot j o s g1 g2
 . by_cases hi:i=ri
   . by_cases hj:j=ri
     . exact hi.trans hj.symm
     . subst hi;obtain⟨rfl,rfl⟩:=at_ri o s g1 g2;cases (show c=b from f1);exact(key j o' s' hj g3 g4 f2).elim
   . by_cases hj:j=ri
     . subst hj;obtain⟨rfl,rfl⟩:=at_ri o' s' g3 g4;cases (show c=b from f2);exact(key i o s hi g1 g2 f1).elim
     . rcases other i o s hi g1 g2 with rfl | ⟨_,a1,a2⟩
       . exact(jcw f1).elim
       . rcases other j o' s' hj g3 g4 with rfl | ⟨_,b1,b2⟩
         . exact(jcw f2).elim
         . exact e.dist i j o o' s s' c a1 a2 b1 b2 f1 f2
theorem EnvOk.endO{ds:List D}{i:Nat}{a:Addr}(e:EnvOk G0 H0 G H σ ρ)(h1:ρ[i]?=some (.ow ds))(h2:σ[i]?=some (some (.ref a))):∃G',Ext G0 H0 G' H/\Rep G' (.ref a) (.lst ds):=by
 obtain⟨G',e',_,_⟩:=e.frz i;have hi:i<ρ.length:=(Yg.mp h1).1;have z:(L2.frz i ρ)[i]?=some (.sh (.lst ds)):=by unfold L2.frz;rw[h1];exact YG hi
 obtain⟨v,w1,w2⟩:=e'.sh z;rw[h2]at w1;cases w1;exact⟨G',e'.ext,w2⟩
theorem EnvOk.endOO{dss:List (List D)}{i:Nat}{a:Addr}(e:EnvOk G0 H0 G H σ ρ)(h1:ρ[i]?=some (.oo dss))(h2:σ[i]?=some (some (.ref a))):∃G',Ext G0 H0 G' H/\Rep G' (.ref a) (.lst (dss.map .lst)):=by
 obtain⟨G',e',_,_⟩:=e.frz i;have hi:i<ρ.length:=(Yg.mp h1).1;have z:(L2.frz i ρ)[i]?=some (.sh (.lst (dss.map .lst))):=by unfold L2.frz;rw[h1];exact YG hi
 obtain⟨v,w1,w2⟩:=e'.sh z;rw[h2]at w1;cases w1;exact⟨G',e'.ext,w2⟩
abbrev jlA(fi ri:Nat)(ds:List D)(ρ:ee):ee:=(ρ.set fi .un).set ri (.ow ds)
end
mutual
def jah:D->Option PyData
 | .int i=>some (.int i)
 | .bl b=>some (.bool b)
 | .non=>some .none
 | .str x=>some (.str x)
 | .lst l=>(pysOf l).map .list
 | .tup l=>(pysOf l).map .tuple
 | .scr _=>none
 | .dic _ _=>none
 | .kst _=>none
 | .obj _=>none
def pysOf:List D->Option (List PyData)
 | []=>some []
 | d::l=>(jah d).bind fun x=>(pysOf l).map (x::·)
end
section
variable[Fr]{X:Cx}{tf:List (Addr×Obj)}{σ:St}{G H:Hp}{s:Shared}
theorem je2(hK:X.K=Fr.K)(I:Inv X tf σ H s)(e:Same G H){v:V}{d:D}(h:Rep G v d):∀(u:Value) (pd:PyData),RelV v u->jah d=some pd->∃as,Reads s.heap u pd as:=
 Rep.rec (motive_1:=fun v d _=>∀(u:Value) (pd:PyData),RelV v u->jah d=some pd->∃as,Reads s.heap u pd as) (motive_2:=fun vs ds _=>∀(us:List Value) (pds:List PyData),Vals vs us->pysOf ds=some pds->∃as,ReadsAll s.heap us pds as)
  (fun i u pd r q=>by obtain⟨t,rfl⟩:=r;cases q;exact⟨_,.int i t⟩)
  (fun b u pd r q=>by cases r;cases q;exact⟨_,.bool b⟩)
  (fun u pd r q=>by cases r;cases q;exact⟨_,.none⟩)
  (fun x u pd r q=>by obtain⟨t,rfl⟩:=r;cases q;exact⟨_,.str x t⟩)
  (fun{a vs ds} h _ ih u pd r q=>by cases r;obtain⟨pds,q1,rfl⟩:=map_some q;obtain⟨tq,rv,⟨o,n,h1,h2,_,h3⟩,_⟩:=I.list (.inl (h.same e));obtain⟨as,ra⟩:=ih tq pds rv q1;exact⟨_,.list h1 h2 h3 ra⟩)
  (fun{a vs ds} h _ ih u pd r q=>by cases r;obtain⟨pds,q1,rfl⟩:=map_some q;obtain⟨tq,rv,⟨o,h1,h2,n,h3⟩,_⟩:=I.tuple (.inl (.inl (e _ _ h)));obtain⟨as,ra⟩:=ih tq pds rv q1;exact⟨_,.tuple h1 h2 h3 ra⟩)
  (fun _ u pd r q=>by cases q) (fun _ _ _ _ u pd r q=>by cases q) (fun _ u pd r q=>by cases q) (fun _ _ _ _ u pd r q=>by cases q)
  (fun us pds r q=>by cases r;cases q;exact⟨_,.nil⟩)
  (fun{v d vs ds} _ _ i j us pds r q=>by
   cases r with
   | cons r1 r2=>obtain⟨x,q1,q⟩:=bind_some q;obtain⟨xs,q2,rfl⟩:=map_some q;obtain⟨as,h1⟩:=i _ _ r1 q1;obtain⟨bs,h2⟩:=j _ _ r2 q2;exact⟨_,.cons h1 h2⟩) h
def jdK:D->Option Str
 | .int i=>if i.natAbs.log2<1920 then some (Str.ofString (toString i))else none
 | .bl b=>some (if b then "True" else "False")
 | .non=>some "None"
 | .str x=>if (reprText x).length<=sizeLine then some (reprText x)else none
 | d=>(jah d).bind fun pd=>if pd.showable=true/\pd.hasDict=false/\pd.depth<=60/\pd.shown.length<=sizeLine then some pd.shown else none
def jiT:List V->Hp->VK->Prop:=fun xs H Q=>∃G x d z,xs=[x]/\Same G H/\Rep G x d/\jdK d=some z/\Q (.str z) H
theorem jdJ(hK:X.K=Fr.K)(hg:X.A.guards=some [])(hu:X.A.units+64<cLine):CallR X (.builtin "repr") jiT:=by
 intro tf s σ H xs us Q I r h;obtain⟨G,x,d,z,rfl,sg,rp,hz,q⟩:=h;obtain⟨u,rfl,rx⟩:=Vals.one r;have big:∀(a:Addr),u=.ref a → ∀pd,jah d=some pd → (if pd.showable=true ∧ pd.hasDict=false ∧ pd.depth ≤ 60 ∧ pd.shown.length ≤ sizeLine then some pd.shown else none)=some z → wpAny (model X.prog X.w) X.A (call (.builtin "repr") [u]) (EP X tf σ Q) X.xe s:=fun a hu' pd hp hz=>by
  subst hu';split at hz
  . rename_i hc;cases hz;obtain⟨as,rd⟩:=je2 hK I sg rp _ pd rx hp;refine repr_of_reads' rd hc.1 (fun z=>by rw[hc.2.1]at z;cases z) hg (by have:=hc.2.2.1;omega) (fun _ _ e=>e) (fun h' u tk hk=>?_) hc.2.2.2;exact⟨.str _,H,I.kept hk,⟨_,rfl⟩,q⟩
  . cases hz
 cases rp with
 | int i=>
   obtain⟨t,rfl⟩:=rx;have hz':(if i.natAbs.log2<1920 then some (Str.ofString (toString i))else none)=some z:=hz;split at hz'
   . rename_i hc;cases hz';exact P.repr_of_int hc ⟨.str _,H,I.tok _,⟨_,rfl⟩,q⟩
   . cases hz'
 | bl b=>cases rx;cases hz;exact P.repr_of_bool ⟨.str _,H,I.tok _,⟨_,rfl⟩,q⟩
 | non=>cases rx;cases hz;exact P.repr_of_none ⟨.str _,H,I.tok _,⟨_,rfl⟩,q⟩
 | str x=>
   obtain⟨t,rfl⟩:=rx;have hz':(if (reprText x).length<=sizeLine then some (reprText x)else none)=some z:=hz;split at hz'
   . rename_i hc;cases hz';exact P.repr_of_str ⟨.str _,H,I.tok _,⟨_,rfl⟩,q⟩ hc
   . cases hz'
 | lst h r=>obtain⟨pd,h1,h2⟩:=bind_some (show(jah (.lst _)).bind _=some z from hz);exact big _ rx pd h1 h2
 | tup h r=>obtain⟨pd,h1,h2⟩:=bind_some (show(jah (.tup _)).bind _=some z from hz);exact big _ rx pd h1 h2
 | scr h=>cases hz
 | dic h hl r=>cases hz
 | kst h=>cases hz
 | obj hc h r=>cases hz
def dRepr:List D->Option D
 | [d]=>(jdK d).map .str
 | _=>none
theorem jkk{As:TA}{fs:ee->Option (List D)}(ha:AOk As fs):EOk (tCB jiT As) (jf dRepr fs):=fun G0 H0 G H σ ρ Q d e q k=>by
 obtain⟨ds,q1,q2⟩:=bind_some q;refine ha _ _ _ _ _ _ _ _ e q1 fun vs G1 H1 x1 r1=>?_
 match ds,r1,q2 with
 | [d0],r1,q2=>
   obtain⟨z,h1,rfl⟩:=map_some (show(jdK d0).map D.str=some d from q2);cases r1 with
   | cons r t=>cases t;exact⟨G1,_,d0,z,rfl,x1.gh,r,h1,k _ G1 H1 x1 (.str _)⟩
end
section
variable{M:Fm}{e:Expr}{fs:ee->Option (List D)}{pos p:Pos}
theorem jf5(hgd:∀j,(M.X j).A.guards=some [])(hu:∀j,(M.X j).A.units+64<cLine)(hg:∀j,Gl (M.X j) "repr")(hm:∀j,(M.X j).mg "repr"=none)(ha:WA M [e] fs)(h:jH e=false:=by rfl):WE M (.Call (.Name "repr" p) [e] [] pos) (jf dRepr fs):=
 let ⟨_,h1,h2⟩:=ha.h
 ⟨_,fun j=>JY (@jdJ M.fr (M.X j) (M.hK j) (hgd j) (hu j)) (hg j) (hm j) bootS_repr (h1 j) (by decide) (by decide) (jV h) (qw rfl),@jkk M.fr _ _ h2⟩
end
section
variable[Fr]{G0 H0 G H G' H':Hp}{σ:St}{ρ:ee}{i j:Nat}
theorem jap{o:Option V}{b:Addr}(h:qq H o .un b):False:=by
 cases o with
 | none=>exact h
 | some v=>cases v <;> exact h
theorem EnvOk.change2{o':Option V}{s':Slot}(e:EnvOk G0 H0 G H σ ρ)(x:Ext G0 H0 G' H')(gg:Same G G')
 (keep:∀j,j≠i->∀o s,σ[j]?=some o->ρ[j]?=some s->∀b,qq H o s b->H' b=H b/\G' b=none) (new:SlotOk H0 G' H' o' s')
 (foot:∀b,qq H' o' s' b->∀(m:Nat) o s,m≠i->σ[m]?=some o->ρ[m]?=some s->qq H o s b->False):EnvOk G0 H0 G' H' (σ.set i o') (ρ.set i s'):=by
 have key:∀(j:Nat) o s,j≠i->σ[j]?=some o->ρ[j]?=some s->_:=fun j o s hj h1 h2=>(e.slot j o s h1 h2).keep (H':=H') gg (keep j hj o s h1 h2);have at_i:∀o s,(σ.set i o')[i]?=some o->(ρ.set i s')[i]?=some s->o=o'/\s=s':=fun o s h1 h2=>by rw[yr]at h1 h2;simp at h1 h2;exact⟨h1.2.symm,h2.2.symm⟩
 refine⟨x,by simp[e.len],fun j o s h1 h2=>?_,fun j k o p s t b h1 h2 h3 h4 f g=>?_⟩
 . by_cases hj:i=j
   . subst hj;obtain⟨rfl,rfl⟩:=at_i o s h1 h2;exact new
   . rw[Yh hj]at h1 h2;exact(key j o s (Ne.symm hj) h1 h2).1
 . have other:∀(m:Nat) q u,i≠m->(σ.set i o')[m]?=some q->(ρ.set i s')[m]?=some u->qq H' q u b->qq H' o' s' b->False:=fun m q u hm g1 g2 f1 f2=>by rw[Yh hm]at g1 g2;exact foot b f2 m q u (Ne.symm hm) g1 g2 ((key m q u (Ne.symm hm) g1 g2).2 b f1)
   by_cases hj:i=j
   . by_cases hk:i=k
     . exact hj.symm.trans hk
     . subst hj;obtain⟨rfl,rfl⟩:=at_i o s h1 h2;exact(other k p t hk h3 h4 g f).elim
   . by_cases hk:i=k
     . subst hk;obtain⟨rfl,rfl⟩:=at_i p t h3 h4;exact(other j o s hj h1 h2 f g).elim
     . rw[Yh hj]at h1 h2;rw[Yh hk]at h3 h4;exact e.dist j k o p s t b h1 h2 h3 h4 ((key j o s (Ne.symm hj) h1 h2).2 b f) ((key k p t (Ne.symm hk) h3 h4).2 b g)
theorem EnvOk.give{dss:List (List D)}{ds:List D}(hij:i≠j)(e:EnvOk G0 H0 G H σ ρ)(h1:ρ[i]?=some (.oo dss))(h2:ρ[j]?=some (.ow ds)):
 ∃(a:Addr) (bs:List Addr) (b:Addr),σ[i]?=some (some (.ref a))/\σ[j]?=some (some (.ref b))/\H a=some (.lst (bs.map V.ref))/\bs.length=dss.length/\EnvOk G0 H0 G (upd H a (.lst (bs.map V.ref++[.ref b]))) σ ((ρ.set j .un).set i (.oo (dss++[ds]))):=by
 obtain⟨a,bs,a1,a2,a3,a4,a5⟩:=e.oo h1;obtain⟨b,us,b1,b2,b3,b4,b5⟩:=e.ow h2;have fb:qq H (some (.ref b)) (.ow ds) b:=rfl;have nb:b∉a::bs:=fun z=>hij (e.dist i j _ _ _ _ b a1 h1 b1 h2 ((qo a2).mpr z) fb);have hab:b≠a:=fun z=>nb (z ▸ Yb ..);have e1:EnvOk G0 H0 G H σ (ρ.set j .un):=e.drop;have h1':(ρ.set j .un)[i]?=some (.oo dss):=by rw[Yh (Ne.symm hij)];exact h1
 have oth:∀(m:Nat) o s,σ[m]?=some o->(ρ.set j .un)[m]?=some s->∀c,qq H o s c->m≠j/\ρ[m]?=some s:=fun m o s g1 g2 c f=>by
  by_cases hm:j=m
  . subst hm;rw[yr]at g2;simp at g2;rw[<-g2.2]at f;exact(jap f).elim
  . rw[Yh hm]at g2;exact⟨Ne.symm hm,g2⟩
 obtain⟨q1,q2⟩:=a4 a (Yb ..);have ha':upd H a (.lst (bs.map V.ref++[.ref b])) a=some (.lst ((bs++[b]).map V.ref)):=by rw[jw,yv];rfl
 have na:a∉bs:=(YY.mp a3).1;have key:=e1.change2 (i:=i) (o':=some (.ref a)) (s':=.oo (dss++[ds])) (G':=G) (H':=upd H a (.lst (bs.map V.ref++[.ref b])))
  ⟨fun c o z=>by rw[ju (jz z q1)];exact e.ext.hh c o z,e.ext.gg,fun c o z=>by rw[ju (jz z q2)];exact e.ext.gh c o z,e.ext.nw⟩ (.refl _)
  (fun m hm o s g1 g2 c f=>by
   obtain⟨_,g3⟩:=oth m o s g1 g2 c f;have hc:c≠a:=fun z=>by subst z;exact hm (e.dist m i _ _ _ _ c g1 g3 a1 h1 f ((qo a2).mpr (Yb ..)))
   exact⟨ju hc,((e.slot m o s g1 g3).foot f).2.1⟩)
  (.oo ha' (by
      rw[<-yz];refine List.nodup_append.mpr ⟨a3,YY.mpr ⟨YR,List.nodup_nil⟩,fun x hx y hy z=>?_⟩;rw[YL]at hy;subst hy;exact nb (z ▸ hx)) (fun c hc=>by
      rw[<-yz,yj,YL]at hc;rcases hc with hc | rfl
      . exact a4 c hc
      . exact⟨b2,b3⟩) (Rows.snoc (a5.keep (.refl _) fun c hc=>ju fun z=>na (z ▸ hc)) (by rw[ju hab];exact b4) b5))
  (fun c f m o s hm g1 g2 f2=>by
   obtain⟨hmj,g3⟩:=oth m o s g1 g2 c f2;have hc:=(qo ha').mp f;rw[<-yz,yj,YL]at hc;rcases hc with hc | rfl
   . exact hm (e.dist m i _ _ _ _ c g1 g3 a1 h1 f2 ((qo a2).mpr hc))
   . exact hmj (e.dist m j _ _ _ _ c g1 g3 b1 h2 f2 fb))
 have es:σ.set i (some (.ref a))=σ:=by
  have hi:i<σ.length:=(Yg.mp a1).1;refine y9 fun m=>?_;by_cases hm:i=m
  . subst hm;rw[YG hi,a1]
  . rw[Yh hm]
 rw[es]at key;exact⟨a,bs,b,a1,b1,a2,a5.length,key⟩
def jjX:Slot->Option (List D)
 | .ow ds=>some ds
 | _=>none
theorem jf6{o:Option Slot}{ds:List D}(h:o.bind jjX=some ds):o=some (.ow ds):=by obtain⟨s,rfl,h⟩:=bind_some h;cases s <;> cases h;rfl
def jen(i j:Nat)(ρ:ee):Option ee:=(ρ[i]?.bind jfA).bind fun dss=>(ρ[j]?.bind jjX).bind fun ds=>if zp dss.length then some ((ρ.set j .un).set i (.oo (dss++[ds])))else none
def jbH(i j:Nat):FS:=fun ρ=>match jen i j ρ with
 | some ρ'=>.next ρ'
 | none=>.fail
theorem ji9(hij:i≠j):QK (jbE (tBM Fr.K "list" JF (Ji i) (JT (Ji j) ja9))) (jbH i j):=fun G0 H0 G H σ ρ E e q=>by
 unfold jbH at q;cases hq:jen i j ρ with
 | none=>rw[hq]at q;exact q.elim
 | some ρ'=>
 rw[hq]at q;unfold jen at hq;obtain⟨dss,z1,hq⟩:=bind_some hq;obtain⟨ds,z2,hq⟩:=bind_some hq;by_cases hs:zp dss.length=true
 case neg=>rw[YJ hs]at hq;cases hq
 rw[Ys hs]at hq;cases hq;obtain⟨a,bs,b,h1,h2,h3,h4,e'⟩:=e.give hij (jaL z1) (jf6 z2);refine⟨_,h1,.inl ⟨rfl,_,.inl (.inl h3)⟩,⟨_,h2,?_⟩⟩;exact⟨a,bs.map V.ref,.ref b,rfl,rfl,h3,by rw[QC,h4];exact JZ hs,q G _ σ (.refl _) e'⟩
end
section
variable{M:Fm}{pos apos cpos:Pos}
theorem jhl{i j:Nat}{x y:Str}{px py:Pos}(hij:i≠j)(hN:M.N[i]?=some x)(hN':M.N[j]?=some y)(hv:∀q,Vis (M.X q).env.scope x)(hv':∀q,Vis (M.X q).env.scope y)(hd:(x == ("__debug__":Str))=false:=by decide)(hcd:(x == ("__classdict__":Str))=false:=by decide)(hd':(y == ("__debug__":Str))=false:=by decide)(hcd':(y == ("__classdict__":Str))=false:=by decide)
 (hbase:∀q,attributeBase (.Name x px) "append" (M.X q).env (eval (.Name x px) (M.X q).env)=eval (.Name x px) (M.X q).env:=by intro _;rfl) (hline:(apos.endLine == cpos.line)=true:=by rfl)
 (hs:∀q,swapsWith (.Call (.Attribute (.Name x px) "append" apos) [.Name y py] [] cpos) none pos.line (M.X q).env=pure false:=by intro _;rfl):WS M (.Expr (.Call (.Attribute (.Name x px) "append" apos) [.Name y py] [] cpos) pos) (jbH i j):=
 ⟨_,fun q=>Zr (te:=tBM M.K "list" JF (Ji i) (JT (Ji j) ja9)) (by have hz:jH (Expr.Name y py)=false:=rfl;have:=jei (X:=M.X q) (apos:=apos) (cpos:=cpos) yD Kj Ki ZG (qN (i:=i) (pos:=px) (by rw[M.hN q];exact hN) (hv q) hd hcd) (zw (qN (i:=j) (pos:=py) (by rw[M.hN q];exact hN') (hv' q) hd' hcd') JA (jV hz)) (hbase q) (by rw[jV hz];rfl) hline (jV hz) (qw rfl);rw[M.hK q]at this;exact this) (hs q),@ji9 M.fr i j hij⟩
end
section
variable[Fr]{G0 H0 G H G' H':Hp}{σ:St}{ρ:ee}{fi ri ki:Nat}
def Alias(fi ri ki:Nat)(H:Hp)(σ:St)(ρ:ee):Prop:=∀dss,ρ[fi]?=some (.oo dss)->∃(a:Addr) (bs:List Addr) (b:Addr) (k:Int),ρ[ki]?=some (.sh (.int k))/\0<=k/\σ[fi]?=some (some (.ref a))/\H a=some (.lst (bs.map V.ref))/\bs[k.toNat]?=some b/\σ[ri]?=some (some (.ref b))
def jit:Slot->Option Int
 | .sh (.int k)=>some k
 | _=>none
theorem jeN{o:Option Slot}{k:Int}(h:o.bind jit=some k):o=some (.sh (.int k)):=by
 obtain⟨s,rfl,h⟩:=bind_some h;cases s with
 | sh d=>cases d <;> cases h;rfl
 | _=>cases h
def alR(fi ki:Nat)(ρ:ee):Option (List (List D)×Nat×List D):=(ρ[fi]?.bind jfA).bind fun dss=>(ρ[ki]?.bind jit).bind fun k=>if 0<=k then(dss[k.toNat]?).map fun ds=>(dss,k.toNat,ds)else none
def JP(fi ri ki:Nat)(ρ:ee):ee:=match alR fi ki ρ with
 | some q=>jlA fi ri q.2.2 ρ
 | none=>ρ
theorem jcO{o:Option V}{i:Nat}(h:σ[i]?=some o):σ.set i o=σ:=by
 have hi:i<σ.length:=(Yg.mp h).1;refine y9 fun m=>?_;by_cases hm:i=m
 . subst hm;rw[YG hi,h]
 . rw[Yh hm]
theorem Alias.open(l:Alias fi ri ki H σ ρ)(e:EnvOk G0 H0 G H σ ρ){q:List (List D)×Nat×List D}(h:alR fi ki ρ=some q):
 ∃(a:Addr) (bs:List Addr) (b:Addr) (us:List V),ρ[fi]?=some (.oo q.1)/\q.1[q.2.1]?=some q.2.2/\σ[fi]?=some (some (.ref a))/\H a=some (.lst (bs.map V.ref))/\bs[q.2.1]?=some b/\σ[ri]?=some (some (.ref b))/\H b=some (.lst us)/\Reps G us q.2.2:=by
 unfold alR at h;obtain⟨dss,z1,h⟩:=bind_some h;obtain⟨k,z2,h⟩:=bind_some h;by_cases hk:0<=k
 case neg=>rw[YJ hk]at h;cases h
 rw[Ys hk]at h;obtain⟨ds,z3,h⟩:=map_some h;subst h;replace z1:=jaL z1;replace z2:=jeN z2;obtain⟨a,bs,b,k',p1,_,p2,p3,p4,p5⟩:=l dss z1;rw[z2]at p1;cases p1;obtain⟨a',bs',g1,g2,g3,g4,g5⟩:=e.oo z1;rw[p2]at g1;cases g1;rw[p3]at g2;have ebs:bs'=bs:=((Kn (f:=V.ref) fun x y z=>V.ref.inj z).mp (HO.lst.inj (Option.some.inj g2))).symm;subst ebs;obtain⟨b',us,b1,b2,b3⟩:=g5.get z3;rw[p4]at b1;cases b1;exact⟨a,bs',b,us,z1,z3,p2,p3,p4,p5,b2,b3⟩
theorem Alias.lend(l:Alias fi ri ki H σ ρ)(e:EnvOk G0 H0 G H σ ρ):EnvOk G0 H0 G H σ (JP fi ri ki ρ):=by
 unfold JP;cases h:alR fi ki ρ with
 | none=>exact e
 | some q=>obtain⟨a,bs,b,us,p1,p2,p3,p4,p5,p6,p7,p8⟩:=l.open e h;have:=e.lend (ri:=ri) p1 p3 p4 (Yq p5) p7 p8;rw[jcO p6]at this;exact this
theorem Alias.grow(l:Alias fi ri ki H σ ρ)(x:Same H H'):Alias fi ri ki H' σ ρ:=fun dss h=>by obtain⟨a,bs,b,k,p1,p2,p3,p4,p5,p6⟩:=l dss h;exact⟨a,bs,b,k,p1,p2,p3,x _ _ p4,p5,p6⟩
def ResA(fi ri ki:Nat)(G0 H0 Gc:Hp)(r:Res)(E:Ends):Prop:=match r with
 | .next ρ'=>∀G' H' σ',Same Gc G'->EnvOk G0 H0 G' H' σ' ρ'->Alias fi ri ki H' σ' ρ'->E.nx σ' H'
 | .ret d=>∀G' H' v,Ext G0 H0 G' H'->Rep G' v d->E.rt v H'
 | _=>False
theorem ResA.mono{r:Res}{E:Ends}{Gc Gd:Hp}(h:ResA fi ri ki G0 H0 Gc r E)(s:Same Gc Gd):ResA fi ri ki G0 H0 Gd r E:=by cases r <;> first | exact h | exact fun G' H' σ' s'=>h G' H' σ' (s.trans s')
def AS(fi ri ki:Nat)(t:TS)(F:FS):Prop:=∀G0 H0 G H σ ρ E,EnvOk G0 H0 G H σ ρ->Alias fi ri ki H σ ρ->ResA fi ri ki G0 H0 G (F ρ) E->t E σ H
variable{t u:TS}{F F':FS}{tc:TT}{fc:ee->Option Bool}{ta tk:TE}{fa fk:ee->Option D}
theorem jks(h:AS fi ri ki t F)(h':AS fi ri ki u F'):AS fi ri ki (jgb t u) (jn F F'):=fun G0 H0 G H σ ρ E e l q=>by
 refine h G0 H0 G H σ ρ _ e l ?_;unfold jn at q;cases z:F ρ with
 | next ρ'=>rw[z]at q;exact fun G' H' σ' s' e' l'=>h' _ _ _ _ _ _ _ e' l' (q.mono s')
 | ret d=>rw[z]at q;exact q
 | _=>rw[z]at q;exact q.elim
def j8(fi ri ki:Nat)(fc:ee->Option Bool)(F:FS):FS:=fun ρ=>match fc (JP fi ri ki ρ)with
 | some true=>F ρ
 | some false=>.next ρ
 | none=>.fail
theorem jkR(hc:TOk tc fc)(h:AS fi ri ki t F):AS fi ri ki (jkg tc t jgX) (j8 fi ri ki fc F):=fun G0 H0 G H σ ρ E e l q=>by
 unfold j8 at q;split at q
 . rename_i z;exact hc _ _ _ _ _ _ _ _ (l.lend e) z fun G' H' x=>by rw[Ys rfl];exact h _ _ _ _ _ _ _ (e.grow x) (l.grow x.hh) (q.mono x.gg)
 . rename_i z;exact hc _ _ _ _ _ _ _ _ (l.lend e) z fun G' H' x=>by rw[YJ Ym];exact q G' H' σ x.gg (e.grow x) (l.grow x.hh)
 . exact q.elim
def jaP(fi ri ki i:Nat)(fa:ee->Option D):FS:=fun ρ=>match fa (JP fi ri ki ρ)with
 | some d=>.next (ρ.set i (.sh d))
 | none=>.fail
theorem jjV{i:Nat}(h1:i≠fi)(h2:i≠ri)(h3:i≠ki)(h:EOk ta fa):AS fi ri ki (ZQ ta (JS i)) (jaP fi ri ki i fa):=fun G0 H0 G H σ ρ E e l q=>by
 unfold jaP at q;split at q
 . rename_i d z;refine h _ _ _ _ _ _ _ _ (l.lend e) z fun v G' H' x r=>q G' H' _ x.gg ((e.grow x).set r) fun dss hd=>?_;rw[Yh h1]at hd;obtain⟨a,bs,b,k,p1,p2,p3,p4,p5,p6⟩:=l dss hd;exact⟨a,bs,b,k,by rw[Yh h3];exact p1,p2,by rw[Yh h1];exact p3,x.hh _ _ p4,p5,by rw[Yh h2];exact p6⟩
 . exact q.elim
theorem Alias.put(hki:ki≠fi){q:List (List D)×Nat×List D}{us':List V}{ds':List D}(l:Alias fi ri ki H σ ρ)(e:EnvOk G0 H0 G H σ ρ)(h:alR fi ki ρ=some q)(r:Reps G us' ds'):
 ∃b,σ[ri]?=some (some (.ref b))/\EnvOk G0 H0 G (upd H b (.lst us')) σ (ρ.set fi (.oo (q.1.set q.2.1 ds')))/\Alias fi ri ki (upd H b (.lst us')) σ (ρ.set fi (.oo (q.1.set q.2.1 ds'))):=by
 obtain⟨a,bs,b,us,p1,p2,p3,p4,p5,p6,p7,p8⟩:=l.open e h;refine⟨b,p6,e.putOO p1 p3 p4 p5 r,fun dss _=>?_⟩;obtain⟨a',bs',b',k,w1,w2,w3,w4,w5,w6⟩:=l q.1 p1;obtain⟨a2,bs2,g1,g2,g3,_,_⟩:=e.oo p1;rw[p3]at g1;cases g1;rw[p4]at g2;have ebs:bs2=bs:=((Kn (f:=V.ref) fun x y z=>V.ref.inj z).mp (HO.lst.inj (Option.some.inj g2))).symm;subst ebs;have hab:a≠b:=fun z=>(YY.mp g3).1 (z ▸ Yq p5);rw[p3]at w3;cases w3;refine⟨a,bs',b',k,by rw[Yh (Ne.symm hki)];exact w1,w2,p3,?_,w5,w6⟩;rw[ju hab];exact w4
def zv(fi ri ki:Nat)(fk fa:ee->Option D)(ρ:ee):Option ee:=(alR fi ki ρ).bind fun q=>(fa (JP fi ri ki ρ)).bind fun d=>((fk (JP fi ri ki ρ)).bind asI).bind fun l=>(QX q.2.2.length l).map fun j=>ρ.set fi (.oo (q.1.set q.2.1 (q.2.2.set j d)))
def zC(f:ee->Option ee):FS:=fun ρ=>match f ρ with
 | some ρ'=>.next ρ'
 | none=>.fail
theorem jjA(hki:ki≠fi)(hk:EOk tk fk)(h:EOk ta fa):AS fi ri ki (ZQ ta (jjf (Ji ri) tk jhb)) (zC (zv fi ri ki fk fa)):=fun G0 H0 G H σ ρ E e l q=>by
 unfold zC at q;cases hq:zv fi ri ki fk fa ρ with
 | none=>rw[hq]at q;exact q.elim
 | some ρ'=>
 rw[hq]at q;unfold zv at hq;obtain⟨w,z1,hq⟩:=bind_some hq;obtain⟨d,z2,hq⟩:=bind_some hq;obtain⟨m,z3,hq⟩:=bind_some hq;obtain⟨j,z4,hq⟩:=map_some hq;subst hq;replace z3:=jip z3;obtain⟨a,bs,b,us,p1,p2,p3,p4,p5,p6,p7,p8⟩:=l.open e z1;refine h _ _ _ _ _ _ _ _ (l.lend e) z2 fun v G1 H1 x1 r1=>⟨_,p6,hk _ _ _ _ _ _ _ _ ((l.lend e).grow x1) z3 fun kv G2 H2 x2 r2=>?_⟩
 (have hh:=Rep.of_int r2;subst hh)
 have x:=x1.trans x2;obtain⟨b',w1,w2,w3⟩:=(l.grow x.hh).put hki (e.grow x) z1 ((p8.mono x.gg).set (r1.mono x2.gg) j);rw[p6]at w1;cases w1;exact⟨b,us,m,j,rfl,rfl,x.hh _ _ p7,by rw[p8.length];exact z4,q G2 _ σ x.gg w2 w3⟩
def jcY(fi ri ki:Nat)(fa:ee->Option D)(ρ:ee):Option ee:=(alR fi ki ρ).bind fun q=>(fa (JP fi ri ki ρ)).bind fun d=>if zp q.2.2.length then some (ρ.set fi (.oo (q.1.set q.2.1 (q.2.2++[d]))))else none
theorem jjL(hki:ki≠fi)(h:EOk ta fa):AS fi ri ki (jbE (tBM Fr.K "list" JF (Ji ri) (JT ta ja9))) (zC (jcY fi ri ki fa)):=fun G0 H0 G H σ ρ E e l q=>by
 unfold zC at q;cases hq:jcY fi ri ki fa ρ with
 | none=>rw[hq]at q;exact q.elim
 | some ρ'=>
 rw[hq]at q;unfold jcY at hq;obtain⟨w,z1,hq⟩:=bind_some hq;obtain⟨d,z2,hq⟩:=bind_some hq;by_cases hs:zp w.2.2.length=true
 case neg=>rw[YJ hs]at hq;cases hq
 rw[Ys hs]at hq;cases hq;obtain⟨a,bs,b,us,p1,p2,p3,p4,p5,p6,p7,p8⟩:=l.open e z1;refine⟨_,p6,.inl ⟨rfl,us,.inl (.inl p7)⟩,h _ _ _ _ _ _ _ _ (l.lend e) z2 fun v G1 H1 x1 r1=>?_⟩;obtain⟨b',w1,w2,w3⟩:=(l.grow x1.hh).put hki (e.grow x1) z1 ((p8.mono x1.gg).snoc r1);rw[p6]at w1;cases w1;exact⟨b,us,v,rfl,rfl,x1.hh _ _ p7,by rw[p8.length];exact JZ hs,q G1 _ σ x1.gg w2 w3⟩
def hA(fi ri ki:Nat)(ρ:ee):ee:=match alR fi ki ρ with
 | some q=>(ρ.set fi (.ow (q.1.map .lst))).set ri (.sh (.lst q.2.2))
 | none=>ρ
def sHA(fi ri ki:Nat)(F:FS):FS:=fun ρ=>match F (hA fi ri ki ρ)with
 | .next ρ'=>match ρ'[fi]? with
   | some (.ow _)=>.next ρ'
   | _=>.fail
 | _=>.fail
theorem jmd(hr:ri≠fi)(h:QK t F):AS fi ri ki t (sHA fi ri ki F):=fun G0 H0 G H σ ρ E e l q=>by
 unfold sHA at q;cases hF:F (hA fi ri ki ρ)with
 | next ρ'=>
   rw[hF]at q;have fin:∀G1,Same G G1->EnvOk G0 H0 G1 H σ (hA fi ri ki ρ)->t E σ H:=fun G1 s1 e1=>by
    refine h _ _ _ _ _ _ _ e1 ?_;rw[hF];intro G' H' σ' s' e';dsimp only at q;split at q
    . rename_i ds z;exact q G' H' σ' (s1.trans s') e' fun dss hd=>by rw[z]at hd;cases hd
    . exact q.elim
   unfold hA at fin;cases ha:alR fi ki ρ with
   | none=>rw[ha]at fin;exact fin G (.refl _) e
   | some w=>
     rw[ha]at fin;obtain⟨a,bs,b,us,p1,p2,p3,p4,p5,p6,p7,p8⟩:=l.open e ha;obtain⟨G4,e4,s4⟩:=e.hfrz fi;have zh:L2.hfrz fi ρ=ρ.set fi (.ow (w.1.map .lst)):=by unfold L2.hfrz;rw[p1]
     rw[zh]at e4;have hfi:fi<ρ.length:=(Yg.mp p1).1;obtain⟨a',vs,g1,g2,g3,g4,g5⟩:=e4.ow (YG hfi);rw[p3]at g1;cases g1;rw[p4]at g4;have ev:vs=bs.map V.ref:=(HO.lst.inj (Option.some.inj g4)).symm;subst ev;obtain⟨v,y1,y2⟩:=g5.get (show(w.1.map D.lst)[w.2.1]?=some (.lst w.2.2) by rw[Yr,p2];rfl);rw[Yr,p5]at y1;cases y1;have e5:=e4.set (i:=ri) y2;rw[jcO p6]at e5;exact fin G4 s4 e5
 | _=>rw[hF]at q;exact q.elim
end
section
variable[Fr]{fi ri ki:Nat}{t:TS}{F:FS}{tk:TE}{fk:ee->Option D}
def jc6(fi ri ki:Nat)(ρ:ee):Option ee:=(alR fi ki ρ).bind fun q=>if q.2.2.length≠0 then some (ρ.set fi (.oo (q.1.set q.2.1 (q.2.2.take (q.2.2.length-1)))))else none
theorem jjv(hki:ki≠fi):AS fi ri ki (jbE (jjb Fr.K "list" jkh (Ji ri))) (zC (jc6 fi ri ki)):=fun G0 H0 G H σ ρ E e l q=>by
 unfold zC at q;cases hq:jc6 fi ri ki ρ with
 | none=>rw[hq]at q;exact q.elim
 | some ρ'=>
 rw[hq]at q;unfold jc6 at hq;obtain⟨w,z1,hq⟩:=bind_some hq;by_cases hs:w.2.2.length≠0
 case neg=>rw[YJ hs]at hq;cases hq
 rw[Ys hs]at hq;cases hq;obtain⟨a,bs,b,us,p1,p2,p3,p4,p5,p6,p7,p8⟩:=l.open e z1;have hl:=p8.length;have hlt:us.length-1<us.length:=by omega
 obtain⟨b',w1,w2,w3⟩:=l.put hki e z1 (p8.take (w.2.2.length-1));rw[p6]at w1;cases w1;refine⟨_,p6,.inl ⟨rfl,us,.inl (.inl p7)⟩,b,us,us[us.length-1],rfl,rfl,p7,Ya hlt,?_⟩;show E.nx σ (upd H b (.lst us.dropLast));rw[List.dropLast_eq_take,hl];exact q G _ σ (.refl _) w2 w3
def J4(i:Nat)(fk:ee->Option D)(ρ:ee):Option ee:=(ρ[i]?.bind jjX).bind fun ds=>((fk ρ).bind asI).bind fun k=>if 0<=k/\k<ds.length/\ds.length<=16777216 then some (ρ.set i (.ow (ds.eraseIdx k.toNat)))else none
theorem Reps.erase{G:Hp}{vs:List V}{ds:List D}(h:Reps G vs ds)(k:Nat):Reps G (vs.eraseIdx k) (ds.eraseIdx k):=by rw[List.eraseIdx_eq_take_drop_succ,List.eraseIdx_eq_take_drop_succ];exact(h.take k).append (h.drop (k+1))
theorem jhu(i:Nat)(hk:EOk tk fk):QK (jbE (tBM Fr.K "list" jd2 (Ji i) (JT tk ja9))) (zC (J4 i fk)):=fun G0 H0 G H σ ρ E e q=>by
 unfold zC at q;cases hq:J4 i fk ρ with
 | none=>rw[hq]at q;exact q.elim
 | some ρ'=>
 rw[hq]at q;unfold J4 at hq;obtain⟨ds,z1,hq⟩:=bind_some hq;obtain⟨k,z2,hq⟩:=bind_some hq;by_cases hs:0<=k/\k<ds.length/\ds.length<=16777216
 case neg=>rw[YJ hs]at hq;cases hq
 rw[Ys hs]at hq;cases hq;replace z1:=jf6 z1;replace z2:=jip z2;obtain⟨a,vs,h1,h2,h3,h4,h5⟩:=e.ow z1;refine⟨_,h1,.inl ⟨rfl,vs,.inl (.inl h4)⟩,hk _ _ _ _ _ _ _ _ e z2 fun v G1 H1 x1 r1=>?_⟩
 (have hh:=Rep.of_int r1;subst hh)
 have hl:=h5.length;have hlt:k.toNat<vs.length:=by omega
 refine⟨a,vs,k,k.toNat,vs[k.toNat],rfl,rfl,x1.hh _ _ h4,by omega,by omega,?_,Ya hlt,q G1 _ σ x1.gg ((e.grow x1).put z1 h1 ((h5.mono x1.gg).erase k.toNat))⟩;exact StrLaws.seqIndex_nonneg hs.1 (by omega)
def jcZ(fi:Nat):FS:=fun ρ=>match ρ[fi]? with
 | some (.oo dss)=>.ret (.lst (dss.map .lst))
 | some (.ow ds)=>.ret (.lst ds)
 | _=>.fail
theorem jj8:AS fi ri ki (jfm (Ji fi)) (jcZ fi):=fun G0 H0 G H σ ρ E e l q=>by
 unfold jcZ at q;split at q
 . rename_i dss z;obtain⟨a,bs,g1,_⟩:=e.oo z;obtain⟨G',y1,y2⟩:=e.endOO z g1;exact⟨_,g1,q G' H _ y1 y2⟩
 . rename_i ds z;obtain⟨a,vs,g1,_⟩:=e.ow z;obtain⟨G',y1,y2⟩:=e.endO z g1;exact⟨_,g1,q G' H _ y1 y2⟩
 . exact q.elim
def jbc(fi ri ki:Nat)(F:FS):FS:=fun ρ=>if ri<ρ.length/\(alR fi ki ρ).isSome=true then(match F (ρ.set ri .un)with | .ret d=>.ret d | _=>.fail)else .fail
theorem jhq(hrf:ri≠fi)(hrk:ri≠ki)(h:AS fi ri ki t F):QK (jgb (ZQ (tOp (rIx Fr.K) (Ji fi) (Ji ki)) (JS ri)) t) (jbc fi ri ki F):=fun G0 H0 G H σ ρ E e q=>by
 unfold jbc at q;by_cases hc:ri<ρ.length/\(alR fi ki ρ).isSome=true
 case neg=>rw[YJ hc]at q;exact q.elim
 rw[Ys hc]at q;obtain⟨w,z1⟩:=Option.isSome_iff_exists.mp hc.2;unfold alR at z1;obtain⟨dss,y1,z1⟩:=bind_some z1;obtain⟨k,y2,z1⟩:=bind_some z1;by_cases hk:0<=k
 case neg=>rw[YJ hk]at z1;cases z1
 rw[Ys hk]at z1;obtain⟨ds,y3,z1⟩:=map_some z1;replace y1:=jaL y1;replace y2:=jeN y2;obtain⟨a,bs,g1,g2,g3,g4,g5⟩:=e.oo y1;obtain⟨b,us,b1,b2,b3⟩:=g5.get y3;have hkb:k.toNat<bs.length:=(Yg.mp b1).1;obtain⟨va,w1,w2⟩:=e.sh y2;cases w2.of_int;have hat:atI (bs.map V.ref) k=some (.ref b):=by unfold atI QX;rw[Ys hk,QC,Ys (by omega)];show(bs.map V.ref)[k.toNat]?=_;rw[Yr,b1];rfl
 refine⟨_,g1,_,w1,.inl ⟨a,bs.map V.ref,k,.ref b,rfl,rfl,.inl (.inl g2),hat,?_⟩⟩;have e1:EnvOk G0 H0 G H (σ.set ri (some (.ref b))) (ρ.set ri .un):=e.fresh (.refl e.same) (.un _) fun c f=>(jap f).elim;refine h _ _ _ _ _ _ _ e1 (fun dss' hd=>?_) ?_
 . exact⟨a,bs,b,k,by rw[Yh hrk];exact y2,hk,by rw[Yh hrf];exact g1,g2,b1,YG (by rw[e.len];exact hc.1)⟩
 . cases hF:F (ρ.set ri .un)with
   | ret d=>rw[hF]at q;exact q
   | _=>rw[hF]at q;exact q.elim
def jeC(n:Nat)(dss:List (List D))(ds:List D):ee:=.oo dss::(ds.map .sh++List.replicate (n-(ds.length+1)) .un)
def jef(k n:Nat)(F:FS)(dss:List (List D))(ds:List D):Option D:=if ds.length+1=k then(match F (jeC n dss ds)with | .ret d=>some d | _=>none)else none
def spB(f:List (List D)->List D->Option D):Sp:=fun vs H Q _=>∃G us a bs ds dss d,vs=V.ref a::us/\Same G H/\Reps G us ds/\(∀b∈a::bs,G b=none)/\(a::bs).Nodup/\H a=some (.lst (bs.map V.ref))/\Rows G H bs dss/\f dss ds=some d/\∀v G' H',Ext G (jb9 H (a::bs)) G' H'->Rep G' v d->Q v H'
theorem jk4{k n:Nat}{F:FS}{vs:List V}{H:Hp}{Q:VK}{E:XK}(q:spB (jef k n F) vs H Q E):vs.length=k:=by
 obtain⟨G,us,a,bs,ds,dss,d,rfl,s,r,_,_,_,_,hf,fin⟩:=q;unfold jef at hf;split at hf
 . rename_i h;rw[Yt,r.length];exact h
 . cases hf
theorem jgT{G H:Hp}{us:List V}{ds:List D}{a:Addr}{bs:List Addr}{dss:List (List D)}{k n:Nat}(s:Same G H)(r:Reps G us ds)(gn:∀b∈a::bs,G b=none)(nd:(a::bs).Nodup)(ha:H a=some (.lst (bs.map V.ref)))(rows:Rows G H bs dss)(hk:k=n-(V.ref a::us).length):
 EnvOk G (jb9 H (a::bs)) G H ((V.ref a::us).map some++List.replicate k none) (jeC n dss ds):=by
 have hl:=r.length;unfold jeC;have at_m:∀(m:Nat) (o:Option V) (sl:Slot),((V.ref a::us).map some++List.replicate k none)[m]?=some o->(Slot.oo dss::(ds.map Slot.sh++List.replicate (n-(ds.length+1)) Slot.un))[m]?=some sl->(∃v d,o=some v/\sl=.sh d/\Rep G v d)\/(m=0/\o=some (.ref a)/\sl=.oo dss)\/sl=.un:=fun m o sl g1 g2=>by
  cases m with
  | zero=>cases g1;cases g2;exact .inr (.inl ⟨rfl,rfl,rfl⟩)
  | succ m=>
    have g1':(us.map some++List.replicate k none)[m]?=some o:=g1;have g2':(ds.map Slot.sh++List.replicate (n-(ds.length+1)) Slot.un)[m]?=some sl:=g2;rcases YT m ds.length with hm | hm
    . rw[YI (by simpa using hm),Yr]at g2';rw[YI (by simpa[hl]using hm),Yr]at g1';have hd:ds[m]?=some ds[m]:=Ya hm;obtain⟨v,w1,w2⟩:=r.get hd;rw[w1]at g1';rw[hd]at g2';cases g1';cases g2';exact .inl ⟨_,_,rfl,rfl,w2⟩
    . rw[YC (by simpa using hm),Y5]at g2';split at g2'
      . cases g2';exact .inr (.inr rfl)
      . cases g2'
 refine⟨⟨fun b o q=>?_,.refl _,s,fun b o q=>.inl q⟩,by simp[hl,hk],fun m o sl g1 g2=>?_,fun m m' o o' sl sl' b g1 g2 g3 g4 f f'=>?_⟩
 . by_cases hb:b∈a::bs
   . rw[jeY hb]at q;cases q
   . rw[zW hb]at q;exact q
 . rcases at_m m o sl g1 g2 with⟨v,d,rfl,rfl,w⟩ | ⟨_,rfl,rfl⟩ | rfl
   . exact .sh w
   . exact .oo ha nd (fun b hb=>⟨jeY hb,gn b hb⟩) rows
   . exact .un _
 . have one:∀m o sl,((V.ref a::us).map some++List.replicate k none)[m]?=some o->(Slot.oo dss::(ds.map Slot.sh++List.replicate (n-(ds.length+1)) Slot.un))[m]?=some sl->qq H o sl b->m=0:=fun m o sl g1 g2 f=>by
    rcases at_m m o sl g1 g2 with⟨v,d,rfl,rfl,w⟩ | ⟨h,_,_⟩ | rfl
    . cases v <;> exact f.elim
    . exact h
    . exact(jap f).elim
   rw[one m o sl g1 g2 f,one m' o' sl' g3 g4 f']
theorem jjw{a n k:Nat}{vs:List V}{H:Hp}{Q:VK}{E:XK}(h:QK t F)(hk:k=n-vs.length)(q:spB (jef a n F) vs H Q E):t { nx:=fun _ H'=>Q .non H',rt:=Q } (vs.map some++List.replicate k none) H:=by
 obtain⟨G,us,a',bs,ds,dss,d,rfl,s,r,gn,nd,ha,rows,hf,fin⟩:=q;unfold jef at hf;split at hf
 . refine h G (jb9 H (a'::bs)) G H _ _ _ (jgT s r gn nd ha rows hk) ?_;cases hF:F (jeC n dss ds)with
   | ret d'=>rw[hF]at hf;cases hf;exact fun G' H' v x rv=>fin v G' H' x rv
   | _=>rw[hF]at hf;cases hf
 . cases hf
def jaF(j:Nat)(f:List (List D)->List D->Option D)(fs:ee->Option (List D))(ρ:ee):Option ee:=(ρ[j]?.bind jfA).bind fun dss=>(fs ρ).bind fun ds=>(f dss ds).map fun d=>ρ.set j (.sh d)
theorem ji6{As:TA}{fs:ee->Option (List D)}{f:List (List D)->List D->Option D}{E0':XK}(j:Nat)(ha:AOk As fs):QK (ZQ (jcW (spB f) [] E0' (JT (Ji j) As)) (JS j)) (zC (jaF j f fs)):=fun G0 H0 G H σ ρ E e q=>by
 unfold zC at q;cases hq:jaF j f fs ρ with
 | none=>rw[hq]at q;exact q.elim
 | some ρ'=>
 rw[hq]at q;unfold jaF at hq;obtain⟨dss,z1,hq⟩:=bind_some hq;obtain⟨ds,z2,hq⟩:=bind_some hq;obtain⟨d,z3,hq⟩:=map_some hq;subst hq;replace z1:=jaL z1;obtain⟨a0,_,h0,_⟩:=e.oo z1;refine⟨_,h0,ha _ _ _ _ _ _ _ _ e z2 fun vs G1 H1 x1 r1=>?_⟩;have e1:=e.grow x1;obtain⟨a,bs,g1,g2,g3,g4,g5⟩:=e1.oo z1;rw[h0]at g1;cases g1;refine⟨G1,vs,a0,bs,ds,dss,d,by rw[yO],x1.gh,r1,fun b hb=>(g4 b hb).2,g3,g2,g5,z3,fun v G2 H2 x2 rv=>?_⟩;have far:∀(m:Nat) o s,σ[m]?=some o->(ρ.set j .un)[m]?=some s->∀b,qq H1 o s b->b∉a0::bs:=fun m o s w1 w2 b fb hb=>by
  by_cases hm:j=m
  . subst hm;rw[yr]at w2;simp at w2;rw[<-w2.2]at fb;exact jap fb
  . rw[Yh hm]at w2;exact hm (e1.dist m j _ _ _ _ b w1 w2 h0 z1 fb ((qo g2).mpr hb)).symm
 have e9:=(e1.drop (i:=j)).freshH (i:=j) x2 g4 far (o':=some v) (.sh rv) fun b fb=>by cases v <;> exact fb.elim
 rw[List.set_set]at e9;exact q G2 H2 _ (x1.gg.trans x2.gg) e9
end
structure WAl(M:Fm)(fi ri ki:Nat)(st:Stmt)(F:FS):Prop where
 h:∃t,(∀i,PS (M.X i) st t)/\@AS M.fr fi ri ki t F
structure WAls(M:Fm)(fi ri ki:Nat)(st:List Stmt)(F:FS):Prop where
 h:∃t,(∀i,PSs (M.X i) st t)/\@AS M.fr fi ri ki t F
section
variable{M:Fm}{fi ri ki:Nat}{st:Stmt}{sts:List Stmt}{F F':FS}{a b c e:Expr}{es:List Expr}{fa fb fe:ee->Option D}{fc:ee->Option Bool}{pos p p1 apos cpos:Pos}{x y z:Str}{fs:ee->Option (List D)}
theorem zY(hc:WC M c fc)(h:WAls M fi ri ki sts F):WAl M fi ri ki (.If c sts [] pos) (j8 fi ri ki fc F):=let ⟨_,l1,l2⟩:=hc.h;let ⟨_,h1,h2⟩:=h.h;⟨_,fun j=>jiL (l1 j) (h1 j) jeR,@jkR M.fr _ _ _ _ _ _ _ l2 h2⟩
theorem qG(h:WAl M fi ri ki st F):WAls M fi ri ki [st] F:=let ⟨_,h1,h2⟩:=h.h;⟨_,fun j=>jan (h1 j),h2⟩
theorem j1(h:WAl M fi ri ki st F)(h':WAls M fi ri ki sts F'):WAls M fi ri ki (st::sts) (jn F F'):=let ⟨_,h1,h2⟩:=h.h;let ⟨_,k1,k2⟩:=h'.h;⟨_,fun j=>Q4 (h1 j) (k1 j),@jks M.fr _ _ _ _ _ _ _ h2 k2⟩
theorem jeW(hr:ri≠fi)(h:WS M st F):WAl M fi ri ki st (sHA fi ri ki F):=let ⟨_,h1,h2⟩:=h.h;⟨_,h1,@jmd M.fr _ _ _ _ _ hr h2⟩
theorem jhV{i:Nat}{pos':Pos}(n1:i≠fi)(n2:i≠ri)(n3:i≠ki)(h:WE M e fe)(hN:∀j,(M.X j).N.Nodup)(hi:M.N[i]?=some x)(hx:∀j,Loc (M.X j).env.scope x)(hf:∀j,(M.X j).fn x=true\/(M.X j).env.scope.names.lookup x=some .local)(hs:∀j,swapsWith e (some (.Name x pos')) pos.line (M.X j).env=pure false:=by intro _;rfl):
 WAl M fi ri ki (.Assign [.Name x pos'] e pos) (jaP fi ri ki i fe):=let ⟨_,h1,h2⟩:=h.h;⟨_,fun j=>ZD (hN j) (by rw[M.hN j];exact hi) (hx j) (h1 j) (hs j) (hf j),@jjV M.fr _ _ _ _ _ i n1 n2 n3 h2⟩
theorem jia(hki:ki≠fi)(hN:M.N[ri]?=some y)(hv:∀j,Vis (M.X j).env.scope y)(h:WE M e fe)(hd:(y == ("__debug__":Str))=false:=by decide)(hcd:(y == ("__classdict__":Str))=false:=by decide)
 (hbase:∀j,attributeBase (.Name y p) "append" (M.X j).env (eval (.Name y p) (M.X j).env)=eval (.Name y p) (M.X j).env:=by intro _;rfl) (hline:(apos.endLine == cpos.line)=true:=by rfl) (h':jH e=false:=by rfl)
 (hs:∀j,swapsWith (.Call (.Attribute (.Name y p) "append" apos) [e] [] cpos) none pos.line (M.X j).env=pure false:=by intro _;rfl):WAl M fi ri ki (.Expr (.Call (.Attribute (.Name y p) "append" apos) [e] [] cpos) pos) (zC (jcY fi ri ki fe)):=
 let ⟨_,a1,a2⟩:=h.h
 ⟨_,fun j=>Zr (te:=tBM M.K "list" JF _ _) (by have:=jei (X:=M.X j) (apos:=apos) (cpos:=cpos) yD Kj Ki ZG (qN (i:=ri) (pos:=p) (by rw[M.hN j];exact hN) (hv j) hd hcd) (zw (a1 j) JA (jV h')) (hbase j) (by rw[jV h'];rfl) hline (jV h') (qw rfl);rw[M.hK j]at this;exact this) (hs j),@jjL M.fr _ _ _ _ _ hki a2⟩
theorem JG{pos':Pos}{y:Str}{py:Pos}(hki:ki≠fi)(hN:M.N[ri]?=some y)(hv:∀j,Vis (M.X j).env.scope y)(hk:WE M b fb)(h:WE M e fe)(hd:(y == ("__debug__":Str))=false:=by decide)(hcd:(y == ("__classdict__":Str))=false:=by decide)
 (ha:autoParam (∀j v,assign (.Subscript (.Name y py) b pos') (M.X j).env v=(do
  let ov <- holding [v] (eval (.Name y py) (M.X j).env)
  let iv <- holding [v,ov] (eval b (M.X j).env)
  standAt pos'
  holding [v,ov,iv] (setItem ov iv v)
  release [v,ov,iv] [])) QA.a9._auto_1)
 (hs:∀j,swapsWithSole [.Subscript (.Name y py) b pos'] e pos.line (M.X j).env=pure false:=by intro _;rfl) (hw:∀j,swappedStores [.Subscript (.Name y py) b pos'] e (M.X j).env=pure none:=by intro _;rfl)
 (h1:∀j,(assignEach [.Subscript (.Name y py) b pos'] (M.X j).env).map (·.2)=[assign (.Subscript (.Name y py) b pos') (M.X j).env]:=by intro _;rfl):WAl M fi ri ki (.Assign [.Subscript (.Name y py) b pos'] e pos) (zC (zv fi ri ki fb fe)):=
 let ⟨_,a1,a2⟩:=h.h;let ⟨_,b1,b2⟩:=hk.h;⟨_,fun j=>jdM (a1 j) (jgv (qN (by rw[M.hN j];exact hN) (hv j) hd hcd) (b1 j) jcK (ha j)) (hs j) (hw j) (h1 j),@jjA M.fr _ _ _ _ _ _ _ hki b2 a2⟩
theorem jhm(hki:ki≠fi)(hN:M.N[ri]?=some y)(hv:∀j,Vis (M.X j).env.scope y)(hd:(y == ("__debug__":Str))=false:=by decide)(hcd:(y == ("__classdict__":Str))=false:=by decide)
 (hbase:∀j,attributeBase (.Name y p) "pop" (M.X j).env (eval (.Name y p) (M.X j).env)=eval (.Name y p) (M.X j).env:=by intro _;rfl) (hline:(apos.endLine == cpos.line)=true:=by rfl)
 (hs:∀j,swapsWith (.Call (.Attribute (.Name y p) "pop" apos) [] [] cpos) none pos.line (M.X j).env=pure false:=by intro _;rfl):WAl M fi ri ki (.Expr (.Call (.Attribute (.Name y p) "pop" apos) [] [] cpos) pos) (zC (jc6 fi ri ki)):=
 ⟨_,fun j=>Zr (te:=jjb M.K "list" jkh _) (by have:=jjP (X:=M.X j) (apos:=apos) (cpos:=cpos) yD PySem.F.slot_list_pop PySem.F.type_list_pop jjW (qN (i:=ri) (pos:=p) (by rw[M.hN j];exact hN) (hv j) hd hcd) (hbase j) hline;rw[M.hK j]at this;exact this) (hs j),@jjv M.fr _ _ _ hki⟩
theorem jgt{i:Nat}(hN:M.N[i]?=some y)(hv:∀j,Vis (M.X j).env.scope y)(h:WE M e fe)(hd:(y == ("__debug__":Str))=false:=by decide)(hcd:(y == ("__classdict__":Str))=false:=by decide)
 (hbase:∀j,attributeBase (.Name y p) "pop" (M.X j).env (eval (.Name y p) (M.X j).env)=eval (.Name y p) (M.X j).env:=by intro _;rfl) (hline:(apos.endLine == cpos.line)=true:=by rfl) (h':jH e=false:=by rfl)
 (hs:∀j,swapsWith (.Call (.Attribute (.Name y p) "pop" apos) [e] [] cpos) none pos.line (M.X j).env=pure false:=by intro _;rfl):WS M (.Expr (.Call (.Attribute (.Name y p) "pop" apos) [e] [] cpos) pos) (zC (J4 i fe)):=
 let ⟨_,a1,a2⟩:=h.h
 ⟨_,fun j=>Zr (te:=tBM M.K "list" jd2 _ _) (by have:=jei (X:=M.X j) (apos:=apos) (cpos:=cpos) yD PySem.F.slot_list_pop PySem.F.type_list_pop jfY (qN (i:=i) (pos:=p) (by rw[M.hN j];exact hN) (hv j) hd hcd) (zw (a1 j) JA (jV h')) (hbase j) (by rw[jV h'];rfl) hline (jV h') (qw rfl);rw[M.hK j]at this;exact this) (hs j),@jhu M.fr _ _ i a2⟩
theorem jgg(hN:M.N[fi]?=some x)(hv:∀j,Vis (M.X j).env.scope x)(hd:(x == ("__debug__":Str))=false:=by decide)(hcd:(x == ("__classdict__":Str))=false:=by decide):WAls M fi ri ki [.Return (some (.Name x p)) pos] (jcZ fi):=⟨_,fun j=>jan (ja2 (qN (by rw[M.hN j];exact hN) (hv j) hd hcd)),@jj8 M.fr fi ri ki⟩
theorem je8{p0 p2 p3:Pos}(hrf:ri≠fi)(hrk:ri≠ki)(hNd:∀j,(M.X j).N.Nodup)(h1:M.N[fi]?=some x)(h2:M.N[ki]?=some y)(h3:M.N[ri]?=some z)(v1:∀j,Vis (M.X j).env.scope x)(v2:∀j,Vis (M.X j).env.scope y)(lz:∀j,Loc (M.X j).env.scope z)(fz:∀j,(M.X j).fn z=true\/(M.X j).env.scope.names.lookup z=some .local)(h:WAls M fi ri ki sts F)
 (hd:(x == ("__debug__":Str))=false:=by decide) (hcd:(x == ("__classdict__":Str))=false:=by decide) (hd':(y == ("__debug__":Str))=false:=by decide) (hcd':(y == ("__classdict__":Str))=false:=by decide)
 (hs:∀j,swapsWith (.Subscript (.Name x p) (.Name y p1) p2) (some (.Name z p0)) p3.line (M.X j).env=pure false:=by intro _;rfl):WSs M (.Assign [.Name z p0] (.Subscript (.Name x p) (.Name y p1) p2) p3::sts) (jbc fi ri ki F):=
 let ⟨_,k1,k2⟩:=h.h
 ⟨_,fun j=>Q4 (ZD (te:=tOp (rIx M.K) (Ji fi) (Ji ki)) (hNd j) (by rw[M.hN j];exact h3) (lz j) (jiu (r:=rIx M.K) (by rw[<-M.hK j];exact jgj) (qN (by rw[M.hN j];exact h1) (v1 j) hd hcd) (qN (by rw[M.hN j];exact h2) (v2 j) hd' hcd') (fun _ _=>rfl)) (hs j) (fz j)) (k1 j),@jhq M.fr _ _ _ _ _ hrf hrk k2⟩
theorem jhN{j k:Nat}{pos':Pos}{gA:Addr}{fd:FuncData}{ps:List Str}{f2:List (List D)->List D->Option D}(F:∀q,FnOk (M.X q).prog (M.X q).w (M.X q).K (M.X q).mg (M.X q).base JV k gA fd ps (@spB M.fr f2))(hr:∀q,Room k (M.X q).A)(hg:∀q,Gl (M.X q) x)(hx:∀q,FX (M.X q).K (M.X q).mg x st gA fd ps)(ha:WA M es fs)
 (hN:∀q,(M.X q).N.Nodup) (hi:M.N[j]?=some y) (hv:∀q,Vis (M.X q).env.scope y) (hl:∀q,Loc (M.X q).env.scope y) (hf:∀q,(M.X q).fn y=true ∨ (M.X q).env.scope.names.lookup y=some .local) (hdb:(x == ("__debug__":Str))=false:=by decide) (hd:(y == ("__debug__":Str))=false:=by decide) (hcd:(y == ("__classdict__":Str))=false:=by decide) (h':(es.all fun e=>!jH e)=true:=by rfl)
 (hs:∀q,swapsWith (.Call (.Name x p) (.Name y p1::es) [] cpos) (some (.Name y pos')) pos.line (M.X q).env=pure false:=by intro _;rfl):WS M (.Assign [.Name y pos'] (.Call (.Name x p) (.Name y p1::es) [] cpos) pos) (zC (jaF j f2 fs)):=
 let ⟨_,h1,h2⟩:=ha.h
 have hz:jH (Expr.Name y p1)=false:=rfl
 ⟨_,fun q=>ZD (hN q) (by rw[M.hN q];exact hi) (hl q) (jal (F q) (hr q) (hg q) (hx q).m (hx q).f.kp (hx q).b .nil jeI (zw (qN (i:=j) (pos:=p1) (by rw[M.hN q];exact hi) (hv q) hd hcd) (h1 q) (jV hz)) hdb (jV hz) (qw h')) (hs q) (hf q),@ji6 M.fr _ _ f2 E0 j h2⟩
end
section
variable{P:Program}{w:World}{K:PySem.W.Frag}{mg:Str->Option Value}{base:Heap}{y qual:Str}{st:Stmt}{f:Addr}{fd:FuncData}{N ps:List Str}{k a n:Nat}{m:FS}
theorem jkP(F:Fun K y qual st f fd)(S:FnScope N ps (jh st))(ha:a=ps.length)(hn:N.length=n)
 (h:∀(cdv:Value) (A:Around) (outer:List PySem.Env) (s:Shared) (H:Hp) (E:XK),Room k (A.deeper (envOfC qual (jh st) s.heap.objs.size f cdv))->WSs (jeV P w K mg base N qual (jh st) f cdv A outer s H E) (jP st) m) :
 FnOk P w K mg base JV (k+1) f fd ps (@spB ⟨K⟩ (jef a n m)):=by
 letI:Fr:=⟨K⟩
 refine F.ok S (fun vs H Q E h=>(jk4 h).trans ha) (fun cdv A outer s H vs Q E hr q=>?_);obtain⟨t,h1,h2⟩:=(h cdv A outer s H E hr).h;exact⟨t,h1 (),jjw h2 (by rw[<-hn]) q⟩
end
end L2
namespace Q
open PySem PySem.Spec PyProof.Rows L2
def zX:FS:=(jn (JR (jZ (jg dLt (ja 1) (jf jN (jb (ja 0) ji))))
 (qO (jg jI (ja 0) (ja 1))) j2)
 (qO (eC (.int 0))))
def jQ:List D->Option D:=Ja 2 2 zX
def J2:FS:=(jn (jD 3 (jg qP (jg jF (ja 0) (eC (.int 6))) (eC (.int 2))))
 (jn (jD 4 (jg qj (jg qj (ja 3) (eC (.int 1))) (jg jF (jg zx (ja 0) (eC (.int 6))) (eC (.int 5)))))
 (jn (JR (jZ (jg zb (ja 2) (eC (.int 1))))
 (jn (jD 3 (jg qP (jg jF (ja 0) (eC (.int 50))) (eC (.int 25))))
 (jD 4 (jg qj (jg qj (ja 3) (eC (.int 1))) (jg jF (jg zx (ja 0) (eC (.int 50))) (eC (.int 40)))))) j2)
 (jn (JR (jZ (jg zb (ja 2) (eC (.int 2))))
 (jn (jD 3 (jg zu (jg qP (jg jF (jg zu (ja 0) (eC (.int 1103515245))) (eC (.int 2147483647))) (jg Jt (eC (.int 10)) (eC (.int 9)))) (jg Jt (eC (.int 10)) (eC (.int 5)))))
 (jD 4 (jg qj (jg qj (ja 3) (eC (.int 1))) (jg zu (jg jF (jg zu (ja 0) (eC (.int 1664525013))) (eC (.int 2147483629))) (jg Jt (eC (.int 10)) (eC (.int 5))))))) j2)
 (jn (jD 5 (jg jI (jM (qt (jb (eC (.int 2)) (jb (eC (.int 1)) (jb (eC (.int 3)) (jb (eC (.int 5)) (jb (jg Jt (eC (.int 10)) (eC (.int 15))) (jb (jg qj (eC (.int 1)) (jg jF (jg zx (ja 1) (eC (.int 8))) (eC (.int 50)))) (jb (eC (.int 0)) (jb (eC (.int 4)) ji)))))))))) (jg jF (ja 1) (eC (.int 8)))))
 (jn (jD 6 (jg jF (jg zu (ja 1) (eC (.int 1103515245))) (eC (.int 2147483647))))
 (jn (jD 7 (jg zu (ja 5) (jg qP (ja 4) (ja 3))))
 (jn (jD 8 (jg jI (jM (qt (jb (jg zx (jg zu (ja 7) (jg jF (ja 6) (eC (.int 17)))) (eC (.int 16))) (jb (jg jF (ja 6) (jg qj (ja 7) (eC (.int 1)))) (jb (jf Qw (jb (ja 7) (jb (jg jF (ja 6) (eC (.int 9))) ji))) (jb (jB 7) ji)))))) (jg jF (jg zx (ja 6) (eC (.int 17))) (eC (.int 4)))))
 (qO (ZM (jb (jB 3) (jb (jB 4) (jb (jB 8) (jb (jB 5) ji))))))))))))))
def qU:List D->Option D:=Ja 3 9 J2
def zH:FS:=(jn (jD 2 (jf jQ (jb (jB 0) (jb (jB 1) ji))))
 (jn (Qb 3 (qt ji))
 (jn (JI (Qc (jb (jg jI (jM (qt (jb (eC (.int 3)) (jb (eC (.int 4)) (jb (eC (.int 2)) (jb (eC (.int 4)) (jb (eC (.int 1)) (jb (eC (.int 3)) (jb (eC (.int 0)) (jb (eC (.int 4)) ji)))))))))) (jg jF (ja 2) (eC (.int 8)))) ji)) (jT 4)
 (jn (jD 5 (jf jQ (jb (jB 0) (jb (jg qj (jg qj (ja 1) (eC (.int 1))) (jg zu (eC (.int 2)) (ja 4))) ji))))
 (JU 3 (jf qU (jb (jB 5) (jb (jf jQ (jb (jB 0) (jb (jg qj (jg qj (ja 1) (eC (.int 2))) (jg zu (eC (.int 2)) (ja 4))) ji))) (jb (jg jF (jg zx (ja 2) (eC (.int 8))) (eC (.int 3))) ji)))))))
 (jn (JR (zZ (jZ (jg dGt (jf jN (jb (ja 3) ji)) (eC (.int 1)))) (jZ (jg zb (jg jF (jg zx (ja 2) (eC (.int 24))) (eC (.int 4))) (eC (.int 1)))))
 (Jz 3 (ja4 (eC (.int 1))) (jg jI (ja 3) (eC (.int 0)))) j2)
 (ja6 3)))))
def zM:List D->Option (List D):=jae 2 6 zH
def zJ:FS:=(jn (jD 1 (jM (jf jdo (jb (jM (jg jbo (jM (eLC (zq (ja 0)) (jT 0) (fun _=>some true) (jg jI (ja 0) (eC (.int 0))) 1 [])) (jM (eLC (zq (ja 0)) (jT 0) (fun _=>some true) (jg jI (ja 0) (eC (.int 1))) 1 [])))) ji))))
 (J5 (eLC (Qc (jb (jg qP (jf jN (jb (ja 1) ji)) (eC (.int 1))) ji)) (jT 0) (jZ (jg dLt (jg jI (ja 1) (ja 0)) (jg jI (ja 1) (jg qj (ja 0) (eC (.int 1)))))) (ZM (jb (jg jI (ja 1) (ja 0)) (jb (jg jI (ja 1) (jg qj (ja 0) (eC (.int 1)))) ji))) 1 [1])))
def zK:List D->Option (List D):=jae 1 2 zJ
def zL:FS:=(jn (Qb 2 (qt ji))
 (jn (JI (zq (jB 1)) (ZO 2 (zd (jT 3) (zd (jT 4) jaj)))
 (JR (zZ (jZ (jg dLe (jg jI (ja 0) (eC (.int 0))) (ja 3))) (jZ (jg dLe (ja 4) (jg jI (ja 0) (eC (.int 1))))))
 (JU 2 (jg zu (jg jI (ja 0) (eC (.int 3))) (jg qP (ja 4) (ja 3)))) (JU 2 (eC (.int 0)))))
 (ja6 2)))
def qJ:List D->Option (List D):=jae 2 5 zL
def Jg:FS:=(jn (jD 2 (jM (jf zK (jb (jB 0) ji))))
 (jn (ZH 3 (fun _=>some []))
 (jn (JI (Qc (jb (jf jN (jb (ja 0) ji)) ji)) (jT 4)
 (jn (jD 5 (jM (jf qJ (jb (jg jI (ja 0) (ja 4)) (jb (jB 2) ji)))))
 (jn (jD 6 (jg jI (jg jI (ja 0) (ja 4)) (eC (.int 2))))
 (jn (Qb 7 (qt ji))
 (jn (JI (Qc (jb (jf jN (jb (ja 2) ji)) ji)) (jT 8)
 (jn (jD 9 (jg jI (ja 1) (jg jF (jg qj (jg zu (ja 4) (jf jN (jb (ja 2) ji))) (ja 8)) (jf jN (jb (ja 1) ji)))))
 (jn (jD 10 (jg jI (jM (qt (jb (eC (.int 0)) (jb (jg jI (ja 5) (ja 8)) (jb (jg zx (jg zu (jg jI (ja 5) (ja 8)) (jg jF (jg zx (ja 9) (eC (.int 4))) (eC (.int 9)))) (eC (.int 8))) (jb (jg jF (jg zx (ja 9) (eC (.int 4))) (jg qj (jg jI (ja 5) (ja 8)) (eC (.int 1)))) ji)))))) (jg jF (ja 9) (eC (.int 4)))))
 (jn (JU 7 (jf ZS (jb (ja 6) (jb (jg jI (ja 5) (ja 8)) (jb (ja 10) ji)))))
 (jD 6 (jg qP (ja 6) (jg jI (ja 7) (ja 8))))))))
 (jn (JI (Qc (jb (jf jN (jb (ja 2) ji)) ji)) (jT 8)
 (jn (jD 11 (jg jF (jg qj (ja 8) (jg jI (ja 1) (jg jF (ja 4) (jf jN (jb (ja 1) ji))))) (jf jN (jb (ja 2) ji))))
 (jn (jD 12 (jf Qw (jb (ja 6) (jb (jg qP (jg jI (ja 5) (ja 11)) (jg jI (ja 7) (ja 11))) ji))))
 (jn (Jz 7 (jB 11) (jg qj (jg jI (ja 7) (ja 11)) (ja 12)))
 (jD 6 (jg qP (ja 6) (ja 12)))))))
 (jbH 3 7)))))))
 j2)))
def Jc:List D->Option (List (List D)):=jbS 2 13 Jg (ooV 3)
def Q8:FS:=(qO (jai (Jl "int" (ja 0)) (jdS (Jl "bool" (ja 0)))))
def zi:List D->Option D:=Ja 1 1 Q8
def zj:FS:=(jn (JR (bOr (Jr (jZ (Jl "list" (ja 2)))) (jZ (jg dNe (jf jN (jb (ja 2) ji)) (jf jN (jb (ja 0) ji)))))
 (qO (eC (.bl false))) j2)
 (jn (JI (Qc (jb (jf jN (jb (ja 0) ji)) ji)) (jT 3)
 (jn (jD 4 (jg jI (ja 2) (ja 3)))
 (jn (JR (bOr (Jr (jZ (Jl "list" (ja 4)))) (jZ (jg dNe (jf jN (jb (ja 4) ji)) (jf jN (jb (ja 1) ji)))))
 (qO (eC (.bl false))) j2)
 (jn (jD 5 (jM (jf qJ (jb (jg jI (ja 0) (ja 3)) (jb (jB 1) ji)))))
 (jn (JI (Qc (jb (jf jN (jb (ja 1) ji)) ji)) (jT 6)
 (JR (bOr (Jr (jZ (jf zi (jb (jg jI (ja 4) (ja 6)) ji)))) (bOr (jZ (jg dLt (jg jI (ja 4) (ja 6)) (eC (.int 0)))) (jZ (jg dGt (jg jI (ja 4) (ja 6)) (jg jI (ja 5) (ja 6))))))
 (qO (eC (.bl false))) j2))
 (JR (jZ (jg dNe (jf jd6 (jb (ja 4) ji)) (jg jI (jg jI (ja 0) (ja 3)) (eC (.int 2)))))
 (qO (eC (.bl false))) j2))))))
 (qO (eC (.bl true)))))
def qF:List D->Option D:=Ja 3 7 zj
def Q0:FS:=(jn (jD 1 (jM (eLC (zq (ja 0)) (jT 0) (fun _=>some true) (jg jI (ja 0) (eC (.int 0))) 1 [])))
 (jn (jD 2 (jM (eLC (zq (ja 0)) (jT 0) (fun _=>some true) (jg jI (ja 0) (eC (.int 1))) 1 [])))
 (J5 (jdy (jb (jM (jg jbo (ja 1) (ja 2))) ji)))))
def jbe:List D->Option (List D):=jae 1 3 Q0
def Jd:FS:=(jn (jD 1 (jM (jf jbe (jb (jB 0) ji))))
 (J5 (eLZ (jb (ja 1) (jb (jM (eSl (ja 1) (pSo (eC (.int 1))) pNo)) ji)))))
def Qa:List D->Option (List D):=jae 1 2 Jd
def jaY:FS:=(qO (jai (Jl "int" (ja 0)) (jdS (Jl "bool" (ja 0)))))
def qT:List D->Option D:=Ja 1 1 jaY
def ja0:FS:=(qO (jg qP (jg jI (ja 0) (eC (.int 1))) (jg jI (ja 0) (eC (.int 0)))))
def Zg:List D->Option D:=Ja 1 1 ja0
def jeg:FS:=(jn (JR (zZ (jZ (jg dLe (jg jI (ja 0) (eC (.int 0))) (jg jI (ja 1) (eC (.int 0))))) (jZ (jg dLe (jg jI (ja 1) (eC (.int 1))) (jg jI (ja 0) (eC (.int 1))))))
 (qO (jg zu (jg jI (ja 0) (eC (.int 3))) (jf Zg (jb (jB 1) ji)))) j2)
 (qO (eC (.int 0))))
def ZL:List D->Option D:=Ja 2 2 jeg
def j3:FS:=(jn (JR (bOr (Jr (jZ (Jl "list" (ja 2)))) (jZ (jg dNe (jf jN (jb (ja 2) ji)) (jf jN (jb (ja 1) ji)))))
 (qO (eC (.bl false))) j2)
 (jn (JR (Jr (jZ (jf jc2 (jb (jM (eLC (zq (ja 2)) (jT 0) (fun _=>some true) (jf qT (jb (jB 0) ji)) 1 [])) ji))))
 (qO (eC (.bl false))) j2)
 (jn (JR (Jr (jZ (jf jc2 (jb (jM (eLC (Zc (jb (ja 1) (jb (ja 2) ji))) (ZO 2 (zd (jT 0) (zd (jT 1) jaj))) (fun _=>some true) (zR dLe dLe (eC (.int 0)) (ja 1) (jf ZL (jb (jB 2) (jb (jB 0) ji)))) 2 [0])) ji))))
 (qO (eC (.bl false))) j2)
 (qO (jg zb (jf jd6 (jb (ja 2) ji)) (jg jI (ja 0) (eC (.int 2))))))))
def jU:List D->Option D:=Ja 3 3 j3
def qr:FS:=(jn (JR (bOr (Jr (jZ (Jl "list" (ja 1)))) (jZ (jg dNe (jf jN (jb (ja 1) ji)) (jf jN (jb (ja 0) ji)))))
 (qO (eC (.bl false))) j2)
 (jn (jD 2 (jM (jf Qa (jb (jB 0) ji))))
 (qO (jf jc2 (jb (jM (eLC (Zc (jb (ja 0) (jb (ja 1) ji))) (ZO 2 (zd (jT 0) (zd (jT 1) jaj))) (fun _=>some true) (jf jU (jb (jB 0) (jb (jB 2) (jb (jB 1) ji)))) 2 [2])) ji)))))
def qL:List D->Option D:=Ja 2 3 qr
def zA:FS:=(jbc 0 5 2
 (jn (j8 0 5 2 (jZ (jg zb (ja 1) (eC (.int 1))))
 (zC (zv 0 5 2 (jB 3) (jg qj (jg jI (ja 5) (ja 3)) (eC (.int 1))))))
 (jn (j8 0 5 2 (jZ (jg zb (ja 1) (eC (.int 2))))
 (zC (zv 0 5 2 (jB 3) (jg qP (jg jI (ja 5) (ja 3)) (eC (.int 1))))))
 (jn (j8 0 5 2 (jZ (jg zb (ja 1) (eC (.int 3))))
 (jn (zC (zv 0 5 2 (jB 3) (jg qP (jg jI (ja 5) (ja 3)) (eC (.int 1)))))
 (zC (zv 0 5 2 (jg jF (ja 4) (jf jN (jb (ja 5) ji))) (jg qj (jg jI (ja 5) (jg jF (ja 4) (jf jN (jb (ja 5) ji)))) (eC (.int 1)))))))
 (jn (j8 0 5 2 (jZ (jg zb (ja 1) (eC (.int 4))))
 (zC (zv 0 5 2 (jB 3) (jg jI (jM (qt (jb (eC (.bl true)) (jb (eC .non) (jb (eC (.str "0")) (jb (eC (.bl false)) (jb (ZM (jb (eC (.int 0)) ji)) (jb (jg qP (ja4 (eC (.int 1))) (jg jF (ja 4) (jg Jt (eC (.int 10)) (eC (.int 9))))) ji)))))))) (jg jF (ja 4) (eC (.int 6)))))))
 (jn (j8 0 5 2 (jZ (jg zb (ja 1) (eC (.int 5))))
 (zC (jcY 0 5 2 (eC (.int 0)))))
 (jn (j8 0 5 2 (jZ (jg zb (ja 1) (eC (.int 6))))
 (zC (jc6 0 5 2)))
 (jn (j8 0 5 2 (jZ (jg zb (ja 1) (eC (.int 7))))
 (sHA 0 5 2 (Jz 0 (jB 2) (jf QH (jb (ja 5) ji)))))
 (jn (j8 0 5 2 (jZ (jg zb (ja 1) (eC (.int 8))))
 (sHA 0 5 2 (JU 0 (jM (jf Q3 (jb (ja 5) ji))))))
 (jn (j8 0 5 2 (jZ (jg zb (ja 1) (eC (.int 9))))
 (sHA 0 5 2 (zC (J4 0 (jB 2)))))
 (jn (j8 0 5 2 (jZ (jg zb (ja 1) (eC (.int 10))))
 (sHA 0 5 2 (Jz 0 (jB 2) (jg jI (jM (qt (jb (eC .non) (jb (eC (.bl true)) (jb (eC (.str "row")) (jb (eC (.int 0)) ji)))))) (jg jF (ja 4) (eC (.int 4)))))))
 (jn (j8 0 5 2 (zZ (jZ (jg zb (ja 1) (eC (.int 11)))) (jZ (jg dGt (jf jN (jb (ja 5) ji)) (eC (.int 1)))))
 (jn (jaP 0 5 2 6 (jg jI (ja 5) (jg jF (ja 4) (jf jN (jb (ja 5) ji)))))
 (jn (zC (zv 0 5 2 (jg jF (ja 4) (jf jN (jb (ja 5) ji))) (jg jI (ja 5) (ja 3))))
 (zC (zv 0 5 2 (jB 3) (jB 6))))))
 (jcZ 0)))))))))))))
def qy:List (List D)->List D->Option D:=jef 5 7 zA
def jeT:FS:=(jn (jD 1 (jM (jf zM (jb (jB 0) (jb (eC (.int 3)) ji)))))
 (jn (jD 2 (jM (jf zK (jb (jB 1) ji))))
 (jn (ZH 3 (jf Jc (jb (jB 1) (jb (jM (jg jbo (jM (eSl (ja 0) (pSo (eC (.int 12))) (pSo (eC (.int 63))))) (jM (qt (jb (eC (.int 0)) ji))))) ji))))
 (jn (jD 4 (jg jF (jf jQ (jb (jB 0) (jb (eC (.int 0)) ji))) (eC (.int 14))))
 (jn (jD 5 (jf jQ (jb (jB 0) (jb (eC (.int 2)) ji))))
 (jn (JR (jZ (jg dNe (ja 1) (jM (qt ji))))
 (jn (jD 6 (jf jQ (jb (jB 0) (jb (eC (.int 1)) ji))))
 (zC (jaF 3 qy (jb (jB 4) (jb (jg jF (ja 6) (jf jN (jb (ja 1) ji))) (jb (jg jF (jg zx (ja 6) (eC (.int 7))) (jf jN (jb (ja 2) ji))) (jb (jB 5) ji))))))) j2)
 (jn (JR (jZ (jg zb (ja 4) (eC (.int 12))))
 (QP 3 (jD 3 (jg jI (jM (qt (jb (jf QH (jb (ja 3) ji)) (jb (eC .non) (jb (eC (.bl true)) (jb (eC (.str "plan")) (jb (eC (.int 7)) (jb (jM (qt (jb (jM (qt ji)) ji))) ji)))))))) (jg jF (ja 5) (eC (.int 6)))))) j2)
 (jn (QP 3 (jD 7 (jf qF (jb (jB 1) (jb (jB 2) (jb (jB 3) ji))))))
 (jn (jD 8 (jM (jf Q3 (jb (ja 1) ji))))
 (jn (QP 3 (jD 9 (jf dRepr (jb (jB 3) ji))))
 (jn (QP 3 (jD 10 (jf qL (jb (jB 8) (jb (jB 3) ji)))))
 (QP 3 (qO (jai (Jl "bool" (ja 10)) (jai (jg zb (ja 10) (ja 7)) (jai (jg zb (ja 8) (ja 1)) (jg zb (jf dRepr (jb (jB 3) ji)) (ja 9))))))))))))))))))
def jin:List D->Option D:=Ja 1 11 jeT
local macro_rules | `(tactic| walk_at "ev") => `(tactic| simp (disch := omega) only [Ja, jae, jcB, jdl, qh, jn, JR, jD, Qb, qO, J5, ja6, j2, jfP, QP, frz, JU, jkZ, Jz, jf7, jiE, jB, ja, eC, jg, jf, ji, jb, qt, ZM, jM, jZ, zZ, bOr, Jr, ja4, jdS, jai, eOr, eIf, jT, jaj, zd, ZO, jkM, jiD, jlf, jlp, qB, eSl, pSo, pNo,
 jO,qd,JX,JD,qu,jC,jew,jeq,jgd,jdF,jgU,dLt_ok,ZR,dGt_ok,jgZ,jgr,jhK,dEqB,jlb,jN,j5,Qw,jiG,Q3,QH,dIs,jii,zR,QU,QW,ZP,jcb,jg9,jg0,jf3,jgu,Jl,Z9,jbh,ZT,ZV,Z5,Z4,Zb,ZX,Zt,Zq,Q9,Zp,Z0,jaZ,Z3,Z1,Z2,Z6,Zm,ZW,Q6,QY,Q5,Zh,QE,Zf,Qm,Qr,Qq,QG,
 YO,yQ,Yt,Y1,List.replicate_succ,yT,yz,Km,Yi,Yn,YF,YB,Yc,Yp,Nat.reduceAdd,Nat.reduceSub,Nat.reduceLT,Nat.reduceLeDiff,yq,yC,reduceIte,YX,Bool.true_eq_false,Kk,Nat.add_zero,KI,Nat.reduceEqDiff,Kr,Kh,Bool.not_true,Bool.not_false,Int.reduceEq,Int.reduceLT,Int.reduceLE,Int.reduceNeg,Int.reduceSub,Int.reduceAdd,Int.reduceMul,Int.cast_ofNat_Int,Int.natCast_zero,Int.natCast_one])
local macro_rules | `(tactic| walk_at "evh") => `(tactic| simp (disch := omega) only [*, Ja, jae, jcB, jdl, qh, jn, JR, jD, Qb, qO, J5, ja6, j2, jfP, QP, frz, JU, jkZ, Jz, jf7, jiE, jB, ja, eC, jg, jf, ji, jb, qt, ZM, jM, jZ, zZ, bOr, Jr, ja4, jdS, jai, eOr, eIf, jT, jaj, zd, ZO, jkM, jiD, jlf, jlp, qB, eSl, pSo, pNo,
 jO,qd,JX,JD,qu,jC,jew,jeq,jgd,jdF,jgU,dLt_ok,ZR,dGt_ok,jgZ,jgr,jhK,dEqB,jlb,jN,j5,Qw,jiG,Q3,QH,dIs,jii,zR,QU,QW,ZP,jcb,jg9,jg0,jf3,jgu,Jl,Z9,jbh,ZT,ZV,Z5,Z4,Zb,ZX,Zt,Zq,Q9,Zp,Z0,jaZ,Z3,Z1,Z2,Z6,Zm,ZW,Q6,QY,Q5,Zh,QE,Zf,Qm,Qr,Qq,QG,
 YO,yQ,Yt,Y1,List.replicate_succ,yT,yz,Km,Yi,Yn,YF,YB,Yc,Yp,Nat.reduceAdd,Nat.reduceSub,Nat.reduceLT,Nat.reduceLeDiff,yq,yC,reduceIte,YX,Bool.true_eq_false,Kk,Nat.add_zero,KI,Nat.reduceEqDiff,Kr,Kh,Bool.not_true,Bool.not_false,Int.reduceEq,Int.reduceLT,Int.reduceLE,Int.reduceNeg,Int.reduceSub,Int.reduceAdd,Int.reduceMul,Int.cast_ofNat_Int,Int.natCast_zero,Int.natCast_one])
def cell(ns:List Int)(k:Int):Int:=ns.getD k.toNat 0
theorem zk{l:List D}:jN [.lst l]=some (.int (l.length:Int)):=rfl
theorem jjZ{l:List Int}:jN [.scr l]=some (.int (l.length:Int)):=rfl
theorem Zy(ns:List Int)(k:Int)(h:0<=k):jQ [.scr ns,.int k]=some (.int (cell ns k)):=by
 unfold jQ zX;simp(disch:=omega) only[Ja,Yt,Y1,Kk,Nat.reduceAdd,jcB,jn,JR,jZ,jg,ja,qh,YO,yQ,KI,yT,yz,Km,Yn,Yi,jf,jb,ji,Yp,Yc,jjZ,dLt_ok,qO,j2,eC,yq];by_cases hk:k<ns.length
 . have e:jI (.scr ns) (.int k)=some (.int (cell ns k)):=by
    show(atI ns k).map D.int=_;unfold atI QX;rw[Ys h,Ys hk];have hi:k.toNat<ns.length:=by omega
    simp[cell,hi,Y6]
   simp only[hk,Kr,e]
 . have e:cell ns k=0:=by unfold cell;rw[Y6,Y2 (by omega)];rfl
   simp only[hk,Kh,e]
def je(s:Ship):D:=.tup [.int s.b,.int s.e,.int s.n,.int s.m]
theorem jbK{ns:List Int}{i:Int}(h0:0<=i)(h1:i<ns.length):∃m,m∈ns/\jI (.lst (ns.map D.int)) (.int i)=some (.int m):=by obtain⟨d,hd,e⟩:=jeJ (ds:=ns.map D.int) h0 (by rw[QC];exact h1);obtain⟨m,hm,rfl⟩:=yk.mp hd;exact⟨m,hm,e⟩
theorem jjs{f x:Int}(h0:0<=f)(h1:0<=x)(h2:x<=16):0<=f*x/16/\f*x/16<=f:=by have a:0<=f*x:=Ku h0 h1;have b:f*x<=f*16:=Int.mul_le_mul_of_nonneg_left h2 h0;omega
section
variable{β:Type}{ρ:ee}
theorem jq{f:List D->Option β}{fa:ee->Option (List D)}{ds:List D}{x:β}(ha:fa ρ=some ds)(h:f ds=some x):jf f fa ρ=some x:=by unfold jf;rw[ha];exact h
theorem jo{g:D->D->Option β}{fa fb:ee->Option D}{x y:D}{z:β}(h1:fa ρ=some x)(h2:fb ρ=some y)(h3:g x y=some z):jg g fa fb ρ=some z:=by unfold jg;rw[h1,h2];exact h3
theorem qm{fe:ee->Option D}{i:Nat}{d:D}(h:fe ρ=some d):jD i fe ρ=.next (ρ.set i (.sh d)):=by unfold jD;rw[h]
theorem qC{fo:ee->Option (List D)}{l:List D}(h:fo ρ=some l):jM fo ρ=some (.lst l):=by unfold jM;rw[h];rfl
theorem js{fa:ee->Option D}{fs:ee->Option (List D)}{d:D}{ds:List D}(h1:fa ρ=some d)(h2:fs ρ=some ds):jb fa fs ρ=some (d::ds):=by unfold jb;rw[h1,h2];rfl
theorem jG{fa:ee->Option D}{b:Bool}(h:fa ρ=some (.bl b)):jZ fa ρ=some b:=by unfold jZ;rw[h]
theorem zc{fc:ee->Option Bool}{F:FS}(h:fc ρ=some false):JR fc F j2 ρ=.next ρ:=by unfold JR;rw[h];rfl
theorem zo{fc:ee->Option Bool}{F F':FS}(h:fc ρ=some true):JR fc F F' ρ=F ρ:=by unfold JR;rw[h]
theorem zE{ga gb:ee->Option Bool}{b:Bool}(h:ga ρ=some false)(h2:gb ρ=some b):bOr ga gb ρ=some b:=by unfold bOr;rw[h];exact h2
theorem Js{ga:ee->Option Bool}{b:Bool}(h:ga ρ=some b):Jr ga ρ=some (!b):=by unfold Jr;rw[h];rfl
theorem qQ{fe:ee->Option D}{d:D}(h:fe ρ=some d):qO fe ρ=.ret d:=by unfold qO;rw[h]
theorem jdP{fa fb:ee->Option D}{d:D}(h:fa ρ=some (.bl true))(h2:fb ρ=some d):jai fa fb ρ=some d:=by unfold jai;rw[jG h];exact h2
theorem jd8{i j:Int}(h:i=j):zb (.int i) (.int j)=some (.bl true):=by rw[jgr,YW h]
theorem jdu{i j:Int}(h:i=j):dNe (.int i) (.int j)=some (.bl false):=by rw[jhK,YW h];rfl
theorem jiv{i j:Int}(h:j<=i):dLt (.int i) (.int j)=some (.bl false):=by rw[dLt_ok,Y0 (by omega)]
theorem jiK{i j:Int}(h:i<=j):dGt (.int i) (.int j)=some (.bl false):=by rw[dGt_ok,Y0 (by omega)]
theorem Za{C:Res->Prop}{F:FS}{r:Res}(h:F ρ=r)(k:C r):C (F ρ):=by rw[h];exact k
theorem ze{F F':FS}{ρ':ee}(h:F ρ=.next ρ'):jn F F' ρ=F' ρ':=by unfold jn;rw[h]
theorem jdn{ga gb:ee->Option Bool}{b c:Bool}(h:ga ρ=some b)(h2:gb ρ=some c):zZ ga gb ρ=some (b && c):=by unfold zZ;rw[h];cases b <;> simp[h2]
theorem jlJ{fc:ee->Option Bool}{F F':FS}{b:Bool}(h:fc ρ=some b):JR fc F F' ρ=if b=true then F ρ else F' ρ:=by unfold JR;rw[h];cases b <;> rfl
theorem Qz{i j:Int}(h:¬i=j):zb (.int i) (.int j)=some (.bl false):=by rw[jgr,Y0 h]
theorem Qo{fs:ee->Option (List D)}{l:List D}(h:fs ρ=some l)(h2:l.length<16777216):qt fs ρ=some l:=by unfold qt;rw[h];show(if zp l.length=true then _ else _)=_;rw[Ys (j5 h2)]
theorem jiP{fs:ee->Option (List D)}{l:List D}(h:fs ρ=some l)(h2:l.length<16777216):ZM fs ρ=some (.tup l):=by unfold ZM;rw[h];show(if zp l.length=true then _ else _)=_;rw[Ys (j5 h2)]
end
theorem jiQ{ρ:ee}{i:Nat}{fa:ee->Option D}{ds:List D}{d:D}(h:ρ[i]?=some (.ow ds))(hf:fa ρ=some d)(hs:ds.length<16777216):JU i fa ρ=.next (ρ.set i (.ow (ds++[d]))):=by unfold JU;rw[h,hf];show(if zp ds.length=true then _ else _)=_;rw[Ys (j5 hs)]
theorem zg{a n:Nat}{m:FS}{ds:List D}{ρ:ee}{d:D}(h1:ds.length=a)(h2:qh n ds=ρ)(h:∀C:Res->Prop,C (.ret d)->C (m ρ)):Ja a n m ds=some d:=by unfold Ja;rw[Ys h1,h2];exact h (fun r=>jcB r=some d) rfl
theorem jL{C:Res->Prop}{F F':FS}{ρ:ee}(ρ':ee)(h:F ρ=.next ρ')(k:C (F' ρ')):C (jn F F' ρ):=by unfold jn;rw[h];exact k
structure Ok0(s:Ship):Prop where
 ok:s.Ok
 long:s.e-s.b<=214748362800001
 lo:-100000000000000<=s.b
 hi:s.b<=114748364600000
theorem j6(x:Int){k:Int}(h:0<k):0<=x%k/\x%k<k:=⟨yP _ (Int.ne_of_gt h),yx _ h⟩
theorem jhG(one two kind:Int):∃s:Ship,Ok0 s/\qU [.int one,.int two,.int kind]=some (je s):=by
 have key:∃b e:Int,b<e/\e-b<=214748362800001 /\ -100000000000000<=b/\b<=114748364600000/\∀R:FS,
  (jn (jD 3 (jg qP (jg jF (ja 0) (eC (.int 6))) (eC (.int 2)))) (jn (jD 4 (jg qj (jg qj (ja 3) (eC (.int 1))) (jg jF (jg zx (ja 0) (eC (.int 6))) (eC (.int 5))))) (jn (JR (jZ (jg zb (ja 2) (eC (.int 1))))
  (jn (jD 3 (jg qP (jg jF (ja 0) (eC (.int 50))) (eC (.int 25))))
  (jD 4 (jg qj (jg qj (ja 3) (eC (.int 1))) (jg jF (jg zx (ja 0) (eC (.int 50))) (eC (.int 40)))))) j2)
  (jn (JR (jZ (jg zb (ja 2) (eC (.int 2))))
  (jn (jD 3 (jg zu (jg qP (jg jF (jg zu (ja 0) (eC (.int 1103515245))) (eC (.int 2147483647))) (jg Jt (eC (.int 10)) (eC (.int 9)))) (jg Jt (eC (.int 10)) (eC (.int 5)))))
  (jD 4 (jg qj (jg qj (ja 3) (eC (.int 1))) (jg zu (jg jF (jg zu (ja 0) (eC (.int 1664525013))) (eC (.int 2147483629))) (jg Jt (eC (.int 10)) (eC (.int 5))))))) j2) R))))
    [.sh (.int one),.sh (.int two),.sh (.int kind),.un,.un,.un,.un,.un,.un]=R [.sh (.int one),.sh (.int two),.sh (.int kind),.sh (.int b),.sh (.int e),.un,.un,.un,.un]:=by
  have b50:=j6 one (show(0:Int)<50 by decide);have b40:=j6 (one/50) (show(0:Int)<40 by decide);have b6:=j6 one (show(0:Int)<6 by decide);have b5:=j6 (one/6) (show(0:Int)<5 by decide);have bx:=j6 (one*1103515245) (show(0:Int)<2147483647 by decide);have by':=j6 (one*1664525013) (show(0:Int)<2147483629 by decide)
  by_cases h1:kind=1
  . clear b6 b5 bx by'
    refine⟨one%50-25,one%50-25+1+one/50%40,?_,?_,?_,?_,fun R=>
      (ze (qm (jo (jo rfl rfl (jC (by decide))) rfl qd))).trans ((ze (qm (jo (jo rfl rfl jO) (jo (jo rfl rfl (qu (by decide) (by decide))) rfl (jC (by decide))) jO))).trans
      ((ze ((zo (jG (jo rfl rfl (jd8 h1)))).trans ((ze (qm (jo (jo rfl rfl (jC (by decide))) rfl qd))).trans (qm (jo (jo rfl rfl jO) (jo (jo rfl rfl (qu (by decide) (by decide))) rfl (jC (by decide))) jO))))).trans
      (ze (zc (jG (jo rfl rfl (Qz (by omega))))))))⟩
    all_goals (generalize one%50=u at *;generalize one/50%40=v at *;omega)
  . by_cases h2:kind=2
    . clear b6 b5 b50 b40;refine⟨(one*1103515245%2147483647-1000000000)*100000,(one*1103515245%2147483647-1000000000)*100000+1+one*1664525013%2147483629*100000,?_,?_,?_,?_,fun R=>
       (ze (qm (jo (jo rfl rfl (jC (by decide))) rfl qd))).trans ((ze (qm (jo (jo rfl rfl jO) (jo (jo rfl rfl (qu (by decide) (by decide))) rfl (jC (by decide))) jO))).trans
       ((ze (zc (jG (jo rfl rfl (Qz h1))))).trans
       (ze ((zo (jG (jo rfl rfl (jd8 h2)))).trans ((ze (qm (jo (jo (jo (jo rfl rfl (JD (by decide) (by decide))) rfl (jC (by decide))) (jo rfl rfl jeq) qd) (jo rfl rfl jew) (JD (by decide) (by decide))))).trans (qm (jo (jo rfl rfl jO) (jo (jo (jo rfl rfl (JD (by decide) (by decide))) rfl (jC (by decide))) (jo rfl rfl jew) (JD (by decide) (by decide))) jO)))))))⟩
      all_goals (generalize one*1103515245%2147483647=u at *;generalize one*1664525013%2147483629=v at *;omega)
    . clear bx by' b50 b40
      refine⟨one%6-2,one%6-2+1+one/6%5,?_,?_,?_,?_,fun R=>
       (ze (qm (jo (jo rfl rfl (jC (by decide))) rfl qd))).trans ((ze (qm (jo (jo rfl rfl jO) (jo (jo rfl rfl (qu (by decide) (by decide))) rfl (jC (by decide))) jO))).trans
       ((ze (zc (jG (jo rfl rfl (Qz h1))))).trans (ze (zc (jG (jo rfl rfl (Qz h2)))))))⟩
      all_goals (generalize one%6=u at *;generalize one/6%5=v at *;omega)
 obtain⟨b,e,h1,h2,h3,h4,hk⟩:=key;obtain⟨m,hm,em⟩:=jbK (ns:=[2,1,3,5,1000000000000000,1+two/8%50,0,4]) (i:=two%8) (j6 two (show(0:Int)<8 by decide)).1 (j6 two (show(0:Int)<8 by decide)).2;have m01:0<=m/\m<=1000000000000000:=by
  have:=j6 (two/8) (show(0:Int)<50 by decide);simp only[Yl,YR,Kb]at hm;generalize two/8%50=u at *
  clear hk h1 h2 h3 h4 em;rcases hm with rfl | rfl | rfl | rfl | rfl | rfl | rfl | rfl
  . exact⟨by decide,by decide⟩
  . exact⟨by decide,by decide⟩
  . exact⟨by decide,by decide⟩
  . exact⟨by decide,by decide⟩
  . exact⟨by decide,by decide⟩
  . omega
  . exact⟨by decide,by decide⟩
  . exact⟨by decide,by decide⟩
 clear hm;obtain⟨m0,m1⟩:=m01;have full0:0<=m*(e-b):=Ku m0 (by omega);obtain⟨x,hx,hx0⟩:∃x,two*1103515245%2147483647=x/\0<=x:=⟨_,rfl,(j6 _ (by decide)).1⟩;obtain⟨f,hf⟩:∃f,m*(e-b)=f:=⟨_,rfl⟩;rw[hf]at full0;obtain⟨n,hn,en⟩:=jbK (ns:=[f*(x%17)/16,x%(f+1),if x%9<f then x%9 else f,f]) (i:=x/17%4) (j6 (x/17) (show(0:Int)<4 by decide)).1 (j6 (x/17) (show(0:Int)<4 by decide)).2;have n01:0<=n/\n<=f:=by
  have a1:=jjs full0 (x:=x%17) (j6 x (by decide)).1 (Int.le_of_lt_add_one (j6 x (show(0:Int)<17 by decide)).2);have a2:0<=x%(f+1):=yP _ (by omega);have a3:x%(f+1)<f+1:=yx _ (by omega);simp only[Yl,YR,Kb]at hn;rcases hn with rfl | rfl | rfl | rfl
  . exact a1
  . omega
  . split <;> omega
  . omega
 clear hn;refine⟨⟨b,e,n,m⟩,⟨⟨h1,by show e-b<=_;omega,by show _<=b;omega,by show b<=_;omega,m0,m1,n01.1,by show n<=m*(e-b);rw[hf];exact n01.2⟩,h2,h3,h4⟩,?_⟩;unfold qU;refine zg (ρ:=[.sh (.int one),.sh (.int two),.sh (.int kind),.un,.un,.un,.un,.un,.un]) rfl rfl fun C fin=>?_;unfold J2;rw[hk];refine jL [.sh (.int one),.sh (.int two),.sh (.int kind),.sh (.int b),.sh (.int e),.sh (.int m),.un,.un,.un] (qm (jo (qC (Qo (js rfl (js rfl (js rfl (js rfl (js (jo rfl rfl jdF) (js (jo rfl (jo (jo rfl rfl (qu (by decide) (by decide))) rfl (jC (by decide))) jO) (js rfl (js rfl rfl)))))))) (show 8<16777216 by decide))) (jo rfl rfl (jC (by decide))) em)) ?_;refine jL [.sh (.int one),.sh (.int two),.sh (.int kind),.sh (.int b),.sh (.int e),.sh (.int m),.sh (.int x),.un,.un] (hx ▸ qm (jo (jo rfl rfl (JD (by decide) (by decide))) rfl (jC (by decide)))) ?_;refine jL [.sh (.int one),.sh (.int two),.sh (.int kind),.sh (.int b),.sh (.int e),.sh (.int m),.sh (.int x),.sh (.int f),.un] (hf ▸ qm (jo rfl (jo rfl rfl qd) (JX (by omega) (by omega)))) ?_;refine jL [.sh (.int one),.sh (.int two),.sh (.int kind),.sh (.int b),.sh (.int e),.sh (.int m),.sh (.int x),.sh (.int f),.sh (.int n)] (qm (jo (qC (Qo (js (jo (jo rfl (jo rfl rfl (jC (by decide))) (JD (Int.lt_of_lt_of_le (by decide) (j6 x (show(0:Int)<17 by decide)).1) (Int.lt_trans (j6 x (show(0:Int)<17 by decide)).2 (by decide)))) rfl (qu (by decide) (by decide))) (js (jo rfl (jo rfl rfl jO) (jC (by omega))) (js (jq (js rfl (js (jo rfl rfl (jC (by decide))) rfl)) rfl) (js rfl rfl)))) (show 4<16777216 by decide))) (jo (jo rfl rfl (qu (by decide) (by decide))) rfl (jC (by decide))) en)) ?_;exact Za (qQ (jiP (l:=[.int b,.int e,.int n,.int m]) (js rfl (js rfl (js rfl (js rfl rfl)))) (show 4<16777216 by decide))) fin
theorem jkl(one two kind:Int):∃s:Ship,s.Ok/\qU [.int one,.int two,.int kind]=some (je s):=let ⟨s,h,e⟩:=jhG one two kind;⟨s,h.ok,e⟩
theorem jel{m:D->ee->Option ee}{B:FS}(P:List D->ee->Prop)(hs:∀d ds ρ,P (d::ds) ρ->∃ρ1 ρ2,m d ρ=some ρ1/\B ρ1=.next ρ2/\P ds ρ2):∀(ds:List D) (ρ:ee),P ds ρ->∃ρ',Jv m B ds ρ=.next ρ'/\P [] ρ'
 | [],ρ,h=>⟨ρ,rfl,h⟩
 | d::ds,ρ,h=>by obtain⟨ρ1,ρ2,h1,h2,h3⟩:=hs d ds ρ h;obtain⟨ρ',h4,h5⟩:=jel P hs ds ρ2 h3;exact⟨ρ',by simp only[Jv,h1,h2];exact h4,h5⟩
theorem J0{C:Res->Prop}{F F':FS}{ρ:ee}{d:D}(h:F ρ=.ret d)(k:C (.ret d)):C (jn F F' ρ):=by unfold jn;rw[h];exact k
theorem jc4{C:Res->Prop}{fi:ee->Option (List D)}{m:D->ee->Option ee}{B F':FS}{ρ:ee}(ds:List D)(P:List D->ee->Prop)(hi:fi ρ=some ds)(h0:P ds ρ)
 (hs:∀d ds ρ,P (d::ds) ρ->∃ρ1 ρ2,m d ρ=some ρ1/\B ρ1=.next ρ2/\P ds ρ2) (k:∀ρ',P [] ρ'->C (F' ρ')):C (jn (JI fi m B) F' ρ):=by
 obtain⟨ρ',h1,h2⟩:=jel P hs ds ρ h0;exact jL ρ' (by unfold JI;rw[hi];exact h1) (k ρ' h2)
theorem zB(lo:Int)(n:Nat):rng lo (n+1)=.int lo::rng (lo+1) n:=by unfold rng;rw[Kq,YO,yn];simp only[Int.natCast_zero,Int.add_zero,List.cons.injEq,true_and];refine KB fun i _=>?_;simp only[Function.comp,Nat.succ_eq_add_one,Int.natCast_add,Int.natCast_one,D.int.injEq];omega
theorem Qf{fa:ee->Option (List D)}{ρ:ee}{j:Int}(h:fa ρ=some [.int j])(h0:0<=j)(h1:j<4611686018427387904):Qc fa ρ=some (rng 0 j.toNat):=by unfold Qc;rw[h];simp only;rw[Ys ⟨by omega,by omega⟩]
theorem jg2{Pr:Ship->Prop}(hP:∀one two kind:Int,∃s:Ship,Pr s/\qU [.int one,.int two,.int kind]=some (je s))(ns:List Int)(st:Int)(h0:0<=st):∃fl:List Ship,(∀s∈fl,Pr s)/\fl.length<=4/\zM [.scr ns,.int st]=some (fl.map je):=by
 suffices main:∀C:Res->Prop,(∀fl:List Ship,(∀s∈fl,Pr s)->fl.length<=4->C (.retO (fl.map je)))->C (zH [.sh (.scr ns),.sh (.int st),.un,.un,.un,.un]) by exact main (fun r=>∃fl:List Ship,(∀s∈fl,Pr s)/\fl.length<=4/\jdl r=some (fl.map je)) fun fl h1 h2=>⟨fl,h1,h2,rfl⟩
 intro C fin;unfold zH;have ec:=Zy ns st h0;generalize cell ns st=c at ec;refine jL [.sh (.scr ns),.sh (.int st),.sh (.int c),.un,.un,.un] (qm (jq rfl ec)) ?_;refine jL [.sh (.scr ns),.sh (.int st),.sh (.int c),.ow [],.un,.un] rfl ?_;obtain⟨n,hn,en⟩:=jbK (ns:=[3,4,2,4,1,3,0,4]) (i:=c%8) (by omega) (by show c%8<8;omega);have n01:0<=n/\n<=4:=by simp only[Yl,YR,Kb]at hn;omega
 clear hn;refine jc4 (rng 0 n.toNat) (fun ds ρ=>∃(fl:List Ship) (k:Nat) (lo:Int) (x y:Slot),ds=rng lo k/\0<=lo/\fl.length+k<=4/\(∀s∈fl,Pr s)/\ρ=[.sh (.scr ns),.sh (.int st),.sh (.int c),.ow (fl.map je),x,y])
  (Qf (js (jo (qC (Qo (l:=[3,4,2,4,1,3,0,4].map D.int) rfl (show 8<16777216 by decide))) (jo rfl rfl (jC (by decide))) en) rfl) n01.1 (by omega)) ⟨[],n.toNat,0,.un,.un,rfl,by omega,by simp;omega,by simp,rfl⟩ ?_ ?_
 . rintro d ds ρ ⟨fl,k,lo,x,y,hd,hlo,hl,hok,rfl⟩;cases k with
   | zero=>cases hd
   | succ k=>
     rw[zB]at hd;cases hd;obtain⟨s,hs,es⟩:=hP (cell ns (st+1+2*lo)) (cell ns (st+2+2*lo)) (c/8%3);refine⟨_,[.sh (.scr ns),.sh (.int st),.sh (.int c),.ow ((fl++[s]).map je),.sh (.int lo),.sh (.int (cell ns (st+1+2*lo)))],rfl,?_,⟨fl++[s],k,lo+1,_,_,rfl,by omega,by simp;omega,fun s' h'=>?_,rfl⟩⟩
     . rw[yv];exact(ze (qm (jq (js rfl (js (jo (jo rfl rfl jO) (jo rfl rfl (JX (by decide) (by decide))) jO) rfl)) (Zy ns (st+1+2*lo) (by omega))))).trans (jiQ (ds:=fl.map je) rfl (jq (js rfl (js (jq (js rfl (js (jo (jo rfl rfl jO) (jo rfl rfl (JX (by decide) (by decide))) jO) rfl)) (Zy ns (st+2+2*lo) (by omega))) (js (jo (jo rfl rfl (qu (by decide) (by decide))) rfl (jC (by decide))) rfl))) es) (by rw[QC];omega))
     . rcases yj.mp h' with h' | h'
       . exact hok s' h'
       . rw[YL.mp h'];exact hs
 . rintro ρ ⟨fl,k,lo,x,y,hd,hlo,hl,hok,rfl⟩;have hk:k=0:=by
    cases k with
    | zero=>rfl
    | succ k=>rw[zB]at hd;cases hd
   subst hk;have el:jN [.lst (fl.map je)]=some (.int (fl.length:Int)):=by show some (D.int ((fl.map je).length:Int))=_;rw[QC]
   have hif:∀(ρ:ee) (F:FS),ρ=[.sh (.scr ns),.sh (.int st),.sh (.int c),.ow (fl.map je),x,y]->JR (zZ (jZ (jg dGt (jf jN (jb (ja 3) ji)) (eC (.int 1)))) (jZ (jg zb (jg jF (jg zx (ja 2) (eC (.int 24))) (eC (.int 4))) (eC (.int 1))))) F j2 ρ=if (decide (1<(fl.length:Int)) && decide (c/24%4=1))=true then F ρ else j2 ρ:=fun ρ F hρ=>by subst hρ;exact jlJ (jdn (jG (jo (jq rfl el) rfl dGt_ok)) (jG (jo (jo (jo rfl rfl (qu (by decide) (by decide))) rfl (jC (by decide))) rfl jgr)))
   by_cases hb:1<(fl.length:Int)/\c/24%4=1
   . cases fl with
     | nil=>simp at hb
     | cons s fl=>
       rw[Yt]at hb;refine jL [.sh (.scr ns),.sh (.int st),.sh (.int c),.ow (((s::fl).set fl.length s).map je),x,y] ?_ ?_
       . have e0:jI (.lst (je s::fl.map je)) (.int 0)=some (je s):=ZK (by decide) rfl;have e1:QX (fl.length+1) (-1)=some fl.length:=by unfold QX;rw[YJ (by decide),Ys (by omega)];congr 1;omega
         rw[hif _ _ rfl,Ys (by rw[YW (by rw[Yt];exact hb.1),YW hb.2];rfl)];simp(disch:=omega) only[jg,ja,YO,Yn,Yi,Yc,Yt,eC,Jz,ja4,Int.reduceNeg,YB,YF];simp only[Yt,QC,e0,e1,List.map_set,YO]
       . refine fin ((s::fl).set fl.length s) (fun s' h'=>?_) (by simpa using hl);rcases yt h' with h' | h'
         . exact hok s' h'
         . rw[h'];exact hok s Yb
   . refine jL [.sh (.scr ns),.sh (.int st),.sh (.int c),.ow (fl.map je),x,y] ?_ (fin fl hok (by omega));rw[hif _ _ rfl,YJ (fun q=>hb ⟨yH (Ky.mp q).1,yH (Ky.mp q).2⟩)];rfl
theorem jhZ(ns:List Int)(st:Int)(h0:0<=st):∃fl:List Ship,(∀s∈fl,s.Ok)/\fl.length<=4/\zM [.scr ns,.int st]=some (fl.map je):=jg2 jkl ns st h0
theorem jdI{m:D->ee->Option ee}{ft:ee->Option Bool}{fe:ee->Option D}{ρ:ee}(g:D->D):∀(ds:List D),(∀d∈ds,∃ρ1,m d ρ=some ρ1/\ft ρ1=some true/\fe ρ1=some (g d))->Zl m ft fe ρ ds=some (ds.map g)
 | [],_=>rfl
 | d::ds,h=>by obtain⟨ρ1,h1,h2,h3⟩:=h d Yb;simp only[Zl,h1,h2,h3,Yc,yq,jdI g ds fun x hx=>h x (Yf _ hx),Yp,YO]
theorem jbR{m:D->ee->Option ee}{ft:ee->Option Bool}{fe:ee->Option D}{ρ:ee}(p:D->Bool)(g:D->D):∀(ds:List D),(∀d∈ds,∃ρ1,m d ρ=some ρ1/\ft ρ1=some (p d)/\(p d=true->fe ρ1=some (g d)))->Zl m ft fe ρ ds=some ((ds.filter p).map g)
 | [],_=>rfl
 | d::ds,h=>by
   obtain⟨ρ1,h1,h2,h3⟩:=h d Yb;have ih:=jbR p g ds fun x hx=>h x (Yf _ hx);cases hp:p d with
   | true=>simp only[Zl,h1,h2,hp,h3 hp,Yc,yq,ih,Yp,yo,YO]
   | false=>simp only[Zl,h1,h2,hp,Yc,YX,yC,ih,yo]
theorem Jy{fi:ee->Option (List D)}{m:D->ee->Option ee}{ft:ee->Option Bool}{fe:ee->Option D}{n:Nat}{ix:List Nat}{ρ:ee}{ds es:List D}(h1:fi ρ=some ds)(h2:ds.length<16777216)(h3:Zl m ft fe (JE n ix ρ) ds=some es):eLC fi m ft fe n ix ρ=some es:=by unfold eLC;rw[h1,Yc,Ys (j5 h2),h3]
theorem jao(bs:List Bool):jc2 [.lst (bs.map D.bl)]=some (.bl (bs.all id)):=by show((je3 (bs.map D.bl)).map fun ns=>D.bl (ns.all id))=_;rw[jc7];rfl
theorem jau(bs:List Int):jd6 [.lst (bs.map D.int)]=some (.int bs.sum):=by show((Q7 (bs.map D.int)).map fun ns=>D.int ns.sum)=_;rw[Qg];rfl
theorem JW{fe:ee->Option D}{ρ:ee}{l:List D}(h:fe ρ=some (.lst l)):zq fe ρ=some l:=by unfold zq;rw[h]
def plain:Nat->D->Prop
 | n+1,.lst l=>∀d∈l,plain n d
 | n+1,.tup l=>∀d∈l,plain n d
 | _,.lst _=>False
 | _,.tup _=>False
 | _,.scr _=>False
 | _,.dic _ _=>False
 | _,.kst _=>False
 | _,.obj _=>False
 | _,_=>True
theorem ZI{f:D->D->Option Bool}:∀(l:List D),(∀d∈l,f d d=some true)->QM f l l=some true
 | [],_=>rfl
 | d::l,h=>by simp only[QM,h d Yb,Yc,ZI l fun x hx=>h x (Yf _ hx),Yp,Bool.and_self]
theorem J1{d:D}(f:qB d=true):eqB d d=some true:=by unfold eqB;rw[Ys f,Ys f];cases d <;> first | exact absurd (show false=true from f) Ym | rfl | simp[vOf,eqV]
theorem jaG:∀(n:Nat) (d:D),plain n d->Zn n d d=some true
 | 0,d,h=>by cases d <;> first | exact h.elim | exact J1 rfl
 | n+1,d,h=>by
   cases d with
   | lst l=>show(if l.length=l.length then QM (Zn n) l l else some false)=_;rw[Ys rfl];exact ZI l fun d hd=>jaG n d (h d hd)
   | tup l=>show(QM (Zn n) l l).map (· && l.length == l.length)=_;rw[ZI l fun d hd=>jaG n d (h d hd)];simp
   | scr l=>exact h.elim
   | dic l m=>exact h.elim
   | kst l=>exact h.elim
   | obj l=>exact h.elim
   | int i=>exact J1 rfl
   | bl i=>exact J1 rfl
   | non=>exact J1 rfl
   | str i=>exact J1 rfl
theorem jgR{l:List D}(h:plain 40 (.lst l)):zb (.lst l) (.lst l)=some (.bl true):=by show(Zn 40 (.lst l) (.lst l)).map D.bl=_;rw[jaG 40 _ h];rfl
theorem dNe_nil{l:List D}:dNe (.lst l) (.lst [])=some (.bl (!l.isEmpty)):=by show(Zn 40 (.lst l) (.lst [])).map (fun b=>D.bl (!b))=_;cases l <;> rfl
theorem JO{α:Type}{f:α->D}{l:List α}{k:Int}{a:α}(h0:0<=k)(h:l[k.toNat]?=some a):jI (.lst (l.map f)) (.int k)=some (f a):=ZK h0 (by rw[Yr,h];rfl)
def jl(p:Int×Int):D:=.tup [.int p.1,.int p.2]
theorem jer(k:Int):∀l:List Int,(ins k l).length<=l.length+1
 | []=>by simp[ins]
 | x::l=>by
   have:=jer k l;unfold ins;split
   . simp
   . split
     . simp
     . simp;omega
theorem jeQ:∀l:List Int,(srt l).length<=l.length
 | []=>by simp[srt]
 | x::l=>by have h1:=jeQ l;have h2:=jer x (srt l);show(ins x (srt l)).length<=l.length+1;omega
theorem Zu(fl:List Ship):(zG fl).length<=2*fl.length:=by have:=jeQ (hrs fl);unfold zG;simp[hrs]at this ⊢;omega
theorem Qe{fl:List Ship}(k:Int)(g:Ship->Int)(hg:∀s,jI (je s) (.int k)=some (.int (g s)))(ρ:ee)(i:Nat)(hi:ja i ρ=some (.lst (fl.map je)))(hl:fl.length<1000):
 eLC (zq (ja i)) (jT 0) (fun _=>some true) (jg jI (ja 0) (eC (.int k))) 1 [] ρ=some ((fl.map g).map D.int):=by
 refine Jy (JW hi) (by rw[QC];omega) ?_;rw[jdI (fun d=>match jI d (.int k)with | some x=>x | none=>.non) _ fun d hd=>?_]
 . rw[yn,yn];congr 1;refine KB fun s _=>?_;show(match jI (je s) (.int k)with | some x=>x | none=>D.non)=_;rw[hg s];rfl
 . obtain⟨s,_,rfl⟩:=yk.mp hd;refine⟨[.sh (je s)],rfl,rfl,?_⟩;show jI (je s) (.int k)=_;rw[hg s]
theorem jc0(fl:List Ship)(hl:fl.length<20):jbe [.lst (fl.map je)]=some ((zG fl).map D.int):=by
 suffices main:∀C:Res->Prop,C (.retO ((zG fl).map D.int))->C (Q0 [.sh (.lst (fl.map je)),.un,.un]) by exact main (fun r=>jdl r=some ((zG fl).map D.int)) rfl
 intro C fin;unfold Q0;refine jL [.sh (.lst (fl.map je)),.sh (.lst ((fl.map (·.b)).map D.int)),.un] (by unfold jD jM;rw[Qe 0 (·.b) (fun s=>QU) _ 0 rfl (by omega)];rfl) ?_
 refine jL [.sh (.lst (fl.map je)),.sh (.lst ((fl.map (·.b)).map D.int)),.sh (.lst ((fl.map (·.e)).map D.int))] (by unfold jD jM;rw[Qe 1 (·.e) (fun s=>QW) _ 0 rfl (by omega)];rfl) ?_
 have last:∀r,r=Res.retO ((zG fl).map D.int)->C r:=fun r h=>by rw[h];exact fin
 refine last _ ?_;have hcat:jbo (.lst ((fl.map (·.b)).map D.int)) (.lst ((fl.map (·.e)).map D.int))=some ((hrs fl).map D.int):=by show(if _ then some _ else none)=_;rw[Ys (by simp only[QC];show fl.length+fl.length<=2 ^ 24;omega),<- yv];rfl
 unfold J5 jdy;simp(disch:=omega) only[jb,jM,jg,ja,Yn,Yi,Yc,ji,Yp];rw[hcat];simp(disch:=omega) only[Yp,Yc];rw[Qg,Yc,Ys (by simp[hrs];omega)];rfl
theorem jg3{l:List D}:L2.jcC l (some 1) none=l.tail:=by
 unfold L2.jcC;rw[HT.sIx_none,show(1:Int)=((1:Nat):Int)from rfl,HT.sIx_nat];cases l with
 | nil=>rfl
 | cons d l=>simp
theorem J7(fl:List Ship)(hl:fl.length<20):Qa [.lst (fl.map je)]=some ((jt fl).map jl):=by
 suffices main:∀C:Res->Prop,C (.retO ((jt fl).map jl))->C (Jd [.sh (.lst (fl.map je)),.un]) by exact main (fun r=>jdl r=some ((jt fl).map jl)) rfl
 intro C fin;unfold Jd;refine jL [.sh (.lst (fl.map je)),.sh (.lst ((zG fl).map D.int))] (by simp(disch:=omega) only[jD,jM,jf,jb,jB,Yi,ji,Yp,Yc,YB,YF];simp only[jc0 fl hl];simp(disch:=omega) only[Yp]) ?_;have last:∀r,r=Res.retO ((jt fl).map jl)->C r:=fun r h=>by rw[h];exact fin
 refine last _ ?_;have hb:=Zu fl;unfold J5 eLZ;simp(disch:=omega) only[jb,ja,Yn,Yi,jM,eSl,pSo,eC,pNo,Yp,ji,Yc];rw[jg3];simp only[QC];rw[j5 (by omega)];unfold jaE jt;rw[<-List.map_tail,List.zip_map,yn];rfl
theorem jbW(fl:List Ship):(zG fl).Pairwise (· < ·):=JK
theorem mem_bnds{fl:List Ship}{k:Int}:k∈zG fl ↔ k∈hrs fl:=jat
theorem jaD:∀{l:List Int},l.Pairwise (· < ·)->∀p∈l.zip l.tail,p.1<p.2/\p.1∈l/\p.2∈l
 | [],_,p,hp=>by simp at hp
 | [x],_,p,hp=>by simp at hp
 | x::y::l,h,p,hp=>by
   have h':=Yy.mp h;simp only[List.tail_cons,yW,Yl]at hp;rcases hp with rfl | hp
   . exact⟨h'.1 y Yb,Yb,Yf _ Yb⟩
   . obtain⟨a,b,c⟩:=jaD h'.2 p hp;exact⟨a,Yf _ b,Yf _ c⟩
theorem jgm{fl:List Ship}{p:Int×Int}(h:p∈jt fl):p.1<p.2/\p.1∈zG fl/\p.2∈zG fl:=jaD (jbW fl) p h
theorem jbQ{x:Int}{l:List Int}(h:(x::l).Pairwise (· < ·)):∀y∈x::l,x<=y:=fun y hy=>by
 rcases Yl.mp hy with rfl | hy
 . exact Int.le_refl _
 . exact Int.le_of_lt ((Yy.mp h).1 y hy)
def jbY:Int->List Int->Int
 | x,[]=>x
 | _,y::l=>jbY y l
theorem jdq:∀(x:Int) (l:List Int),(x::l).Pairwise (· < ·)->∀y∈x::l,y<=jbY x l
 | x,[],_,y,hy=>by simp at hy;subst hy;exact Int.le_refl _
 | x,z::l,h,y,hy=>by
   have h':=Yy.mp h;have ih:=jdq z l h'.2;show y<=jbY z l;rcases Yl.mp hy with rfl | hy
   . have:=h'.1 z Yb;have:=ih z Yb;omega
   . exact ih y hy
def inS(h:Int)(p:Int×Int):Bool:=decide (p.1<=h) && decide (h<p.2)
theorem jjH(h:Int):∀(x:Int) (l:List Int),(x::l).Pairwise (· < ·)->(((x::l).zip l).filter (inS h)).length=if x<=h/\h<jbY x l then 1 else 0
 | x,[],_=>by
   show 0=if x<=h/\h<x then 1 else 0
   rw[YJ (by omega)]
 | x,y::l,hr=>by
   have h':=Yy.mp hr;have ih:=jjH h y l h'.2;have xy:=h'.1 y Yb;have yl:=jdq y l h'.2 y Yb;show _=if x<=h/\h<jbY y l then 1 else 0
   generalize jbY y l=z at *
   rw[yW,yo];by_cases c:x<=h/\h<y
   . have e1:inS h (x,y)=true:=by simp[inS,c.1,c.2]
     have e2:¬(y<=h/\h<z):=by omega
     rw[YJ e2]at ih;rw[Ys e1,Ys ⟨c.1,by omega⟩,Yt,ih]
   . have e1:¬inS h (x,y)=true:=by simp[inS];omega
     rw[YJ e1,ih];by_cases d:y<=h/\h<z
     . rw[Ys d,Ys ⟨by omega,d.2⟩]
     . rw[YJ d,YJ (by omega)]
theorem jas(l:List Int):(l.zip l.tail).length=l.length-1:=by simp <;> omega
def nb:List Int->List (Int×Int)
 | x::y::l=>if x<y then(x,y)::nb (y::l)else nb (y::l)
 | _=>[]
def ded:List Int->List Int
 | x::y::l=>if x<y then x::ded (y::l)else ded (y::l)
 | l=>l
theorem jdp(x:Int):∀l:List Int,(x::l).Pairwise (· <= ·)->∃r,ded (x::l)=x::r
 | [],_=>⟨[],rfl⟩
 | y::l,h=>by
   have h':=Yy.mp h;obtain⟨r,hr⟩:=jdp y l h'.2;by_cases c:x<y
   . exact⟨ded (y::l),by simp[ded,c]⟩
   . have e:x=y:=by have:=h'.1 y Yb;omega
     subst e;exact⟨r,by simp[ded];exact hr⟩
theorem jgn:∀l:List Int,l.Pairwise (· <= ·)->nb l=(ded l).zip (ded l).tail
 | [],_=>rfl
 | [x],_=>rfl
 | x::y::l,h=>by
   have h':=Yy.mp h;have ih:=jgn (y::l) h'.2;obtain⟨r,hr⟩:=jdp y l h'.2;by_cases c:x<y
   . simp only[nb,ded,c,yq];rw[ih,hr];rfl
   . simp only[nb,ded,c,yC];exact ih
theorem jcq:∀(l:List Int),l.Pairwise (· <= ·)->∀k,k∈ded l ↔ k∈l
 | [],_,k=>Iff.rfl
 | [x],_,k=>Iff.rfl
 | x::y::l,h,k=>by
   have h':=Yy.mp h;have ih:=jcq (y::l) h'.2 k;by_cases c:x<y
   . simp only[ded,c,yq,Yl (a:=k) (b:=x),ih]
   . have e:x=y:=by have:=h'.1 y Yb;omega
     subst e;simp only[ded,c,yC,ih];simp
theorem jdk:∀(l:List Int),l.Pairwise (· <= ·)->(ded l).Pairwise (· < ·)
 | [],_=>by simp[ded]
 | [x],_=>by simp[ded]
 | x::y::l,h=>by
   have h':=Yy.mp h;have ih:=jdk (y::l) h'.2;by_cases c:x<y
   . simp only[ded,c,yq];refine Yy.mpr ⟨fun z hz=>?_,ih⟩;have hz':=(jcq (y::l) h'.2 z).mp hz;rcases Yl.mp hz' with rfl | hz'
     . exact c
     . have:=(Yy.mp h'.2).1 z hz';omega
   . simp only[ded,c,yC];exact ih
theorem jib(l:List Int):nb (JN l)=(srt l).zip (srt l).tail:=by
 rw[jgn _ (zy l)];have e:ded (JN l)=srt l:=QJ (jdk _ (zy l)) JK fun k=>by rw[jcq _ (zy l),(Jn l).mem_iff,jat]
 rw[e]
def nbI(l:List Int)(i:Nat):Bool:=decide (l.getD i 0<l.getD (i+1) 0)
theorem jdB:∀l:List Int,((List.range (l.length-1)).filter (nbI l)).map (fun i=>(l.getD i 0,l.getD (i+1) 0))=nb l
 | []=>rfl
 | [x]=>rfl
 | x::y::l=>by
   have ih:=jdB (y::l);simp only[Yt,Nat.add_sub_cancel]at ih ⊢;rw[Kq,yo,List.filter_map];have e1:(nbI (x::y::l)∘Nat.succ)=nbI (y::l):=by funext i;simp[nbI,Function.comp]
   have e2:((fun i=>((x::y::l).getD i 0,(x::y::l).getD (i+1) 0))∘Nat.succ)=fun i=>((y::l).getD i 0,(y::l).getD (i+1) 0):=by funext i;simp[Function.comp]
   by_cases c:x<y
   . have:nbI (x::y::l) 0=true:=by simp[nbI,c]
     rw[Ys this,YO,yn,e1,e2,ih];simp[nb,c]
   . have:¬nbI (x::y::l) 0=true:=by simp[nbI,c]
     rw[YJ this,yn,e1,e2,ih];simp[nb,c]
theorem jgY{l:List Int}{i:Nat}(h:i<l.length):jI (.lst (l.map D.int)) (.int i)=some (.int (l.getD i 0)):=by refine ZK (by omega) ?_;rw[Yv,Yr,Ya h,Y6,Ya h];rfl
theorem jbi(fl:List Ship)(hl:fl.length<20):zK [.lst (fl.map je)]=some ((jt fl).map jl):=by
 suffices main:∀C:Res->Prop,C (.retO ((jt fl).map jl))->C (zJ [.sh (.lst (fl.map je)),.un]) by exact main (fun r=>jdl r=some ((jt fl).map jl)) rfl
 intro C fin;unfold zJ;have hcat:jbo (.lst ((fl.map (·.b)).map D.int)) (.lst ((fl.map (·.e)).map D.int))=some ((hrs fl).map D.int):=by show(if _ then some _ else none)=_;rw[Ys (by simp only[QC];show fl.length+fl.length<=2 ^ 24;omega),<- yv];rfl
 have hhl:(hrs fl).length<64:=by simp[hrs];omega
 have hsort:jdo [.lst ((hrs fl).map D.int)]=some ((JN (hrs fl)).map D.int):=by show((Q7 ((hrs fl).map D.int)).bind fun ns=>if ns.length<64 then some ((JN ns).map D.int)else none)=_;rw[Qg,Yc,Ys hhl]
 have q1:=Qe (fl:=fl) 0 (·.b) (fun s=>QU) [.sh (.lst (fl.map je)),.un] 0 rfl (by omega);have q2:=Qe (fl:=fl) 1 (·.e) (fun s=>QW) [.sh (.lst (fl.map je)),.un] 0 rfl (by omega);refine jL [.sh (.lst (fl.map je)),.sh (.lst ((JN (hrs fl)).map D.int))] (by simp(disch:=omega) only[jD,jM,jf,jb,jg,ji,Yp,YB,YF];simp only[q1,q2];simp(disch:=omega) only[Yp,Yc];simp only[hcat];simp(disch:=omega) only[Yp,Yc];simp only[hsort];simp(disch:=omega) only[Yp]) ?_
 have last:∀r,r=Res.retO ((jt fl).map jl)->C r:=fun r h=>by rw[h];exact fin
 refine last _ ?_;have hsl:(JN (hrs fl)).length=(hrs fl).length:=(Jn _).length_eq;have hsp:jt fl=nb (JN (hrs fl)):=by rw[jib];rfl
 rw[hsp,<- jdB];generalize JN (hrs fl)=l at *
 have hr:Qc (jb (jg qP (jf jN (jb (ja 1) ji)) (eC (.int 1))) ji) [.sh (.lst (fl.map je)),.sh (.lst (l.map D.int))]=some (rng 0 ((l.length:Int)-1).toNat):=by unfold Qc;simp(disch:=omega) only[jb,jg,jf,ja,Yn,Yi,ji,Yp,Yc,zk,eC,qd];simp only[QC];rw[Ys ⟨by omega,by omega⟩]
 have hn:((l.length:Int)-1).toNat=l.length-1:=by omega
 rw[hn]at hr;unfold J5;rw[Jy hr (by simp[rng];omega) (jbR (fun d=>match d with | .int i=>nbI l i.toNat | _=>false) (fun d=>match d with | .int i=>jl (l.getD i.toNat 0,l.getD (i.toNat+1) 0) | _=>.non) _ fun d hd=>?_)]
 . simp only[rng,List.filter_map,yn];congr 1;have e1:((fun d=>match d with | D.int i=>nbI l i.toNat | _=>false)∘fun(i:Nat)=>D.int (0+(i:Int)))=nbI l:=by funext i;simp[Function.comp]
   rw[e1];refine KB fun i _=>?_;simp[Function.comp]
 . unfold rng at hd;obtain⟨i,hi,rfl⟩:=yk.mp hd;rw[List.mem_range]at hi;have z:(0:Int)+(i:Int)=i:=by omega
   rw[z];have d0:=jgY (l:=l) (i:=i) (by omega);have d1:=jgY (l:=l) (i:=i+1) (by omega);have ec:((i+1:Nat):Int)=(i:Int)+1:=by omega
   rw[ec]at d1;refine⟨[.sh (.int i),.sh (.lst (l.map D.int))],rfl,?_,fun _=>?_⟩
   . show jZ _ _=_;simp(disch:=omega) only[jZ,jg,ja,Yn,Yi,Yc,eC,jO];simp only[d0,d1];simp(disch:=omega) only[Yc,dLt_ok];rfl
   . simp(disch:=omega) only[ZM,jb,jg,ja,Yn,Yi,Yc,eC,jO,ji,Yp];simp only[d0,d1];simp(disch:=omega) only[Yc,Yp,Yt,Y1,Kk,Nat.reduceAdd,j5,yq];rfl
def jX(s:Ship)(p:Int×Int):Int:=if s.b<=p.1/\p.2<=s.e then s.m*(p.2-p.1)else 0
def Qk(r:List Int):D:=.lst (r.map D.int)
theorem jbx(s:Ship):∀(x:Int) (l:List Int),(x::l).Pairwise (· < ·)->(((x::l).zip l).map (jX s)).sum=s.m*(((((x::l).zip l).filter fun p=>decide (s.b<=p.1/\p.2<=s.e)).map fun p=>p.2-p.1).sum)
 | x,[],_=>by simp
 | x,y::l,h=>by
   have h':=Yy.mp h;have ih:=jbx s y l h'.2;rw[yW,YO,List.sum_cons,ih,yo];by_cases c:s.b<=x/\y<=s.e
   . rw[Ys (by simpa using c),YO,List.sum_cons,Int.mul_add];simp[jX,c]
   . rw[YJ (by simpa using c)];simp[jX,c]
theorem jcH(b e:Int):∀(x:Int) (l:List Int),(x::l).Pairwise (· < ·)->b<=x->x<=e->e∈x::l->((((x::l).zip l).filter fun p=>decide (b<=p.1/\p.2<=e)).map fun p=>p.2-p.1).sum=e-x
 | x,[],_,_,_,he=>by simp at he;subst he;simp
 | x,y::l,h,hb,hxe,he=>by
   have h':=Yy.mp h;have hxy:=h'.1 y Yb;rw[yW,yo];by_cases c:y<=e
   . have he':e∈y::l:=by
       rcases Yl.mp he with z | z
       . omega
       . exact z
     have ih:=jcH b e y l h'.2 (by omega) c he';rw[Ys (by simp;exact⟨hb,c⟩),YO,List.sum_cons,ih];show y-x+(e-y)=e-x;omega
   . have hx:e=x:=by
       rcases Yl.mp he with z | z
       . exact z
       . have:=jbQ h'.2 e z;omega
     rw[YJ (by simp;intro _;omega)];have:(((y::l).zip l).filter fun p=>decide (b<=p.1/\p.2<=e))=[]:=List.filter_eq_nil_iff.mpr fun p hp=>by have q:=jaD h'.2 p (by simpa using hp);have:=jbQ h'.2 p.1 q.2.1;simp;intro _;omega
     rw[this,hx];simp
theorem jeZ(b e:Int)(hbe:b<=e):∀(l:List Int),l.Pairwise (· < ·)->b∈l->e∈l->(((l.zip l.tail).filter fun p=>decide (b<=p.1/\p.2<=e)).map fun p=>p.2-p.1).sum=e-b
 | [],_,hb,_=>by cases hb
 | x::l,h,hb,he=>by
   by_cases c:b=x
   . subst c;exact jcH b e b l h (Int.le_refl _) hbe he
   . have hb':b∈l:=by rcases Yl.mp hb with z | z;exact absurd z c;exact z
     have h':=Yy.mp h;have hxb:=h'.1 b hb';have he':e∈l:=by rcases Yl.mp he with z | z;omega;exact z
     have ih:=jeZ b e hbe l h'.2 hb' he';cases l with
     | nil=>cases hb'
     | cons y l=>rw[List.tail_cons,yW,yo,YJ (by simp;intro z;omega)];exact ih
theorem jbz{fl:List Ship}{s:Ship}(hs:s∈fl)(hk:s.Ok):((jt fl).map (jX s)).sum=s.m*(s.e-s.b):=by
 have hb:s.b∈zG fl:=mem_bnds.mpr (yA _ (yJ hs));have he:s.e∈zG fl:=mem_bnds.mpr (YH _ (yJ hs));have hr:=jbW fl;unfold jt;have e1:=jeZ s.b s.e (by have:=hk.lt;omega) (zG fl) hr hb he;cases hl:zG fl with
 | nil=>rw[hl]at hb;cases hb
 | cons x l=>rw[hl]at e1 hr;rw[List.tail_cons]at e1 ⊢;rw[jbx s x l hr,e1]
theorem jaU{s:Ship}(hs:s.Ok){l:List (Int×Int)}(hl:l.length<1000):qJ [je s,.lst (l.map jl)]=some ((l.map (jX s)).map D.int):=by
 suffices main:∀C:Res->Prop,C (.retO ((l.map (jX s)).map D.int))->C (zL [.sh (je s),.sh (.lst (l.map jl)),.un,.un,.un]) by exact main (fun r=>jdl r=some ((l.map (jX s)).map D.int)) rfl
 intro C fin;unfold zL;have m0:=hs.m0;have m1:=hs.m1;refine jL [.sh (je s),.sh (.lst (l.map jl)),.ow [],.un,.un] (by simp(disch:=omega) only[Qb,qt,ji,Yc,Y1,j5,yq,YB,YF]) ?_;refine jc4 (l.map jl) (fun ds ρ=>∃(pre q:List (Int×Int)) (x y:Slot),pre++q=l/\ds=q.map jl/\ρ=[.sh (je s),.sh (.lst (l.map jl)),.ow ((pre.map (jX s)).map D.int),x,y]) (JW rfl) ⟨[],l,.un,.un,rfl,rfl,rfl⟩ ?_ ?_
 . rintro d ds ρ ⟨pre,q,x,y,hpq,hds,rfl⟩;cases q with
   | nil=>cases hds
   | cons p q=>
     cases hds;have hpl:pre.length<1000:=by rw[<-hpq]at hl;simp at hl;omega
     refine⟨[.sh (je s),.sh (.lst (l.map jl)),.ow ((pre.map (jX s)).map D.int),.sh (.int p.1),.sh (.int p.2)],[.sh (je s),.sh (.lst (l.map jl)),.ow (((pre++[p]).map (jX s)).map D.int),.sh (.int p.1),.sh (.int p.2)],rfl,?_,pre++[p],q,_,_,by simpa using hpq,rfl,rfl⟩;unfold je;simp(disch:=omega) only[JR,zZ,jZ,jg,ja,Yi,eC,Yc,QU,Yn,ZR,QW,JU,jcb,qd,JX,YB,YF];simp only[QC,yv,YO,yQ];rw[j5 (by omega)];unfold jX;by_cases c1:s.b<=p.1
     . by_cases c2:p.2<=s.e
       . simp only[c1,c2,Kr,and_self,yq]
       . simp only[c1,c2,Kr,Kh,and_false,yC]
         try simp(disch:=omega) only[yq]
     . simp only[c1,Kh,false_and,yC]
       try simp(disch:=omega) only[yq]
 . rintro ρ ⟨pre,q,x,y,hpq,hds,rfl⟩;have hq:q=[]:=by cases q with | nil=>rfl | cons _ _=>cases hds
   subst hq;rw[yO]at hpq;subst hpq;exact fin
theorem jeM:∀(l:List Int) (i:Nat) (a v:Int),l[i]?=some a->(l.set i v).sum=l.sum-a+v
 | [],_,_,_,h=>by simp at h
 | x::l,0,a,v,h=>by simp at h;subst h;simp;omega
 | x::l,i+1,a,v,h=>by have:=jeM l i a v (by simpa using h);simp only[YB,List.sum_cons,this];omega
structure RowOk(S:List (Int×Int))(s:Ship)(r:List Int):Prop where
 len:r.length=S.length
 bd:∀(j:Nat) x p,r[j]?=some x->S[j]?=some p->0<=x/\x<=jX s p
 sum:r.sum=s.n
structure PlanOk(fl:List Ship)(P:List (List Int)):Prop where
 len:P.length=fl.length
 row:∀(i:Nat) r s,P[i]?=some r->fl[i]?=some s->RowOk (jt fl) s r
theorem jgV{s:Ship}(hs:s.Ok){p:Int×Int}(h:p.1<p.2):0<=jX s p:=by
 unfold jX;split
 . exact Ku hs.m0 (by omega)
 . omega
def zm(r:List Int):List D:=r.map D.int
theorem jgE{s:Ship}(hs:s.Ok)(p:Int×Int):jX s p<=s.m*(s.e-s.b):=by
 have h1:=hs.m0;have h2:=hs.lt;unfold jX;split
 . rename_i c;exact Int.mul_le_mul_of_nonneg_left (by omega) h1
 . exact Ku h1 (by omega)
theorem jb7{l:List Int}{k:Int}{x:Int}(h0:0<=k)(h:l[k.toNat]?=some x):jI (.lst (l.map D.int)) (.int k)=some (.int x):=JO h0 h
theorem jhC(a b c:Int):jaH a b c<=a/\jaH a b c<=b/\jaH a b c<=c:=by unfold jaH;split <;> split <;> omega
theorem jhh{a b c:Int}(h1:0<=a)(h2:0<=b)(h3:0<=c):0<=jaH a b c:=by unfold jaH;split <;> split <;> omega
theorem jkW{z0 z3 e f g h w:Slot}{cells Mo R:List Int}{parts:List D}{i left m cl sm x:Int}{j:Nat}(hi:0<=i)(hi':i<1000)(hc:0<cells.length)(hj:j<1000)(hRj:R.length=j)
 (ec:jI (.lst (cells.map D.int)) (.int ((i*parts.length+j)%cells.length))=some (.int cl)) (dm:jI (.lst (Mo.map D.int)) (.int j)=some (.int m)) (hm:0<=m)
 (es:jI (.lst [.int 0,.int m,.int (m*(cl/4%9)/8),.int (cl/4%(m+1))]) (.int (cl%4))=some (.int sm)) (dmin:ZS [.int left,.int m,.int sm]=some (.int x))
 (dr:jI (.lst (R.map D.int++[.int x])) (.int j)=some (.int x)) :
 (jn (jD 9 (jg jI (ja 1) (jg jF (jg qj (jg zu (ja 4) (jf jN (jb (ja 2) ji))) (ja 8)) (jf jN (jb (ja 1) ji)))))
  (jn (jD 10 (jg jI (jM (qt (jb (eC (.int 0)) (jb (jg jI (ja 5) (ja 8)) (jb (jg zx (jg zu (jg jI (ja 5) (ja 8)) (jg jF (jg zx (ja 9) (eC (.int 4))) (eC (.int 9)))) (eC (.int 8))) (jb (jg jF (jg zx (ja 9) (eC (.int 4))) (jg qj (jg jI (ja 5) (ja 8)) (eC (.int 1)))) ji)))))) (jg jF (ja 9) (eC (.int 4)))))
  (jn (JU 7 (jf ZS (jb (ja 6) (jb (jg jI (ja 5) (ja 8)) (jb (ja 10) ji)))))
  (jD 6 (jg qP (ja 6) (jg jI (ja 7) (ja 8)))))))
  [z0,.sh (.lst (cells.map D.int)),.sh (.lst parts),z3,.sh (.int i),.sh (.lst (Mo.map D.int)),.sh (.int left),.ow (R.map D.int),.sh (.int j),f,g,h,w] =
 .next [z0,.sh (.lst (cells.map D.int)),.sh (.lst parts),z3,.sh (.int i),.sh (.lst (Mo.map D.int)),.sh (.int (left-x)),.ow (R.map D.int++[.int x]),.sh (.int j),.sh (.int cl),.sh (.int sm),h,w]:=by
 refine Jq (ρ':=[z0,.sh (.lst (cells.map D.int)),.sh (.lst parts),z3,.sh (.int i),.sh (.lst (Mo.map D.int)),.sh (.int left),.ow (R.map D.int),.sh (.int j),.sh (.int cl),g,h,w]) (by simp(disch:=omega) only[jD,jg,ja,Yn,Yi,jf,jb,ji,Yp,Yc,zk,JX,jO,YB,YF];simp only[QC];simp(disch:=omega) only[jC,Yc];simp only[ec]) ?_;refine Jq (ρ':=[z0,.sh (.lst (cells.map D.int)),.sh (.lst parts),z3,.sh (.int i),.sh (.lst (Mo.map D.int)),.sh (.int left),.ow (R.map D.int),.sh (.int j),.sh (.int cl),.sh (.int sm),h,w]) (by simp(disch:=omega) only[jD,jg,jM,qt,jb,eC,ja,Yn,Yi,Yc,qu,jC,ji,Yp,YB,YF];simp only[dm];simp(disch:=omega) only[Yc,JD,qu,jO,jC,Yp,Yt,Y1,Kk,Nat.reduceAdd,j5,yq];simp only[es]) ?_;refine Jq (ρ':=[z0,.sh (.lst (cells.map D.int)),.sh (.lst parts),z3,.sh (.int i),.sh (.lst (Mo.map D.int)),.sh (.int left),.ow (R.map D.int++[.int x]),.sh (.int j),.sh (.int cl),.sh (.int sm),h,w]) (by simp(disch:=omega) only[JU,Yn,Yi,jf,jb,ja,jg,Yc,ji,Yp,YB,YF];simp only[dm];simp(disch:=omega) only[Yc,Yp];simp only[dmin,QC];rw[j5 (by omega)];rfl) ?_
 simp(disch:=omega) only[jD,jg,ja,Yn,Yi,Yc,YB,YF];simp only[dr];simp(disch:=omega) only[Yc,qd]
theorem jlG{z0 z3 f g h w:Slot}{cells Mo R:List Int}{parts:List D}{i left c m y x:Int}{j a:Nat}(hi:0<=i)(hc:0<cells.length)(hp:0<parts.length)
 (ec:jI (.lst (cells.map D.int)) (.int (i%cells.length))=some (.int c)) (ha:((j:Int)+c)%parts.length=a) (dm:jI (.lst (Mo.map D.int)) (.int a)=some (.int m)) (dr:jI (.lst (R.map D.int)) (.int a)=some (.int y))
 (hx:(if m-y<left then m-y else left)=x) (hal:a<R.length) :
 (jn (jD 11 (jg jF (jg qj (ja 8) (jg jI (ja 1) (jg jF (ja 4) (jf jN (jb (ja 1) ji))))) (jf jN (jb (ja 2) ji))))
  (jn (jD 12 (jf Qw (jb (ja 6) (jb (jg qP (jg jI (ja 5) (ja 11)) (jg jI (ja 7) (ja 11))) ji))))
  (jn (Jz 7 (jB 11) (jg qj (jg jI (ja 7) (ja 11)) (ja 12)))
  (jD 6 (jg qP (ja 6) (ja 12))))))
  [z0,.sh (.lst (cells.map D.int)),.sh (.lst parts),z3,.sh (.int i),.sh (.lst (Mo.map D.int)),.sh (.int left),.ow (R.map D.int),.sh (.int j),f,g,h,w] =
 .next [z0,.sh (.lst (cells.map D.int)),.sh (.lst parts),z3,.sh (.int i),.sh (.lst (Mo.map D.int)),.sh (.int (left-x)),.ow ((R.set a (y+x)).map D.int),.sh (.int j),f,g,.sh (.int a),.sh (.int x)]:=by
 refine Jq (ρ':=[z0,.sh (.lst (cells.map D.int)),.sh (.lst parts),z3,.sh (.int i),.sh (.lst (Mo.map D.int)),.sh (.int left),.ow (R.map D.int),.sh (.int j),f,g,.sh (.int a),w]) (by simp(disch:=omega) only[jD,jg,ja,Yn,Yi,jf,jb,ji,Yp,Yc,zk,YB,YF];simp only[QC];simp(disch:=omega) only[jC,Yc];simp only[ec];simp(disch:=omega) only[Yc,jO,jC];rw[ha]) ?_;refine Jq (ρ':=[z0,.sh (.lst (cells.map D.int)),.sh (.lst parts),z3,.sh (.int i),.sh (.lst (Mo.map D.int)),.sh (.int left),.ow (R.map D.int),.sh (.int j),f,g,.sh (.int a),.sh (.int x)]) (by simp(disch:=omega) only[jD,jf,jb,ja,Yn,Yi,jg,Yc,ji,Yp,YB,YF];simp only[dm,dr];simp(disch:=omega) only[Yc,qd,Yp,Qw];rw[hx]) ?_;refine Jq (ρ':=[z0,.sh (.lst (cells.map D.int)),.sh (.lst parts),z3,.sh (.int i),.sh (.lst (Mo.map D.int)),.sh (.int left),.ow ((R.set a (y+x)).map D.int),.sh (.int j),f,g,.sh (.int a),.sh (.int x)]) (by
  have hix:QX R.length (a:Int)=some a:=by unfold QX;rw[Ys (by omega),Ys (by omega),Yv]
  simp(disch:=omega) only[Jz,Yn,Yi,jg,ja,Yc,jB,YB,YF];simp only[dr];simp(disch:=omega) only[Yc,jO];simp only[QC,hix,List.map_set]) ?_
 simp(disch:=omega) only[jD,jg,ja,Yn,Yi,Yc,qd,YB,YF]
theorem je9(fl:List Ship)(hfl:∀s∈fl,s.Ok)(tJ:fl.length<=8)(cells:List Int)(hc0:cells≠[])(hc1:cells.length<1000):∃P,PlanOk fl P/\Jc [.lst (fl.map je),.lst (cells.map D.int)]=some (P.map zm):=by
 suffices main:∀C:Res->Prop,(∀P (ρ:ee),PlanOk fl P->ρ[3]?=some (.oo (P.map zm))->C (.next ρ))->C (Jg [.sh (.lst (fl.map je)),.sh (.lst (cells.map D.int)),.un,.un,.un,.un,.un,.un,.un,.un,.un,.un,.un]) by exact main (fun r=>∃P,PlanOk fl P/\jis (ooV 3) r=some (P.map zm)) fun P ρ hP h3=>⟨P,hP,by show(ρ[3]?).bind jfA=_;rw[h3];rfl⟩
 intro C fin;have eparts:=jbi fl (by omega);have hSlen:(jt fl).length<=16:=by have:=Zu fl;have:=jas (zG fl);unfold jt;omega
 have hSlt:∀p∈jt fl,p.1<p.2:=fun p hp=>(jgm hp).1;have hrooms:∀s∈fl,((jt fl).map (jX s)).sum=s.m*(s.e-s.b):=fun s hs=>jbz hs (hfl s hs);generalize hS:jt fl=S at *
 have hcl:0<cells.length:=List.length_pos_iff.mpr hc0;unfold Jg;refine jL [.sh (.lst (fl.map je)),.sh (.lst (cells.map D.int)),.sh (.lst (S.map jl)),.un,.un,.un,.un,.un,.un,.un,.un,.un,.un] (by simp(disch:=omega) only[jD,jM,jf,jb,jB,Yi,ji,Yp,Yc,YB,YF];simp only[eparts];simp(disch:=omega) only[Yp]) ?_;refine jL [.sh (.lst (fl.map je)),.sh (.lst (cells.map D.int)),.sh (.lst (S.map jl)),.oo [],.un,.un,.un,.un,.un,.un,.un,.un,.un] rfl ?_;refine jc4 (rng 0 (fl.length:Int).toNat) (fun ds ρ=>∃(P:List (List Int)) (k:Nat) (lo:Int) (a b c d e f g h:Slot) (w:Slot),ds=rng lo k/\lo=P.length/\P.length+k=fl.length/\(∀(i:Nat) r s,P[i]?=some r->fl[i]?=some s->RowOk S s r) /\
  ρ=[.sh (.lst (fl.map je)),.sh (.lst (cells.map D.int)),.sh (.lst (S.map jl)),.oo (P.map zm),a,b,c,d,e,f,g,h,w])
  (Qf (by simp(disch:=omega) only[jb,jf,ja,Yi,ji,Yp,Yc,zk];simp only[QC]) (by omega) (by omega)) ⟨[],fl.length,0,.un,.un,.un,.un,.un,.un,.un,.un,.un,by simp,rfl,by simp,by simp,rfl⟩ ?_ ?_
 . rintro d ds ρ ⟨P,k,lo,a,b,c,d',e,f,g,h,w,hds,hlo,hPk,hP,rfl⟩;cases k with
   | zero=>cases hds
   | succ k=>
     rw[zB]at hds;cases hds;subst hlo;have hi:P.length<fl.length:=by omega
     have gs:fl[P.length]?=some fl[P.length]:=Ya hi;generalize hsh:fl[P.length]=s at gs;have hsm:s∈fl:=Yq gs;have hs:=hfl s hsm;have hm0:=hs.m0;have hm1:=hs.m1;have hn0:=hs.n0;have dsh:jI (.lst (fl.map je)) (.int P.length)=some (je s):=JO (by omega) (by rw[Yv];exact gs);have erooms:=jaU hs (l:=S) (by omega);have hsum:=hrooms s hsm;have hneed:s.n<=s.m*(s.e-s.b):=hs.n1;generalize hMo:S.map (jX s)=Mo at *
     have hMl:Mo.length=S.length:=by rw[<-hMo,QC]
     have hMn:∀(j:Nat) x,Mo[j]?=some x->0<=x:=fun j x hx=>by rw[<-hMo,Yr]at hx;obtain⟨p,h1,h2⟩:=map_some hx;subst h2;exact jgV hs (hSlt p (Yq h1))
     suffices turn:∀C':Res->Prop,(∀r ρ',RowOk S s r->(∃a b c d e f g h w,ρ'=[.sh (.lst (fl.map je)),.sh (.lst (cells.map D.int)),.sh (.lst (S.map jl)),.oo ((P++[r]).map zm),a,b,c,d,e,f,g,h,w])->C' (.next ρ'))->C' ((jn (jD 5 (jM (jf qJ (jb (jg jI (ja 0) (ja 4)) (jb (jB 2) ji)))))
     (jn (jD 6 (jg jI (jg jI (ja 0) (ja 4)) (eC (.int 2))))
     (jn (Qb 7 (qt ji))
     (jn (JI (Qc (jb (jf jN (jb (ja 2) ji)) ji)) (jT 8)
     (jn (jD 9 (jg jI (ja 1) (jg jF (jg qj (jg zu (ja 4) (jf jN (jb (ja 2) ji))) (ja 8)) (jf jN (jb (ja 1) ji)))))
     (jn (jD 10 (jg jI (jM (qt (jb (eC (.int 0)) (jb (jg jI (ja 5) (ja 8)) (jb (jg zx (jg zu (jg jI (ja 5) (ja 8)) (jg jF (jg zx (ja 9) (eC (.int 4))) (eC (.int 9)))) (eC (.int 8))) (jb (jg jF (jg zx (ja 9) (eC (.int 4))) (jg qj (jg jI (ja 5) (ja 8)) (eC (.int 1)))) ji)))))) (jg jF (ja 9) (eC (.int 4)))))
     (jn (JU 7 (jf ZS (jb (ja 6) (jb (jg jI (ja 5) (ja 8)) (jb (ja 10) ji)))))
     (jD 6 (jg qP (ja 6) (jg jI (ja 7) (ja 8))))))))
     (jn (JI (Qc (jb (jf jN (jb (ja 2) ji)) ji)) (jT 8)
     (jn (jD 11 (jg jF (jg qj (ja 8) (jg jI (ja 1) (jg jF (ja 4) (jf jN (jb (ja 1) ji))))) (jf jN (jb (ja 2) ji))))
     (jn (jD 12 (jf Qw (jb (ja 6) (jb (jg qP (jg jI (ja 5) (ja 11)) (jg jI (ja 7) (ja 11))) ji))))
     (jn (Jz 7 (jB 11) (jg qj (jg jI (ja 7) (ja 11)) (ja 12)))
     (jD 6 (jg qP (ja 6) (ja 12)))))))
     (jbH 3 7)))))) [.sh (.lst (fl.map je)),.sh (.lst (cells.map D.int)),.sh (.lst (S.map jl)),.oo (P.map zm),.sh (.int P.length),b,c,d',e,f,g,h,w]) by
       obtain⟨ρ2,h1,r,hr,a2,b2,c2,d2,e2,f2,g2,h2,w2,rfl⟩:=turn (fun res=>∃ρ',res=.next ρ'/\∃r,RowOk S s r/\∃a b c d e f g h w,ρ'=[.sh (.lst (fl.map je)),.sh (.lst (cells.map D.int)),.sh (.lst (S.map jl)),.oo ((P++[r]).map zm),a,b,c,d,e,f,g,h,w]) fun r ρ' hr hρ=>⟨ρ',rfl,r,hr,hρ⟩;refine⟨_,_,rfl,h1,P++[r],k,P.length+1,a2,b2,c2,d2,e2,f2,g2,h2,w2,rfl,by simp,by simp;omega,fun i r' s' q1 q2=>?_,rfl⟩;by_cases hiP:i<P.length
       . rw[YI hiP]at q1;exact hP i r' s' q1 q2
       . rw[YC (by omega)]at q1;have:i=P.length:=by
          rcases YT (i-P.length) 1 with z | z
          . omega
          . rw[Y2 (by simpa using z)]at q1;cases q1
         subst this;simp at q1;subst q1;rw[gs]at q2;cases q2;exact hr
     intro C' fin';clear fin C eparts
     -- most, left, row
     refine jL [.sh (.lst (fl.map je)),.sh (.lst (cells.map D.int)),.sh (.lst (S.map jl)),.oo (P.map zm),.sh (.int P.length),.sh (.lst (Mo.map D.int)),c,d',e,f,g,h,w] (by simp(disch:=omega) only[jD,jM,jf,jb,jg,ja,Yi,Yn,Yc,jB,ji,Yp,YB,YF];simp only[dsh];simp(disch:=omega) only[Yc];simp only[erooms];simp(disch:=omega) only[Yp]) ?_;refine jL [.sh (.lst (fl.map je)),.sh (.lst (cells.map D.int)),.sh (.lst (S.map jl)),.oo (P.map zm),.sh (.int P.length),.sh (.lst (Mo.map D.int)),.sh (.int s.n),d',e,f,g,h,w] (by simp(disch:=omega) only[jD,jg,ja,Yi,Yn,Yc,eC,YB,YF];simp only[dsh];unfold je;simp(disch:=omega) only[Yc,ZP]) ?_;refine jL [.sh (.lst (fl.map je)),.sh (.lst (cells.map D.int)),.sh (.lst (S.map jl)),.oo (P.map zm),.sh (.int P.length),.sh (.lst (Mo.map D.int)),.sh (.int s.n),.ow [],e,f,g,h,w] (by simp(disch:=omega) only[Qb,qt,ji,Yc,Y1,j5,yq,YB,YF]) ?_
     -- first round
     refine jc4 (rng 0 (S.length:Int).toNat) (fun ds ρ=>∃(R:List Int) (k:Nat) (left:Int) (e f g:Slot),ds=rng R.length k/\R.length+k=S.length/\left=s.n-R.sum/\0<=left/\(∀(j:Nat) x m,R[j]?=some x->Mo[j]?=some m->0<=x/\x<=m) /\
      ρ=[.sh (.lst (fl.map je)),.sh (.lst (cells.map D.int)),.sh (.lst (S.map jl)),.oo (P.map zm),.sh (.int P.length),.sh (.lst (Mo.map D.int)),.sh (.int left),.ow (R.map D.int),e,f,g,h,w])
       (Qf (by simp(disch:=omega) only[jb,jf,ja,Yn,Yi,ji,Yp,Yc,zk];simp only[QC]) (by omega) (by omega)) ⟨[],S.length,s.n,e,f,g,by simp,by simp,by simp,hn0,by simp,rfl⟩ ?_ ?_
     . rintro d ds ρ ⟨R,k,left,e,f,g,hds,hRk,hleft,hl0,hR,rfl⟩;cases k with
       | zero=>cases hds
       | succ k=>
         rw[zB]at hds;cases hds;have hj:R.length<Mo.length:=by omega
         have gm:Mo[R.length]?=some Mo[R.length]:=Ya hj;generalize Mo[R.length]=m at gm;have hm:=hMn _ _ gm;have dm:jI (.lst (Mo.map D.int)) (.int R.length)=some (.int m):=jb7 (by omega) (by rw[Yv];exact gm);obtain⟨cl,_,ec⟩:=jbK (ns:=cells) (i:=((P.length:Int)*S.length+R.length)%cells.length) (yP _ (by omega)) (yx _ (by omega));have cm:0<=cl/4%(m+1):=yP _ (by omega);have cm':cl/4%(m+1)<m+1:=yx _ (by omega);obtain⟨sm,hsm',es⟩:=jbK (ns:=[0,m,m*(cl/4%9)/8,cl/4%(m+1)]) (i:=cl%4) (by omega) (by show cl%4<4;omega);have sm0:0<=sm:=by
          have:0<=m*(cl/4%9):=Ku hm (by omega);simp only[Yl,YR,Kb]at hsm';rcases hsm' with rfl | rfl | rfl | rfl
          . omega
          . exact hm
          . omega
          . exact cm
         simp only[YO,yQ]at es;generalize hx:jaH left m sm=x;have x0:0<=x:=by rw[<-hx];exact jhh hl0 hm sm0
         obtain⟨x1,x2,_⟩:=jhC left m sm;rw[hx]at x1 x2;refine⟨_,[.sh (.lst (fl.map je)),.sh (.lst (cells.map D.int)),.sh (.lst (S.map jl)),.oo (P.map zm),.sh (.int P.length),.sh (.lst (Mo.map D.int)),.sh (.int (left-x)),.ow ((R++[x]).map D.int),.sh (.int R.length),.sh (.int cl),.sh (.int sm),h,w],rfl,?_,R++[x],k,left-x,_,_,_,by simp,by simp;omega,by simp;omega,by omega,fun j y m' q1 q2=>?_,rfl⟩
         . have dr:jI (.lst (R.map D.int++[.int x])) (.int R.length)=some (.int x):=ZK (by omega) (by rw[Yv,YC (by simp)];simp);have dmin:ZS [.int left,.int m,.int sm]=some (.int x):=by rw[<-hx];rfl
           rw[yv];have hSl:(S.map jl).length=S.length:=QC _;have ec':=ec;rw[<-hSl]at ec';exact jkW (e:=.un) (by omega) (by omega) hcl (by omega) rfl ec' dm hm es dmin dr
         . by_cases hjR:j<R.length
           . rw[YI hjR]at q1;exact hR j y m' q1 q2
           . rw[YC (by omega)]at q1;have:j=R.length:=by
               rcases YT (j-R.length) 1 with z | z
               . omega
               . rw[Y2 (by simpa using z)]at q1;cases q1
             subst this;simp at q1;subst q1;rw[gm]at q2;cases q2;exact⟨x0,x2⟩
     obtain⟨cc,_,ecc⟩:=jbK (ns:=cells) (i:=(P.length:Int)%cells.length) (yP _ (by omega)) (yx _ (by omega));rintro ρ ⟨R0,k0,left0,e,f,g,hds,hRk,hleft,hl0,hR,rfl⟩;have hk0:k0=0:=by
       cases k0 with
       | zero=>rfl
       | succ k=>rw[zB]at hds;cases hds
     subst hk0;clear hds
     -- second round
     refine jc4 (rng 0 (S.length:Int).toNat) (fun ds ρ=>∃(R:List Int) (k t:Nat) (left:Int) (e h w:Slot),ds=rng t k/\t+k=S.length/\R.length=S.length/\left=s.n-R.sum/\0<=left/\(∀(j:Nat) x m,R[j]?=some x->Mo[j]?=some m->0<=x/\x<=m) /\
      (∀q:Nat,q<t->0<left->∀(a:Nat),((q:Int)+cc)%S.length=a->R[a]?=Mo[a]?) /\
      ρ=[.sh (.lst (fl.map je)),.sh (.lst (cells.map D.int)),.sh (.lst (S.map jl)),.oo (P.map zm),.sh (.int P.length),.sh (.lst (Mo.map D.int)),.sh (.int left),.ow (R.map D.int),e,f,g,h,w])
       (Qf (by simp(disch:=omega) only[jb,jf,ja,Yn,Yi,ji,Yp,Yc,zk];simp only[QC]) (by omega) (by omega)) ⟨R0,S.length,0,left0,e,h,w,by simp,by simp,by omega,hleft,hl0,hR,by simp,rfl⟩ ?_ ?_
     . rintro d ds ρ ⟨R,k,t,left,e,h,w,hds,htk,hRl,hleft,hl0,hR,hvis,rfl⟩;cases k with
       | zero=>cases hds
       | succ k=>
         rw[zB]at hds;cases hds;have hpos:(0:Int)<S.length:=by omega
         have a0:=yP ((t:Int)+cc) (Int.ne_of_gt hpos);have a1:=yx ((t:Int)+cc) hpos;obtain⟨a,ha⟩:∃a:Nat,((t:Int)+cc)%S.length=a:=⟨(((t:Int)+cc)%S.length).toNat,by omega⟩;rw[ha]at a0 a1;have haM:a<Mo.length:=by omega
         have haR:a<R.length:=by omega
         have gm:Mo[a]?=some Mo[a]:=Ya haM;have gr:R[a]?=some R[a]:=Ya haR;generalize Mo[a]=m at gm;generalize R[a]=y at gr;obtain⟨y0,ym⟩:=hR a y m gr gm;have dm:jI (.lst (Mo.map D.int)) (.int a)=some (.int m):=jb7 (by omega) (by rw[Yv];exact gm);have dr:jI (.lst (R.map D.int)) (.int a)=some (.int y):=jb7 (by omega) (by rw[Yv];exact gr);generalize hx:(if m-y<left then m-y else left)=x;have hx1:0<=x/\x<=left/\x<=m-y/\(x=m-y\/x=left):=by rw[<-hx];split <;> omega
         obtain⟨x0,xl,xm,xx⟩:=hx1;have tn:=jlG (z0:=.sh (.lst (fl.map je))) (z3:=.oo (P.map zm)) (f:=f) (g:=g) (h:=h) (w:=w) (parts:=S.map jl) (j:=t) (by omega) hcl (by rw[QC];omega) ecc (by rw[QC];exact ha) dm dr hx haR;refine⟨_,_,rfl,tn,R.set a (y+x),k,t+1,left-x,_,_,_,by simp,by omega,by simp[hRl],?_,by omega,?_,?_,rfl⟩
         . rw[jeM R a y (y+x) gr];omega
         . intro j z m' q1 q2;by_cases hja:a=j
           . subst hja;rw[YG haR]at q1;rw[gm]at q2;cases q1;cases q2;omega
           . rw[Yh hja]at q1;exact hR j z m' q1 q2
         . intro q hq hpos' b hb;by_cases hqt:q=t
           . subst hqt;have hab:b=a:=by omega
             subst hab;rw[YG haR,gm];congr 1;omega
           . have old:=hvis q (by omega) (by omega) b hb;by_cases hab:a=b
             . subst hab;rw[gr,gm]at old;have:=Option.some.inj old;rw[YG haR,gm];congr 1;omega
             . rw[Yh hab];exact old
     . rintro ρ ⟨R,k,t,left,e,h,w,hds,htk,hRl,hleft,hl0',hR,hvis,rfl⟩;have hk:k=0:=by
        cases k with
        | zero=>rfl
        | succ k=>rw[zB]at hds;cases hds
       subst hk;have hz:left=0:=by
        refine Classical.byContradiction fun hz=>?_;have hpos:0<left:=by omega
        have hRM:R=Mo:=by
         refine y9 fun j=>?_;rcases YT j S.length with hj | hj
         . have hn:(0:Int)<S.length:=by omega
           have q0:=yP ((j:Int)-cc) (Int.ne_of_gt hn);have q1:=yx ((j:Int)-cc) hn;have q2:(((j:Int)-cc)%S.length+cc)%S.length=j:=by rw[Int.emod_add_emod,Int.sub_add_cancel];exact Int.emod_eq_of_lt (by omega) (by omega)
           refine hvis (((j:Int)-cc)%S.length).toNat (by omega) hpos j ?_;rw[Int.toNat_of_nonneg q0];exact q2
         . rw[Y2 (by omega),Y2 (by omega)]
        rw[hRM,hsum]at hleft;omega
       have last:∀r ρ',r=Res.next ρ'->C' (.next ρ')->C' r:=fun r ρ' h1 h2=>by rw[h1];exact h2
       refine last _ [.sh (.lst (fl.map je)),.sh (.lst (cells.map D.int)),.sh (.lst (S.map jl)),.oo ((P++[R]).map zm),.sh (.int P.length),.sh (.lst (Mo.map D.int)),.sh (.int left),.un,e,f,g,h,w] ?_ (fin' R _ ⟨hRl,fun j x p q1 q2=>?_,by omega⟩ ⟨_,_,_,_,_,_,_,_,_,rfl⟩)
       . clear hvis hR hneed hsum hrooms;unfold jbH jen;show(match (if zp (P.map zm).length then some _ else none)with | some ρ'=>Res.next ρ' | none=>.fail)=_;rw[j5 (by rw[QC];omega),yv];rfl
       . exact hR j x (jX s p) q1 (by rw[<-hMo,Yr,q2];rfl)
 . rintro ρ ⟨P,k,lo,a,b,c,d,e,f,g,h,w,hds,hlo,hPk,hP,rfl⟩;have hk:k=0:=by
    cases k with
    | zero=>rfl
    | succ k=>rw[zB]at hds;cases hds
   subst hk;exact fin P _ ⟨by omega,by rw[hS];exact hP⟩ rfl
theorem jaT{α:Type}{m:D->ee->Option ee}{ft:ee->Option Bool}{fe:ee->Option D}{ρ:ee}(src g:α->D):∀(l:List α),(∀a∈l,∃ρ1,m (src a) ρ=some ρ1/\ft ρ1=some true/\fe ρ1=some (g a))->Zl m ft fe ρ (l.map src)=some (l.map g)
 | [],_=>rfl
 | d::ds,h=>by obtain⟨ρ1,h1,h2,h3⟩:=h d Yb;simp only[YO,Zl,h1,h2,h3,Yc,yq,jaT src g ds fun x hx=>h x (Yf _ hx),Yp]
theorem jaq{α β:Type}(f:α->D)(g:β->D)(xs:List α)(ys:List β):jaE (xs.map f) (ys.map g)=(xs.zip ys).map fun q=>.tup [f q.1,g q.2]:=by unfold jaE;rw[List.zip_map,yn];rfl
def Sm(s:Ship):Prop:=0<=s.m/\s.m<=1000000000000000
theorem jf0{s:Ship}(h:s.Ok):Sm s:=⟨h.m0,h.m1⟩
theorem ZJ{fl:List Ship}(h:fl.length<20):(jt fl).length<40:=by have:=Zu fl;have:=jas (zG fl);unfold jt;omega
theorem jcQ(p:Int×Int):Zg [jl p]=some (.int (p.2-p.1)):=by unfold Zg ja0 jl;simp(disch:=omega) only[Ja,Yt,Y1,Kk,jcB,qO,jg,ja,qh,YO,yQ,KI,yT,yz,Km,Yi,eC,Yc,QW,QU,qd,yq]
theorem jbC{s:Ship}(hs:Sm s)(p:Int×Int):ZL [je s,jl p]=some (.int (jX s p)):=by
 have h1:=hs.1;have h2:=hs.2;have el:=jcQ p;unfold ZL jeg jX;unfold jl at el ⊢;unfold je;simp(disch:=omega) only[Ja,Yt,Y1,Kk,Nat.reduceAdd,jcB,jn,JR,zZ,jZ,jg,ja,qh,YO,yQ,KI,yT,yz,Km,Yi,eC,Yc,QU,Yn,ZR,QW,qO,jcb,jf,jb,jB,ji,Yp,j2,yq];by_cases c1:s.b<=p.1
 . by_cases c2:p.2<=s.e
   . simp only[c1,c2,Kr,and_self,yq,el];simp(disch:=omega) only[Yc,JX]
   . simp only[c1,c2,Kr,Kh,and_false,yC]
 . simp only[c1,Kh,false_and,yC]
theorem jaw{i:Nat}{fo:ee->Option (List D)}{ρ:ee}{l:List D}(h:fo ρ=some l):jD i (jM fo) ρ=.next (ρ.set i (.sh (.lst l))):=by unfold jD jM;rw[h];rfl
def jac:D->Bool
 | .int _=>true
 | _=>false
def Z8:D->Prop
 | .scr _=>False
 | .dic _ _=>False
 | .kst _=>False
 | .obj _=>False
 | _=>True
theorem jhs{d:D}(h:Z8 d):qT [d]=some (.bl (jac d)):=by cases d <;> first | exact h.elim | rfl
theorem jgM{d:D}(h:Z8 d):zi [d]=some (.bl (jac d)):=by cases d <;> first | exact h.elim | rfl
def jct:D->Prop
 | .lst _=>False
 | .scr _=>False
 | .dic _ _=>False
 | .kst _=>False
 | .obj _=>False
 | _=>True
theorem jeu{m:D->ee->Option ee}{B:FS}(g:Nat->D)(n:Nat)(P:Nat->ee->Prop)(R:D->Prop)
 (hs:∀(j:Nat) ρ,j<n->P j ρ->∃ρ1,m (g j) ρ=some ρ1/\((∃ρ2,B ρ1=.next ρ2/\P (j+1) ρ2)\/∃d,B ρ1=.ret d/\R d)):∀(k j:Nat) (ρ:ee),j+k=n->P j ρ->
 (∃ρ',Jv m B ((List.range' j k).map g) ρ=.next ρ'/\P n ρ')\/∃d,Jv m B ((List.range' j k).map g) ρ=.ret d/\R d
 | 0,j,ρ,hj,hP=>.inl ⟨ρ,rfl,(show j=n by omega) ▸ hP⟩
 | k+1,j,ρ,hj,hP=>by
   obtain⟨ρ1,h1,h2⟩:=hs j ρ (by omega) hP;rw[List.range'_succ,YO];rcases h2 with⟨ρ2,h2,h3⟩ | ⟨d,h2,h3⟩
   . rcases jeu g n P R hs k (j+1) ρ2 (by omega) h3 with h | h
     . obtain⟨ρ',e,p⟩:=h;exact .inl ⟨ρ',by simp only[Jv,h1,h2];exact e,p⟩
     . obtain⟨d,e,p⟩:=h;exact .inr ⟨d,by simp only[Jv,h1,h2];exact e,p⟩
   . exact .inr ⟨d,by simp only[Jv,h1,h2],h3⟩
theorem jke{fi:ee->Option (List D)}{m:D->ee->Option ee}{B:FS}{ρ:ee}(g:Nat->D)(n:Nat)(P:Nat->ee->Prop)(R:D->Prop)(hi:fi ρ=some ((List.range n).map g))(h0:P 0 ρ)
 (hs:∀(j:Nat) ρ,j<n->P j ρ->∃ρ1,m (g j) ρ=some ρ1/\((∃ρ2,B ρ1=.next ρ2/\P (j+1) ρ2)\/∃d,B ρ1=.ret d/\R d)) :
 (∃ρ',JI fi m B ρ=.next ρ'/\P n ρ')\/∃d,JI fi m B ρ=.ret d/\R d:=by
 unfold JI;rw[hi,List.range_eq_range'];exact jeu g n P R hs n 0 ρ (by omega) h0
theorem jgl{C:Res->Prop}{fi:ee->Option (List D)}{m:D->ee->Option ee}{B F':FS}{ρ:ee}(g:Nat->D)(n:Nat)(P:Nat->ee->Prop)(R:D->Prop)(hi:fi ρ=some ((List.range n).map g))(h0:P 0 ρ)
 (hs:∀(j:Nat) ρ,j<n->P j ρ->∃ρ1,m (g j) ρ=some ρ1/\((∃ρ2,B ρ1=.next ρ2/\P (j+1) ρ2)\/∃d,B ρ1=.ret d/\R d)) (k1:∀ρ',P n ρ'->C (F' ρ')) (k2:∀d,R d->C (.ret d)):C (jn (JI fi m B) F' ρ):=by
 rcases jke g n P R hi h0 hs with⟨ρ',e,h⟩ | ⟨d,e,h⟩
 . exact jL ρ' e (k1 ρ' h)
 . exact J0 e (k2 d h)
theorem QF(i:Int):qT [.int i]=some (.bl true):=rfl
theorem Zi{α:Type}(l:List α):jc2 [.lst (l.map fun _=>D.bl true)]=some (.bl true):=by have:=jao (l.map fun _=>true);rw[yn]at this;refine this.trans ?_;rw[show(l.map fun _=>true).all id=true by simp]
theorem jcJ{ρ:ee}{x y:Int}{fb fc:ee->Option D}(h1:fb ρ=some (.int x))(h2:fc ρ=some (.int y))(h3:0<=x)(h4:x<=y):zR dLe dLe (eC (.int 0)) fb fc ρ=some (.bl true):=by unfold zR eC;simp only[h1,h2,Yc,ZR,YW h3,YW h4]
theorem ja3{S:List (Int×Int)}{s:Ship}(hs:Sm s){r:List Int}(h:RowOk S s r)(hS:S.length<1000):jU [je s,.lst (S.map jl),Qk r]=some (.bl true):=by
 have hrl:=h.len;refine zg (m:=j3) (ρ:=[.sh (je s),.sh (.lst (S.map jl)),.sh (.lst (r.map D.int))]) rfl rfl ?_;intro C fin;unfold j3;refine jL [.sh (je s),.sh (.lst (S.map jl)),.sh (.lst (r.map D.int))] (zc (zE (by walk_at "ev") (jG (jo (jq rfl rfl) (jq rfl rfl) (jdu (by simp only[QC,hrl])))))) ?_;have lc1:=Jy (fi:=zq (ja 2)) (ρ:=[.sh (je s),.sh (.lst (S.map jl)),.sh (.lst (r.map D.int))]) (m:=jT 0) (ft:=fun _=>some true) (fe:=jf qT (jb (jB 0) ji)) (n:=1) (ix:=[]) (JW rfl) (by rw[QC];omega)
  (jaT D.int (fun _=>.bl true) r fun x _=>⟨[.sh (.int x)],rfl,rfl,jq rfl (QF x)⟩)
 refine jL [.sh (je s),.sh (.lst (S.map jl)),.sh (.lst (r.map D.int))] (zc (Js (jG (jq (js (qC lc1) rfl) (Zi r))))) ?_;have hz:Zc (jb (ja 1) (jb (ja 2) ji)) [.sh (je s),.sh (.lst (S.map jl)),.sh (.lst (r.map D.int))]=some ((S.zip r).map fun q=>.tup [jl q.1,.int q.2]):=by have e:=jaq jl D.int S r;rw[<-e];rfl
 have lc2:=Jy (m:=ZO 2 (zd (jT 0) (zd (jT 1) jaj))) (ft:=fun _=>some true) (fe:=zR dLe dLe (eC (.int 0)) (ja 1) (jf ZL (jb (jB 2) (jb (jB 0) ji)))) (n:=2) (ix:=[0]) hz (by simp;omega)
  (jaT (fun q:(Int×Int)×Int=>.tup [jl q.1,.int q.2]) (fun _=>.bl true) (S.zip r) fun q hq=>⟨[.sh (jl q.1),.sh (.int q.2),.sh (je s)],rfl,rfl,by obtain⟨j,hj⟩:=yu.mp hq;rw[YU]at hj;have b:=h.bd j q.2 q.1 hj.2 hj.1;exact jcJ rfl (jq rfl (jbC hs q.1)) b.1 b.2⟩)
 refine jL [.sh (je s),.sh (.lst (S.map jl)),.sh (.lst (r.map D.int))] (zc (Js (jG (jq (js (qC lc2) rfl) (Zi (S.zip r)))))) ?_;exact Za (qQ (jo (jq rfl (jau r)) (jo rfl rfl ZP) (jd8 h.sum))) fin
theorem jcV{fl:List Ship}(hs:∀s∈fl,Sm s)(hl:fl.length<20){P:List (List Int)}(hP:PlanOk fl P):qL [.lst (fl.map je),.lst (P.map Qk)]=some (.bl true):=by
 have est:=J7 fl hl;have hSl:=ZJ hl;have hPl:=hP.len;refine zg (m:=qr) (ρ:=[.sh (.lst (fl.map je)),.sh (.lst (P.map Qk)),.un]) rfl rfl ?_;intro C fin;unfold qr;refine jL [.sh (.lst (fl.map je)),.sh (.lst (P.map Qk)),.un] (zc (zE (by walk_at "ev") (jG (jo (jq rfl rfl) (jq rfl rfl) (jdu (by simp only[QC,hPl])))))) ?_;refine jL [.sh (.lst (fl.map je)),.sh (.lst (P.map Qk)),.sh (.lst ((jt fl).map jl))] (jaw (jq rfl est)) ?_;have hz:Zc (jb (ja 0) (jb (ja 1) ji)) [.sh (.lst (fl.map je)),.sh (.lst (P.map Qk)),.sh (.lst ((jt fl).map jl))]=some ((fl.zip P).map fun q=>.tup [je q.1,Qk q.2]):=by have e:=jaq je Qk fl P;rw[<-e];rfl
 have lc:=Jy (m:=ZO 2 (zd (jT 0) (zd (jT 1) jaj))) (ft:=fun _=>some true) (fe:=jf jU (jb (jB 0) (jb (jB 2) (jb (jB 1) ji)))) (n:=2) (ix:=[2]) hz (by simp;omega)
  (jaT (fun q:Ship×List Int=>.tup [je q.1,Qk q.2]) (fun _=>.bl true) (fl.zip P) fun q hq=>⟨[.sh (je q.1),.sh (Qk q.2),.sh (.lst ((jt fl).map jl))],rfl,rfl,by obtain⟨j,hj⟩:=yu.mp hq;rw[YU]at hj;exact jq rfl (ja3 (hs q.1 (Yq hj.1)) (hP.row j q.2 q.1 hj.2 hj.1) (by omega))⟩)
 exact Za (qQ (jq (js (qC lc) rfl) (Zi (fl.zip P)))) fin
theorem jbN{ρ:ee}{ga gb:ee->Option Bool}(h:ga ρ=some true):bOr ga gb ρ=some true:=by unfold bOr;rw[h]
theorem jcP{i j:Int}(h:i≠j):dNe (.int i) (.int j)=some (.bl true):=by rw[jhK,Y0 h];rfl
theorem jdb{d:D}{ρ:ee}{i:Nat}(h:ja i ρ=some d)(hn:jct d):Jr (jZ (Jl "list" (ja i))) ρ=some true:=by refine Js (b:=false) (jG ?_);unfold Jl;rw[h];cases d <;> first | exact hn.elim | rfl
theorem zN{l:List D}{ρ:ee}{i:Nat}(h:ja i ρ=some (.lst l)):Jr (jZ (Jl "list" (ja i))) ρ=some false:=by refine Js (b:=true) (jG ?_);unfold Jl;rw[h];rfl
theorem zT{f d:D}(h:jct d):qL [f,d]=some (.bl false):=by refine zg (m:=qr) (ρ:=[.sh f,.sh d,.un]) rfl rfl fun C fin=>?_;unfold qr;exact J0 ((zo (jbN (jdb rfl h))).trans (qQ rfl)) fin
theorem jdO{fl:List Ship}{l:List D}(h:l.length≠fl.length):qL [.lst (fl.map je),.lst l]=some (.bl false):=by refine zg (m:=qr) (ρ:=[.sh (.lst (fl.map je)),.sh (.lst l),.un]) rfl rfl fun C fin=>?_;unfold qr;exact J0 ((zo (zE (zN rfl) (jG (jo (jq rfl rfl) (jq rfl rfl) (jcP (by rw[QC];omega)))))).trans (qQ rfl)) fin
def shB(S:D)(q:Ship×D):Bool:=match jU [je q.1,S,q.2]with
 | some (.bl c)=>c
 | _=>true
theorem jc1{fl:List Ship}(hl:fl.length<20){l:List D}(hn:l.length=fl.length)(hs:∀(i:Nat) s x,fl[i]?=some s->l[i]?=some x->∃c,jU [je s,.lst ((jt fl).map jl),x]=some (.bl c))
 {i:Nat} {s:Ship} {x:D} (h1:fl[i]?=some s) (h2:l[i]?=some x) (h3:jU [je s,.lst ((jt fl).map jl),x]=some (.bl false)):qL [.lst (fl.map je),.lst l]=some (.bl false):=by
 have est:=J7 fl hl;refine zg (m:=qr) (ρ:=[.sh (.lst (fl.map je)),.sh (.lst l),.un]) rfl rfl fun C fin=>?_;unfold qr;refine jL [.sh (.lst (fl.map je)),.sh (.lst l),.un] (zc (zE (zN rfl) (jG (jo (jq rfl rfl) (jq rfl rfl) (jdu (by rw[QC,hn])))))) ?_;refine jL [.sh (.lst (fl.map je)),.sh (.lst l),.sh (.lst ((jt fl).map jl))] (jaw (jq rfl est)) ?_;have hz:Zc (jb (ja 0) (jb (ja 1) ji)) [.sh (.lst (fl.map je)),.sh (.lst l),.sh (.lst ((jt fl).map jl))]=some ((fl.zip l).map fun q=>.tup [je q.1,q.2]):=by have e:=jaq je (fun x:D=>x) fl l;rw[List.map_id']at e;rw[<-e];rfl
 have lc:=Jy (m:=ZO 2 (zd (jT 0) (zd (jT 1) jaj))) (ft:=fun _=>some true) (fe:=jf jU (jb (jB 0) (jb (jB 2) (jb (jB 1) ji)))) (n:=2) (ix:=[2]) hz (by simp;omega)
  (jaT (fun q:Ship×D=>.tup [je q.1,q.2]) (fun q=>.bl (shB (.lst ((jt fl).map jl)) q)) (fl.zip l) fun q hq=>⟨[.sh (je q.1),.sh q.2,.sh (.lst ((jt fl).map jl))],rfl,rfl,by
   obtain⟨j,hj⟩:=yu.mp hq;rw[YU]at hj;obtain⟨c,hc⟩:=hs j q.1 q.2 hj.1 hj.2;have e:shB (.lst ((jt fl).map jl)) q=c:=by unfold shB;rw[hc]
   rw[e];exact jq rfl hc⟩)
 have ha:=jao ((fl.zip l).map (shB (.lst ((jt fl).map jl))));rw[yn]at ha;refine Za (qQ (jq (js (qC lc) rfl) (ha.trans ?_))) fin;have hf:(fl.zip l).all (shB (.lst ((jt fl).map jl)))=false:=by
  cases hA:(fl.zip l).all (shB (.lst ((jt fl).map jl)))with
  | false=>rfl
  | true=>have:=List.all_eq_true.mp hA (s,x) (Yq (YU.mpr ⟨h1,h2⟩));unfold shB at this;rw[h3]at this;cases this
 rw[List.all_map];exact congrArg (fun b=>some (D.bl b)) hf
theorem Jw{s S d:D}(h:jct d):jU [s,S,d]=some (.bl false):=by refine zg (m:=j3) (ρ:=[.sh s,.sh S,.sh d]) rfl rfl fun C fin=>?_;unfold j3;exact J0 ((zo (jbN (jdb rfl h))).trans (qQ rfl)) fin
theorem jfl{s:D}{S:List (Int×Int)}{l:List D}(h:l.length≠S.length):jU [s,.lst (S.map jl),.lst l]=some (.bl false):=by refine zg (m:=j3) (ρ:=[.sh s,.sh (.lst (S.map jl)),.sh (.lst l)]) rfl rfl fun C fin=>?_;unfold j3;exact J0 ((zo (zE (zN rfl) (jG (jo (jq rfl rfl) (jq rfl rfl) (jcP (by rw[QC];omega)))))).trans (qQ rfl)) fin
theorem jfq{s:D}{S:List (Int×Int)}{l:List D}(h:l.length=S.length)(hS:S.length<1000)(hn:∀x∈l,Z8 x){x:D}(hx:x∈l)(hi:jac x=false):jU [s,.lst (S.map jl),.lst l]=some (.bl false):=by
 refine zg (m:=j3) (ρ:=[.sh s,.sh (.lst (S.map jl)),.sh (.lst l)]) rfl rfl fun C fin=>?_;unfold j3;refine jL [.sh s,.sh (.lst (S.map jl)),.sh (.lst l)] (zc (zE (zN rfl) (jG (jo (jq rfl rfl) (jq rfl rfl) (jdu (by rw[QC,h])))))) ?_;have lc:eLC (zq (ja 2)) (jT 0) (fun _=>some true) (jf qT (jb (jB 0) ji)) 1 [] [.sh s,.sh (.lst (S.map jl)),.sh (.lst l)]=some (l.map fun d=>.bl (jac d)):=Jy (JW rfl) (by omega) (jdI (fun d=>.bl (jac d)) _ fun d hd=>⟨[.sh d],rfl,rfl,jq rfl (jhs (hn d hd))⟩)
 have ha:=jao (l.map jac);rw[yn]at ha;have hf:(l.map jac).all id=false:=by
  rw[List.all_map];cases hA:l.all (id∘jac)with
  | false=>rfl
  | true=>have:=List.all_eq_true.mp hA x hx;rw[show(id∘jac) x=jac x from rfl,hi]at this;cases this
 rw[hf]at ha;exact J0 ((zo (Js (jG (jq (js (qC lc) rfl) ha)))).trans (qQ rfl)) fin
theorem jcm{ρ:ee}{x y:Int}{fb fc:ee->Option D}(h1:fb ρ=some (.int x))(h2:fc ρ=some (.int y)):zR dLe dLe (eC (.int 0)) fb fc ρ=some (.bl (decide (0<=x) && decide (x<=y))):=by
 unfold zR eC;simp only[h1,h2,Yc,ZR];by_cases h:0<=x
 . simp only[YW h,Bool.true_and]
 . simp only[Y0 h,Bool.false_and]
def zD(S:List (Int×Int))(s:Ship)(x:D):Prop:=∃ns,x=Qk ns/\RowOk S s ns
def Qs(fl:List Ship)(d:D):Prop:=∃P:List (List Int),d=.lst (P.map Qk)/\PlanOk fl P
structure RowN(x:D):Prop where
 ns:Z8 x
 it:∀r,x=.lst r->∀y∈r,Z8 y
theorem jeX(l:List D):(∃ns:List Int,l=ns.map D.int)\/∃x∈l,jac x=false:=by
 induction l with
 | nil=>exact .inl ⟨[],rfl⟩
 | cons d l ih=>
   rcases ih with⟨ns,rfl⟩ | ⟨x,hx,h⟩
   . cases d with
     | int i=>exact .inl ⟨i::ns,rfl⟩
     | _=>exact .inr ⟨_,Yb ..,rfl⟩
   . exact .inr ⟨x,Yf _ hx,h⟩
theorem jgD{r r':List Int}(h:Qk r=Qk r'):r=r':=(Kn (f:=D.int) fun x y z=>D.int.inj z).mp (D.lst.inj h)
theorem jfH{S:List (Int×Int)}{s:Ship}(hs:Sm s){r:List Int}(h:r.length=S.length)(hS:S.length<1000)(hn:¬RowOk S s r):jU [je s,.lst (S.map jl),Qk r]=some (.bl false):=by
 refine zg (m:=j3) (ρ:=[.sh (je s),.sh (.lst (S.map jl)),.sh (.lst (r.map D.int))]) rfl rfl fun C fin=>?_;unfold j3;refine jL [.sh (je s),.sh (.lst (S.map jl)),.sh (.lst (r.map D.int))] (zc (zE (zN rfl) (jG (jo (jq rfl rfl) (jq rfl rfl) (jdu (by simp only[QC,h])))))) ?_;have lc1:=Jy (fi:=zq (ja 2)) (ρ:=[.sh (je s),.sh (.lst (S.map jl)),.sh (.lst (r.map D.int))]) (m:=jT 0) (ft:=fun _=>some true) (fe:=jf qT (jb (jB 0) ji)) (n:=1) (ix:=[]) (JW rfl) (by rw[QC];omega)
  (jaT D.int (fun _=>.bl true) r fun x _=>⟨[.sh (.int x)],rfl,rfl,jq rfl (QF x)⟩)
 refine jL [.sh (je s),.sh (.lst (S.map jl)),.sh (.lst (r.map D.int))] (zc (Js (jG (jq (js (qC lc1) rfl) (Zi r))))) ?_;have hz:Zc (jb (ja 1) (jb (ja 2) ji)) [.sh (je s),.sh (.lst (S.map jl)),.sh (.lst (r.map D.int))]=some ((S.zip r).map fun q=>.tup [jl q.1,.int q.2]):=by have e:=jaq jl D.int S r;rw[<-e];rfl
 have lc2:=Jy (m:=ZO 2 (zd (jT 0) (zd (jT 1) jaj))) (ft:=fun _=>some true) (fe:=zR dLe dLe (eC (.int 0)) (ja 1) (jf ZL (jb (jB 2) (jb (jB 0) ji)))) (n:=2) (ix:=[0]) hz (by simp;omega)
  (jaT (fun q:(Int×Int)×Int=>.tup [jl q.1,.int q.2]) (fun q=>.bl (decide (0<=q.2) && decide (q.2<=jX s q.1))) (S.zip r) fun q hq=>⟨[.sh (jl q.1),.sh (.int q.2),.sh (je s)],rfl,rfl,jcm rfl (jq rfl (jbC hs q.1))⟩)
 have ha:=jao ((S.zip r).map fun q=>decide (0<=q.2) && decide (q.2<=jX s q.1));rw[yn]at ha;cases hb:((S.zip r).map fun q=>decide (0<=q.2) && decide (q.2<=jX s q.1)).all id with
 | false=>rw[hb]at ha;exact J0 ((zo (Js (jG (jq (js (qC lc2) rfl) ha)))).trans (qQ rfl)) fin
 | true=>
   rw[hb]at ha;refine jL [.sh (je s),.sh (.lst (S.map jl)),.sh (.lst (r.map D.int))] (zc (Js (jG (jq (js (qC lc2) rfl) ha)))) ?_;have hsum:r.sum≠s.n:=fun z=>hn ⟨h,fun j x p h1 h2=>by have hm:(p,x)∈S.zip r:=Yq (YU.mpr ⟨h2,h1⟩);rw[List.all_map]at hb;have:=List.all_eq_true.mp hb _ hm;have w:=Ky.mp (show(decide (0<=x) && decide (x<=jX s p))=true from this);exact⟨yH w.1,yH w.2⟩,z⟩
   exact Za (qQ (jo (jq rfl (jau r)) (jo rfl rfl ZP) (Qz hsum))) fin
theorem jbO{S:List (Int×Int)}{s:Ship}(hs:Sm s)(hS:S.length<1000){x:D}(hx:RowN x):(zD S s x->jU [je s,.lst (S.map jl),x]=some (.bl true))/\(¬zD S s x->jU [je s,.lst (S.map jl),x]=some (.bl false)):=by
 refine⟨fun⟨ns,e,h⟩=>by rw[e];exact ja3 hs h hS,fun hn=>?_⟩;cases x with
 | lst r=>
   by_cases hl:r.length=S.length
   . rcases jeX r with⟨ns,rfl⟩ | ⟨y,hy,hi⟩
     . exact jfH hs (by rw[QC]at hl;exact hl) hS fun z=>hn ⟨ns,rfl,z⟩
     . exact jfq hl hS (hx.it r rfl) hy hi
   . exact jfl hl
 | scr _=>exact hx.ns.elim
 | dic _ _=>exact hx.ns.elim
 | kst _=>exact hx.ns.elim
 | obj _=>exact hx.ns.elim
 | int _=>exact Jw trivial
 | bl _=>exact Jw trivial
 | non=>exact Jw trivial
 | str _=>exact Jw trivial
 | tup _=>exact Jw trivial
theorem jb4:∀(fl:List Ship) (S:List (Int×Int)) (l:List D),l.length=fl.length->(∀(i:Nat) s x,fl[i]?=some s->l[i]?=some x->zD S s x)->∃P:List (List Int),l=P.map Qk/\P.length=fl.length/\∀(i:Nat) r s,P[i]?=some r->fl[i]?=some s->RowOk S s r
 | [],S,[],_,_=>⟨[],rfl,rfl,fun i r s h=>by cases h⟩
 | [],S,x::l,h,_=>by cases h
 | s::fl,S,[],h,_=>by cases h
 | s::fl,S,x::l,h,hp=>by
   obtain⟨ns,rfl,hr⟩:=hp 0 s x rfl rfl;obtain⟨P,e,hl,hP⟩:=jb4 fl S l (by simpa using h) fun i s' x' h1 h2=>hp (i+1) s' x' (by simpa using h1) (by simpa using h2);refine⟨ns::P,by rw[e];rfl,by simpa using hl,fun i r s' h1 h2=>?_⟩;cases i with
   | zero=>cases h1;cases h2;exact hr
   | succ i=>exact hP i r s' (by simpa using h1) (by simpa using h2)
structure PlanN(d:D):Prop where
 ns:Z8 d
 it:∀l,d=.lst l->l.length<1000/\∀x∈l,RowN x
theorem jdE{fl:List Ship}(hfl:∀s∈fl,s.Ok)(hl:fl.length<=8){d:D}(hd:PlanN d):(Qs fl d->qL [.lst (fl.map je),d]=some (.bl true))/\(¬Qs fl d->qL [.lst (fl.map je),d]=some (.bl false)):=by
 have hSl:=ZJ (fl:=fl) (by omega);refine⟨fun⟨P,e,h⟩=>by rw[e];exact jcV (fun s hs=>jf0 (hfl s hs)) (by omega) h,fun hn=>?_⟩;cases d with
 | lst l=>
   by_cases hle:l.length=fl.length
   . have hr:=(hd.it l rfl).2;by_cases ha:∀(i:Nat) s x,fl[i]?=some s->l[i]?=some x->zD (jt fl) s x
     . obtain⟨P,e,h1,h2⟩:=jb4 fl (jt fl) l hle ha;exact absurd ⟨P,by rw[e],h1,h2⟩ hn
     . simp only[Classical.not_forall]at ha;obtain⟨i,s,x,g1,g2,g3⟩:=ha;refine jc1 (by omega) hle (fun j s' x' q1 q2=>?_) g1 g2 ((jbO (jf0 (hfl s (Yq g1))) (by omega) (hr x (Yq g2))).2 g3);have w:=jbO (S:=jt fl) (jf0 (hfl s' (Yq q1))) (by omega) (hr x' (Yq q2));by_cases z:zD (jt fl) s' x'
       . exact⟨_,w.1 z⟩
       . exact⟨_,w.2 z⟩
   . exact jdO hle
 | scr _=>exact hd.ns.elim
 | dic _ _=>exact hd.ns.elim
 | kst _=>exact hd.ns.elim
 | obj _=>exact hd.ns.elim
 | int _=>exact zT trivial
 | bl _=>exact zT trivial
 | non=>exact zT trivial
 | str _=>exact zT trivial
 | tup _=>exact zT trivial
theorem jbJ{d:D}{ρ:ee}{i:Nat}(h:ja i ρ=some d)(h0:Z8 d)(hn:∀l,d≠.lst l):Jr (jZ (Jl "list" (ja i))) ρ=some true:=by refine Js (b:=false) (jG ?_);unfold Jl;rw[h];cases d <;> first | exact h0.elim | exact absurd rfl (hn _) | rfl
theorem jft{fl:List Ship}(hfl:∀s∈fl,s.Ok)(hl:fl.length<=8){d:D}(hd:PlanN d):(Qs fl d->qF [.lst (fl.map je),.lst ((jt fl).map jl),d]=some (.bl true))/\(¬Qs fl d->qF [.lst (fl.map je),.lst ((jt fl).map jl),d]=some (.bl false)):=by
 have hSl:=ZJ (fl:=fl) (by omega)
 suffices main:∀C:Res->Prop,(Qs fl d->C (.ret (.bl true)))->(¬Qs fl d->C (.ret (.bl false)))->C (zj [.sh (.lst (fl.map je)),.sh (.lst ((jt fl).map jl)),.sh d,.un,.un,.un,.un]) by exact⟨fun h=>main (fun r=>jcB r=some (.bl true)) (fun _=>rfl) (fun n=>absurd h n),fun h=>main (fun r=>jcB r=some (.bl false)) (fun n=>absurd n h) (fun _=>rfl)⟩
 intro C yes no;unfold zj;by_cases hlst:∃l,d=.lst l
 case neg=>exact J0 ((zo (jbN (jbJ rfl hd.ns fun l e=>hlst ⟨l,e⟩))).trans (qQ rfl)) (no fun⟨P,e,_⟩=>hlst ⟨_,e⟩)
 obtain⟨l,rfl⟩:=hlst;obtain⟨hll,hr⟩:=hd.it l rfl;by_cases hle:l.length=fl.length
 case neg=>exact J0 ((zo (zE (zN rfl) (jG (jo (jq rfl rfl) (jq rfl rfl) (jcP (by rw[QC];omega)))))).trans (qQ rfl)) (no fun⟨P,e,h⟩=>hle (by rw[D.lst.inj e,QC];exact h.len))
 refine jL [.sh (.lst (fl.map je)),.sh (.lst ((jt fl).map jl)),.sh (.lst l),.un,.un,.un,.un] (zc (zE (zN rfl) (jG (jo (jq rfl rfl) (jq rfl rfl) (jdu (by rw[QC,hle])))))) ?_;generalize hSS:jt fl=S at *
 have hno:∀(i:Nat) s x,fl[i]?=some s->l[i]?=some x->¬zD S s x->¬Qs fl (.lst l):=fun i s x g1 g2 g3 ⟨P,e,h⟩=>by rw[D.lst.inj e,Yr]at g2;obtain⟨r,g4,g5⟩:=map_some g2;exact g3 ⟨r,g5.symm,hSS ▸ h.row i r s g4 g1⟩
 refine jgl (fun j:Nat=>D.int (0+(j:Int))) fl.length (fun j ρ=>(∀(i:Nat) s x,i<j->fl[i]?=some s->l[i]?=some x->zD S s x)/\∃a b c e,ρ=[.sh (.lst (fl.map je)),.sh (.lst (S.map jl)),.sh (.lst l),a,b,c,e]) (fun q=>q=.bl false/\¬Qs fl (.lst l))
  ((Qf (j:=(fl.length:Int)) (js (jq rfl (by rw[zk,QC])) rfl) (by omega) (by omega)).trans (by rw[Yv];rfl)) ⟨fun i s x h=>absurd h (by omega),_,_,_,_,rfl⟩ ?_ ?_ ?_
 . rintro j ρ hj ⟨hP,a,b,c,e,rfl⟩;refine⟨[.sh (.lst (fl.map je)),.sh (.lst (S.map jl)),.sh (.lst l),.sh (.int (0+(j:Int))),b,c,e],rfl,?_⟩;have gs:fl[j]?=some fl[j]:=Ya hj;have gx:l[j]?=some (l[j]'(by omega)):=Ya (by omega);generalize fl[j]=s at gs;generalize l[j]'(by omega)=x at gx;have hs:=hfl s (Yq gs);have hxn:=hr x (Yq gx);have ex:jI (.lst l) (.int (0+(j:Int)))=some x:=ZK (by omega) (by rw[show(0+(j:Int)).toNat=j from by omega];exact gx);have es:jI (.lst (fl.map je)) (.int (0+(j:Int)))=some (je s):=JO (by omega) (by rw[show(0+(j:Int)).toNat=j from by omega];exact gs);have nx:=hno j s x gs gx
   suffices body:∀C':Res->Prop,(zD S s x->∀b c e,C' (.next [.sh (.lst (fl.map je)),.sh (.lst (S.map jl)),.sh (.lst l),.sh (.int (0+(j:Int))),b,c,e]))->(¬zD S s x->C' (.ret (.bl false)))->C' ((jn (jD 4 (jg jI (ja 2) (ja 3)))
    (jn (JR (bOr (Jr (jZ (Jl "list" (ja 4)))) (jZ (jg dNe (jf jN (jb (ja 4) ji)) (jf jN (jb (ja 1) ji)))))
    (qO (eC (.bl false))) j2)
    (jn (jD 5 (jM (jf qJ (jb (jg jI (ja 0) (ja 3)) (jb (jB 1) ji)))))
    (jn (JI (Qc (jb (jf jN (jb (ja 1) ji)) ji)) (jT 6)
    (JR (bOr (Jr (jZ (jf zi (jb (jg jI (ja 4) (ja 6)) ji)))) (bOr (jZ (jg dLt (jg jI (ja 4) (ja 6)) (eC (.int 0)))) (jZ (jg dGt (jg jI (ja 4) (ja 6)) (jg jI (ja 5) (ja 6))))))
    (qO (eC (.bl false))) j2))
    (JR (jZ (jg dNe (jf jd6 (jb (ja 4) ji)) (jg jI (jg jI (ja 0) (ja 3)) (eC (.int 2)))))
    (qO (eC (.bl false))) j2))))) [.sh (.lst (fl.map je)),.sh (.lst (S.map jl)),.sh (.lst l),.sh (.int (0+(j:Int))),b,c,e]) by
    refine body (fun r=>(∃ρ2:ee,r=.next ρ2/\((∀(i:Nat) s x,i<j+1->fl[i]?=some s->l[i]?=some x->zD S s x)/\∃a b c e,ρ2=[.sh (.lst (fl.map je)),.sh (.lst (S.map jl)),.sh (.lst l),a,b,c,e]))\/∃d:D,r=.ret d/\(d=.bl false/\¬Qs fl (.lst l))) (fun h b c e=>.inl ⟨_,rfl,fun i s' x' hi q1 q2=>?_,_,_,_,_,rfl⟩) fun h=>.inr ⟨_,rfl,rfl,nx h⟩;by_cases hij:i=j
    . subst hij;rw[gs]at q1;rw[gx]at q2;cases q1;cases q2;exact h
    . exact hP i s' x' (by omega) q1 q2
   intro C' yes' no';clear yes no hno nx hP;refine jL [.sh (.lst (fl.map je)),.sh (.lst (S.map jl)),.sh (.lst l),.sh (.int (0+(j:Int))),.sh x,c,e] (qm (jo rfl rfl ex)) ?_;by_cases hxl:∃r,x=.lst r
   case neg=>exact J0 ((zo (jbN (jbJ rfl hxn.ns fun r e=>hxl ⟨r,e⟩))).trans (qQ rfl)) (no' fun⟨ns,e,_⟩=>hxl ⟨_,e⟩)
   obtain⟨r,rfl⟩:=hxl;have hit:=hxn.it r rfl;by_cases hrl:r.length=S.length
   case neg=>exact J0 ((zo (zE (zN rfl) (jG (jo (jq rfl rfl) (jq rfl rfl) (jcP (by rw[QC];omega)))))).trans (qQ rfl)) (no' fun⟨ns,e,h⟩=>hrl (by rw[D.lst.inj e,QC];exact h.len))
   refine jL [.sh (.lst (fl.map je)),.sh (.lst (S.map jl)),.sh (.lst l),.sh (.int (0+(j:Int))),.sh (.lst r),c,e] (zc (zE (zN rfl) (jG (jo (jq rfl rfl) (jq rfl rfl) (jdu (by rw[QC,hrl])))))) ?_;have erooms:=jaU hs (l:=S) (by omega);refine jL [.sh (.lst (fl.map je)),.sh (.lst (S.map jl)),.sh (.lst l),.sh (.int (0+(j:Int))),.sh (.lst r),.sh (.lst ((S.map (jX s)).map D.int)),e] (qm (qC (jq (js (jo rfl rfl es) rfl) erooms))) ?_;refine jgl (fun k:Nat=>D.int (0+(k:Int))) S.length (fun k ρ=>(∀(i:Nat),i<k->∃y p,r[i]?=some (.int y)/\S[i]?=some p/\0<=y/\y<=jX s p)/\∃e,ρ=[.sh (.lst (fl.map je)),.sh (.lst (S.map jl)),.sh (.lst l),.sh (.int (0+(j:Int))),.sh (.lst r),.sh (.lst ((S.map (jX s)).map D.int)),e]) (fun q=>q=.bl false/\¬zD S s (.lst r))
    ((Qf (j:=(S.length:Int)) (js (jq rfl (by rw[zk,QC])) rfl) (by omega) (by omega)).trans (by rw[Yv];rfl)) ⟨fun i h=>absurd h (by omega),_,rfl⟩ ?_ ?_ ?_
   . rintro k ρ hk ⟨hQ,e,rfl⟩;refine⟨[.sh (.lst (fl.map je)),.sh (.lst (S.map jl)),.sh (.lst l),.sh (.int (0+(j:Int))),.sh (.lst r),.sh (.lst ((S.map (jX s)).map D.int)),.sh (.int (0+(k:Int)))],rfl,?_⟩;have gy:r[k]?=some (r[k]'(by omega)):=Ya (by omega);have gp:S[k]?=some S[k]:=Ya hk;generalize r[k]'(by omega)=y at gy;generalize S[k]=p at gp;have ey:jI (.lst r) (.int (0+(k:Int)))=some y:=ZK (by omega) (by rw[show(0+(k:Int)).toNat=k from by omega];exact gy);have em:jI (.lst ((S.map (jX s)).map D.int)) (.int (0+(k:Int)))=some (.int (jX s p)):=JO (by omega) (by rw[show(0+(k:Int)).toNat=k from by omega,Yr,gp];rfl);have bad:∀{z:D},r[k]?=some z->(∀i,z=.int i->¬(0<=i/\i<=jX s p))->¬zD S s (.lst r):=fun{z} hz hb ⟨ns,e,h⟩=>by rw[D.lst.inj e,Yr]at hz;obtain⟨i,g1,g2⟩:=map_some hz;exact hb i g2.symm (h.bd k i p g1 gp)
     have ew:=jgM (hit y (Yq gy));cases hy:jac y with
     | false=>rw[hy]at ew;refine .inr ⟨_,(zo (jbN (Js (b:=false) (jG (jq (js (jo rfl rfl ey) rfl) ew))))).trans (qQ rfl),rfl,bad gy fun i z=>?_⟩;subst z;cases hy
     | true=>
       rw[hy]at ew;cases y with
       | int i=>
         have t1:Jr (jZ (jf zi (jb (jg jI (ja 4) (ja 6)) ji))) [.sh (.lst (fl.map je)),.sh (.lst (S.map jl)),.sh (.lst l),.sh (.int (0+(j:Int))),.sh (.lst r),.sh (.lst ((S.map (jX s)).map D.int)),.sh (.int (0+(k:Int)))]=some false:=Js (b:=true) (jG (jq (js (jo rfl rfl ey) rfl) ew));by_cases h1:i<0
         . exact .inr ⟨_,(zo (zE t1 (jbN (jG (jo (jo rfl rfl ey) rfl (dLt_ok.trans (by rw[YW h1]))))))).trans (qQ rfl),rfl,bad gy fun i' z=>by cases z;omega⟩
         . by_cases h2:jX s p<i
           . exact .inr ⟨_,(zo (zE t1 (zE (jG (jo (jo rfl rfl ey) rfl (jiv (by omega)))) (jG (jo (jo rfl rfl ey) (jo rfl rfl em) (dGt_ok.trans (by rw[YW h2]))))))).trans (qQ rfl),rfl,bad gy fun i' z=>by cases z;omega⟩
           . refine .inl ⟨_,zc (zE t1 (zE (jG (jo (jo rfl rfl ey) rfl (jiv (by omega)))) (jG (jo (jo rfl rfl ey) (jo rfl rfl em) (jiK (by omega)))))),fun i' hi=>?_,_,rfl⟩;by_cases hik:i'=k
             . subst hik;exact⟨i,p,gy,gp,by omega,by omega⟩
             . exact hQ i' (by omega)
       | _=>cases hy
   . rintro ρ ⟨hQ,e,rfl⟩;obtain⟨ns,hns⟩:∃ns:List Int,r=ns.map D.int:=by
       rcases jeX r with h | ⟨y,hy,hi⟩
       . exact h
       . obtain⟨k,hk⟩:=yu.mp hy;obtain⟨z,_,g,_⟩:=hQ k (by have:=(Yg.mp hk).1;omega);rw[hk]at g;cases g;cases hi
     subst hns;rw[QC]at hrl;have hbd:∀(k:Nat) y p,ns[k]?=some y->S[k]?=some p->0<=y/\y<=jX s p:=fun k y p g1 g2=>by obtain⟨z,p',w1,w2,w3,w4⟩:=hQ k (by have:=(Yg.mp g1).1;omega);rw[Yr,g1]at w1;cases w1;rw[g2]at w2;cases w2;exact⟨w3,w4⟩
     have eneed:jg jI (jg jI (ja 0) (ja 3)) (eC (.int 2)) [.sh (.lst (fl.map je)),.sh (.lst (S.map jl)),.sh (.lst l),.sh (.int (0+(j:Int))),.sh (.lst (ns.map D.int)),.sh (.lst ((S.map (jX s)).map D.int)),e]=some (.int s.n):=jo (jo rfl rfl es) rfl ZP;by_cases hsum:ns.sum=s.n
     . exact Za (zc (jG (jo (jq rfl (jau ns)) eneed (jdu hsum)))) (yes' ⟨ns,rfl,hrl,hbd,hsum⟩ _ _ _)
     . exact Za ((zo (jG (jo (jq rfl (jau ns)) eneed (jcP hsum)))).trans (qQ rfl)) (no' fun⟨ns',e',h⟩=>hsum (by rw[jgD (r:=ns) (r':=ns') e'];exact h.sum))
   . rintro q ⟨rfl,h⟩;exact no' h
 . rintro ρ ⟨hP,a,b,c,e,rfl⟩;obtain⟨P,e1,h1,h2⟩:=jb4 fl S l hle fun i s x g1 g2=>hP i s x (Yg.mp g1).1 g1 g2;exact Za (qQ rfl) (yes ⟨P,by rw[e1],h1,by rw[hSS];exact h2⟩)
 . rintro q ⟨rfl,h⟩;exact no h
structure Show(m k:Nat)(d:D):Prop where
 ex:∃p,jah d=some p/\p.showable=true/\p.hasDict=false/\p.depth<=k/\p.shown.length<=m
theorem ZU:∀(ts:List Str) (k:Nat) (tw:Str) (m:Nat),(∀t∈ts,t.length<=m)->(textFrom k tw ts).length<=tw.length+ts.length*(m+2)
 | [],k,tw,m,_=>by show tw.length<=_;omega
 | t::r,k,tw,m,h=>by
   have ih:=ZU r (k+1) (tw++(if k>0 then ", " else "":String)++t) m fun x hx=>h x (Yf _ hx);have ht:=h t (Yb ..);have e:(tw++(if k>0 then ", " else "":String)++t).length ≤ tw.length+2+t.length:=by
     rw[y8,y8];have:(Str.ofString (if k>0 then ", " else "":String)).length ≤ 2:=by split <;> decide +kernel
     omega
   show(textFrom (k+1) (tw++(if k>0 then ", " else "":String)++t) r).length ≤ _;rw[Yt,Nat.add_mul];omega
theorem jaQ{m k:Nat}:∀{l:List D},(∀x∈l,Show m k x)->∃ps,pysOf l=some ps/\PyData.showableAll ps=true/\PyData.hasDictAll ps=false/\PyData.depthAll ps<=k/\ps.length=l.length/\∀t∈PyData.shownAll ps,t.length<=m
 | [],_=>⟨[],rfl,rfl,rfl,yY _,rfl,fun t h=>by cases h⟩
 | d::l,h=>by
   obtain⟨p,h1,h2,h3,h4,h5⟩:=(h d (Yb ..)).ex;obtain⟨ps,g1,g2,g3,g4,g5,g6⟩:=jaQ fun x hx=>h x (Yf _ hx);refine⟨p::ps,?_,?_,?_,?_,by rw[Yt,g5,Yt],fun t ht=>?_⟩
   . show(jah d).bind (fun x=>(pysOf l).map (x::·))=_;rw[h1,g1];rfl
   . show(p.showable && PyData.showableAll ps)=true;rw[h2,g2];rfl
   . show(p.hasDict || PyData.hasDictAll ps)=false;rw[h3,g3];rfl
   . show max p.depth (PyData.depthAll ps)<=k;omega
   . rcases Yl.mp (show t∈p.shown::PyData.shownAll ps from ht)with rfl | ht
     . exact h5
     . exact g6 t ht
theorem JC:∀ps:List PyData,(PyData.shownAll ps).length=ps.length
 | []=>rfl
 | p::ps=>by show(p.shown::PyData.shownAll ps).length=_;rw[Yt,JC ps,Yt]
theorem Show.lst{m k n:Nat}{l:List D}(hl:l.length<=n)(h:∀x∈l,Show m k x):Show (2+n*(m+2)) (k+1) (.lst l):=by
 obtain⟨ps,g1,g2,g3,g4,g5,g6⟩:=jaQ h;refine⟨.list ps,?_,g2,g3,?_,?_⟩
 . show(pysOf l).map PyData.list=_;rw[g1];rfl
 . simp only[PyData.depth];omega
 . show(textFrom 0 "[" (PyData.shownAll ps)++"]").length ≤ _;have:=ZU (PyData.shownAll ps) 0 "[" m g6;rw[y8,show("]":Str).length=1 from by decide +kernel];rw[show("[":Str).length=1 from by decide +kernel,JC,g5]at this;have:=Nat.mul_le_mul_right (m+2) hl;omega
theorem Show.tup{m k n:Nat}{l:List D}(hl:l.length<=n)(h:∀x∈l,Show m k x):Show (3+n*(m+2)) (k+1) (.tup l):=by
 obtain⟨ps,g1,g2,g3,g4,g5,g6⟩:=jaQ h;refine⟨.tuple ps,?_,g2,g3,?_,?_⟩
 . show(pysOf l).map PyData.tuple=_;rw[g1];rfl
 . simp only[PyData.depth];omega
 . show(("(":Str)++Str.join ", " (PyData.shownAll ps)++(if (PyData.shownAll ps).length == 1 then ",)" else ")":String)).length ≤ _;have h1:=StrLaws.join_length_le ", " (PyData.shownAll ps);have h2:=StrLaws.sumLen_le (PyData.shownAll ps) g6;rw[JC,g5]at h1 h2;have h3:(Str.ofString (if (PyData.shownAll ps).length == 1 then ",)" else ")":String)).length ≤ 2:=by split <;> decide +kernel
   rw[y8,y8,show("(":Str).length=1 from by decide +kernel];rw[show(", ":Str).length=2 from by decide +kernel]at h1;have:=Nat.mul_le_mul_right (m+2) hl;have e:l.length*(m+2)=l.length*m+l.length*2:=Nat.mul_add ..
   omega
theorem Show.le{m m' k k':Nat}{d:D}(h:Show m k d)(h1:m<=m')(h2:k<=k'):Show m' k' d:=by obtain⟨p,g1,g2,g3,g4,g5⟩:=h.ex;exact⟨p,g1,g2,g3,YM g4 h2,YM g5 h1⟩
theorem Show.dRepr{m k:Nat}{d:D}(h:Show m k d)(hd:(∃l,d=.lst l)\/∃l,d=.tup l)(hk:k<=60)(hm:m<=16777216):∃z,L2.dRepr [d]=some (.str z):=by
 obtain⟨p,g1,g2,g3,g4,g5⟩:=h.ex;have key:(jah d).bind (fun pd=>if pd.showable=true/\pd.hasDict=false/\pd.depth<=60/\pd.shown.length<=sizeLine then some pd.shown else none)=some p.shown:=by rw[g1,Yc,Ys ⟨g2,g3,by omega,by rw[PySem.sizeLine_eq];omega⟩]
 refine⟨p.shown,?_⟩;rcases hd with⟨l,rfl⟩ | ⟨l,rfl⟩
 . show((jah (.lst l)).bind _).map D.str=_;rw[key];rfl
 . show((jah (.tup l)).bind _).map D.str=_;rw[key];rfl
theorem Show.int{i:Int}(h:i.natAbs<10 ^ 40):Show 41 0 (.int i):=by
 refine⟨.int i,rfl,?_,rfl,Yw _,?_⟩
 . show decide (i.natAbs.log2<1920)=true;refine YW ?_;by_cases h0:i.natAbs=0
   . rw[h0];decide
   . exact Ye ((Nat.log2_lt h0).mpr (Ye h (show 10 ^ 40<=2 ^ 140 by decide))) (by decide)
 . show(Str.ofString (toString i)).length<=41;cases i with
   | ofNat m=>exact YM (toString_length_le (k:=40) (Int.natCast_nonneg m) (by decide) (by show(m:Int)<10 ^ 40;have:m<10 ^ 40:=h;omega)) (by decide)
   | negSucc m=>have hm:m+1<10 ^ 40:=h;have:=toString_length_le (v:=((m+1:Nat):Int)) (k:=40) (by omega) (by decide) (by omega);rw[ofString_len]at this ⊢;have e1:toString (Int.negSucc m) = "-"++Nat.repr (m+1):=rfl;have e2:toString ((m+1:Nat):Int)=Nat.repr (m+1):=rfl;rw[e2]at this;rw[e1,String.length_append];have : "-".length=1:=rfl;omega
structure ItemT(y:D):Prop where
 ns:Z8 y
 sh:Show 60 1 y
theorem ItemT.int{i:Int}(h:i.natAbs<10 ^ 40):ItemT (.int i):=⟨trivial,(Show.int h).le (by decide) (by decide)⟩
theorem Show.non:Show 5 0 .non:=⟨.none,rfl,rfl,rfl,Yw _,by show("None":Str).length ≤ 5;decide +kernel⟩
theorem Show.bl(b:Bool):Show 5 0 (.bl b):=⟨.bool b,rfl,rfl,rfl,Yw _,by cases b <;> (show(Str.ofString _).length<=5;decide +kernel)⟩
theorem Show.str{x:Str}{m:Nat}(h:(reprText x).length<=m):Show m 0 (.str x):=⟨.str x,rfl,rfl,rfl,Yw _,h⟩
structure RowT(x:D):Prop where
 rn:RowN x
 sh:Show 1100 2 x
structure RW(ds:List D):Prop where
 len:ds.length<=17
 it:∀y∈ds,ItemT y
theorem RW.set{ds:List D}(h:RW ds){d:D}(hd:ItemT d)(j:Nat):RW (ds.set j d):=⟨by rw[yN];exact h.len,fun y hy=>by
 rcases yt hy with hy | rfl
 . exact h.it y hy
 . exact hd⟩
theorem RW.row{ds:List D}(h:RW ds):RowT (.lst ds):=⟨⟨trivial,fun r e y hy=>by cases e;exact(h.it y hy).ns⟩,(Show.lst h.len fun y hy=>(h.it y hy).sh).le (by decide) (by decide)⟩
theorem RW.tupT{ds:List D}(h:RW ds):RowT (.tup ds):=⟨⟨trivial,fun r e=>by cases e⟩,(Show.tup h.len fun y hy=>(h.it y hy).sh).le (by decide) (by decide)⟩
structure PlanT(l:List D):Prop where
 len:l.length<=9
 it:∀x∈l,RowT x
theorem PlanT.of{dss:List (List D)}(h1:dss.length<=8)(h2:∀ds∈dss,RW ds):PlanT (dss.map .lst):=⟨by rw[QC];omega,fun x hx=>by obtain⟨ds,hd,rfl⟩:=yk.mp hx;exact(h2 ds hd).row⟩
theorem PlanT.set{l:List D}(h:PlanT l){x:D}(hx:RowT x)(j:Nat):PlanT (l.set j x):=⟨by rw[yN];exact h.len,fun y hy=>by
 rcases yt hy with hy | rfl
 . exact h.it y hy
 . exact hx⟩
section
variable{C:Res->Prop}{dss:List (List D)}{ds:List D}{w k:Int}{s c x y:Slot}{l:List D}{j:Int}{B F':FS}{G:ee->Option Bool}
theorem jbI(h0:0<=k)(h:dss[k.toNat]?=some ds):alR 0 2 [.oo dss,.sh (.int w),.sh (.int k),s,c,x,y]=some (dss,k.toNat,ds):=by show(if 0<=k then(dss[k.toNat]?).map fun ds=>(dss,k.toNat,ds)else none)=_;rw[Ys h0,h];rfl
theorem Jf(h0:0<=k)(h:dss[k.toNat]?=some ds):JP 0 5 2 [.oo dss,.sh (.int w),.sh (.int k),s,c,x,y]=[.un,.sh (.int w),.sh (.int k),s,c,.ow ds,y]:=by unfold JP;rw[jbI h0 h];rfl
theorem jc8{fc:ee->Option Bool}{ρ:ee}(h:fc (JP 0 5 2 ρ)=some false)(kk:C (F' ρ)):C (jn (j8 0 5 2 fc B) F' ρ):=by unfold jn j8;rw[h];exact kk
theorem jie{fc:ee->Option Bool}{ρ ρ':ee}(h:fc (JP 0 5 2 ρ)=some true)(hB:B ρ=.next ρ')(kk:C (F' ρ')):C (jn (j8 0 5 2 fc B) F' ρ):=by unfold jn j8;rw[h];show C (match B ρ with | .next ρ'=>F' ρ' | r=>r);rw[hB];exact kk
theorem jx(h0:0<=k)(h:dss[k.toNat]?=some ds)(hw:w≠j)(kk:C (F' [.oo dss,.sh (.int w),.sh (.int k),s,c,x,y])):C (jn (j8 0 5 2 (jZ (jg zb (ja 1) (eC (.int j)))) B) F' [.oo dss,.sh (.int w),.sh (.int k),s,c,x,y]):=jc8 (by rw[Jf h0 h];exact jG (jo rfl rfl (Qz hw))) kk
theorem QN(h0:0<=k)(h:dss[k.toNat]?=some ds)(hw:w≠j)(kk:C (F' [.oo dss,.sh (.int w),.sh (.int k),s,c,x,y])):C (jn (j8 0 5 2 (zZ (jZ (jg zb (ja 1) (eC (.int j)))) G) B) F' [.oo dss,.sh (.int w),.sh (.int k),s,c,x,y]):=jc8 (by rw[Jf h0 h];unfold zZ;rw[jG (jo rfl rfl (Qz hw))]) kk
theorem jff(hw:w≠j)(kk:C (F' [.ow l,.sh (.int w),.sh (.int k),s,c,x,y])):C (jn (j8 0 5 2 (jZ (jg zb (ja 1) (eC (.int j)))) B) F' [.ow l,.sh (.int w),.sh (.int k),s,c,x,y]):=jc8 (show jZ (jg zb (ja 1) (eC (.int j))) [.ow l,.sh (.int w),.sh (.int k),s,c,x,y]=some false from jG (jo rfl rfl (Qz hw))) kk
theorem jb5(hw:w≠j)(kk:C (F' [.ow l,.sh (.int w),.sh (.int k),s,c,x,y])):C (jn (j8 0 5 2 (zZ (jZ (jg zb (ja 1) (eC (.int j)))) G) B) F' [.ow l,.sh (.int w),.sh (.int k),s,c,x,y]):=jc8 (show zZ (jZ (jg zb (ja 1) (eC (.int j)))) G [.ow l,.sh (.int w),.sh (.int k),s,c,x,y]=some false from by unfold zZ;rw[jG (jo rfl rfl (Qz hw))]) kk
theorem Qy{ρ':ee}(h0:0<=k)(h:dss[k.toNat]?=some ds)(hw:w=j)(hB:B [.oo dss,.sh (.int w),.sh (.int k),s,c,x,y]=.next ρ')(kk:C (F' ρ')):C (jn (j8 0 5 2 (jZ (jg zb (ja 1) (eC (.int j)))) B) F' [.oo dss,.sh (.int w),.sh (.int k),s,c,x,y]):=jie (by rw[Jf h0 h];exact jG (jo rfl rfl (jd8 hw))) hB kk
theorem jaI{fk fa:ee->Option D}{d:D}{m:Int}{i:Nat}(h0:0<=k)(h:dss[k.toNat]?=some ds)(ha:fa [.un,.sh (.int w),.sh (.int k),s,c,.ow ds,y]=some d)(hk:fk [.un,.sh (.int w),.sh (.int k),s,c,.ow ds,y]=some (.int m))(hi:QX ds.length m=some i):
 zC (zv 0 5 2 fk fa) [.oo dss,.sh (.int w),.sh (.int k),s,c,x,y]=.next [.oo (dss.set k.toNat (ds.set i d)),.sh (.int w),.sh (.int k),s,c,x,y]:=by
 unfold zC zv;rw[jbI h0 h,Jf h0 h,Yc,ha,Yc,hk,Yc];show(match (QX ds.length m).map _ with | some ρ'=>Res.next ρ' | none=>.fail)=_;rw[hi];rfl
theorem h_O{F:FS}{l':List D}{x':Slot}(h0:0<=k)(h:dss[k.toNat]?=some ds)(hF:F [.ow (dss.map .lst),.sh (.int w),.sh (.int k),s,c,.sh (.lst ds),y]=.next [.ow l',.sh (.int w),.sh (.int k),s,c,x',y]):
 sHA 0 5 2 F [.oo dss,.sh (.int w),.sh (.int k),s,c,x,y]=.next [.ow l',.sh (.int w),.sh (.int k),s,c,x',y]:=by
 have e:hA 0 5 2 [.oo dss,.sh (.int w),.sh (.int k),s,c,x,y]=[.ow (dss.map .lst),.sh (.int w),.sh (.int k),s,c,.sh (.lst ds),y]:=by unfold hA;rw[jbI h0 h];rfl
 unfold sHA;rw[e,hF];rfl
end
theorem jgF{ρ:ee}{i:Nat}{fk fa:ee->Option D}{ds:List D}{d:D}{k:Int}{j:Nat}(h1:ρ[i]?=some (.ow ds))(h2:fa ρ=some d)(h3:fk ρ=some (.int k))(h4:QX ds.length k=some j):Jz i fk fa ρ=.next (ρ.set i (.ow (ds.set j d))):=by unfold Jz;rw[h1,h2,h3];dsimp only;rw[h4]
theorem jbZ{n:Nat}{i:Int}(h0:0<=i)(h1:i<n):QX n i=some i.toNat:=by unfold QX;rw[Ys h0,Ys h1]
theorem jj{α:Type}{l:List α}{k:Nat}{a b:α}(h:l[k]?=some a):(l.set k b)[k]?=some b:=YG (Yg.mp h).1
theorem jfB{dss:List (List D)}(hl:dss.length<=8)(hr:∀ds∈dss,RW ds){w k s c:Int}(k0:0<=k)(k1:k<dss.length)(hw:0<=w/\w<14){r:List Int}(er:dss[k.toNat]?=some (r.map D.int))(hrn:∀x∈r,x.natAbs<10 ^ 39)(hr1:0<r.length)(hr2:r.length<=16)(s0:0<=s)(s1:s<r.length):
 ∃l,PlanT l/\qy dss [.int w,.int k,.int s,.int c]=some (.lst l):=by
 suffices main:∀C:Res->Prop,(∀l,PlanT l->C (.ret (.lst l)))->C ((jn (j8 0 5 2 (jZ (jg zb (ja 1) (eC (.int 1))))
  (zC (zv 0 5 2 (jB 3) (jg qj (jg jI (ja 5) (ja 3)) (eC (.int 1))))))
  (jn (j8 0 5 2 (jZ (jg zb (ja 1) (eC (.int 2))))
  (zC (zv 0 5 2 (jB 3) (jg qP (jg jI (ja 5) (ja 3)) (eC (.int 1))))))
  (jn (j8 0 5 2 (jZ (jg zb (ja 1) (eC (.int 3))))
  (jn (zC (zv 0 5 2 (jB 3) (jg qP (jg jI (ja 5) (ja 3)) (eC (.int 1)))))
  (zC (zv 0 5 2 (jg jF (ja 4) (jf jN (jb (ja 5) ji))) (jg qj (jg jI (ja 5) (jg jF (ja 4) (jf jN (jb (ja 5) ji)))) (eC (.int 1)))))))
  (jn (j8 0 5 2 (jZ (jg zb (ja 1) (eC (.int 4))))
  (zC (zv 0 5 2 (jB 3) (jg jI (jM (qt (jb (eC (.bl true)) (jb (eC .non) (jb (eC (.str "0")) (jb (eC (.bl false)) (jb (ZM (jb (eC (.int 0)) ji)) (jb (jg qP (ja4 (eC (.int 1))) (jg jF (ja 4) (jg Jt (eC (.int 10)) (eC (.int 9))))) ji)))))))) (jg jF (ja 4) (eC (.int 6)))))))
  (jn (j8 0 5 2 (jZ (jg zb (ja 1) (eC (.int 5))))
  (zC (jcY 0 5 2 (eC (.int 0)))))
  (jn (j8 0 5 2 (jZ (jg zb (ja 1) (eC (.int 6))))
  (zC (jc6 0 5 2)))
  (jn (j8 0 5 2 (jZ (jg zb (ja 1) (eC (.int 7))))
  (sHA 0 5 2 (Jz 0 (jB 2) (jf QH (jb (ja 5) ji)))))
  (jn (j8 0 5 2 (jZ (jg zb (ja 1) (eC (.int 8))))
  (sHA 0 5 2 (JU 0 (jM (jf Q3 (jb (ja 5) ji))))))
  (jn (j8 0 5 2 (jZ (jg zb (ja 1) (eC (.int 9))))
  (sHA 0 5 2 (zC (J4 0 (jB 2)))))
  (jn (j8 0 5 2 (jZ (jg zb (ja 1) (eC (.int 10))))
  (sHA 0 5 2 (Jz 0 (jB 2) (jg jI (jM (qt (jb (eC .non) (jb (eC (.bl true)) (jb (eC (.str "row")) (jb (eC (.int 0)) ji)))))) (jg jF (ja 4) (eC (.int 4)))))))
  (jn (j8 0 5 2 (zZ (jZ (jg zb (ja 1) (eC (.int 11)))) (jZ (jg dGt (jf jN (jb (ja 5) ji)) (eC (.int 1)))))
  (jn (jaP 0 5 2 6 (jg jI (ja 5) (jg jF (ja 4) (jf jN (jb (ja 5) ji)))))
  (jn (zC (zv 0 5 2 (jg jF (ja 4) (jf jN (jb (ja 5) ji))) (jg jI (ja 5) (ja 3))))
  (zC (zv 0 5 2 (jB 3) (jB 6))))))
  (jcZ 0))))))))))))
  [.oo dss,.sh (.int w),.sh (.int k),.sh (.int s),.sh (.int c),.un,.un]) by
  have e:zA [.oo dss,.sh (.int w),.sh (.int k),.sh (.int s),.sh (.int c),.un,.un]=(match ((jn (j8 0 5 2 (jZ (jg zb (ja 1) (eC (.int 1))))
   (zC (zv 0 5 2 (jB 3) (jg qj (jg jI (ja 5) (ja 3)) (eC (.int 1))))))
   (jn (j8 0 5 2 (jZ (jg zb (ja 1) (eC (.int 2))))
   (zC (zv 0 5 2 (jB 3) (jg qP (jg jI (ja 5) (ja 3)) (eC (.int 1))))))
   (jn (j8 0 5 2 (jZ (jg zb (ja 1) (eC (.int 3))))
   (jn (zC (zv 0 5 2 (jB 3) (jg qP (jg jI (ja 5) (ja 3)) (eC (.int 1)))))
   (zC (zv 0 5 2 (jg jF (ja 4) (jf jN (jb (ja 5) ji))) (jg qj (jg jI (ja 5) (jg jF (ja 4) (jf jN (jb (ja 5) ji)))) (eC (.int 1)))))))
   (jn (j8 0 5 2 (jZ (jg zb (ja 1) (eC (.int 4))))
   (zC (zv 0 5 2 (jB 3) (jg jI (jM (qt (jb (eC (.bl true)) (jb (eC .non) (jb (eC (.str "0")) (jb (eC (.bl false)) (jb (ZM (jb (eC (.int 0)) ji)) (jb (jg qP (ja4 (eC (.int 1))) (jg jF (ja 4) (jg Jt (eC (.int 10)) (eC (.int 9))))) ji)))))))) (jg jF (ja 4) (eC (.int 6)))))))
   (jn (j8 0 5 2 (jZ (jg zb (ja 1) (eC (.int 5))))
   (zC (jcY 0 5 2 (eC (.int 0)))))
   (jn (j8 0 5 2 (jZ (jg zb (ja 1) (eC (.int 6))))
   (zC (jc6 0 5 2)))
   (jn (j8 0 5 2 (jZ (jg zb (ja 1) (eC (.int 7))))
   (sHA 0 5 2 (Jz 0 (jB 2) (jf QH (jb (ja 5) ji)))))
   (jn (j8 0 5 2 (jZ (jg zb (ja 1) (eC (.int 8))))
   (sHA 0 5 2 (JU 0 (jM (jf Q3 (jb (ja 5) ji))))))
   (jn (j8 0 5 2 (jZ (jg zb (ja 1) (eC (.int 9))))
   (sHA 0 5 2 (zC (J4 0 (jB 2)))))
   (jn (j8 0 5 2 (jZ (jg zb (ja 1) (eC (.int 10))))
   (sHA 0 5 2 (Jz 0 (jB 2) (jg jI (jM (qt (jb (eC .non) (jb (eC (.bl true)) (jb (eC (.str "row")) (jb (eC (.int 0)) ji)))))) (jg jF (ja 4) (eC (.int 4)))))))
   (jn (j8 0 5 2 (zZ (jZ (jg zb (ja 1) (eC (.int 11)))) (jZ (jg dGt (jf jN (jb (ja 5) ji)) (eC (.int 1)))))
   (jn (jaP 0 5 2 6 (jg jI (ja 5) (jg jF (ja 4) (jf jN (jb (ja 5) ji)))))
   (jn (zC (zv 0 5 2 (jg jF (ja 4) (jf jN (jb (ja 5) ji))) (jg jI (ja 5) (ja 3))))
   (zC (zv 0 5 2 (jB 3) (jB 6))))))
   (jcZ 0))))))))))))
   [.oo dss,.sh (.int w),.sh (.int k),.sh (.int s),.sh (.int c),.un,.un])with | .ret d=>.ret d | _=>.fail):=by
   unfold zA jbc;rw[Ys ⟨by show 5<7;decide,by rw[jbI k0 er];rfl⟩];rfl
  obtain⟨l,h1,h2⟩:=main (fun r=>∃l,PlanT l/\r=.ret (.lst l)) fun l h=>⟨l,h,rfl⟩;refine⟨l,h1,?_⟩;unfold qy jef;rw[Ys (show[D.int w,.int k,.int s,.int c].length+1=5 from rfl)];show(match zA [.oo dss,.sh (.int w),.sh (.int k),.sh (.int s),.sh (.int c),.un,.un]with | .ret d=>some d | _=>none)=_;rw[e,h2]
 intro C fin;have hds:RW (r.map D.int):=hr _ (Yq er);obtain⟨xs,gx⟩:∃xs,r[s.toNat]?=some xs:=⟨_,Ya (by omega)⟩;have nx:=hrn xs (Yq gx);have ex:jI (.lst (r.map D.int)) (.int s)=some (.int xs):=JO s0 gx;have hix:QX (r.map D.int).length s=some s.toNat:=jbZ s0 (by rw[QC];omega);have setR:∀{ds:List D},RW ds->∀ds'∈dss.set k.toNat ds,RW ds':=fun h ds' hd=>by
  rcases yt hd with hd | rfl
  . exact hr _ hd
  . exact h
 have finO:∀{ds:List D} {a b:Slot},RW ds->C (jcZ 0 [.oo (dss.set k.toNat ds),.sh (.int w),.sh (.int k),.sh (.int s),.sh (.int c),a,b]):=fun h=>fin _ (PlanT.of (by rw[yN];exact hl) (setR h));have finW:∀{l:List D} {a b:Slot},PlanT l->C (jcZ 0 [.ow l,.sh (.int w),.sh (.int k),.sh (.int s),.sh (.int c),a,b]):=fun h=>fin _ h;have p0:PlanT (dss.map .lst):=PlanT.of hl hr;have cm:=j6 c (show(0:Int)<r.length by omega);obtain⟨xc,gc⟩:∃xc,r[(c%r.length).toNat]?=some xc:=⟨_,Ya (by omega)⟩;have nc:=hrn xc (Yq gc);by_cases hw1:w=1
 . subst hw1;refine Qy k0 er rfl (jaI k0 er (jo (jo rfl rfl ex) rfl jO) rfl hix) ?_;refine jx k0 (jj er) (by decide) ?_;refine jx k0 (jj er) (by decide) ?_;refine jx k0 (jj er) (by decide) ?_;refine jx k0 (jj er) (by decide) ?_;refine jx k0 (jj er) (by decide) ?_;refine jx k0 (jj er) (by decide) ?_;refine jx k0 (jj er) (by decide) ?_;refine jx k0 (jj er) (by decide) ?_;refine jx k0 (jj er) (by decide) ?_;refine QN k0 (jj er) (by decide) ?_;exact finO (hds.set (.int (by omega)) _)
 by_cases hw2:w=2
 . subst hw2;refine jx k0 er (by decide) ?_;refine Qy k0 er rfl (jaI k0 er (jo (jo rfl rfl ex) rfl qd) rfl hix) ?_;refine jx k0 (jj er) (by decide) ?_;refine jx k0 (jj er) (by decide) ?_;refine jx k0 (jj er) (by decide) ?_;refine jx k0 (jj er) (by decide) ?_;refine jx k0 (jj er) (by decide) ?_;refine jx k0 (jj er) (by decide) ?_;refine jx k0 (jj er) (by decide) ?_;refine jx k0 (jj er) (by decide) ?_;refine QN k0 (jj er) (by decide) ?_;exact finO (hds.set (.int (by omega)) _)
 by_cases hw3:w=3
 . subst hw3;refine jx k0 er (by decide) ?_;refine jx k0 er (by decide) ?_;have e3:(r.map D.int).set s.toNat (.int (xs-1))=(r.set s.toNat (xs-1)).map D.int:=by rw[List.map_set]
   obtain⟨y,gy⟩:∃y,(r.set s.toNat (xs-1))[(c%r.length).toNat]?=some y:=⟨_,Ya (by rw[yN];omega)⟩;have ny:y.natAbs<10 ^ 39+2:=by
    rcases yt (Yq gy)with h | rfl
    . have:=hrn y h;omega
    . omega
   have hl3:((r.set s.toNat (xs-1)).map D.int).length=r.length:=by rw[QC,yN]
   have em:∀{a b:Slot},jg jF (ja 4) (jf jN (jb (ja 5) ji)) [.un,.sh (.int 3),.sh (.int k),.sh (.int s),.sh (.int c),.ow ((r.set s.toNat (xs-1)).map D.int),b]=some (.int (c%r.length)):=fun{a b}=>jo rfl (jq rfl (by rw[zk,hl3])) (jC (by omega));refine Qy k0 er rfl (ρ':=[.oo ((dss.set k.toNat ((r.map D.int).set s.toNat (.int (xs-1)))).set k.toNat (((r.set s.toNat (xs-1)).map D.int).set (c%r.length).toNat (.int (y+1)))),.sh (.int 3),.sh (.int k),.sh (.int s),.sh (.int c),.un,.un]) ?_ ?_
   . refine(ze (jaI k0 er (jo (jo rfl rfl ex) rfl qd) rfl hix)).trans ?_;exact jaI k0 ((jj er).trans (by rw[e3])) (jo (jo rfl (em (a:=.un)) (JO cm.1 gy)) rfl jO) (em (a:=.un)) (jbZ cm.1 (by rw[hl3];omega))
   rw[List.set_set];refine jx k0 (jj er) (by decide) ?_;refine jx k0 (jj er) (by decide) ?_;refine jx k0 (jj er) (by decide) ?_;refine jx k0 (jj er) (by decide) ?_;refine jx k0 (jj er) (by decide) ?_;refine jx k0 (jj er) (by decide) ?_;refine jx k0 (jj er) (by decide) ?_;refine QN k0 (jj er) (by decide) ?_;exact finO (RW.set (by rw[<-e3];exact hds.set (.int (by omega)) _) (.int (by omega)) _)
 by_cases hw4:w=4
 . subst hw4;refine jx k0 er (by decide) ?_;refine jx k0 er (by decide) ?_;refine jx k0 er (by decide) ?_;obtain⟨d,hd,ed⟩:∃d,ItemT d ∧ jg jI (jM (qt (jb (eC (.bl true)) (jb (eC .non) (jb (eC (.str "0")) (jb (eC (.bl false)) (jb (ZM (jb (eC (.int 0)) ji)) (jb (jg qP (ja4 (eC (.int 1))) (jg jF (ja 4) (jg Jt (eC (.int 10)) (eC (.int 9))))) ji)))))))) (jg jF (ja 4) (eC (.int 6))) [.un,.sh (.int 4),.sh (.int k),.sh (.int s),.sh (.int c),.ow (r.map D.int),.un]=some d:=by
    have c9:=j6 c (show(0:Int)<1000000000 by decide);have c6:=j6 c (show(0:Int)<6 by decide);obtain⟨d,hd,e⟩:=jeJ (ds:=[.bl true,.non,.str "0",.bl false,.tup [.int 0],.int (-1-c%1000000000)]) (i:=c%6) c6.1 (by show c%6<6;exact c6.2);refine⟨d,?_,jo (qC (Qo (l:=[.bl true,.non,.str "0",.bl false,.tup [.int 0],.int (-1-c%1000000000)]) (js rfl (js rfl (js rfl (js rfl (js (jiP rfl (show 1<16777216 by decide)) (js (jo rfl (jo rfl (jo rfl rfl jeq) (jC (by decide))) qd) rfl)))))) (show 6<16777216 by decide))) (jo rfl rfl (jC (by decide))) e⟩;simp only[Yl,YR,Kb]at hd;rcases hd with rfl | rfl | rfl | rfl | rfl | rfl
    . exact⟨trivial,(Show.bl _).le (by decide) (by decide)⟩
    . exact⟨trivial,Show.non.le (by decide) (by decide)⟩
    . exact⟨trivial,(Show.str (m:=60) (by decide +kernel)).le (by decide) (by decide)⟩
    . exact⟨trivial,(Show.bl _).le (by decide) (by decide)⟩
    . exact⟨trivial,(Show.tup (n:=1) (Yw _) fun x hx=>by rw[YL.mp hx];exact Show.int (by decide)).le (by decide) (by decide)⟩
    . exact .int (by omega)
   refine Qy k0 er rfl (jaI k0 er ed rfl hix) ?_;refine jx k0 (jj er) (by decide) ?_;refine jx k0 (jj er) (by decide) ?_;refine jx k0 (jj er) (by decide) ?_;refine jx k0 (jj er) (by decide) ?_;refine jx k0 (jj er) (by decide) ?_;refine jx k0 (jj er) (by decide) ?_;refine QN k0 (jj er) (by decide) ?_;exact finO (hds.set hd _)
 by_cases hw5:w=5
 . subst hw5;refine jx k0 er (by decide) ?_;refine jx k0 er (by decide) ?_;refine jx k0 er (by decide) ?_;refine jx k0 er (by decide) ?_;refine Qy k0 er rfl (ρ':=[.oo (dss.set k.toNat (r.map D.int++[.int 0])),.sh (.int 5),.sh (.int k),.sh (.int s),.sh (.int c),.un,.un]) ?_ ?_
   . unfold zC jcY;rw[jbI k0 er,Jf k0 er];show(match (if zp (r.map D.int).length then some _ else none)with | some ρ'=>Res.next ρ' | none=>.fail)=_;rw[j5 (by rw[QC];omega)];rfl
   refine jx k0 (jj er) (by decide) ?_;refine jx k0 (jj er) (by decide) ?_;refine jx k0 (jj er) (by decide) ?_;refine jx k0 (jj er) (by decide) ?_;refine jx k0 (jj er) (by decide) ?_;refine QN k0 (jj er) (by decide) ?_;exact finO ⟨by rw[YS,QC];show r.length+1<=17;omega,fun y hy=>by
    rcases yj.mp hy with hy | hy
    . exact hds.it y hy
    . rw[YL.mp hy];exact .int (by decide)⟩
 by_cases hw6:w=6
 . subst hw6;refine jx k0 er (by decide) ?_;refine jx k0 er (by decide) ?_;refine jx k0 er (by decide) ?_;refine jx k0 er (by decide) ?_;refine jx k0 er (by decide) ?_;refine Qy k0 er rfl (ρ':=[.oo (dss.set k.toNat ((r.map D.int).take ((r.map D.int).length-1))),.sh (.int 6),.sh (.int k),.sh (.int s),.sh (.int c),.un,.un]) ?_ ?_
   . unfold zC jc6;rw[jbI k0 er];show(match (if (r.map D.int).length≠0 then some _ else none)with | some ρ'=>Res.next ρ' | none=>.fail)=_;rw[Ys (by rw[QC];omega)];rfl
   refine jx k0 (jj er) (by decide) ?_;refine jx k0 (jj er) (by decide) ?_;refine jx k0 (jj er) (by decide) ?_;refine jx k0 (jj er) (by decide) ?_;refine QN k0 (jj er) (by decide) ?_;exact finO ⟨YM (List.length_take_le' ..) hds.len,fun y hy=>hds.it y (List.mem_of_mem_take hy)⟩
 by_cases hw7:w=7
 . subst hw7;refine jx k0 er (by decide) ?_;refine jx k0 er (by decide) ?_;refine jx k0 er (by decide) ?_;refine jx k0 er (by decide) ?_;refine jx k0 er (by decide) ?_;refine jx k0 er (by decide) ?_;refine Qy k0 er rfl (h_O (x':=.sh (.lst (r.map D.int))) (l':=(dss.map .lst).set k.toNat (.tup (r.map D.int))) k0 er ?_) ?_
   . exact jgF (ds:=dss.map .lst) rfl (jq rfl rfl) rfl (jbZ k0 (by rw[QC];exact k1))
   refine jff (by decide) ?_;refine jff (by decide) ?_;refine jff (by decide) ?_;refine jb5 (by decide) ?_;exact finW (p0.set hds.tupT _)
 by_cases hw8:w=8
 . subst hw8;refine jx k0 er (by decide) ?_;refine jx k0 er (by decide) ?_;refine jx k0 er (by decide) ?_;refine jx k0 er (by decide) ?_;refine jx k0 er (by decide) ?_;refine jx k0 er (by decide) ?_;refine jx k0 er (by decide) ?_;refine Qy k0 er rfl (h_O (x':=.sh (.lst (r.map D.int))) (l':=dss.map .lst++[.lst (r.map D.int)]) k0 er ?_) ?_
   . exact jiQ (ds:=dss.map .lst) (d:=.lst (r.map D.int)) rfl (qC (jq (ds:=[.lst (r.map D.int)]) rfl rfl)) (by rw[QC];omega)
   refine jff (by decide) ?_;refine jff (by decide) ?_;refine jb5 (by decide) ?_;exact finW ⟨by rw[YS,QC];show dss.length+1<=9;omega,fun x hx=>by
    rcases yj.mp hx with hx | hx
    . exact p0.it x hx
    . rw[YL.mp hx];exact hds.row⟩
 by_cases hw9:w=9
 . subst hw9;refine jx k0 er (by decide) ?_;refine jx k0 er (by decide) ?_;refine jx k0 er (by decide) ?_;refine jx k0 er (by decide) ?_;refine jx k0 er (by decide) ?_;refine jx k0 er (by decide) ?_;refine jx k0 er (by decide) ?_;refine jx k0 er (by decide) ?_;refine Qy k0 er rfl (h_O (x':=.sh (.lst (r.map D.int))) (l':=(dss.map .lst).eraseIdx k.toNat) k0 er ?_) ?_
   . unfold zC J4;show(match (if 0<=k/\k<(dss.map D.lst).length/\(dss.map D.lst).length<=16777216 then some _ else none)with | some ρ'=>Res.next ρ' | none=>.fail)=_;rw[Ys ⟨k0,by rw[QC];exact k1,by rw[QC];omega⟩];rfl
   refine jff (by decide) ?_;refine jb5 (by decide) ?_;exact finW ⟨YM (List.length_eraseIdx_le ..) p0.len,fun x hx=>p0.it x (List.mem_of_mem_eraseIdx hx)⟩
 by_cases hw10:w=10
 . subst hw10;refine jx k0 er (by decide) ?_;refine jx k0 er (by decide) ?_;refine jx k0 er (by decide) ?_;refine jx k0 er (by decide) ?_;refine jx k0 er (by decide) ?_;refine jx k0 er (by decide) ?_;refine jx k0 er (by decide) ?_;refine jx k0 er (by decide) ?_;refine jx k0 er (by decide) ?_;obtain⟨d,hd,ed⟩:∃d,RowT d ∧ jg jI (jM (qt (jb (eC .non) (jb (eC (.bl true)) (jb (eC (.str "row")) (jb (eC (.int 0)) ji)))))) (jg jF (ja 4) (eC (.int 4))) [.ow (dss.map .lst),.sh (.int 10),.sh (.int k),.sh (.int s),.sh (.int c),.sh (.lst (r.map D.int)),.un]=some d:=by
    have c4:=j6 c (show(0:Int)<4 by decide);obtain⟨d,hd,e⟩:=jeJ (ds:=[.non,.bl true,.str "row",.int 0]) (i:=c%4) c4.1 (by show c%4<4;exact c4.2);refine⟨d,?_,jo (qC (Qo (l:=[.non,.bl true,.str "row",.int 0]) rfl (show 4<16777216 by decide))) (jo rfl rfl (jC (by decide))) e⟩;simp only[Yl,YR,Kb]at hd;rcases hd with rfl | rfl | rfl | rfl
    . exact⟨⟨trivial,fun r e=>by cases e⟩,Show.non.le (by decide) (by decide)⟩
    . exact⟨⟨trivial,fun r e=>by cases e⟩,(Show.bl _).le (by decide) (by decide)⟩
    . exact⟨⟨trivial,fun r e=>by cases e⟩,(Show.str (m:=60) (by decide +kernel)).le (by decide) (by decide)⟩
    . exact⟨⟨trivial,fun r e=>by cases e⟩,(Show.int (by decide)).le (by decide) (by decide)⟩
   refine Qy k0 er rfl (h_O (x':=.sh (.lst (r.map D.int))) (l':=(dss.map .lst).set k.toNat d) k0 er ?_) ?_
   . exact jgF (ds:=dss.map .lst) rfl ed rfl (jbZ k0 (by rw[QC];exact k1))
   refine jb5 (by decide) ?_;exact finW (p0.set hd _)
 by_cases hw11:w=11
 . subst hw11;refine jx k0 er (by decide) ?_;refine jx k0 er (by decide) ?_;refine jx k0 er (by decide) ?_;refine jx k0 er (by decide) ?_;refine jx k0 er (by decide) ?_;refine jx k0 er (by decide) ?_;refine jx k0 er (by decide) ?_;refine jx k0 er (by decide) ?_;refine jx k0 er (by decide) ?_;refine jx k0 er (by decide) ?_;have em:∀{ds:List D} {b:Slot},ds.length=r.length->jg jF (ja 4) (jf jN (jb (ja 5) ji)) [.un,.sh (.int 11),.sh (.int k),.sh (.int s),.sh (.int c),.ow ds,b]=some (.int (c%r.length)):=fun{ds b} h=>jo rfl (jq rfl (by rw[zk,h])) (jC (by omega));by_cases hr11:1<r.length
   . have et:zZ (jZ (jg zb (ja 1) (eC (.int 11)))) (jZ (jg dGt (jf jN (jb (ja 5) ji)) (eC (.int 1)))) (JP 0 5 2 [.oo dss,.sh (.int 11),.sh (.int k),.sh (.int s),.sh (.int c),.un,.un])=some true:=by rw[Jf k0 er];exact jdn (b:=true) (c:=true) (jG (jo rfl rfl (jd8 rfl))) (jG (jo (jq rfl zk) rfl (dGt_ok.trans (by rw[QC,YW (by omega)]))))
     have e3:(r.map D.int).set (c%r.length).toNat (.int xs)=(r.set (c%r.length).toNat xs).map D.int:=by rw[List.map_set]
     refine jie et (ρ':=[.oo ((dss.set k.toNat ((r.map D.int).set (c%r.length).toNat (.int xs))).set k.toNat (((r.map D.int).set (c%r.length).toNat (.int xs)).set s.toNat (.int xc))),.sh (.int 11),.sh (.int k),.sh (.int s),.sh (.int c),.un,.sh (.int xc)]) ?_ ?_
     . refine(ze (ρ':=[.oo dss,.sh (.int 11),.sh (.int k),.sh (.int s),.sh (.int c),.un,.sh (.int xc)]) ?_).trans ?_
       . unfold jaP;rw[Jf k0 er,jo (ρ:=[.un,.sh (.int 11),.sh (.int k),.sh (.int s),.sh (.int c),.ow (r.map D.int),.un]) (fa:=ja 5) rfl (em (QC ..)) (JO cm.1 gc)];rfl
       . refine(ze (jaI k0 er (jo rfl rfl ex) (em (QC ..)) (jbZ cm.1 (by rw[QC];omega)))).trans ?_;exact jaI k0 (jj er) rfl rfl (jbZ s0 (by rw[yN,QC];omega))
     rw[List.set_set];exact finO ((hds.set (.int (by omega)) _).set (.int (by omega)) _)
   . refine jc8 ?_ (fin _ p0);rw[Jf k0 er];exact jdn (b:=true) (c:=false) (jG (jo rfl rfl (jd8 rfl))) (jG (jo (jq rfl zk) rfl (jiK (by rw[QC];omega))))
 have hne:∀j:Int,1<=j->j<=11->w≠j:=fun j h1 h2=>by omega
 refine jx k0 er (hne _ (by decide) (by decide)) ?_;refine jx k0 er (hne _ (by decide) (by decide)) ?_;refine jx k0 er (hne _ (by decide) (by decide)) ?_;refine jx k0 er (hne _ (by decide) (by decide)) ?_;refine jx k0 er (hne _ (by decide) (by decide)) ?_;refine jx k0 er (hne _ (by decide) (by decide)) ?_;refine jx k0 er (hne _ (by decide) (by decide)) ?_;refine jx k0 er (hne _ (by decide) (by decide)) ?_;refine jx k0 er (hne _ (by decide) (by decide)) ?_;refine jx k0 er (hne _ (by decide) (by decide)) ?_;refine QN k0 er (hne _ (by decide) (by decide)) ?_;exact fin _ p0
theorem jf8(ns:List Int)(lo hi:Option Int):∃cs:List Int,L2.jcC (ns.map D.int) lo hi=cs.map D.int/\cs.length<=ns.length:=by unfold L2.jcC;rw[<-List.map_drop,<- List.map_take];exact⟨_,rfl,by rw[Kx,List.length_drop];omega⟩
theorem jms{cs:List Int}(h:cs.length<1000):jbo (.lst (cs.map D.int)) (.lst [.int 0])=some ((cs++[0]).map D.int):=by unfold jbo;rw[yv];exact Ys (yF (yH (j5 (by rw[QC];simp;omega))))
theorem jfc{fl:List Ship}{s:Ship}(hs:s∈fl)(ho:s.Ok):0<(jt fl).length:=by
 have hsum:=jbz (s:=⟨s.b,s.e,0,1⟩) (fl:=⟨s.b,s.e,0,1⟩::fl) (Yb ..);have h1:=ho.lt;have hb:s.b∈zG fl:=mem_bnds.mpr (by unfold hrs;exact yA _ (yJ (f:=Ship.b) hs));have he:s.e∈zG fl:=mem_bnds.mpr (by unfold hrs;exact YH _ (yJ (f:=Ship.e) hs));have hz:=jas (zG fl);unfold jt;rw[hz];cases hbn:zG fl with
 | nil=>rw[hbn]at hb;cases hb
 | cons x l=>
   cases l with
   | nil=>rw[hbn]at hb he;have:=YL.mp hb;have:=YL.mp he;omega
   | cons y l=>simp
theorem jlF{z:Str}:zb (.str z) (.str z)=some (.bl true):=by show some (D.bl (decide (V.str z=V.str z)))=_;rw[YW rfl]
structure TH(d:D):Prop where
 pn:PlanN d
 rp:∃z,L2.dRepr [d]=some (.str z)
theorem PlanT.n{l:List D}(h:PlanT l):PlanN (.lst l):=⟨trivial,fun l' e=>by cases e;exact⟨by have:=h.len;omega,fun x hx=>(h.it x hx).rn⟩⟩
theorem PlanT.th{l:List D}(h:PlanT l):TH (.lst l):=⟨h.n,(Show.lst h.len fun x hx=>(h.it x hx).sh).dRepr (.inl ⟨_,rfl⟩) (by decide) (by decide)⟩
theorem PlanT.tt{l:List D}(h:PlanT l):TH (.tup l):=⟨⟨trivial,fun l' e=>by cases e⟩,(Show.tup h.len fun x hx=>(h.it x hx).sh).dRepr (.inr ⟨_,rfl⟩) (by decide) (by decide)⟩
theorem jgO(ns:List Int)(hns:ns.length<=63):jin [.scr ns]=some (.bl true):=by
 obtain⟨fl,hfl,tJ,efl⟩:=jhZ ns 3 (by decide);obtain⟨cs,ecs,hcs⟩:=jf8 ns (some 12) (some 63);obtain⟨P,hP,epl⟩:=je9 fl hfl (by omega) (cs++[0]) (by simp) (by rw[YS];simp;omega);have epa:=jbi fl (by omega);have hPl:=hP.len;have hSl:(jt fl).length<=16:=by have:=Zu fl;have:=jas (zG fl);unfold jt;omega
 have ec0:=Zy ns 0 (by omega);have ec1:=Zy ns 1 (by omega);have ec2:=Zy ns 2 (by omega);have ecat:=jms (cs:=cs) (by omega);generalize cell ns 0=c0 at ec0;generalize cell ns 1=c1 at ec1;generalize cell ns 2=c2 at ec2;have w0:=j6 c0 (show(0:Int)<14 by decide)
 -- the rows
 have row:∀r∈P,r.length=(jt fl).length/\∀x∈r,x.natAbs<10 ^ 39:=fun r hr=>by
  obtain⟨i,hi⟩:=yu.mp hr;have hif:i<fl.length:=by have:=(Yg.mp hi).1;omega
  have gs:fl[i]?=some fl[i]:=Ya hif;generalize fl[i]=s at gs;have h:=hP.row i r s hi gs;have ho:=hfl s (Yq gs);refine⟨h.len,fun x hx=>?_⟩;obtain⟨j,hj⟩:=yu.mp hx;have hjl:j<(jt fl).length:=by have:=(Yg.mp hj).1;have:=h.len;omega
  obtain⟨b1,b2⟩:=h.bd j x _ hj (Ya hjl);have b3:=jgE ho (jt fl)[j];have b4:s.m*(s.e-s.b)<=1000000000000000*(s.e-s.b):=Int.mul_le_mul_of_nonneg_right ho.m1 (by have:=ho.lt;omega);have b5:=ho.long;omega
 have rws:∀ds∈P.map zm,RW ds:=fun ds hd=>by
  obtain⟨r,hr,rfl⟩:=yk.mp hd;obtain⟨h1,h2⟩:=row r hr;exact⟨by unfold zm;rw[QC];omega,fun y hy=>by obtain⟨x,hx,rfl⟩:=yk.mp hy;exact .int (Ye (h2 x hx) (by decide))⟩
 have pl:fl.map je≠[]->0<fl.length:=fun h=>by
  cases fl with
  | nil=>exact absurd rfl h
  | cons _ _=>simp
 have plF:plain 40 (.lst (fl.map je)):=fun d hd=>by obtain⟨s,_,rfl⟩:=yk.mp hd;intro x hx;simp only[Yl,YR,Kb]at hx;rcases hx with rfl | rfl | rfl | rfl <;> trivial
 have ans:∀d,TH d->∃c z,qF [.lst (fl.map je),.lst ((jt fl).map jl),d]=some (.bl c)/\qL [.lst (fl.map je),d]=some (.bl c)/\L2.dRepr [d]=some (.str z):=fun d h=>by
  obtain⟨z,hz⟩:=h.rp;have a:=jdE hfl (by omega) h.pn;have b:=jft hfl (by omega) h.pn;by_cases q:Qs fl d
  . exact⟨true,z,b.1 q,a.1 q,hz⟩
  . exact⟨false,z,b.2 q,a.2 q,hz⟩
 refine zg (m:=jeT) (ρ:=[.sh (.scr ns),.un,.un,.un,.un,.un,.un,.un,.un,.un,.un]) rfl rfl fun C fin=>?_;unfold jeT;refine jL [.sh (.scr ns),.sh (.lst (fl.map je)),.un,.un,.un,.un,.un,.un,.un,.un,.un] (jaw (jq rfl efl)) ?_;refine jL [.sh (.scr ns),.sh (.lst (fl.map je)),.sh (.lst ((jt fl).map jl)),.un,.un,.un,.un,.un,.un,.un,.un] (jaw (jq rfl epa)) ?_;refine jL [.sh (.scr ns),.sh (.lst (fl.map je)),.sh (.lst ((jt fl).map jl)),.oo (P.map zm),.un,.un,.un,.un,.un,.un,.un] ?_ ?_
 . unfold ZH;rw[jq (ρ:=[.sh (.scr ns),.sh (.lst (fl.map je)),.sh (.lst ((jt fl).map jl)),.un,.un,.un,.un,.un,.un,.un,.un]) (f:=Jc) (js rfl (js (qC (jo (qC (l:=cs.map D.int) (by show some (L2.jcC (ns.map D.int) (some 12) (some 63))=_;rw[ecs])) rfl ecat)) rfl)) epl];rfl
 refine jL [.sh (.scr ns),.sh (.lst (fl.map je)),.sh (.lst ((jt fl).map jl)),.oo (P.map zm),.sh (.int (c0%14)),.un,.un,.un,.un,.un,.un] (qm (jo (jq rfl ec0) rfl (jC (by decide)))) ?_;refine jL [.sh (.scr ns),.sh (.lst (fl.map je)),.sh (.lst ((jt fl).map jl)),.oo (P.map zm),.sh (.int (c0%14)),.sh (.int c2),.un,.un,.un,.un,.un] (qm (jq rfl ec2)) ?_
 -- the bent thing
 obtain⟨l,T,a6,hlT,hfz,eb⟩:∃(l:List D) (T a6:Slot),PlanT l/\L2.frz 3 [.sh (.scr ns),.sh (.lst (fl.map je)),.sh (.lst ((jt fl).map jl)),T,.sh (.int (c0%14)),.sh (.int c2),a6,.un,.un,.un,.un]=[.sh (.scr ns),.sh (.lst (fl.map je)),.sh (.lst ((jt fl).map jl)),.sh (.lst l),.sh (.int (c0%14)),.sh (.int c2),a6,.un,.un,.un,.un] /\
  JR (jZ (jg dNe (ja 1) (jM (qt ji))))
  (jn (jD 6 (jf jQ (jb (jB 0) (jb (eC (.int 1)) ji))))
  (zC (jaF 3 qy (jb (jB 4) (jb (jg jF (ja 6) (jf jN (jb (ja 1) ji))) (jb (jg jF (jg zx (ja 6) (eC (.int 7))) (jf jN (jb (ja 2) ji))) (jb (jB 5) ji))))))) j2
  [.sh (.scr ns),.sh (.lst (fl.map je)),.sh (.lst ((jt fl).map jl)),.oo (P.map zm),.sh (.int (c0%14)),.sh (.int c2),.un,.un,.un,.un,.un]=.next [.sh (.scr ns),.sh (.lst (fl.map je)),.sh (.lst ((jt fl).map jl)),T,.sh (.int (c0%14)),.sh (.int c2),a6,.un,.un,.un,.un]:=by
  by_cases hf:fl.map je=[]
  . have hfn:fl=[]:=by simpa using hf
    have hPn:P=[]:=Ko.mp (by rw[hPl,hfn];rfl);refine⟨[],.oo (P.map zm),.un,⟨by simp,fun x hx=>by cases hx⟩,by rw[hPn];rfl,zc (jG (jo rfl (qC (Qo rfl (show 0<16777216 by decide))) (dNe_nil.trans (by rw[hf];rfl))))⟩
  . have hf0:=pl hf;have sp:0<(jt fl).length:=jfc (Kd (n:=0) hf0) (hfl _ (Kd (n:=0) hf0));have k1:=j6 c1 (show(0:Int)<fl.length by omega);have k2:=j6 (c1/7) (show(0:Int)<(jt fl).length by omega);obtain⟨r,gr⟩:∃r,P[(c1%fl.length).toNat]?=some r:=⟨_,Ya (by omega)⟩;obtain⟨r1,r2⟩:=row r (Yq gr);obtain⟨l,hl,el⟩:=jfB (dss:=P.map zm) (by rw[QC];omega) rws (w:=c0%14) (k:=c1%fl.length) (s:=c1/7%(jt fl).length) (c:=c2) k1.1 (by rw[QC];omega) w0 (r:=r) (by rw[Yr,gr];rfl) r2 (by omega) (by omega) k2.1 (by omega);refine⟨l,.sh (.lst l),.sh (.int c1),hl,rfl,?_⟩;have e1:jg dNe (ja 1) (jM (qt ji)) [.sh (.scr ns),.sh (.lst (fl.map je)),.sh (.lst ((jt fl).map jl)),.oo (P.map zm),.sh (.int (c0%14)),.sh (.int c2),.un,.un,.un,.un,.un]=some (.bl true):=jo rfl (qC (Qo rfl (show 0<16777216 by decide))) (dNe_nil.trans (by
      cases hm:fl.map je with
      | nil=>exact absurd hm hf
      | cons _ _=>rfl))
    refine(zo (jG e1)).trans ((ze (ρ':=[.sh (.scr ns),.sh (.lst (fl.map je)),.sh (.lst ((jt fl).map jl)),.oo (P.map zm),.sh (.int (c0%14)),.sh (.int c2),.sh (.int c1),.un,.un,.un,.un]) (qm (jq rfl ec1))).trans ?_);have ea:jb (jB 4) (jb (jg jF (ja 6) (jf jN (jb (ja 1) ji))) (jb (jg jF (jg zx (ja 6) (eC (.int 7))) (jf jN (jb (ja 2) ji))) (jb (jB 5) ji))) [.sh (.scr ns),.sh (.lst (fl.map je)),.sh (.lst ((jt fl).map jl)),.oo (P.map zm),.sh (.int (c0%14)),.sh (.int c2),.sh (.int c1),.un,.un,.un,.un]=some [.int (c0%14),.int (c1%fl.length),.int (c1/7%(jt fl).length),.int c2]:=js rfl (js (jo rfl (jq rfl (by rw[zk,QC])) (jC (by omega))) (js (jo (jo rfl rfl (qu (by decide) (by decide))) (jq rfl (by rw[zk,QC])) (jC (by omega))) rfl))
    unfold zC jaF;show(match (jb _ _ _).bind (fun ds=>(qy (P.map zm) ds).map _)with | some ρ'=>Res.next ρ' | none=>.fail)=_;rw[ea];show(match (qy (P.map zm) _).map _ with | some ρ'=>Res.next ρ' | none=>.fail)=_;rw[el];rfl
 refine jL _ eb ?_;clear eb
 -- another thing
 obtain⟨d,T2,hd,hfz2,e12⟩:∃(d:D) (T2:Slot),TH d/\L2.frz 3 [.sh (.scr ns),.sh (.lst (fl.map je)),.sh (.lst ((jt fl).map jl)),T2,.sh (.int (c0%14)),.sh (.int c2),a6,.un,.un,.un,.un]=[.sh (.scr ns),.sh (.lst (fl.map je)),.sh (.lst ((jt fl).map jl)),.sh d,.sh (.int (c0%14)),.sh (.int c2),a6,.un,.un,.un,.un] /\
  JR (jZ (jg zb (ja 4) (eC (.int 12))))
  (QP 3 (jD 3 (jg jI (jM (qt (jb (jf QH (jb (ja 3) ji)) (jb (eC .non) (jb (eC (.bl true)) (jb (eC (.str "plan")) (jb (eC (.int 7)) (jb (jM (qt (jb (jM (qt ji)) ji))) ji)))))))) (jg jF (ja 5) (eC (.int 6)))))) j2
  [.sh (.scr ns),.sh (.lst (fl.map je)),.sh (.lst ((jt fl).map jl)),T,.sh (.int (c0%14)),.sh (.int c2),a6,.un,.un,.un,.un]=.next [.sh (.scr ns),.sh (.lst (fl.map je)),.sh (.lst ((jt fl).map jl)),T2,.sh (.int (c0%14)),.sh (.int c2),a6,.un,.un,.un,.un]:=by
  by_cases h12:c0%14=12
  . have c6:=j6 c2 (show(0:Int)<6 by decide);obtain⟨d,hd,e⟩:=jeJ (ds:=[.tup l,.non,.bl true,.str "plan",.int 7,.lst [.lst []]]) (i:=c2%6) c6.1 (by show c2%6<6;exact c6.2);refine⟨d,.sh d,?_,rfl,(zo (jG (jo rfl rfl (jd8 h12)))).trans ?_⟩
    . simp only[Yl,YR,Kb]at hd;rcases hd with rfl | rfl | rfl | rfl | rfl | rfl
      . exact hlT.tt
      . exact⟨⟨trivial,fun l' e=>by cases e⟩,_,rfl⟩
      . exact⟨⟨trivial,fun l' e=>by cases e⟩,_,rfl⟩
      . refine⟨⟨trivial,fun l' e=>by cases e⟩,reprText "plan",?_⟩;show(if (reprText "plan").length ≤ sizeLine then some (reprText "plan")else none).map D.str=_;rw[Ys (by rw[PySem.sizeLine_eq];decide +kernel)];rfl
      . refine⟨⟨trivial,fun l' e=>by cases e⟩,Str.ofString (toString (7:Int)),?_⟩;show(if (7:Int).natAbs.log2<1920 then some (Str.ofString (toString (7:Int)))else none).map D.str=_;rw[Ys (by decide)];rfl
      . exact PlanT.th ⟨by decide,fun x hx=>by rw[YL.mp hx];exact RW.row ⟨by decide,fun y hy=>by cases hy⟩⟩
    . unfold QP;rw[hfz];exact qm (jo (qC (Qo (l:=[.tup l,.non,.bl true,.str "plan",.int 7,.lst [.lst []]]) (js (jq rfl rfl) (js rfl (js rfl (js rfl (js rfl (js (qC (Qo (js (qC (Qo rfl (show 0<16777216 by decide))) rfl) (show 1<16777216 by decide))) rfl)))))) (show 6<16777216 by decide))) (jo rfl rfl (jC (by decide))) e)
  . exact⟨.lst l,T,hlT.th,hfz,zc (jG (jo rfl rfl (Qz h12)))⟩
 refine jL _ e12 ?_;clear e12 hfz;obtain⟨b,z,q1,q2,q3⟩:=ans d hd;refine jL [.sh (.scr ns),.sh (.lst (fl.map je)),.sh (.lst ((jt fl).map jl)),.sh d,.sh (.int (c0%14)),.sh (.int c2),a6,.sh (.bl b),.un,.un,.un] (by unfold QP;rw[hfz2];exact qm (jq rfl q1)) ?_;refine jL [.sh (.scr ns),.sh (.lst (fl.map je)),.sh (.lst ((jt fl).map jl)),.sh d,.sh (.int (c0%14)),.sh (.int c2),a6,.sh (.bl b),.sh (.lst (fl.map je)),.un,.un] (qm (qC (jq rfl rfl))) ?_;refine jL [.sh (.scr ns),.sh (.lst (fl.map je)),.sh (.lst ((jt fl).map jl)),.sh d,.sh (.int (c0%14)),.sh (.int c2),a6,.sh (.bl b),.sh (.lst (fl.map je)),.sh (.str z),.un] (by unfold QP;exact qm (jq rfl q3)) ?_;refine jL [.sh (.scr ns),.sh (.lst (fl.map je)),.sh (.lst ((jt fl).map jl)),.sh d,.sh (.int (c0%14)),.sh (.int c2),a6,.sh (.bl b),.sh (.lst (fl.map je)),.sh (.str z),.sh (.bl b)] (by unfold QP;exact qm (jq rfl q2)) ?_;refine Za (ρ:=[.sh (.scr ns),.sh (.lst (fl.map je)),.sh (.lst ((jt fl).map jl)),.sh d,.sh (.int (c0%14)),.sh (.int c2),a6,.sh (.bl b),.sh (.lst (fl.map je)),.sh (.str z),.sh (.bl b)]) (by unfold QP;exact qQ (jdP rfl (jdP (jo rfl rfl (dEqB.trans (by rw[YW rfl]))) (jdP (jo rfl rfl (jgR plF)) (jo (jq rfl q3) rfl jlF))))) fin
end Q
section
namespace Q
open PySem PySem.Spec PyProof.Rows L2
def top(i:Nat):Stmt:=PySem.Challenge.pw_evenquay_k10_what_is_a_plan.main.body.getD i (.Pass ⟨0,0,0,0⟩)
abbrev qk:Stmt:=top 16
abbrev qY:Stmt:=top 18
abbrev qI:Stmt:=top 19
abbrev jR:Stmt:=top 20
abbrev qK:Stmt:=top 21
abbrev qZ:Stmt:=top 22
abbrev qM:Stmt:=top 17
abbrev qi:Stmt:=top 23
abbrev qR:Stmt:=top 8
abbrev qV:Stmt:=top 9
abbrev zt:Stmt:=top 7
abbrev Jm:Stmt:=top 10
abbrev ZE:Stmt:=top 11
abbrev qf:Stmt:=top 14
abbrev za:Stmt:=top 13
abbrev qX:Stmt:=top 24
abbrev jb0:Stmt:=top 25
theorem ar1{α:Type}{P:List α->Prop}(h:∀v0:α,P [v0]):∀us:List α,us.length=1->P us
 | [v0],_=>h v0
theorem ar2{α:Type}{P:List α->Prop}(h:∀v0 v1:α,P [v0,v1]):∀us:List α,us.length=2->P us
 | [v0,v1],_=>h v0 v1
theorem ar3{α:Type}{P:List α->Prop}(h:∀v0 v1 v2:α,P [v0,v1,v2]):∀us:List α,us.length=3->P us
 | [v0,v1,v2],_=>h v0 v1 v2
theorem ar5{α:Type}{P:List α->Prop}(h:∀v0 v1 v2 v3 v4:α,P [v0,v1,v2,v3,v4]):∀us:List α,us.length=5->P us
 | [v0,v1,v2,v3,v4],_=>h v0 v1 v2 v3 v4
set_option genSizeOf false
set_option genInjectivity false
structure Adr where
 tR:Addr
 tU:FuncData
 um:Addr
 uq:FuncData
 uc:Addr
 tX:FuncData
 t8:Addr
 ua:FuncData
 tW:Addr
 ub:FuncData
 uk:Addr
 ui:FuncData
 t9:Addr
 tZ:FuncData
 tT:Addr
 tQ:FuncData
 uI:Addr
 uH:FuncData
 ur:Addr
 uh:FuncData
 uz:Addr
 uC:FuncData
 uM:Addr
 uL:FuncData
 uZ:Addr
 uS:FuncData
 uv:Addr
 ux:FuncData
 uF:Addr
 uE:FuncData
 uf:Addr
 uu:FuncData
 uW:Addr
 uX:FuncData
 t_END:Tok
 t_BEGIN:Tok
 t_TO:Tok
 t_FROM:Tok
 t_MOST:Tok
 t_NEED:Tok
structure Txt(K:PySem.W.Frag)(mg:Str->Option Value)(A:Adr):Prop where
 tF:FX K mg "_law_cell_at" qk A.tR A.tU ["script","k"]
 ue:FX K mg "_law_ship" qY A.um A.uq ["one","two","kind"]
 t7:FX K mg "_law_fleet" qI A.uc A.tX ["script","start"]
 tP:FX K mg "_law_parts" jR A.t8 A.ua ["fleet"]
 tN:FX K mg "_law_rooms" qK A.tW A.ub ["ship","parts"]
 ug:FX K mg "_law_plan" qZ A.uk A.ui ["fleet","cells"]
 tY:FX K mg "_law_whole" qM A.t9 A.tZ ["found"]
 tS:FX K mg "_law_is_plan" qi A.tT A.tQ ["fleet","parts","found"]
 uK:FX K mg "bounds" qR A.uI A.uH ["fleet"]
 uj:FX K mg "stretches" qV A.ur A.uh ["fleet"]
 uw:FX K mg "is_whole" zt A.uz A.uC ["thing"]
 uJ:FX K mg "length" Jm A.uM A.uL ["stretch"]
 u0:FX K mg "room" ZE A.uZ A.uS ["ship","stretch"]
 uA:FX K mg "is_share" qf A.uv A.ux ["ship","spans","thing"]
 uD:FX K mg "is_plan" za A.uF A.uE ["fleet","thing"]
 uo:FX K mg "_law_bent" qX A.uf A.uu ["plan","way","i","s","cell"]
 vc:FX K mg "law" jb0 A.uW A.uX ["script"]
 u5:mg "END"=some (.int 1 A.t_END)
 uR:mg "BEGIN"=some (.int 0 A.t_BEGIN)
 vb:mg "TO"=some (.int 1 A.t_TO)
 u3:mg "FROM"=some (.int 0 A.t_FROM)
 u7:mg "MOST"=some (.int 3 A.t_MOST)
 u6:mg "NEED"=some (.int 2 A.t_NEED)
 tm:mg "len"=none
 uU:mg "min"=none
 tM:mg "range"=none
 uO:mg "sorted"=none
 tE:mg "isinstance"=none
 uP:mg "bool"=none
 uT:mg "int"=none
 uN:mg "sum"=none
 tL:mg "list"=none
 u9:mg "set"=none
 uY:mg "zip"=none
 uB:mg "all"=none
 uQ:mg "tuple"=none
 uV:mg "repr"=none
theorem jab:FnScope ["script","k"] ["script","k"] (jh qk):=⟨rfl,rfl,rfl,by decide +kernel,rfl,by decide +kernel,by decide +kernel⟩
theorem tD:FnScope ["one","two","kind","begin","end","most","mixed","full","need"] ["one","two","kind"] (jh qY):=⟨rfl,rfl,rfl,by decide +kernel,rfl,by decide +kernel,by decide +kernel⟩
theorem tH:FnScope ["script","start","cell","fleet","k","one"] ["script","start"] (jh qI):=⟨rfl,rfl,rfl,by decide +kernel,rfl,by decide +kernel,by decide +kernel⟩
theorem tV:FnScope ["fleet","hours"] ["fleet"] (jh jR):=⟨rfl,rfl,rfl,by decide +kernel,rfl,by decide +kernel,by decide +kernel⟩
theorem tK:FnScope ["ship","parts","found","begin","end"] ["ship","parts"] (jh qK):=⟨rfl,rfl,rfl,by decide +kernel,rfl,by decide +kernel,by decide +kernel⟩
theorem tu:FnScope ["fleet","cells","parts","plan","i","most","left","row","s","cell","some","at","more"] ["fleet","cells"] (jh qZ):=⟨rfl,rfl,rfl,by decide +kernel,rfl,by decide +kernel,by decide +kernel⟩
theorem jbr:FnScope ["found"] ["found"] (jh qM):=⟨rfl,rfl,rfl,by decide +kernel,rfl,by decide +kernel,by decide +kernel⟩
theorem tG:FnScope ["fleet","parts","found","i","row","most","s"] ["fleet","parts","found"] (jh qi):=⟨rfl,rfl,rfl,by decide +kernel,rfl,by decide +kernel,by decide +kernel⟩
theorem ud:FnScope ["fleet","begins","ends"] ["fleet"] (jh qR):=⟨rfl,rfl,rfl,by decide +kernel,rfl,by decide +kernel,by decide +kernel⟩
theorem t6:FnScope ["fleet","rising"] ["fleet"] (jh qV):=⟨rfl,rfl,rfl,by decide +kernel,rfl,by decide +kernel,by decide +kernel⟩
theorem jdi:FnScope ["thing"] ["thing"] (jh zt):=⟨rfl,rfl,rfl,by decide +kernel,rfl,by decide +kernel,by decide +kernel⟩
theorem jfj:FnScope ["stretch"] ["stretch"] (jh Jm):=⟨rfl,rfl,rfl,by decide +kernel,rfl,by decide +kernel,by decide +kernel⟩
theorem jhI:FnScope ["ship","stretch"] ["ship","stretch"] (jh ZE):=⟨rfl,rfl,rfl,by decide +kernel,rfl,by decide +kernel,by decide +kernel⟩
theorem jdd:FnScope ["ship","spans","thing"] ["ship","spans","thing"] (jh qf):=⟨rfl,rfl,rfl,by decide +kernel,rfl,by decide +kernel,by decide +kernel⟩
theorem uy:FnScope ["fleet","thing","spans"] ["fleet","thing"] (jh za):=⟨rfl,rfl,rfl,by decide +kernel,rfl,by decide +kernel,by decide +kernel⟩
theorem tO:FnScope ["plan","way","i","s","cell","row","other"] ["plan","way","i","s","cell"] (jh qX):=⟨rfl,rfl,rfl,by decide +kernel,rfl,by decide +kernel,by decide +kernel⟩
theorem tI:FnScope ["script","fleet","parts","thing","way","cell","at","due","handed","kept","found"] ["script"] (jh jb0):=⟨rfl,rfl,rfl,by decide +kernel,rfl,by decide +kernel,by decide +kernel⟩
section
variable{P:Program}{w:World}{K:PySem.W.Frag}{mg:Str->Option Value}{base:Heap}{A:Adr}
theorem j9(T:Txt K mg A):FnOk P w K mg base JV 1 A.tR A.tU ["script","k"] (@spS ⟨K⟩ jQ):=
 Qt (m:=zX) T.tF.f jab rfl rfl fun cdv Ar outer s H E hr=>
  (jm (zF (j7 ji2 (jc 1) (ef (qA tm (fun _=>rfl) (fun _=>T.tm) YD (jr (jc 0) jy))))
   (jA (ql (jW (jc 0) (jc 1)))) qp)
   (jA (ql jk)))
theorem jcu(T:Txt K mg A):FnOk P w K mg base JV 1 A.um A.uq ["one","two","kind"] (@spS ⟨K⟩ qU):=
 Qt (m:=J2) T.ue.f tD rfl rfl fun cdv Ar outer s H E hr=>
  (jm (jJ (i:=3) (Jo (ef (j4 (jc 0) (ef jk))) (ef jk)) (fun _=>tD.nd) rfl (fun _=>Or.inl rfl) (fun _=>Or.inl rfl))
   (jm (jJ (i:=4) (qW (ef (qW (jc 3) (ef jk))) (ef (j4 (ef (J9 (jc 0) (ef jk))) (ef jk)))) (fun _=>tD.nd) rfl (fun _=>Or.inl rfl) (fun _=>Or.inl rfl))
   (jm (zF (j7 (Jx fun _=>hr.units) (jc 2) (ef jk))
   (jm (jJ (i:=3) (Jo (ef (j4 (jc 0) (ef jk))) (ef jk)) (fun _=>tD.nd) rfl (fun _=>Or.inl rfl) (fun _=>Or.inl rfl))
   (jA (jJ (i:=4) (qW (ef (qW (jc 3) (ef jk))) (ef (j4 (ef (J9 (jc 0) (ef jk))) (ef jk)))) (fun _=>tD.nd) rfl (fun _=>Or.inl rfl) (fun _=>Or.inl rfl)))) qp)
   (jm (zF (j7 (Jx fun _=>hr.units) (jc 2) (ef jk))
   (jm (jJ (i:=3) (Jp (ef (Jo (ef (j4 (ef (Jp (jc 0) (ef jk))) (ef jk))) (ef (jdf (ef jk) (ef jk))))) (ef (jdf (ef jk) (ef jk)))) (fun _=>tD.nd) rfl (fun _=>Or.inl rfl) (fun _=>Or.inl rfl))
   (jA (jJ (i:=4) (qW (ef (qW (jc 3) (ef jk))) (ef (Jp (ef (j4 (ef (Jp (jc 0) (ef jk))) (ef jk))) (ef (jdf (ef jk) (ef jk)))))) (fun _=>tD.nd) rfl (fun _=>Or.inl rfl) (fun _=>Or.inl rfl)))) qp)
   (jm (jJ (i:=5) (jW (ef (WO.toE (Jb (jd jk (jd jk (jd jk (jd jk (jd (jdf (ef jk) (ef jk)) (jd (qW (ef jk) (ef (j4 (ef (J9 (jc 1) (ef jk))) (ef jk)))) (jd jk (jd jk jE))))))))))) (ef (j4 (jc 1) (ef jk)))) (fun _=>tD.nd) rfl (fun _=>Or.inl rfl) (fun _=>Or.inl rfl))
   (jm (jJ (i:=6) (j4 (ef (Jp (jc 1) (ef jk))) (ef jk)) (fun _=>tD.nd) rfl (fun _=>Or.inl rfl) (fun _=>Or.inl rfl))
   (jm (jJ (i:=7) (Jp (jc 5) (ef (Jo (jc 4) (jc 3)))) (fun _=>tD.nd) rfl (fun _=>Or.inl rfl) (fun _=>Or.inl rfl))
   (jm (jJ (i:=8) (jW (ef (WO.toE (Jb (jd (J9 (ef (Jp (jc 7) (ef (j4 (jc 6) (ef jk))))) (ef jk)) (jd (j4 (jc 6) (ef (qW (jc 7) (ef jk)))) (jd (qA jg1 (fun _=>rfl) (fun _=>T.uU) boot_min (jr (jc 7) (jr (ef (j4 (jc 6) (ef jk))) jy))) (jd (jK 7) jE))))))) (ef (j4 (ef (J9 (jc 6) (ef jk))) (ef jk)))) (fun _=>tD.nd) rfl (fun _=>Or.inl rfl) (fun _=>Or.inl rfl))
   (jA (ql (jgH (jd (jK 3) (jd (jK 4) (jd (jK 8) (jd (jK 5) jE)))))))))))))))
theorem jbp(T:Txt K mg A):FnOk P w K mg base JV 2 A.uc A.tX ["script","start"] (@spO ⟨K⟩ zM):=
 jdA (m:=zH) T.t7.f tH rfl rfl fun cdv Ar outer s H E hr=>
  (jm (jJ (i:=2) (qv (fun _=>j9 T) (fun _=>hr.mono (by decide)) (fun _=>rfl) (fun _=>T.tF) (jd (jK 0) (jd (jK 1) jE))) (fun _=>tH.nd) rfl (fun _=>Or.inl rfl) (fun _=>Or.inl rfl))
   (jm (jca (i:=3) (Jb jE) (fun _=>tH.nd) rfl (fun _=>Or.inl rfl) (fun _=>Or.inl rfl))
   (jm (QO (JB (fun _=>rfl) (fun _=>T.tM) (jr (ef (jW (ef (WO.toE (Jb (jd jk (jd jk (jd jk (jd jk (jd jk (jd jk (jd jk (jd jk jE))))))))))) (ef (j4 (jc 2) (ef jk))))) jy)) (Je (i:=4) (fun _=>tH.nd) rfl (fun _=>Or.inl rfl) (fun _=>Or.inl rfl))
   (jm (jJ (i:=5) (qv (fun _=>j9 T) (fun _=>hr.mono (by decide)) (fun _=>rfl) (fun _=>T.tF) (jd (jK 0) (jd (qW (ef (qW (jc 1) (ef jk))) (ef (Jp (ef jk) (jc 4)))) jE))) (fun _=>tH.nd) rfl (fun _=>Or.inl rfl) (fun _=>Or.inl rfl))
   (jA (jaB (i:=3) rfl (fun _=>Or.inl rfl) (qv (fun _=>jcu T) (fun _=>hr.mono (by decide)) (fun _=>rfl) (fun _=>T.ue) (jd (jK 5) (jd (qv (fun _=>j9 T) (fun _=>hr.mono (by decide)) (fun _=>rfl) (fun _=>T.tF) (jd (jK 0) (jd (qW (ef (qW (jc 1) (ef jk))) (ef (Jp (ef jk) (jc 4)))) jE))) (jd (j4 (ef (J9 (jc 2) (ef jk))) (ef jk)) jE))))))))
   (jm (zF (WW.toC (jes (j7 jko (ef (qA tm (fun _=>rfl) (fun _=>T.tm) YD (jr (jc 3) jy))) (ef jk)) (jck (j7 (Jx fun _=>hr.units) (ef (j4 (ef (J9 (jc 2) (ef jk))) (ef jk))) (ef jk)))))
   (jA (jch (i:=3) rfl (fun _=>Or.inl rfl) (jim (ef jk)) (jW (jc 3) (ef jk)))) qp)
   (jA (jek 3))))))
theorem Qu(T:Txt K mg A):FnOk P w K mg base JV 1 A.t8 A.ua ["fleet"] (@spO ⟨K⟩ zK):=
 jdA (m:=zJ) T.tP.f tV rfl rfl fun cdv Ar outer s H E hr=>
  (jm (jJ (i:=1) (WO.toE (jkS jkt (fun _=>rfl) (fun _=>T.uO) boot_sorted (jr (ef (WO.toE (jfS (ef (WO.toE (jfD (sc:=jh jR) (Lc:=["ship"]) (Fn:=[]) (ix:=[]) (fun _=>rfl) (show LcOk (jh jR) ["fleet","hours"] _ [] []from by decide +kernel) (J6 (jc 0)) (Qh (i:=0) (fun _=>show List.Nodup (["ship"]:List Str)from by decide +kernel) rfl (by decide) (fun _=>Or.inl rfl) (fun _=>Or.inr rfl)) JH (jW (jc 0) (ef jk))))) (ef (WO.toE (jfD (sc:=jh jR) (Lc:=["ship"]) (Fn:=[]) (ix:=[]) (fun _=>rfl) (show LcOk (jh jR) ["fleet","hours"] _ [] []from by decide +kernel) (J6 (jc 0)) (Qh (i:=0) (fun _=>show List.Nodup (["ship"]:List Str)from by decide +kernel) rfl (by decide) (fun _=>Or.inl rfl) (fun _=>Or.inr rfl)) JH (jW (jc 0) (ef jk)))))))) jy))) (fun _=>tV.nd) rfl (fun _=>Or.inr rfl) (fun _=>Or.inl rfl))
   (jA (jcr (jfD (sc:=jh jR) (Lc:=["k"]) (Fn:=["hours"]) (ix:=[1]) (fun _=>rfl) (show LcOk (jh jR) ["fleet","hours"] _ ["hours"] [1]from by decide +kernel) (WI.toT (JB (fun _=>rfl) (fun _=>T.tM) (jr (ef (Jo (ef (qA tm (fun _=>rfl) (fun _=>T.tm) YD (jr (jc 1) jy))) (ef jk))) jy))) (Qh (i:=0) (fun _=>show List.Nodup (["k","hours"]:List Str)from by decide +kernel) rfl (by decide) (fun _=>Or.inl rfl) (fun _=>Or.inr rfl)) (jhE (j7 ji2 (ef (jW (jc 1) (jc 0))) (ef (jW (jc 1) (ef (qW (jc 0) (ef jk))))))) (jgH (jd (jW (jc 1) (jc 0)) (jd (jW (jc 1) (ef (qW (jc 0) (ef jk)))) jE)))))))
theorem Qn(T:Txt K mg A):FnOk P w K mg base JV 1 A.tW A.ub ["ship","parts"] (@spO ⟨K⟩ qJ):=
 jdA (m:=zL) T.tN.f tK rfl rfl fun cdv Ar outer s H E hr=>
  (jm (jca (i:=2) (Jb jE) (fun _=>tK.nd) rfl (fun _=>Or.inl rfl) (fun _=>Or.inl rfl))
   (jm (QO (jhg (jK 1)) (jiY (je0 (Je (i:=3) (fun _=>tK.nd) rfl (fun _=>Or.inl rfl) (fun _=>Or.inl rfl)) (je0 (Je (i:=4) (fun _=>tK.nd) rfl (fun _=>Or.inl rfl) (fun _=>Or.inl rfl)) jjM)))
   (jA (zF (WW.toC (jes (j7 jfI (ef (jW (jc 0) (ef jk))) (jc 3)) (jck (j7 jfI (jc 4) (ef (jW (jc 0) (ef jk)))))))
   (jA (jaB (i:=2) rfl (fun _=>Or.inl rfl) (Jp (ef (jW (jc 0) (ef jk))) (ef (Jo (jc 4) (jc 3)))))) (jA (jaB (i:=2) rfl (fun _=>Or.inl rfl) jk)))))
   (jA (jek 2))))
theorem jci(T:Txt K mg A):FnOk P w K mg base JV 2 A.uk A.ui ["fleet","cells"] (@jea ⟨K⟩ Jc):=
 jiW (m:=Jg) T.ug.f tu rfl rfl fun cdv Ar outer s H E hr=>
  (jcn (jJ (i:=2) (WO.toE (zU (fun _=>Qu T) (fun _=>hr.mono (by decide)) (fun _=>rfl) (fun _=>T.tP) (jd (jK 0) jE))) (fun _=>tu.nd) rfl (fun _=>Or.inl rfl) (fun _=>Or.inl rfl))
   (jcn (jcG (i:=3) jhz (fun _=>tu.nd) rfl (fun _=>Or.inl rfl) (fun _=>Or.inl rfl))
   (jcn (QO (JB (fun _=>rfl) (fun _=>T.tM) (jr (ef (qA tm (fun _=>rfl) (fun _=>T.tm) YD (jr (jc 0) jy))) jy)) (Je (i:=4) (fun _=>tu.nd) rfl (fun _=>Or.inl rfl) (fun _=>Or.inl rfl))
   (jm (jJ (i:=5) (WO.toE (zU (fun _=>Qn T) (fun _=>hr.mono (by decide)) (fun _=>rfl) (fun _=>T.tN) (jd (jW (jc 0) (jc 4)) (jd (jK 2) jE)))) (fun _=>tu.nd) rfl (fun _=>Or.inl rfl) (fun _=>Or.inl rfl))
   (jm (jJ (i:=6) (jW (ef (jW (jc 0) (jc 4))) (ef jk)) (fun _=>tu.nd) rfl (fun _=>Or.inl rfl) (fun _=>Or.inl rfl))
   (jm (jca (i:=7) (Jb jE) (fun _=>tu.nd) rfl (fun _=>Or.inl rfl) (fun _=>Or.inl rfl))
   (jm (QO (JB (fun _=>rfl) (fun _=>T.tM) (jr (ef (qA tm (fun _=>rfl) (fun _=>T.tm) YD (jr (jc 2) jy))) jy)) (Je (i:=8) (fun _=>tu.nd) rfl (fun _=>Or.inl rfl) (fun _=>Or.inl rfl))
   (jm (jJ (i:=9) (jW (jc 1) (ef (j4 (ef (qW (ef (Jp (jc 4) (ef (qA tm (fun _=>rfl) (fun _=>T.tm) YD (jr (jc 2) jy))))) (jc 8))) (ef (qA tm (fun _=>rfl) (fun _=>T.tm) YD (jr (jc 1) jy)))))) (fun _=>tu.nd) rfl (fun _=>Or.inl rfl) (fun _=>Or.inl rfl))
   (jm (jJ (i:=10) (jW (ef (WO.toE (Jb (jd jk (jd (jW (jc 5) (jc 8)) (jd (J9 (ef (Jp (ef (jW (jc 5) (jc 8))) (ef (j4 (ef (J9 (jc 9) (ef jk))) (ef jk))))) (ef jk)) (jd (j4 (ef (J9 (jc 9) (ef jk))) (ef (qW (ef (jW (jc 5) (jc 8))) (ef jk)))) jE))))))) (ef (j4 (jc 9) (ef jk)))) (fun _=>tu.nd) rfl (fun _=>Or.inl rfl) (fun _=>Or.inl rfl))
   (jm (jaB (i:=7) rfl (fun _=>Or.inl rfl) (qA jjY (fun _=>rfl) (fun _=>T.uU) boot_min (jr (jc 6) (jr (ef (jW (jc 5) (jc 8))) (jr (jc 10) jy)))))
   (jA (jJ (i:=6) (Jo (jc 6) (ef (jW (jc 7) (jc 8)))) (fun _=>tu.nd) rfl (fun _=>Or.inl rfl) (fun _=>Or.inl rfl)))))))
   (jm (QO (JB (fun _=>rfl) (fun _=>T.tM) (jr (ef (qA tm (fun _=>rfl) (fun _=>T.tm) YD (jr (jc 2) jy))) jy)) (Je (i:=8) (fun _=>tu.nd) rfl (fun _=>Or.inl rfl) (fun _=>Or.inl rfl))
   (jm (jJ (i:=11) (j4 (ef (qW (jc 8) (ef (jW (jc 1) (ef (j4 (jc 4) (ef (qA tm (fun _=>rfl) (fun _=>T.tm) YD (jr (jc 1) jy))))))))) (ef (qA tm (fun _=>rfl) (fun _=>T.tm) YD (jr (jc 2) jy)))) (fun _=>tu.nd) rfl (fun _=>Or.inl rfl) (fun _=>Or.inl rfl))
   (jm (jJ (i:=12) (qA jg1 (fun _=>rfl) (fun _=>T.uU) boot_min (jr (jc 6) (jr (ef (Jo (ef (jW (jc 5) (jc 11))) (ef (jW (jc 7) (jc 11))))) jy))) (fun _=>tu.nd) rfl (fun _=>Or.inl rfl) (fun _=>Or.inl rfl))
   (jm (jch (i:=7) rfl (fun _=>Or.inl rfl) (jK 11) (qW (ef (jW (jc 7) (jc 11))) (jc 12)))
   (jA (jJ (i:=6) (Jo (jc 6) (jc 12)) (fun _=>tu.nd) rfl (fun _=>Or.inl rfl) (fun _=>Or.inl rfl)))))))
   (jA (jhl (i:=3) (j:=7) (by decide) rfl rfl (fun _=>Or.inl rfl) (fun _=>Or.inl rfl)))))))))
   (jh8 3))))
theorem jbv(T:Txt K mg A):FnOk P w K mg base JV 1 A.t9 A.tZ ["found"] (@spS ⟨K⟩ zi):=
 Qt (m:=Q8) T.tY.f jbr rfl rfl fun cdv Ar outer s H E hr=>(jA (ql (jdm (ef (Zd (fun _=>rfl) (fun _=>T.tE) (fun _=>rfl) (fun _=>T.uT) boot_int (by decide) (jc 0))) (jfU (w_not (ef (Zd (fun _=>rfl) (fun _=>T.tE) (fun _=>rfl) (fun _=>T.uP) boot_bool (by decide) (jc 0))))))))
theorem jaf(T:Txt K mg A):FnOk P w K mg base JV 2 A.tT A.tQ ["fleet","parts","found"] (@spS ⟨K⟩ qF):=
 Qt (m:=zj) T.tS.f tG rfl rfl fun cdv Ar outer s H E hr=>
  (jm (zF (WW.toC (jfz (jaS (jaA (ef (Zd (fun _=>rfl) (fun _=>T.tE) (fun _=>rfl) (fun _=>T.tL) KJ (by decide) (jc 2))))) (jda (j7 (jfi fun _=>hr.units) (ef (qA tm (fun _=>rfl) (fun _=>T.tm) YD (jr (jc 2) jy))) (ef (qA tm (fun _=>rfl) (fun _=>T.tm) YD (jr (jc 0) jy)))))))
   (jA (ql ZF)) qp)
   (jm (QO (JB (fun _=>rfl) (fun _=>T.tM) (jr (ef (qA tm (fun _=>rfl) (fun _=>T.tm) YD (jr (jc 0) jy))) jy)) (Je (i:=3) (fun _=>tG.nd) rfl (fun _=>Or.inl rfl) (fun _=>Or.inl rfl))
   (jm (jJ (i:=4) (jW (jc 2) (jc 3)) (fun _=>tG.nd) rfl (fun _=>Or.inl rfl) (fun _=>Or.inl rfl))
   (jm (zF (WW.toC (jfz (jaS (jaA (ef (Zd (fun _=>rfl) (fun _=>T.tE) (fun _=>rfl) (fun _=>T.tL) KJ (by decide) (jc 4))))) (jda (j7 (jfi fun _=>hr.units) (ef (qA tm (fun _=>rfl) (fun _=>T.tm) YD (jr (jc 4) jy))) (ef (qA tm (fun _=>rfl) (fun _=>T.tm) YD (jr (jc 1) jy)))))))
   (jA (ql ZF)) qp)
   (jm (jJ (i:=5) (WO.toE (zU (fun _=>Qn T) (fun _=>hr.mono (by decide)) (fun _=>rfl) (fun _=>T.tN) (jd (jW (jc 0) (jc 3)) (jd (jK 1) jE)))) (fun _=>tG.nd) rfl (fun _=>Or.inl rfl) (fun _=>Or.inl rfl))
   (jm (QO (JB (fun _=>rfl) (fun _=>T.tM) (jr (ef (qA tm (fun _=>rfl) (fun _=>T.tm) YD (jr (jc 1) jy))) jy)) (Je (i:=6) (fun _=>tG.nd) rfl (fun _=>Or.inl rfl) (fun _=>Or.inl rfl))
   (jA (zF (WW.toC (jfz (jaS (jaA (ef (qv (fun _=>jbv T) (fun _=>hr.mono (by decide)) (fun _=>rfl) (fun _=>T.tY) (jd (jW (jc 4) (jc 6)) jE))))) (jfz (j7 ji2 (ef (jW (jc 4) (jc 6))) (ef jk)) (jda (j7 jko (ef (jW (jc 4) (jc 6))) (ef (jW (jc 5) (jc 6))))))))
   (jA (ql ZF)) qp)))
   (jA (zF (j7 (jfi fun _=>hr.units) (ef (qA uN (fun _=>rfl) (fun _=>T.uN) boot_sum (jr (jc 4) jy))) (ef (jW (ef (jW (jc 0) (jc 3))) (ef jk))))
   (jA (ql ZF)) qp)))))))
   (jA (ql ZF))))
theorem jfe(T:Txt K mg A):FnOk P w K mg base JV 1 A.uI A.uH ["fleet"] (@spO ⟨K⟩ jbe):=
 jdA (m:=Q0) T.uK.f ud rfl rfl fun cdv Ar outer s H E hr=>
  (jm (jir (i:=1) (fun _=>ud.nd) rfl (fun _=>rfl) (sc:=jh qR) (Lc:=["ship"]) (Fn:=[]) (ix:=[]) (fun _=>rfl) (show LcOk (jh qR) ["fleet","begins","ends"] _ [] []from by decide +kernel) (J6 (jc 0)) (Qh (i:=0) (fun _=>show List.Nodup (["ship"]:List Str)from by decide +kernel) rfl (by decide) (fun _=>Or.inl rfl) (fun _=>Or.inr rfl)) JH (jW (jc 0) (ef (Jj (fun _=>rfl) (fun _=>T.uR)))))
   (jm (jir (i:=2) (fun _=>ud.nd) rfl (fun _=>rfl) (sc:=jh qR) (Lc:=["ship"]) (Fn:=[]) (ix:=[]) (fun _=>rfl) (show LcOk (jh qR) ["fleet","begins","ends"] _ [] []from by decide +kernel) (J6 (jc 0)) (Qh (i:=0) (fun _=>show List.Nodup (["ship"]:List Str)from by decide +kernel) rfl (by decide) (fun _=>Or.inl rfl) (fun _=>Or.inr rfl)) JH (jW (jc 0) (ef (Jj (fun _=>rfl) (fun _=>T.u5)))))
   (jA (jcr (jjE (fun _=>rfl) (fun _=>T.uO) (fun _=>rfl) (fun _=>T.u9) (jr (ef (WO.toE (jfS (jc 1) (jc 2)))) jy) (sub:=fun _ _=>⟨rfl,rfl⟩) (j0:=()))))))
theorem jcx(T:Txt K mg A):FnOk P w K mg base JV 2 A.ur A.uh ["fleet"] (@spO ⟨K⟩ Qa):=
 jdA (m:=Jd) T.uj.f t6 rfl rfl fun cdv Ar outer s H E hr=>
  (jm (jJ (i:=1) (WO.toE (zU (fun _=>jfe T) (fun _=>hr.mono (by decide)) (fun _=>rfl) (fun _=>T.uK) (jd (jK 0) jE))) (fun _=>t6.nd) rfl (fun _=>Or.inl rfl) (fun _=>Or.inl rfl))
   (jA (jcr (jml (fun _=>rfl) (fun _=>T.tL) (fun _=>rfl) (fun _=>T.uY) (jr (jc 1) (jr (ef (WO.toE (jlz (jc 1) (jgx (ef jk)) jlC))) jy))))))
theorem jdg(T:Txt K mg A):FnOk P w K mg base JV 1 A.uz A.uC ["thing"] (@spS ⟨K⟩ qT):=
 Qt (m:=jaY) T.uw.f jdi rfl rfl fun cdv Ar outer s H E hr=>(jA (ql (jdm (ef (Zd (fun _=>rfl) (fun _=>T.tE) (fun _=>rfl) (fun _=>T.uT) boot_int (by decide) (jc 0))) (jfU (w_not (ef (Zd (fun _=>rfl) (fun _=>T.tE) (fun _=>rfl) (fun _=>T.uP) boot_bool (by decide) (jc 0))))))))
theorem jfo(T:Txt K mg A):FnOk P w K mg base JV 1 A.uM A.uL ["stretch"] (@spS ⟨K⟩ Zg):=
 Qt (m:=ja0) T.uJ.f jfj rfl rfl fun cdv Ar outer s H E hr=>(jA (ql (Jo (ef (jW (jc 0) (ef (Jj (fun _=>rfl) (fun _=>T.vb))))) (ef (jW (jc 0) (ef (Jj (fun _=>rfl) (fun _=>T.u3))))))))
theorem jhH(T:Txt K mg A):FnOk P w K mg base JV 2 A.uZ A.uS ["ship","stretch"] (@spS ⟨K⟩ ZL):=
 Qt (m:=jeg) T.u0.f jhI rfl rfl fun cdv Ar outer s H E hr=>
  (jm (zF (WW.toC (jes (j7 jfI (ef (jW (jc 0) (ef (Jj (fun _=>rfl) (fun _=>T.uR))))) (ef (jW (jc 1) (ef (Jj (fun _=>rfl) (fun _=>T.u3)))))) (jck (j7 jfI (ef (jW (jc 1) (ef (Jj (fun _=>rfl) (fun _=>T.vb))))) (ef (jW (jc 0) (ef (Jj (fun _=>rfl) (fun _=>T.u5)))))))))
   (jA (ql (Jp (ef (jW (jc 0) (ef (Jj (fun _=>rfl) (fun _=>T.u7))))) (ef (qv (fun _=>jfo T) (fun _=>hr.mono (by decide)) (fun _=>rfl) (fun _=>T.uJ) (jd (jK 1) jE)))))) qp)
   (jA (ql jk)))
theorem jde(T:Txt K mg A):FnOk P w K mg base JV 3 A.uv A.ux ["ship","spans","thing"] (@spS ⟨K⟩ jU):=
 Qt (m:=j3) T.uA.f jdd rfl rfl fun cdv Ar outer s H E hr=>
  (jm (zF (WW.toC (jfz (jaS (jaA (ef (Zd (fun _=>rfl) (fun _=>T.tE) (fun _=>rfl) (fun _=>T.tL) KJ (by decide) (jc 2))))) (jda (j7 (jfi fun _=>hr.units) (ef (qA tm (fun _=>rfl) (fun _=>T.tm) YD (jr (jc 2) jy))) (ef (qA tm (fun _=>rfl) (fun _=>T.tm) YD (jr (jc 1) jy)))))))
   (jA (ql ZF)) qp)
   (jm (zF (jaS (jaA (ef (qA uB (fun _=>rfl) (fun _=>T.uB) boot_all (jr (ef (WO.toE (jfD (sc:=jh qf) (Lc:=["many"]) (Fn:=[]) (ix:=[]) (fun _=>rfl) (show LcOk (jh qf) ["ship","spans","thing"] _ [] []from by decide +kernel) (J6 (jc 2)) (Qh (i:=0) (fun _=>show List.Nodup (["many"]:List Str)from by decide +kernel) rfl (by decide) (fun _=>Or.inl rfl) (fun _=>Or.inr rfl)) JH (qv (fun _=>jdg T) (fun _=>hr.mono (by decide)) (fun _=>rfl) (fun _=>T.uw) (jd (jK 0) jE))))) jy)))))
   (jA (ql ZF)) qp)
   (jm (zF (jaS (jaA (ef (qA uB (fun _=>rfl) (fun _=>T.uB) boot_all (jr (ef (WO.toE (jfD (sc:=jh qf) (Lc:=["span","many"]) (Fn:=["ship"]) (ix:=[0]) (fun _=>rfl) (show LcOk (jh qf) ["ship","spans","thing"] _ ["ship"] [0]from by decide +kernel) (jeD (fun _=>rfl) (fun _=>T.uY) (jr (jc 1) (jr (jc 2) jy))) (jf1 (jav (i:=0) (fun _=>show List.Nodup (["span","many","ship"]:List Str)from by decide +kernel) rfl (by decide) (fun _=>Or.inl rfl) (fun _=>Or.inr rfl) (jav (i:=1) (fun _=>show List.Nodup (["span","many","ship"]:List Str)from by decide +kernel) rfl (by decide) (fun _=>Or.inl rfl) (fun _=>Or.inr rfl) jg5))) JH (jh2 jfI jfI (ef jk) (jc 1) (ef (qv (fun _=>jhH T) (fun _=>hr.mono (by decide)) (fun _=>rfl) (fun _=>T.u0) (jd (jK 2) (jd (jK 0) jE)))))))) jy)))))
   (jA (ql ZF)) qp)
   (jA (ql (jeU (Jx fun _=>hr.units) (ef (qA uN (fun _=>rfl) (fun _=>T.uN) boot_sum (jr (jc 2) jy))) (ef (jW (jc 0) (ef (Jj (fun _=>rfl) (fun _=>T.u6)))))))))))
theorem jdY(T:Txt K mg A):FnOk P w K mg base JV 4 A.uF A.uE ["fleet","thing"] (@spS ⟨K⟩ qL):=
 Qt (m:=qr) T.uD.f uy rfl rfl fun cdv Ar outer s H E hr=>
  (jm (zF (WW.toC (jfz (jaS (jaA (ef (Zd (fun _=>rfl) (fun _=>T.tE) (fun _=>rfl) (fun _=>T.tL) KJ (by decide) (jc 1))))) (jda (j7 (jfi fun _=>hr.units) (ef (qA tm (fun _=>rfl) (fun _=>T.tm) YD (jr (jc 1) jy))) (ef (qA tm (fun _=>rfl) (fun _=>T.tm) YD (jr (jc 0) jy)))))))
   (jA (ql ZF)) qp)
   (jm (jJ (i:=2) (WO.toE (zU (fun _=>jcx T) (fun _=>hr.mono (by decide)) (fun _=>rfl) (fun _=>T.uj) (jd (jK 0) jE))) (fun _=>uy.nd) rfl (fun _=>Or.inr rfl) (fun _=>Or.inl rfl))
   (jA (ql (qA uB (fun _=>rfl) (fun _=>T.uB) boot_all (jr (ef (WO.toE (jfD (sc:=jh za) (Lc:=["ship","share"]) (Fn:=["spans"]) (ix:=[2]) (fun _=>rfl) (show LcOk (jh za) ["fleet","thing","spans"] _ ["spans"] [2]from by decide +kernel) (jeD (fun _=>rfl) (fun _=>T.uY) (jr (jc 0) (jr (jc 1) jy))) (jf1 (jav (i:=0) (fun _=>show List.Nodup (["ship","share","spans"]:List Str)from by decide +kernel) rfl (by decide) (fun _=>Or.inl rfl) (fun _=>Or.inr rfl) (jav (i:=1) (fun _=>show List.Nodup (["ship","share","spans"]:List Str)from by decide +kernel) rfl (by decide) (fun _=>Or.inl rfl) (fun _=>Or.inr rfl) jg5))) JH (qv (fun _=>jde T) (fun _=>hr.mono (by decide)) (fun _=>rfl) (fun _=>T.uA) (jd (jK 0) (jd (jK 2) (jd (jK 1) jE))))))) jy))))))
theorem jcj(T:Txt K mg A):FnOk P w K mg base JV 1 A.uf A.uu ["plan","way","i","s","cell"] (@spB ⟨K⟩ qy):=
 jkP (m:=zA) T.uo.f tO rfl rfl fun cdv Ar outer s H E hr=>
  (je8 (fi:=0) (ri:=5) (ki:=2) (by decide) (by decide) (fun _=>tO.nd) rfl rfl rfl (fun _=>Or.inl rfl) (fun _=>Or.inl rfl) (fun _=>Or.inl rfl) (fun _=>Or.inl rfl)
   (j1 (zY (j7 (Jx fun _=>hr.units) (jc 1) (ef jk))
   (qG (JG (by decide) rfl (fun _=>Or.inl rfl) (jK 3) (qW (ef (jW (jc 5) (jc 3))) (ef jk)))))
   (j1 (zY (j7 (Jx fun _=>hr.units) (jc 1) (ef jk))
   (qG (JG (by decide) rfl (fun _=>Or.inl rfl) (jK 3) (Jo (ef (jW (jc 5) (jc 3))) (ef jk)))))
   (j1 (zY (j7 (Jx fun _=>hr.units) (jc 1) (ef jk))
   (j1 (JG (by decide) rfl (fun _=>Or.inl rfl) (jK 3) (Jo (ef (jW (jc 5) (jc 3))) (ef jk)))
   (qG (JG (by decide) rfl (fun _=>Or.inl rfl) (j4 (jc 4) (ef (qA tm (fun _=>rfl) (fun _=>T.tm) YD (jr (jc 5) jy)))) (qW (ef (jW (jc 5) (ef (j4 (jc 4) (ef (qA tm (fun _=>rfl) (fun _=>T.tm) YD (jr (jc 5) jy))))))) (ef jk))))))
   (j1 (zY (j7 (Jx fun _=>hr.units) (jc 1) (ef jk))
   (qG (JG (by decide) rfl (fun _=>Or.inl rfl) (jK 3) (jW (ef (WO.toE (Jb (jd ZF (jd jgs (jd jgf (jd ZF (jd (jgH (jd jk jE)) (jd (Jo (ef (jim (ef jk))) (ef (j4 (jc 4) (ef (jdf (ef jk) (ef jk)))))) jE))))))))) (ef (j4 (jc 4) (ef jk)))))))
   (j1 (zY (j7 (Jx fun _=>hr.units) (jc 1) (ef jk))
   (qG (jia (by decide) rfl (fun _=>Or.inl rfl) jk)))
   (j1 (zY (j7 (Jx fun _=>hr.units) (jc 1) (ef jk))
   (qG (jhm (by decide) rfl (fun _=>Or.inl rfl))))
   (j1 (zY (j7 (Jx fun _=>hr.units) (jc 1) (ef jk))
   (qG (jeW (by decide) (jch (i:=0) rfl (fun _=>Or.inl rfl) (jK 2) (jk9 jgQ (fun _=>rfl) (fun _=>T.uQ) boot_tuple (jr (jc 5) jy))))))
   (j1 (zY (j7 (Jx fun _=>hr.units) (jc 1) (ef jk))
   (qG (jeW (by decide) (jaB (i:=0) rfl (fun _=>Or.inl rfl) (WO.toE (jio tL (fun _=>rfl) (fun _=>T.tL) KJ (jr (jc 5) jy)))))))
   (j1 (zY (j7 (Jx fun _=>hr.units) (jc 1) (ef jk))
   (qG (jeW (by decide) (jgt (i:=0) rfl (fun _=>Or.inl rfl) (jK 2)))))
   (j1 (zY (j7 (Jx fun _=>hr.units) (jc 1) (ef jk))
   (qG (jeW (by decide) (jch (i:=0) rfl (fun _=>Or.inl rfl) (jK 2) (jW (ef (WO.toE (Jb (jd jgs (jd ZF (jd jgf (jd jk jE))))))) (ef (j4 (jc 4) (ef jk))))))))
   (j1 (zY (WW.toC (jes (j7 (Jx fun _=>hr.units) (jc 1) (ef jk)) (jck (j7 jko (ef (qA tm (fun _=>rfl) (fun _=>T.tm) YD (jr (jc 5) jy))) (ef jk)))))
   (j1 (jhV (i:=6) (by decide) (by decide) (by decide) (jW (jc 5) (ef (j4 (jc 4) (ef (qA tm (fun _=>rfl) (fun _=>T.tm) YD (jr (jc 5) jy)))))) (fun _=>tO.nd) rfl (fun _=>Or.inl rfl) (fun _=>Or.inl rfl))
   (j1 (JG (by decide) rfl (fun _=>Or.inl rfl) (j4 (jc 4) (ef (qA tm (fun _=>rfl) (fun _=>T.tm) YD (jr (jc 5) jy)))) (jW (jc 5) (jc 3)))
   (qG (JG (by decide) rfl (fun _=>Or.inl rfl) (jK 3) (jK 6))))))
   (jgg rfl (fun _=>Or.inl rfl))))))))))))))
theorem jj4(T:Txt K mg A):FnOk P w K mg base JV 5 A.uW A.uX ["script"] (@spS ⟨K⟩ jin):=
 Qt (m:=jeT) T.vc.f tI rfl rfl fun cdv Ar outer s H E hr=>
  (jm (jJ (i:=1) (WO.toE (zU (fun _=>jbp T) (fun _=>hr.mono (by decide)) (fun _=>rfl) (fun _=>T.t7) (jd (jK 0) (jd jk jE)))) (fun _=>tI.nd) rfl (fun _=>Or.inl rfl) (fun _=>Or.inl rfl))
   (jm (jJ (i:=2) (WO.toE (zU (fun _=>Qu T) (fun _=>hr.mono (by decide)) (fun _=>rfl) (fun _=>T.tP) (jd (jK 1) jE))) (fun _=>tI.nd) rfl (fun _=>Or.inl rfl) (fun _=>Or.inl rfl))
   (jm (jcG (i:=3) (jfJ (fun _=>jci T) (fun _=>hr.mono (by decide)) (fun _=>rfl) (fun _=>T.ug) (jd (jK 1) (jd (WO.toE (jfS (ef (WO.toE (jlz (jc 0) (jgx (ef jk)) (jgx (ef jk))))) (ef (WO.toE (Jb (jd jk jE)))))) jE))) (fun _=>tI.nd) rfl (fun _=>Or.inl rfl) (fun _=>Or.inl rfl))
   (jm (jJ (i:=4) (j4 (ef (qv (fun _=>j9 T) (fun _=>hr.mono (by decide)) (fun _=>rfl) (fun _=>T.tF) (jd (jK 0) (jd jk jE)))) (ef jk)) (fun _=>tI.nd) rfl (fun _=>Or.inl rfl) (fun _=>Or.inl rfl))
   (jm (jJ (i:=5) (qv (fun _=>j9 T) (fun _=>hr.mono (by decide)) (fun _=>rfl) (fun _=>T.tF) (jd (jK 0) (jd jk jE))) (fun _=>tI.nd) rfl (fun _=>Or.inl rfl) (fun _=>Or.inl rfl))
   (jm (zF (j7 (jfi fun _=>hr.units) (jc 1) (ef (WO.toE (Jb jE))))
   (jm (jJ (i:=6) (qv (fun _=>j9 T) (fun _=>hr.mono (by decide)) (fun _=>rfl) (fun _=>T.tF) (jd (jK 0) (jd jk jE))) (fun _=>tI.nd) rfl (fun _=>Or.inl rfl) (fun _=>Or.inl rfl))
   (jA (jhN (j:=3) (fun _=>jcj T) (fun _=>hr.mono (by decide)) (fun _=>rfl) (fun _=>T.uo) (jd (jK 4) (jd (j4 (jc 6) (ef (qA tm (fun _=>rfl) (fun _=>T.tm) YD (jr (jc 1) jy)))) (jd (j4 (ef (J9 (jc 6) (ef jk))) (ef (qA tm (fun _=>rfl) (fun _=>T.tm) YD (jr (jc 2) jy)))) (jd (jK 5) jE)))) (fun _=>tI.nd) rfl (fun _=>Or.inl rfl) (fun _=>Or.inl rfl) (fun _=>Or.inl rfl)))) qp)
   (jm (zF (j7 (Jx fun _=>hr.units) (jc 4) (ef jk))
   (jA (jaO 3 (jJ (i:=3) (jW (ef (WO.toE (Jb (jd (jk9 jgQ (fun _=>rfl) (fun _=>T.uQ) boot_tuple (jr (jc 3) jy)) (jd jgs (jd ZF (jd jgf (jd jk (jd (WO.toE (Jb (jd (WO.toE (Jb jE)) jE))) jE))))))))) (ef (j4 (jc 5) (ef jk)))) (fun _=>tI.nd) rfl (fun _=>Or.inl rfl) (fun _=>Or.inl rfl)))) qp)
   (jm (jaO 3 (jJ (i:=7) (qv (fun _=>jaf T) (fun _=>hr.mono (by decide)) (fun _=>rfl) (fun _=>T.tS) (jd (jK 1) (jd (jK 2) (jd (jK 3) jE)))) (fun _=>tI.nd) rfl (fun _=>Or.inl rfl) (fun _=>Or.inl rfl)))
   (jm (jJ (i:=8) (WO.toE (jio tL (fun _=>rfl) (fun _=>T.tL) KJ (jr (jc 1) jy))) (fun _=>tI.nd) rfl (fun _=>Or.inl rfl) (fun _=>Or.inl rfl))
   (jm (jaO 3 (jJ (i:=9) (jf5 (fun _=>hr.gd) (fun _=>hr.units) (fun _=>rfl) (fun _=>T.uV) (jd (jK 3) jE)) (fun _=>tI.nd) rfl (fun _=>Or.inl rfl) (fun _=>Or.inl rfl)))
   (jm (jaO 3 (jJ (i:=10) (qv (fun _=>jdY T) (fun _=>hr.mono (by decide)) (fun _=>rfl) (fun _=>T.uD) (jd (jK 8) (jd (jK 3) jE))) (fun _=>tI.nd) rfl (fun _=>Or.inl rfl) (fun _=>Or.inl rfl)))
   (jA (jaO 3 (ql (jdm (ef (Zd (fun _=>rfl) (fun _=>T.tE) (fun _=>rfl) (fun _=>T.uP) boot_bool (by decide) (jc 10))) (jdm (ef (jeU (Jx fun _=>hr.units) (jc 10) (jc 7))) (jdm (ef (jeU (Jx fun _=>hr.units) (jc 8) (jc 1))) (jfU (jeU (Jx fun _=>hr.units) (ef (jf5 (fun _=>hr.gd) (fun _=>hr.units) (fun _=>rfl) (fun _=>T.uV) (jd (jK 3) jE))) (jc 9))))))))))))))))))))
end
def jez(K:PySem.W.Frag):Sp:=fun vs H Q _=>∃(a:Addr) (ns:List Int),vs=[.ref a]/\zQ K H a (ns.map V.int)/\ns.length<=63/\∀H',Q (.bl true) H'
theorem jhi{P:Program}{w:World}{K:PySem.W.Frag}{mg:Str → Option Value}{base:Heap}{A:Adr}(T:Txt K mg A):FnOk P w K mg base JV 5 A.uW A.uX ["script"] (jez K):=by
 letI:Fr:=⟨K⟩
 refine(jj4 T).imp fun vs H Q E h=>?_;obtain⟨a,ns,rfl,hs,hl,q⟩:=h;exact⟨H,[.scr ns],.bl true,.refl _,.cons (.scr hs) .nil,jgO ns hl,fun v G' H' x r=>by cases r;exact q _⟩
set_option maxHeartbeats 4000000 in
abbrev ya(K:PySem.W.Frag)(x:Str)(f:Addr):Prop:=PySem.W.nsIn K mainGlobals x=some (some (.ref f))
abbrev yb(K:PySem.W.Frag)(x:Str)(st:Stmt)(f:Addr)(oc)(od)(kV)(dc)(pm)(an)(cd)(ct)(sl):=K.lookup f=some ⟨oc,od,.func (PySem.W.fnOf x x (jY st) (jP st) (jh st) .none kV dc pm an cd ct),sl⟩
abbrev yc(K:PySem.W.Frag)(cd)(x:Str):=PySem.W.codeIn K cd x=true
abbrev yd(K:PySem.W.Frag)(f:Addr):Prop:=PySem.W.keepIn K (.ref f)=true
theorem jkm{l:PySem.W.OpenLaw}{w:World}{K:PySem.W.Frag}{h:Heap}{mg:Str → Option Value}{fa:Addr}(X:K.In h)(G:h.Ns mainGlobals mg)(hfa:mg "law"=some (.ref fa))
 {f0 f1 f2 f3 f4 f5 f6 f7 f8 f9 f10 f11 f12 f13 f14 f15 f16:Addr}
 {od0 od1 od2 od3 od4 od5 od6 od7 od8 od9 od10 od11 od12 od13 od14 od15 od16:Option Addr}
 {an0 an1 an2 an3 an4 an5 an6 an7 an8 an9 an10 an11 an12 an13 an14 an15 an16:Option Addr}
 {sl0 sl1 sl2 sl3 sl4 sl5 sl6 sl7 sl8 sl9 sl10 sl11 sl12 sl13 sl14 sl15 sl16:Array (Option Value)}
 {oc0 oc1 oc2 oc3 oc4 oc5 oc6 oc7 oc8 oc9 oc10 oc11 oc12 oc13 oc14 oc15 oc16:Value}
 {kV0 kV1 kV2 kV3 kV4 kV5 kV6 kV7 kV8 kV9 kV10 kV11 kV12 kV13 kV14 kV15 kV16:Value}
 {dc0 dc1 dc2 dc3 dc4 dc5 dc6 dc7 dc8 dc9 dc10 dc11 dc12 dc13 dc14 dc15 dc16:Value}
 {pm0 pm1 pm2 pm3 pm4 pm5 pm6 pm7 pm8 pm9 pm10 pm11 pm12 pm13 pm14 pm15 pm16:Value}
 {cd0 cd1 cd2 cd3 cd4 cd5 cd6 cd7 cd8 cd9 cd10 cd11 cd12 cd13 cd14 cd15 cd16:Value}
 {ct0 ct1 ct2 ct3 ct4 ct5 ct6 ct7 ct8 ct9 ct10 ct11 ct12 ct13 ct14 ct15 ct16:Value}
 {t0:Tok}
 {t1:Tok}
 {t2:Tok}
 {t3:Tok}
 {t4:Tok}
 {t5:Tok}
 (a0:ya K "_law_cell_at" f0) (l0:yb K "_law_cell_at" qk f0 oc0 od0 kV0 dc0 pm0 an0 cd0 ct0 sl0) (c0:yc K cd0 "_law_cell_at") (k0:yd K f0)
 (a1:ya K "_law_ship" f1) (l1:yb K "_law_ship" qY f1 oc1 od1 kV1 dc1 pm1 an1 cd1 ct1 sl1) (c1:yc K cd1 "_law_ship") (k1:yd K f1)
 (a2:ya K "_law_fleet" f2) (l2:yb K "_law_fleet" qI f2 oc2 od2 kV2 dc2 pm2 an2 cd2 ct2 sl2) (c2:yc K cd2 "_law_fleet") (k2:yd K f2)
 (a3:ya K "_law_parts" f3) (l3:yb K "_law_parts" jR f3 oc3 od3 kV3 dc3 pm3 an3 cd3 ct3 sl3) (c3:yc K cd3 "_law_parts") (k3:yd K f3)
 (a4:ya K "_law_rooms" f4) (l4:yb K "_law_rooms" qK f4 oc4 od4 kV4 dc4 pm4 an4 cd4 ct4 sl4) (c4:yc K cd4 "_law_rooms") (k4:yd K f4)
 (a5:ya K "_law_plan" f5) (l5:yb K "_law_plan" qZ f5 oc5 od5 kV5 dc5 pm5 an5 cd5 ct5 sl5) (c5:yc K cd5 "_law_plan") (k5:yd K f5)
 (a6:ya K "_law_whole" f6) (l6:yb K "_law_whole" qM f6 oc6 od6 kV6 dc6 pm6 an6 cd6 ct6 sl6) (c6:yc K cd6 "_law_whole") (k6:yd K f6)
 (a7:ya K "_law_is_plan" f7) (l7:yb K "_law_is_plan" qi f7 oc7 od7 kV7 dc7 pm7 an7 cd7 ct7 sl7) (c7:yc K cd7 "_law_is_plan") (k7:yd K f7)
 (a8:ya K "bounds" f8) (l8:yb K "bounds" qR f8 oc8 od8 kV8 dc8 pm8 an8 cd8 ct8 sl8) (c8:yc K cd8 "bounds") (k8:yd K f8)
 (a9:ya K "stretches" f9) (l9:yb K "stretches" qV f9 oc9 od9 kV9 dc9 pm9 an9 cd9 ct9 sl9) (c9:yc K cd9 "stretches") (k9:yd K f9)
 (a10:ya K "is_whole" f10) (l10:yb K "is_whole" zt f10 oc10 od10 kV10 dc10 pm10 an10 cd10 ct10 sl10) (c10:yc K cd10 "is_whole") (k10:yd K f10)
 (a11:ya K "length" f11) (l11:yb K "length" Jm f11 oc11 od11 kV11 dc11 pm11 an11 cd11 ct11 sl11) (c11:yc K cd11 "length") (k11:yd K f11)
 (a12:ya K "room" f12) (l12:yb K "room" ZE f12 oc12 od12 kV12 dc12 pm12 an12 cd12 ct12 sl12) (c12:yc K cd12 "room") (k12:yd K f12)
 (a13:ya K "is_share" f13) (l13:yb K "is_share" qf f13 oc13 od13 kV13 dc13 pm13 an13 cd13 ct13 sl13) (c13:yc K cd13 "is_share") (k13:yd K f13)
 (a14:ya K "is_plan" f14) (l14:yb K "is_plan" za f14 oc14 od14 kV14 dc14 pm14 an14 cd14 ct14 sl14) (c14:yc K cd14 "is_plan") (k14:yd K f14)
 (a15:ya K "_law_bent" f15) (l15:yb K "_law_bent" qX f15 oc15 od15 kV15 dc15 pm15 an15 cd15 ct15 sl15) (c15:yc K cd15 "_law_bent") (k15:yd K f15)
 (a16:ya K "law" f16) (l16:yb K "law" jb0 f16 oc16 od16 kV16 dc16 pm16 an16 cd16 ct16 sl16) (c16:yc K cd16 "law") (k16:yd K f16)
 (cst0:PySem.W.nsIn K mainGlobals "END"=some (some (.int 1 t0)))
 (cst1:PySem.W.nsIn K mainGlobals "BEGIN"=some (some (.int 0 t1)))
 (cst2:PySem.W.nsIn K mainGlobals "TO"=some (some (.int 1 t2)))
 (cst3:PySem.W.nsIn K mainGlobals "FROM"=some (some (.int 0 t3)))
 (cst4:PySem.W.nsIn K mainGlobals "MOST"=some (some (.int 3 t4)))
 (cst5:PySem.W.nsIn K mainGlobals "NEED"=some (some (.int 2 t5)))
 (z0:PySem.W.nsIn K mainGlobals "len"=some none)
 (z1:PySem.W.nsIn K mainGlobals "min"=some none)
 (z2:PySem.W.nsIn K mainGlobals "range"=some none)
 (z3:PySem.W.nsIn K mainGlobals "sorted"=some none)
 (z4:PySem.W.nsIn K mainGlobals "isinstance"=some none)
 (z5:PySem.W.nsIn K mainGlobals "bool"=some none)
 (z6:PySem.W.nsIn K mainGlobals "int"=some none)
 (z7:PySem.W.nsIn K mainGlobals "sum"=some none)
 (z8:PySem.W.nsIn K mainGlobals "list"=some none)
 (z9:PySem.W.nsIn K mainGlobals "set"=some none)
 (z10:PySem.W.nsIn K mainGlobals "zip"=some none)
 (z11:PySem.W.nsIn K mainGlobals "all"=some none)
 (z12:PySem.W.nsIn K mainGlobals "tuple"=some none)
 (z13:PySem.W.nsIn K mainGlobals "repr"=some none) :
 ∃fd:FuncData,(∀(s:Shared) (v:Value),BindsTo s fd ⟨[v],[]⟩ [("script",v)]) ∧ ∀base:Heap,K.In base → base.Ns mainGlobals mg → FnOk l.prog w K mg base JV 5 fa fd ["script"] (jez K):=by
 have e:=hfa.symm.trans (YK X G a16);have e':f16=fa:=by injection (Option.some.inj e)with z;exact z.symm
 subst e';have F0:=qx (st:=qk) l0 c0 k0;have b0:=F0.binds (ps:=["script","k"]) fun _ _ _ _ _ _=>ar2 fun _ _=>rfl;have F1:=qx (st:=qY) l1 c1 k1;have b1:=F1.binds (ps:=["one","two","kind"]) fun _ _ _ _ _ _=>ar3 fun _ _ _=>rfl;have F2:=qx (st:=qI) l2 c2 k2;have b2:=F2.binds (ps:=["script","start"]) fun _ _ _ _ _ _=>ar2 fun _ _=>rfl;have F3:=qx (st:=jR) l3 c3 k3;have b3:=F3.binds (ps:=["fleet"]) fun _ _ _ _ _ _=>ar1 fun _=>rfl;have F4:=qx (st:=qK) l4 c4 k4;have b4:=F4.binds (ps:=["ship","parts"]) fun _ _ _ _ _ _=>ar2 fun _ _=>rfl;have F5:=qx (st:=qZ) l5 c5 k5;have b5:=F5.binds (ps:=["fleet","cells"]) fun _ _ _ _ _ _=>ar2 fun _ _=>rfl;have F6:=qx (st:=qM) l6 c6 k6;have b6:=F6.binds (ps:=["found"]) fun _ _ _ _ _ _=>ar1 fun _=>rfl;have F7:=qx (st:=qi) l7 c7 k7;have b7:=F7.binds (ps:=["fleet","parts","found"]) fun _ _ _ _ _ _=>ar3 fun _ _ _=>rfl;have F8:=qx (st:=qR) l8 c8 k8;have b8:=F8.binds (ps:=["fleet"]) fun _ _ _ _ _ _=>ar1 fun _=>rfl;have F9:=qx (st:=qV) l9 c9 k9;have b9:=F9.binds (ps:=["fleet"]) fun _ _ _ _ _ _=>ar1 fun _=>rfl;have F10:=qx (st:=zt) l10 c10 k10;have b10:=F10.binds (ps:=["thing"]) fun _ _ _ _ _ _=>ar1 fun _=>rfl;have F11:=qx (st:=Jm) l11 c11 k11;have b11:=F11.binds (ps:=["stretch"]) fun _ _ _ _ _ _=>ar1 fun _=>rfl;have F12:=qx (st:=ZE) l12 c12 k12;have b12:=F12.binds (ps:=["ship","stretch"]) fun _ _ _ _ _ _=>ar2 fun _ _=>rfl;have F13:=qx (st:=qf) l13 c13 k13;have b13:=F13.binds (ps:=["ship","spans","thing"]) fun _ _ _ _ _ _=>ar3 fun _ _ _=>rfl;have F14:=qx (st:=za) l14 c14 k14;have b14:=F14.binds (ps:=["fleet","thing"]) fun _ _ _ _ _ _=>ar2 fun _ _=>rfl;have F15:=qx (st:=qX) l15 c15 k15;have b15:=F15.binds (ps:=["plan","way","i","s","cell"]) fun _ _ _ _ _ _=>ar5 fun _ _ _ _ _=>rfl;have F16:=qx (st:=jb0) l16 c16 k16;have b16:=F16.binds (ps:=["script"]) fun _ _ _ _ _ _=>ar1 fun _=>rfl;have T:Txt K mg ⟨f0,_,f1,_,f2,_,f3,_,f4,_,f5,_,f6,_,f7,_,f8,_,f9,_,f10,_,f11,_,f12,_,f13,_,f14,_,f15,_,f16,_,t0,t1,t2,t3,t4,t5⟩:=⟨⟨F0,b0,YK X G a0⟩,⟨F1,b1,YK X G a1⟩,⟨F2,b2,YK X G a2⟩,⟨F3,b3,YK X G a3⟩,⟨F4,b4,YK X G a4⟩,⟨F5,b5,YK X G a5⟩,⟨F6,b6,YK X G a6⟩,⟨F7,b7,YK X G a7⟩,⟨F8,b8,YK X G a8⟩,⟨F9,b9,YK X G a9⟩,⟨F10,b10,YK X G a10⟩,⟨F11,b11,YK X G a11⟩,⟨F12,b12,YK X G a12⟩,⟨F13,b13,YK X G a13⟩,⟨F14,b14,YK X G a14⟩,⟨F15,b15,YK X G a15⟩,⟨F16,b16,YK X G a16⟩,YK X G cst0,YK X G cst1,YK X G cst2,YK X G cst3,YK X G cst4,YK X G cst5,YQ X G z0,YQ X G z1,YQ X G z2,YQ X G z3,YQ X G z4,YQ X G z5,YQ X G z6,YQ X G z7,YQ X G z8,YQ X G z9,YQ X G z10,YQ X G z11,YQ X G z12,YQ X G z13⟩;exact⟨_,fun s v=>.of_eq rfl,fun base _ _=>jhi T⟩
theorem jmi{l:PySem.W.OpenLaw}{q:Program}{loose:List Str}{XP:(Str->Option Value)->Heap->Prop}{YP:World->Heap->Prop}{d:DefRec}{K:Params->PySem.W.Frag}(hn:l.most=some 63)(hdf:d.params.defaults=[])
 (hY:∀(w:World) (h:Heap),YP w h->(K w.params).In h)
 (F:∀(w:World) (mg:Str->Option Value) (fa:Addr) (h:Heap),(K w.params).In h->h.Ns mainGlobals mg->mg d.name=some (.ref fa)->
  ∃fd:FuncData,(∀(s:Shared) (u:Value),BindsTo s fd ⟨[u],[]⟩ [("script",u)]) ∧ ∀base:Heap,(K w.params).In base → base.Ns mainGlobals mg → FnOk l.prog w (K w.params) mg base JV 5 fa fd ["script"] (jez (K w.params))) :
 PySem.W.WalkO q loose XP YP l.row.toRowW d [] (fun f vs=>PySem.call f vs):=
 L2.jhR (n:=63) (k:=5) (x := "script") (CX:=fun _=>JV) (sp:=fun w=>jez (K w.params)) hn (by decide) hdf ⟨rfl,by decide,by decide,rfl⟩ hY F (fun _ _ a ns hl _ hS=>⟨a,ns,rfl,hS,hl,fun _=>rfl⟩) fun _ _ _ _ _ z=>z
end Q
end
open PySem PySem.W PyProof.Rows
set_option maxRecDepth 100000 in
set_option maxHeartbeats 0 in
theorem PySem.Challenge.cw_evenquay_k10_what_is_a_plan_holds : PySem.Challenge.rw_evenquay_k10_what_is_a_plan.Holds := by
 w_on;o_law;k_head;(case hw=>w_witness2)
 k_fill
 refine Q.jmi (l:=PySem.Challenge.rw_evenquay_k10_what_is_a_plan) rfl rfl (fun w h Y=>PySem.W.kIn_of Y) ?F
 case F=>
  intro w mg fa h KX G hmg
  refine' Q.jkm KX G hmg ?a0 ?l0 ?c0 ?k0 ?a1 ?l1 ?c1 ?k1 ?a2 ?l2 ?c2 ?k2 ?a3 ?l3 ?c3 ?k3 ?a4 ?l4 ?c4 ?k4 ?a5 ?l5 ?c5 ?k5 ?a6 ?l6 ?c6 ?k6 ?a7 ?l7 ?c7 ?k7 ?a8 ?l8 ?c8 ?k8 ?a9 ?l9 ?c9 ?k9 ?a10 ?l10 ?c10 ?k10 ?a11 ?l11 ?c11 ?k11 ?a12 ?l12 ?c12 ?k12 ?a13 ?l13 ?c13 ?k13 ?a14 ?l14 ?c14 ?k14 ?a15 ?l15 ?c15 ?k15 ?a16 ?l16 ?c16 ?k16 ?cst0 ?cst1 ?cst2 ?cst3 ?cst4 ?cst5 ?z0 ?z1 ?z2 ?z3 ?z4 ?z5 ?z6 ?z7 ?z8 ?z9 ?z10 ?z11 ?z12 ?z13
  any_goals (show _=_;k_is)
