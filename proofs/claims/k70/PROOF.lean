import PyProof.Rows.All
import Wide.All
import OpenK.AllK
import Wide.FinOn
import Lean
import PyProof.EqAt
import PyProof.EqKinds
import PyProof.TupleCall
import PySem.SetOps
import PyProof.ZipIter
import PyProof.CollectWalk
import PyProof.Rows.SetFrom
import PyProof.Rows.SortShell
import KE.KRevIter
import PyProof.MaxThree
import KE.KDictList
import PyProof.Rows.Chain
import PyProof.Rows.CountFlat
import KE.KSortAsk
import KE.KItemsList
import KE.KSortTup
import PyProof.Rows.SortRev
import PyProof.Rows.SortWalk
import PyProof.Rows.CallKwBuiltin
import PyProof.WalkInts
import KE.KMinBuiltin
import PyProof.StrWalks
import PyProof.StrBlockL
import PyProof.StrBlockI
import PyProof.MeetsStr2
import KE.KIntText
import PyProof.StrLawsTight
import PySem.Challenge.RW_evenquay_k70_texts_forth_and_back
-- CHANGE: your row's module here, as the last of these rows
set_option compiler.extract_closed false
def PySem.W.Fast.tw10879039456048108283:=()
def PySem.W.Fast.tw10561896767425875313:=()
def PySem.W.Fast.tw8567486757658177517:=()
def PySem.W.Fast.tw8346354518028975824:=()
def PySem.W.Fast.tw6021677245173314153:=()
def PySem.W.Fast.tw13747844800534744939:=()
def PySem.W.Fast.tw11575208847441433354:=()
def PySem.W.Fast.tw790322512496811708:=()
def PySem.W.Fast.tw3618693462347297061:=()
def PySem.W.Fast.tw2541888716710514175:=()
def PySem.W.Fast.tw3855843708753713614:=()
def PySem.W.Fast.tw11469193839192002229:=()
def PySem.W.Fast.tw6547859116390157428:=()
def PySem.W.Fast.tw17605748923243596423:=()
namespace QA
theorem a0(h:True:=by first | exact .inl rfl | exact .inr rfl | assumption):True:=h
theorem a1(h:True:=by decide):True:=h
theorem a2(h:True:=by first | exact nobehind _ (by decide) (by decide) | rfl):True:=h
theorem a3(h:True:=by intro _;rfl):True:=h
theorem a4(h:True:=by rfl):True:=h
theorem a5(h:True:=by with_unfolding_all rfl):True:=h
theorem a6(h:True:=by first | exact fun _=>Or.inl rfl | exact fun _=>Or.inr (Or.inl rfl) | exact fun _=>Or.inr (Or.inr rfl)):True:=h
theorem a7(h:True:=by exact fun _ _=>rfl):True:=h
theorem a8(h:True:=by first | exact nomark _ | rfl):True:=h
theorem a9(h:True:=by intro _ _;rfl):True:=h
theorem a10(h:True:=by exact fun _=>PassesOwn.never):True:=h
end QA
set_option genInjectivity false
local macro_rules | `(tactic| omega)=>`(tactic| first | lia | omega (config:={}))
set_option Elab.async false
set_option linter.all false
set_option maxRecDepth 100000
noncomputable section
section
open PySem PySem.Spec PySem.W PySem.Calls PyProof.Rows PyProof.V
abbrev QB:=@wpAny_bind
abbrev QC:=@List.getElem?_eq_getElem
abbrev Ya:=@Bool.false_ne_true
abbrev Yb:=@Heap.get?_push_of_some
abbrev Yc:=@Nat.lt_of_lt_of_le
abbrev Yd:=@List.mem_cons_self
abbrev Ye:=@List.length_map
abbrev Yg:=@List.mem_cons_of_mem
abbrev Yh:=@List.getElem?_eq_some_iff
abbrev Yj:=@List.mem_cons
abbrev Yk:=@List.size_toArray
abbrev Yl:=@Heap.get?_push_size
abbrev Ym:=@Nat.le_refl
abbrev Yn:=@wpAny_pure
abbrev Yo:=@Nat.ne_of_lt
abbrev Yp:=@Heap.lt_size
abbrev Yq:=@if_pos
abbrev Yr:=@List.length_cons
abbrev Ys:=@PySem.W.mg_of
abbrev Yt:=@List.getElem?_map
abbrev Yu:=@List.not_mem_nil
abbrev Yv:=@List.lookup_cons
abbrev Yw:=@decide_eq_true
abbrev Yx:=@Nat.le_trans
abbrev Yy:=@List.mem_append_right
abbrev Yz:=@List.getElem?_set_ne
abbrev YA:=@List.getElem?_eq_none_iff
abbrev YB:=@List.length_append
abbrev YC:=@Str.length_append
abbrev YD:=@PySem.W.mg_none_of
abbrev YE:=@List.getElem?_append_left
abbrev YF:=@Array.getElem?_eq_getElem
abbrev YG:=@if_neg
abbrev YH:=@Nat.lt_irrefl
abbrev YI:=@List.getElem?_append_right
abbrev YJ:=@decide_eq_false
abbrev YK:=@Nat.le_add_right
abbrev YL:=@Bool.and_eq_true_iff
abbrev YM:=@List.map_cons
abbrev YN:=@PyProof.Rows.callWith_type1
abbrev YO:=@Heap.size_push
abbrev YQ:=@Bool.and_eq_true
abbrev YR:=@wpAny_truthy_bool
abbrev YS:=@Nat.ne_of_gt
abbrev YT:=@List.getElem?_set_self
abbrev YU:=@Array.getElem?_eq_none
abbrev YV:=@PySem.boot_len
abbrev YW:=@PySem.W.kia_one
abbrev YX:=@Option.bind_some
abbrev YY:=@wpAny_field
abbrev YZ:=@Heap.get?_update_self
abbrev Y0:=@List.getElem?_replicate
abbrev Y1:=@List.mem_of_getElem?
abbrev Y2:=@Bool.false_eq_true
abbrev Y3:=@wpAny_holding
abbrev Y4:=@wpAny_callSpecial?_slot
abbrev Y5:=@or_false
abbrev Y6:=@wpAny_seqItems
abbrev Y7:=@PyProof.Rows.F.plain_set_update_loop
abbrev Y8:=@Nat.lt_or_ge
abbrev Y9:=@List.map_map
abbrev ye:=@List.nodup_cons
abbrev yf:=@F.slot_zip_next
abbrev yg:=@Array.length_toList
abbrev yh:=@wpAny_setField_rec
abbrev yi:=@List.mem_map
abbrev yj:=@List.length_replicate
abbrev yk:=@Array.getElem?_toList
abbrev yl:=@List.getElem?_zip_eq_some
abbrev ym:=@wpAny_mono
abbrev yn:=@List.mem_append
abbrev yo:=@List.append_nil
abbrev yp:=@PySem.mem_of_lookup
abbrev yq:=@List.all_cons
abbrev yr:=@wpAny_nextOf_list_item
abbrev yt:=@List.drop_eq_nil_of_le
abbrev yu:=@SeqAt.EqAt.of_refs
abbrev yv:=@List.mem_singleton
abbrev yw:=@Option.map_some
abbrev yx:=@Nat.zero_le
abbrev yy:=@of_decide_eq_true
abbrev yz:=@List.getElem?_nil
abbrev yA:=@List.append_assoc
abbrev yB:=@List.getD_eq_getElem?_getD
abbrev yC:=@List.mem_append_left
abbrev yD:=@Around.under_plainId
abbrev yE:=@PyProof.Rows.F.entry_set_update_loop
abbrev yF:=@wpAny_pyIter_zip
abbrev yG:=@wpAny_call_entry
abbrev yH:=@List.mem_map_of_mem
abbrev yI:=@Array.getElem?_push
abbrev yJ:=@Nat.lt_trans
abbrev yK:=@Nat.le_of_lt
abbrev yL:=@wpAny_passesOwn
abbrev yM:=@codeAny_builtin
abbrev yN:=@PySem.F.plainAttrs_list
abbrev yO:=@List.getElem?_cons_zero
abbrev yP:=@List.getElem?_cons_succ
abbrev yQ:=@List.forIn_cons
abbrev yR:=@Bool.eq_iff_iff
abbrev yS:=@PySem.F.plainAttrs_str
abbrev yT:=@List.take_of_length_le
abbrev yU:=@if_true
abbrev yV:=@decide_eq_true_eq
abbrev yW:=@Nat.lt_succ_of_lt
abbrev yX:=@List.reverse_cons
abbrev yY:=@F.args_zip_next_1
abbrev yZ:=@List.forIn_nil
abbrev y0:=@wpAny_nextOf_list_end
abbrev y7:=@Nat.succ_le_succ
abbrev y8:=@List.length_drop
abbrev y9:=@F.entry_zip_next
abbrev Ka:=@typeIs_str
abbrev Kb:=@wpAny_updateSeq
abbrev Kc:=@pushCells_keeps
abbrev Kd:=@List.map_append
abbrev Ke:=@List.length_nil
abbrev Kf:=@List.filterMap_cons
abbrev Kg:=@F.plain_extend_loop
abbrev Kh:=@if_false
abbrev Ki:=@codeAny_mono
abbrev Kj:=@call_meets
end
set_option hygiene false
namespace L2
open PySem PySem.Spec PyProof.Rows
abbrev QK:=Sum Int Str
def jhn:QK->Value->Bool
 | .inl k,v=>Value.isInt k v
 | .inr x,v=>Value.isStrOf x v
def jly(w:World):QK->Int
 | .inl k=>hashInt k
 | .inr x=>hashStr w x
theorem j1:∀{k:QK} {v:Value},jhn k v=true->(∃i t,k=Sum.inl i/\v=Value.int i t)\/(∃x t,k=Sum.inr x/\v=Value.str x t)
 | .inl i,v,h=>by obtain⟨t,e⟩:=Value.isInt_shape (k:=i) (v:=v) h;exact .inl ⟨i,t,rfl,e⟩
 | .inr x,v,h=>by obtain⟨t,e⟩:=Value.isStrOf_shape (x:=x) (v:=v) h;exact .inr ⟨x,t,rfl,e⟩
theorem jii(a b:Int):decide ((Sum.inl a:QK)=Sum.inl b)=(a == b):=by
 by_cases e:a=b
 . subst e;simp
 . have h:¬(Sum.inl a:QK)=Sum.inl b:=fun q=>e (Sum.inl.inj q);rw[YJ h];exact(beq_eq_false_iff_ne.mpr e).symm
theorem jin(a b:Str):decide ((Sum.inr a:QK)=Sum.inr b)=decide (a=b):=by
 by_cases e:a=b
 . subst e;simp
 . have h:¬(Sum.inr a:QK)=Sum.inr b:=fun q=>e (Sum.inr.inj q);rw[YJ h,YJ e]
theorem jiM(a:Int)(b:Str):decide ((Sum.inl a:QK)=Sum.inr b)=false:=YJ (fun q=>nomatch q)
theorem jiG(a:Str)(b:Int):decide ((Sum.inr a:QK)=Sum.inl b)=false:=YJ (fun q=>nomatch q)
def jaO(prog:Program)(w:World):PySem.KeyKind prog w QK where
 is:=jhn
 hash:=jly w
 inj:=fun v a b ha hb=>by
   rcases j1 ha with⟨i,t,rfl,rfl⟩ | ⟨x,t,rfl,rfl⟩
   . rcases j1 hb with⟨j,u,rfl,e⟩ | ⟨y,u,rfl,e⟩
     . injection e with e1 _;rw[e1]
     . exact nomatch e
   . rcases j1 hb with⟨j,u,rfl,e⟩ | ⟨y,u,rfl,e⟩
     . exact nomatch e
     . injection e with e1 _;rw[e1]
 byValue:=fun k v h=>by rcases j1 h with⟨i,t,rfl,rfl⟩ | ⟨x,t,rfl,rfl⟩ <;> rfl
 pyHash:=fun hv h=>by
   rcases j1 hv with⟨i,t,rfl,rfl⟩ | ⟨x,t,rfl,rfl⟩
   . exact wpAny_pyHash_int h
   . exact wpAny_pyHash_str h
 eqBool:=fun hu hv h=>by
   rcases j1 hu with⟨i,t,rfl,rfl⟩ | ⟨x,t,rfl,rfl⟩
   . rcases j1 hv with⟨j,u,rfl,rfl⟩ | ⟨y,u,rfl,rfl⟩
     . rw[jii]at h;exact wpAny_eqBool_int h
     . rw[jiM]at h;exact SeqAt.EqAt.int_str i t y u _ _ _ _ h
   . rcases j1 hv with⟨j,u,rfl,rfl⟩ | ⟨y,u,rfl,rfl⟩
     . rw[jiG]at h;exact SeqAt.EqAt.str_int x t j u _ _ _ _ h
     . rw[jin]at h;exact wpAny_eqBool_str h
 «strs»:=fun k x t v h=>by
   rcases j1 h with⟨i,u,rfl,e⟩ | ⟨y,u,rfl,e⟩
   . exact nomatch e
   . injection e with e1 _;subst e1;cases v <;> rfl
set_option genInjectivity true in
inductive V where
 | non | bl (b:Bool) | int (i:Int) | str (x:Str) | byt (b:Array UInt8) | flt (b:UInt64) | ref (a:Addr) | ty (n:String)
 deriving DecidableEq
def RelV:V->Value->Prop
 | .non,u=>u=Value.none
 | .bl b,u=>u=Value.bool b
 | .int i,u=>∃t,u=Value.int i t
 | .str x,u=>∃t,u=Value.str x t
 | .byt b,u=>∃t,u=Value.bytes b t
 | .flt b,u=>∃t,u=Value.float b t
 | .ref a,u=>u=Value.ref a
 | .ty n,u=>u=Value.type n
abbrev Vals:List V->List Value->Prop:=Paired RelV
theorem Vals.length{xs:List V}{us:List Value}(r:Vals xs us):xs.length=us.length:=Paired.length r
theorem Vals.get:∀{xs:List V} {us:List Value} {i:Nat} {x:V},Vals xs us->xs[i]?=some x->∃u,us[i]?=some u/\RelV x u
 | _,_,_,_,.nil,e=>by simp at e
 | _,_,0,_,.cons r _,e=>by simp at e;subst e;exact⟨_,rfl,r⟩
 | _,_,i+1,x,.cons _ t,e=>by obtain⟨u,h1,h2⟩:=Vals.get (i:=i) (x:=x) t (by simpa using e);exact⟨u,by simpa using h1,h2⟩
theorem Vals.set{x:V}{u:Value}(r:RelV x u):∀{xs:List V} {us:List Value} (i:Nat),Vals xs us->Vals (xs.set i x) (us.set i u)
 | _,_,_,.nil=>.nil
 | _,_,0,.cons _ t=>.cons r t
 | _,_,i+1,.cons q t=>.cons q (Vals.set r i t)
theorem Vals.append:∀{xs ys:List V} {us ws:List Value},Vals xs us->Vals ys ws->Vals (xs++ys) (us++ws):=fun h s=>by
 induction h with
 | nil=>exact s
 | cons r _ ih=>exact .cons r ih
theorem Vals.take:∀{xs:List V} {us:List Value} (n:Nat),Vals xs us->Vals (xs.take n) (us.take n)
 | _,_,0,_=>.nil
 | _,_,_+1,.nil=>.nil
 | _,_,n+1,.cons r t=>.cons r (Vals.take n t)
theorem Vals.drop:∀{xs:List V} {us:List Value} (n:Nat),Vals xs us->Vals (xs.drop n) (us.drop n)
 | _,_,0,r=>r
 | _,_,_+1,.nil=>.nil
 | _,_,n+1,.cons _ t=>Vals.drop n t
def RelO:Option V->Option Value->Prop
 | some v,some u=>RelV v u
 | none,none=>True
 | _,_=>False
def KV{κ:Type}:List (κ×V)->List (κ×Value)->Prop:=Paired fun(p:κ×V) (q:κ×Value)=>p.1=q.1/\RelV p.2 q.2
def kV:QK->V
 | .inl i=>.int i
 | .inr x=>.str x
set_option genInjectivity true in
inductive HO where
 /-- a list -/
 | lst (xs:List V)
 /-- a tuple (never changes) -/
 | tup (xs:List V)
 /-- a dict whose keys are ints and texts; one whose keys are tuples of ints and texts (the empty one is both) -/
 | dK (kvs:List (QK×V)) | dT (kvs:List (List QK×V))
 /-- a set of ints: tm members, tm size -/
 | set (S:Int->Bool) (n:Nat)
 /-- an instance of the class at C, tm dict at dx, tm attributes -/
 | ins (C dx:Addr) (fs:List (Str×V))
 /-- the dict of the instance at x -/
 | own (x:Addr)
 /-- the dict of an exception -/
 | xd (fs:List (Str×V))
 /-- a bound method, f of x -/
 | met (f x:Addr)
 /-- a range object lo, lo + 1, .. below hi -/
 | rng (lo hi:Int)
 /-- a thing that is known to the object (the script; a dict while a loop walks it): read, never written while it is so -/
 | frz (o:Obj) (u:HO)
 /-- a code object's table -/
 | tbl (ps:Array Value)
 /-- any other thing, by what is true of tm one object (a def of one's own: SetO a S n := HO.ext fun h => ..) -/
 | ext (φ:Heap->Prop)
abbrev Hp:=Addr->Option HO
def upd(H:Hp)(a:Addr)(o:HO):Hp:=fun b=>if b=a then some o else H b
theorem jm{H:Hp}{a:Addr}{o:HO}:upd H a o a=some o:=by unfold upd;rw[Yq rfl]
theorem ji{H:Hp}{a b:Addr}{o:HO}(h:b≠a):upd H a o b=H b:=by unfold upd;rw[YG h]
theorem jk{H:Hp}{a b:Addr}{o:HO}(h:H a=some o)(h':H b=none):a≠b:=by intro e;subst e;rw[h]at h';cases h'
section
variable(P:Program)(w:World)
def ObjOk(H:Hp)(h:Heap)(a:Addr):HO->Prop
 | .lst xs=>xs.length ≤ sizeLine ∧ ∃(tm:List Value) (n:Nat),Vals xs tm ∧ h.get? a=some { cls:=.type "list",data:=.seq tm.toArray n }
 | .tup xs=>xs.length<=sizeLine/\∃tm:List Value,Vals xs tm/\IsTup h a tm.toArray
 | .dK kvs=>kvs.length<=sizeLine/\(a == sysModules)=false/\∃vs,KV kvs vs/\h.DictOf (jaO P w) a vs
 | .dT kvs=>kvs.length<=sizeLine/\(a == sysModules)=false/\∃xs:List (List QK×Addr×Value),
  Paired (fun(p:List QK×V) (q:List QK×Addr×Value)=>p.1=q.1/\H q.2.1=some (.tup (p.1.map kV))/\RelV p.2 q.2.2) kvs xs /\
  ∃o es ep,h.get? a=some o/\o.ExactDict/\o.data=.dict es ep/\es.toList=xs.map (entryOfKey (tupleKind (jaO P w)))/\(xs.map (·.1)).Nodup
 | .set S n=>h.SetOf (intKind P w) a S n
 | .ins C dx fs=>H dx=some (.own a)/\fs.length<=1000/\dx≠a/\h.get? a=some (PySem.W.instObj C dx) /\
  ∃mA,h.Ns1 dx mA/\(∀f,RelO (fs.lookup f) (mA f))/\PySem.Within mA (fs.map (·.1))
 | .own _=>∃o,h.get? a=some o
 | .xd fs=>∃mA,h.Ns1 a mA/\∀f,RelO (fs.lookup f) (mA f)
 | .rng lo hi=>∃t u v,h.get? a=some { cls:=.type "range",data:=.fields #[.int lo t,.int hi u,.int 1 v] }
 | .frz o u=>h.get? a=some o/\ObjOk H h a u
 | .tbl ps=>h.get? a=some { cls:=.none,data:=.fields ps }
 | .met f x=>h.get? a=some (PySem.W.methodObj (.ref f) (.ref x))
 | .ext φ=>φ h/\(∃o,h.get? a=some o)/\∀h1 h2:Heap,φ h1->(∀o,h1.get? a=some o->h2.get? a=some o)->φ h2
def HOk(H:Hp)(h:Heap):Prop:=∀a o,H a=some o->ObjOk P w H h a o
end
section
variable{P:Program}{w:World}{H H':Hp}{h h':Heap}{a:Addr}{o:HO}
theorem ObjOk.lt(x:ObjOk P w H h a o):a<h.objs.size:=by
 cases o with
 | lst xs=>obtain⟨_,_,_,_,e⟩:=x;exact Yp e
 | tup xs=>obtain⟨_,_,_,p⟩:=x;exact p.lt
 | dK kvs=>obtain⟨_,_,_,_,o,_,_,e,_⟩:=x;exact Yp e
 | dT kvs=>obtain⟨_,_,_,_,o,_,_,e,_⟩:=x;exact Yp e
 | set S n=>obtain⟨o,_,_,_,e,_⟩:=x;exact Yp e
 | ins C dx fs=>obtain⟨_,_,_,e,_⟩:=x;exact Yp e
 | own y=>obtain⟨_,e⟩:=x;exact Yp e
 | xd fs=>obtain⟨_,⟨_,_,_,e,_⟩,_⟩:=x;exact Yp e
 | rng lo hi=>obtain⟨_,_,_,e⟩:=x;exact Yp e
 | frz ob u=>obtain⟨e,_⟩:=x;exact Yp e
 | tbl ps=>exact Yp (show h.get? a=some _ from x)
 | met f y=>exact Yp (show h.get? a=some _ from x)
 | ext φ=>obtain⟨_,⟨_,e⟩,_⟩:=x;exact Yp e
theorem Paired.mapP{α β:Type}{F G:α->β->Prop}:∀{l₁:List α} {l₂:List β},Paired F l₁ l₂->(∀a b,F a b->G a b)->Paired G l₁ l₂:=fun h f=>by
 induction h with
 | nil=>exact .nil
 | cons r _ ih=>exact .cons (f _ _ r) ih
theorem ObjOk.stay(x:ObjOk P w H h a o)(k:∀b u,(b=a\/H b=some (.own a))->h.get? b=some u->h'.get? b=some u)
 (ho:∀b,H b=some (.own a)->H' b=some (.own a)) (ht:∀b xs,H b=some (.tup xs)->H' b=some (.tup xs)):ObjOk P w H' h' a o:=by
 induction o with
 | lst xs=>obtain⟨z,tm,n,r,e⟩:=x;exact⟨z,tm,n,r,k _ _ (.inl rfl) e⟩
 | tup xs=>obtain⟨z,tm,r,ob,e,c⟩:=x;exact⟨z,tm,r,ob,k _ _ (.inl rfl) e,c⟩
 | dK kvs=>obtain⟨z,y,vs,r,ob,es,ep,e,c⟩:=x;exact⟨z,y,vs,r,ob,es,ep,k _ _ (.inl rfl) e,c⟩
 | dT kvs=>obtain⟨z,y,xs,r,ob,es,ep,e,c⟩:=x;exact⟨z,y,xs,Paired.mapP r fun p q z=>⟨z.1,ht _ _ z.2.1,z.2.2⟩,ob,es,ep,k _ _ (.inl rfl) e,c⟩
 | set S n=>obtain⟨ob,es,ep,t,e,c⟩:=x;exact⟨ob,es,ep,t,k _ _ (.inl rfl) e,c⟩
 | ins C dx fs=>obtain⟨d,z,ne,e,mA,⟨od,es,ep,e2,c⟩,r⟩:=x;exact⟨ho _ d,z,ne,k _ _ (.inl rfl) e,mA,⟨od,es,ep,k _ _ (.inr d) e2,c⟩,r⟩
 | own y=>obtain⟨ob,e⟩:=x;exact⟨ob,k _ _ (.inl rfl) e⟩
 | xd fs=>obtain⟨mA,⟨od,es,ep,e,c⟩,r⟩:=x;exact⟨mA,⟨od,es,ep,k _ _ (.inl rfl) e,c⟩,r⟩
 | rng lo hi=>obtain⟨t,u,v,e⟩:=x;exact⟨t,u,v,k _ _ (.inl rfl) e⟩
 | frz ob u ih=>obtain⟨e,q⟩:=x;exact⟨k _ _ (.inl rfl) e,ih q⟩
 | tbl ps=>have e:h.get? a=some { cls:=.none,data:=.fields ps }:=x;show h'.get? a=some { cls:=.none,data:=.fields ps };exact k a _ (.inl rfl) e
 | met f y=>have e:h.get? a=some (PySem.W.methodObj (.ref f) (.ref y)):=x;show h'.get? a=some (PySem.W.methodObj (.ref f) (.ref y));exact k a _ (.inl rfl) e
 | ext φ=>obtain⟨p,⟨o,e⟩,st⟩:=x;exact⟨st _ _ p fun o q=>k _ _ (.inl rfl) q,⟨o,k _ _ (.inl rfl) e⟩,st⟩
theorem HOk.lt(x:HOk P w H h)(e:H a=some o):a<h.objs.size:=(x a o e).lt
theorem HOk.fresh(x:HOk P w H h)(e:h.objs.size<=a):H a=none:=by
 cases q:H a with
 | none=>rfl
 | some u=>exact absurd (Yc (x.lt q) e) (YH _)
theorem HOk.kept(x:HOk P w H h)(k:∀b u,h.get? b=some u->h'.get? b=some u):HOk P w H h':=fun a o e=>(x a o e).stay (fun b u _ q=>k b u q) (fun _ q=>q) fun _ _ q=>q
theorem HOk.laid(x:HOk P w H h)(k:∀b u,h.get? b=some u->h'.get? b=some u)(hp:h.objs.size<=a)(new:ObjOk P w (upd H a o) h' a o):HOk P w (upd H a o) h':=fun b u e=>by
 have hn:=x.fresh hp;by_cases hb:b=a
 . subst hb;rw[jm]at e;cases e;exact new
 . rw[ji hb]at e;exact(x b u e).stay (fun c v _ q=>k c v q) (fun c q=>by rw[ji (jk q hn)];exact q) fun c xs q=>by rw[ji (jk q hn)];exact q
end
def Rd(H:Hp)(a:Addr)(u:HO):Prop:=H a=some u\/∃o,H a=some (.frz o u)
theorem Rd.ok{P:Program}{w:World}{H:Hp}{h:Heap}{a:Addr}{u:HO}(r:Rd H a u)(x:HOk P w H h):ObjOk P w H h a u:=by
 rcases r with r | ⟨o,r⟩
 . exact x a u r
 . obtain⟨_,q⟩:=x a _ r;exact q
def Mut:Option HO->Prop
 | some (.lst _)=>True
 | some (.dK _)=>True
 | some (.dT _)=>True
 | some (.set _ _)=>True
 | some (.ins _ _ _)=>True
 | some (.ext _)=>True
 | _=>False
section
variable{P:Program}{w:World}{H:Hp}{h h':Heap}{x e:Addr}{o':HO}
theorem HOk.write(ok:HOk P w H h)(mu:Mut (H x))(he:e=x\/H e=some (.own x))(k:∀b u,b≠e->h.get? b=some u->h'.get? b=some u)(heo:∃u,h'.get? e=some u)
 (new:ObjOk P w (upd H x o') h' x o'):HOk P w (upd H x o') h':=fun b u q=>by
 have nown:∀c y,H c=some (.own y)->c≠x:=fun c y r z=>by subst z;rw[r]at mu;exact mu
 have ntup:∀c xs,H c=some (.tup xs)->c≠x:=fun c xs r z=>by subst z;rw[r]at mu;exact mu
 by_cases hb:b=x
 . subst hb;rw[jm]at q;cases q;exact new
 . rw[ji hb]at q;by_cases hbe:b=e
   . have q':H b=some (.own x):=by
       rcases he with z | z
       . exact absurd (hbe.trans z) hb
       . rw[hbe];exact z
     rw[q]at q';cases q';obtain⟨v,hv⟩:=heo;exact⟨v,by rw[hbe];exact hv⟩
   . refine(ok b u q).stay (fun c v hc r=>k c v ?_ r) (fun c r=>by rw[ji (nown c b r)];exact r) fun c xs r=>by rw[ji (ntup c xs r)];exact r
     rcases hc with rfl | hc
     . exact hbe
     . rintro rfl;rcases he with z | z
       . exact nown c b hc z
       . rw[hc]at z;cases z;exact hb rfl
end
structure Un(fs ex:List Addr)(H H':Hp)(h h':Heap):Prop where
 keep:∀b o,h.get? b=some o->H b=none->b∉fs->b∉ex->h'.get? b=some o
 slot:∀b o,h.get? b=some o->H b=none->b∈fs->b∉ex->∃sl,h'.get? b=some { o with slots:=sl }
 free:∀b o,h.get? b=some o->H b=none->b∉ex->H' b=none
 there:∀b o,h.get? b=some o->b∉ex->∃o',h'.get? b=some o'
 tups:∀b xs,H b=some (.tup xs)->H' b=some (.tup xs)
 frzs:∀b o u,H b=some (.frz o u)->H' b=some (.frz o u)
 tbls:∀b ps,H b=some (.tbl ps)->∃more,H' b=some (.tbl (ps++more))
section
variable{fs fs' ex ex':List Addr}{H H1 H2:Hp}{h h1 h2 h':Heap}{a x e:Addr}{o:HO}
theorem Un.any(u:Un fs ex H H1 h h1){b:Addr}{ob:Obj}(q:h.get? b=some ob)(n:H b=none)(hx:b∉ex):∃sl,h1.get? b=some { ob with slots:=sl }:=by
 by_cases hb:b∈fs
 . exact u.slot b ob q n hb hx
 . exact⟨ob.slots,u.keep b ob q n hb hx⟩
theorem Un.trans(a:Un fs ex H H1 h h1)(b:Un fs ex H1 H2 h1 h2):Un fs ex H H2 h h2 where
 keep:=fun c ob q n hc hx=>b.keep c ob (a.keep c ob q n hc hx) (a.free c ob q n hx) hc hx
 slot:=fun c ob q n hc hx=>by obtain⟨sl,e1⟩:=a.slot c ob q n hc hx;obtain⟨sl',e2⟩:=b.slot c _ e1 (a.free c ob q n hx) hc hx;exact⟨sl',e2⟩
 free:=fun c ob q n hx=>by obtain⟨o',e1⟩:=a.there c ob q hx;exact b.free c o' e1 (a.free c ob q n hx) hx
 there:=fun c ob q hx=>by obtain⟨o',e1⟩:=a.there c ob q hx;exact b.there c o' e1 hx
 tups:=fun c xs q=>b.tups c xs (a.tups c xs q)
 frzs:=fun c ob xs q=>b.frzs c ob xs (a.frzs c ob xs q)
 tbls:=fun c ps q=>by obtain⟨m1,e1⟩:=a.tbls c ps q;obtain⟨m2,e2⟩:=b.tbls c _ e1;exact⟨m1++m2,by rw[e2,Array.append_assoc]⟩
theorem Un.kept(k:∀b u,h.get? b=some u->h'.get? b=some u):Un fs ex H H h h':=⟨fun b ob q _ _ _=>k b ob q,fun b ob q _ _ _=>⟨ob.slots,k b ob q⟩,fun _ _ _ n _=>n,fun b ob q _=>⟨ob,k b ob q⟩,fun _ _ q=>q,fun _ _ _ q=>q,fun _ ps q=>⟨#[],by rw[q];simp⟩⟩
theorem Un.refl:Un fs ex H H h h:=Un.kept fun _ _ q=>q
theorem Un.laid(k:∀b u,h.get? b=some u->h'.get? b=some u)(hp:h.objs.size<=a)(hn:H a=none):Un fs ex H (upd H a o) h h' where
 keep:=fun b u q _ _ _=>k b u q
 slot:=fun b u q _ _ _=>⟨u.slots,k b u q⟩
 free:=fun b u q n _=>by rw[ji (Yo (Yc (Yp q) hp))];exact n
 there:=fun b u q _=>⟨u,k b u q⟩
 tups:=fun b xs q=>by rw[ji (jk q hn)];exact q
 frzs:=fun b u xs q=>by rw[ji (jk q hn)];exact q
 tbls:=fun b ps q=>⟨#[],by rw[ji (jk q hn),q];simp⟩
theorem Un.write(mu:Mut (H x))(he:e=x\/H e=some (.own x))(k:∀b u,b≠e->h.get? b=some u->h'.get? b=some u)(heo:∃u,h'.get? e=some u):Un fs ex H (upd H x o) h h':=by
 have hx:∀b,H b=none->b≠x:=fun b n z=>by subst z;rw[n]at mu;exact mu
 have hb:∀b,H b=none->b≠e:=fun b n z=>by
  subst z;rcases he with r | r
  . exact hx b n r
  . rw[n]at r;cases r
 have hm:∀b u,H b=some u->¬Mut (some u)->b≠x:=fun b u q nm z=>by subst z;rw[q]at mu;exact nm mu
 refine⟨fun b u q n _ _=>k b u (hb b n) q,fun b u q n _ _=>⟨u.slots,k b u (hb b n) q⟩,fun b u q n _=>by rw[ji (hx b n)];exact n,fun b u q _=>?_,
  fun b xs q=>by rw[ji (hm b _ q fun z=>z)];exact q,fun b u xs q=>by rw[ji (hm b _ q fun z=>z)];exact q,fun b ps q=>⟨#[],by rw[ji (hm b _ q fun z=>z),q];simp⟩⟩
 by_cases hbe:b=e
 . subst hbe;exact heo
 . exact⟨u,k b u hbe q⟩
theorem Un.mono(u:Un fs ex H H1 h h1)(hs:∀b∈fs,b∈fs')(hx:∀b∈ex,b∈ex'):Un fs' ex' H H1 h h1:=⟨fun b ob q n hb he=>u.keep b ob q n (fun z=>hb (hs b z)) fun z=>he (hx b z),fun _ _ q n _ he=>u.any q n fun z=>he (hx _ z),fun b ob q n he=>u.free b ob q n fun z=>he (hx b z),fun b ob q he=>u.there b ob q fun z=>he (hx b z),u.tups,u.frzs,u.tbls⟩
end
def trk(h:Heap)(H:Hp):List Addr:=(List.range h.objs.size).filter fun a=>(H a).isSome
def ja3(h:Heap)(H:Hp):Heap:=PySem.W.hideAll h (trk h H)
theorem jdZ(h:Heap)(H:Hp):(ja3 h H).objs.size=h.objs.size:=PySem.W.hideAll_size _ _
theorem jeY{h:Heap}{H:Hp}{b:Addr}{o:Obj}(e:h.get? b=some o)(n:H b=none):(ja3 h H).get? b=some o:=
 PySem.W.hideAll_get _ e fun hm=>by have q:(H b).isSome=true:=(List.mem_filter.mp hm).2;rw[n]at q;simp at q
theorem jgK{h:Heap}{H:Hp}{b:Addr}{o:Obj}(e:(ja3 h H).get? b=some o):h.get? b=some o/\H b=none:=by
 have e':h.get? b=some o:=PySem.W.of_hideAll (trk h H) e;refine⟨e',?_⟩;cases q:H b with
 | none=>rfl
 | some x=>have hm:b∈trk h H:=List.mem_filter.mpr ⟨List.mem_range.mpr (Yp e'),by simp[q]⟩;have z:(ja3 h H).get? b=none:=PySem.W.hideAll_none (trk h H) hm;rw[z]at e;cases e
def jg2(g h:Heap)(L:Addr):List (Addr×Obj):=(List.range h.objs.size).filterMap fun a=>if a=L\/(g.get? a).isSome=true then none else(h.get? a).map fun o=>(a,o)
def Zb(g h:Heap)(L d:Addr):List (Addr×Obj):=(jg2 g h L).filter fun p=>decide (p.1≠d)
structure Mod(K:PySem.W.Frag)(mg:Str->Option Value)(base:Heap):Prop where
 kin:K.In base
 glob:base.Ns mainGlobals mg
 blt:∃mb,base.Ns builtinsNs mb ∧ ∀x:Str,x ≠ "__name__" → mb x=bootBuiltins x
 nolimit:base.NoLimit
/-- the context: a def's body (or a comprehension's block) running. base: fixed through the whole law; s₀, H₀: the entry; outer: the frames whose slots others may change (a def's callers); stack: all frames that run;
 ex: iterators that were made ahead of the entry and are walked here (a comprehension's);fn: the names whose cells were made at the entry (a def: all;a comprehension's block: tm own);calm: not within an except suite;pn: tf that every state bears;xe: what is wanted of an exception that leaves the code -/
structure Cx where
 prog:Program
 w:World
 K:PySem.W.Frag
 mg:Str->Option Value
 base:Heap
 A:Around
 N:List Str
 s₀:Shared
 H₀:Hp
 env:Env
 outer:List Env
 stack:List Env
 ex:List Addr
 fn:Str->Bool
 calm:Bool
 pn:List (Addr×Obj)
 xe:Value->Shared->Prop
def frs(l:List Env):List Addr:=l.filterMap (·.frame)
abbrev Cx.fs(X:Cx):List Addr:=frs X.outer
def Vis(sc:Scope)(x:Str):Prop:=sc.names.lookup x=some .local\/sc.names.lookup x=some .cell\/sc.names.lookup x=some .free
def Loc(sc:Scope)(x:Str):Prop:=sc.names.lookup x=some .local\/sc.names.lookup x=some .cell
def jlC(env:Env)(h:Heap)(m:Str->Option Value)(x:Str)(u:Value):Prop:=(env.kindOf x=some .local/\m x=some u)\/((env.kindOf x=some .cell\/env.kindOf x=some .free)/\∃c,env.cells.lookup x=some c/\h.IsCell c (some u))
structure Cx.Ok(X:Cx):Prop where
 mod:Mod X.K X.mg X.base
 kind:X.env.scope.kind=.function
 glob:X.env.globals=mainGlobals
 blt:X.env.builtins=builtinsNs
 above:X.s₀.heap.objs.size<=X.env.locals
 inj:∀x y c,X.env.cells.lookup x=some c->X.env.cells.lookup y=some c->x=y
 has:∀x,(X.env.kindOf x=some .cell\/X.env.kindOf x=some .free)->∃c,X.env.cells.lookup x=some c
 cab:∀x c,X.fn x=true->X.env.cells.lookup x=some c->X.s₀.heap.objs.size<=c
 hd:X.calm=true->X.A.handled=none
 frames:X.A.frames=some X.stack
 stk:X.stack=X.outer\/(X.stack=X.env::X.outer/\X.env.frame=some X.env.locals)
 exf:∀b∈X.ex,b≠X.env.locals/\∀x c,X.env.cells.lookup x=some c->c≠b
 bs:∀b o,X.base.get? b=some o->X.s₀.heap.get? b=some o/\X.H₀ b=none
 bsz:X.base.objs.size<=X.s₀.heap.objs.size
 noex:∀b o,X.base.get? b=some o->b∉X.ex
 exfs:∀b∈X.ex,b∉X.fs
 funs:X.s₀.heap.FunFrames X.base X.outer
 frf:∀b∈X.fs,X.H₀ b=none
structure Inv(X:Cx)(tf:List (Addr×Obj))(σ:List (Option V))(H:Hp)(s:Shared):Prop where
 ok:X.Ok
 os:s.os=X.s₀.os
 bare:AllBare s.gens
 base:Un X.fs X.ex X.H₀ H X.s₀.heap s.heap
 loc:∃m,s.heap.Ns X.env.locals m/\∀(i:Nat) (x:Str) (v:V),X.N[i]?=some x->σ[i]?=some (some v)->Vis X.env.scope x->∃u,RelV v u/\jlC X.env s.heap m x u
 cell:∀x c,X.env.cells.lookup x=some c->∃v,s.heap.IsCell c v
 free:H X.env.locals=none
 freeC:∀x c,X.env.cells.lookup x=some c->H c=none
 pin:∀p∈X.pn++tf,s.heap.get? p.1=some p.2/\H p.1=none/\p.1≠X.env.locals/\p.1∉X.fs/\∀v,p.2.data≠.cell v
 hok:HOk X.prog X.w H s.heap
 len:σ.length=X.N.length
section
variable{X:Cx}{tf:List (Addr×Obj)}{σ:List (Option V)}{H H':Hp}{s:Shared}{h':Heap}
theorem Cx.Ok.nofr(ok:X.Ok){b:Addr}{o:Obj}(e:X.base.get? b=some o):b∉X.fs:=fun hb=>by have:=(ok.funs.mem hb).1;rw[e]at this;cases this
theorem Inv.bs(I:Inv X tf σ H s):∀b o,X.base.get? b=some o->s.heap.get? b=some o/\H b=none:=fun b o e=>⟨I.base.keep b o (I.ok.bs b o e).1 (I.ok.bs b o e).2 (I.ok.nofr e) (I.ok.noex b o e),I.base.free b o (I.ok.bs b o e).1 (I.ok.bs b o e).2 (I.ok.noex b o e)⟩
theorem Inv.bk(I:Inv X tf σ H s):∀b o,X.base.get? b=some o->s.heap.get? b=some o:=fun b o e=>(I.bs b o e).1
theorem Inv.mod(I:Inv X tf σ H s):Mod X.K X.mg X.base:=I.ok.mod
theorem Inv.kIn(I:Inv X tf σ H s):X.K.In s.heap:=I.ok.mod.kin.keeps I.bk
theorem Inv.fr(I:Inv X tf σ H s):∃m,Fr X.base X.env.locals s.heap m:=
 let ⟨m,hn,_⟩:=I.loc
 ⟨m,hn,I.bk,Yx I.ok.bsz I.ok.above⟩
theorem Inv.lt(I:Inv X tf σ H s):X.env.locals<s.heap.objs.size:=let ⟨_,hn,_⟩:=I.loc;hn.lt
theorem Inv.sz(I:Inv X tf σ H s):X.s₀.heap.objs.size<=s.heap.objs.size:=Yx I.ok.above (yK I.lt)
theorem Inv.nofs(I:Inv X tf σ H s){a:Addr}(h:s.heap.objs.size<=a):a∉X.fs:=fun hb=>by obtain⟨_,o,ho,_⟩:=I.ok.funs.mem hb;exact absurd (Yc (Yp ho) (Yx I.sz h)) (YH _)
theorem Inv.cne(I:Inv X tf σ H s):∀x c,X.env.cells.lookup x=some c->c≠X.env.locals:=fun x c e z=>by obtain⟨v,o,ho,hd⟩:=I.cell x c e;obtain⟨m,⟨o',es,ep,ho',hd',_⟩,_⟩:=I.loc;rw[z,ho']at ho;cases ho;rw[hd']at hd;cases hd
theorem Inv.funs(I:Inv X tf σ H s):s.heap.FunFrames X.base X.outer:=by
 have all:∀(l:List Env),(∀b∈frs l,b∈X.fs)->X.s₀.heap.FunFrames X.base l->s.heap.FunFrames X.base l:=by
  intro l;induction l with
  | nil=>intro _ _;trivial
  | cons env r ih=>intro hs hl;obtain⟨hk,⟨L,o,hf,hn,ho,hd⟩,hr⟩:=hl;have hL:L∈X.fs:=hs L (by unfold frs;rw[Kf,hf];exact Yd);obtain⟨sl,e⟩:=I.base.slot L o ho (I.ok.frf L hL) hL fun z=>I.ok.exfs L z hL;exact⟨hk,⟨L,_,hf,hn,e,hd⟩,ih (fun b hb=>hs b (by unfold frs;rw[Kf,hf];exact Yg _ hb)) hr⟩
 exact all X.outer (fun _ hb=>hb) I.ok.funs
theorem Inv.stack(I:Inv X tf σ H s):s.heap.FunFrames X.base X.stack:=by
 rcases I.ok.stk with e | ⟨e,hf⟩
 . rw[e];exact I.funs
 . rw[e];obtain⟨m,hn,_⟩:=I.loc;refine .cons (by rw[I.ok.kind];decide) hf hn ?_ I.funs;exact Heap.get?_none_of_le (Yx I.ok.bsz I.ok.above)
theorem Inv.stkSub(I:Inv X tf σ H s):∀b∈frs X.stack,b∈X.env.locals::X.fs:=fun b hb=>by
 rcases I.ok.stk with e | ⟨e,hf⟩
 . rw[e]at hb;exact Yg _ hb
 . rw[e]at hb;unfold frs at hb;rw[Kf,hf]at hb;exact hb
theorem Inv.stkFree(I:Inv X tf σ H s):∀b∈frs X.stack,H b=none:=fun b hb=>by
 rcases Yj.mp (I.stkSub b hb)with e | hb
 . rw[e];exact I.free
 . obtain⟨_,o,ho,_⟩:=I.ok.funs.mem hb;exact I.base.free b o ho (I.ok.frf b hb) fun z=>I.ok.exfs b z hb
theorem Inv.step{g':Array GenState}{t':Nat}{d':Drawn}{ch:List Addr}(I:Inv X tf σ H s)
 (hch:∀b∈ch,(b∈X.ex\/X.s₀.heap.objs.size<=b)/\b≠X.env.locals/\(∀x c,X.env.cells.lookup x=some c->c≠b)/\∀p∈X.pn++tf,p.1≠b)
 (keep:∀b o,b≠X.env.locals->b∉X.fs->b∉ch->s.heap.get? b=some o->H b=none->h'.get? b=some o)
 (slot:∀b o,b≠X.env.locals->b∈X.fs->b∉ch->s.heap.get? b=some o->H b=none->∃sl,h'.get? b=some { o with slots:=sl }) (free:∀b o,b∉ch->s.heap.get? b=some o->H b=none->H' b=none)
 (there:∀b o,b∉ch->s.heap.get? b=some o->∃o',h'.get? b=some o')
 (tups:∀b xs,H b=some (.tup xs)->H' b=some (.tup xs)) (frzs:∀b o u,H b=some (.frz o u)->H' b=some (.frz o u)) (tbls:∀b ps,H b=some (.tbl ps)->∃more,H' b=some (.tbl (ps++more)))
 (ns:∀m,s.heap.Ns X.env.locals m->h'.Ns X.env.locals m) (hok:HOk X.prog X.w H' h') (hg:AllBare g') :
 Inv X tf σ H' { s with heap:=h',gens:=g',drawn:=d',toks:=t' }:=by
 have neL:∀b o,X.s₀.heap.get? b=some o->b≠X.env.locals:=fun b o e=>Yo (Yc (Yp e) I.ok.above);have neC:∀b o,X.s₀.heap.get? b=some o->b∉X.ex->b∉ch:=fun b o e hx hb=>by
  rcases(hch b hb).1 with z | z
  . exact hx z
  . exact absurd (Yc (Yp e) z) (YH _)
 have cellK:∀x c,X.env.cells.lookup x=some c->∀v,s.heap.IsCell c v->h'.IsCell c v:=fun x c e v ⟨o,ho,hd⟩=>by
  have nch:c∉ch:=fun z=>(hch c z).2.2.1 x c e rfl;by_cases hc:c∈X.fs
  . obtain⟨sl,q⟩:=slot c o (I.cne x c e) hc nch ho (I.freeC x c e);exact⟨_,q,hd⟩
  . exact⟨o,keep c o (I.cne x c e) hc nch ho (I.freeC x c e),hd⟩
 refine⟨I.ok,I.os,hg,⟨fun b o e n hb hx=>?_,fun b o e n hb hx=>?_,fun b o e n hx=>?_,fun b o e hx=>?_,fun b xs e=>tups b xs (I.base.tups b xs e),fun b o xs e=>frzs b o xs (I.base.frzs b o xs e),fun b ps e=>?_⟩,?_,fun x c e=>?_,?_,fun x c e=>?_,fun p hp=>?_,hok,I.len⟩
 . exact keep b o (neL b o e) hb (neC b o e hx) (I.base.keep b o e n hb hx) (I.base.free b o e n hx)
 . obtain⟨sl,e1⟩:=I.base.slot b o e n hb hx;obtain⟨sl',e2⟩:=slot b _ (neL b o e) hb (neC b o e hx) e1 (I.base.free b o e n hx);exact⟨sl',e2⟩
 . obtain⟨o',e1⟩:=I.base.there b o e hx;exact free b o' (neC b o e hx) e1 (I.base.free b o e n hx)
 . obtain⟨o',e1⟩:=I.base.there b o e hx;exact there b o' (neC b o e hx) e1
 . obtain⟨m1,e1⟩:=I.base.tbls b ps e;obtain⟨m2,e2⟩:=tbls b _ e1;exact⟨m1++m2,by rw[e2,Array.append_assoc]⟩
 . obtain⟨m,hn,hl⟩:=I.loc;refine⟨m,ns m hn,fun i x v e1 e2 e3=>?_⟩;obtain⟨u,r,l⟩:=hl i x v e1 e2 e3;refine⟨u,r,?_⟩;rcases l with l | ⟨k,c,e,z⟩
   . exact .inl l
   . exact .inr ⟨k,c,e,cellK x c e _ z⟩
 . obtain⟨v,z⟩:=I.cell x c e;exact⟨v,cellK x c e v z⟩
 . obtain⟨m,⟨o,_,_,ho,_⟩,_⟩:=I.loc;exact free _ o (fun z=>(hch _ z).2.1 rfl) ho I.free
 . obtain⟨v,o,ho,hd⟩:=I.cell x c e;exact free c o (fun z=>(hch c z).2.2.1 x c e rfl) ho (I.freeC x c e)
 . obtain⟨e,n,ne,nf,d⟩:=I.pin p hp;have nch:p.1∉ch:=fun z=>(hch p.1 z).2.2.2 p hp rfl;exact⟨keep p.1 p.2 ne nf nch e n,free p.1 p.2 nch e n,ne,nf,d⟩
theorem Inv.un{t':Nat}(I:Inv X tf σ H s)(u:Un X.fs [] H H' s.heap h')(hok:HOk X.prog X.w H' h'):Inv X tf σ H' { s with heap:=h',toks:=t' }:=by
 obtain⟨m,⟨o,es,ep,ho,r⟩,_⟩:=id I.loc;obtain⟨sl,hL⟩:=u.any ho I.free (by simp);exact I.step (g':=s.gens) (d':=s.drawn) (ch:=[]) (fun _ z=>nomatch z) (fun b o _ hb _ e n=>u.keep b o e n hb (by simp)) (fun b o _ hb _ e n=>u.slot b o e n hb (by simp)) (fun b o _ e n=>u.free b o e n (by simp)) (fun b o _ e=>u.there b o e (by simp)) u.tups u.frzs u.tbls (fun m' hm=>by obtain⟨o',es',ep',ho',r'⟩:=hm;rw[ho]at ho';cases ho';exact⟨_,es',ep',hL,r'⟩) hok I.bare
theorem Inv.call{g':Array GenState}{t':Nat}{d':Drawn}{ch:List Addr}(I:Inv X tf σ H s)(u:Un (frs X.stack) ch H H' s.heap h')(hok:HOk X.prog X.w H' h')(hg:AllBare g')
 (hch:∀b∈ch,(b∈X.ex\/X.s₀.heap.objs.size<=b)/\b≠X.env.locals/\(∀x c,X.env.cells.lookup x=some c->c≠b)/\∀p∈X.pn++tf,p.1≠b) :
 Inv X tf σ H' { s with heap:=h',gens:=g',drawn:=d',toks:=t' }:=by
 obtain⟨m,⟨o,es,ep,ho,r⟩,_⟩:=id I.loc;obtain⟨sl,hL⟩:=u.any ho I.free fun z=>(hch _ z).2.1 rfl;exact I.step (ch:=ch) hch (fun b o hL hb hc e n=>u.keep b o e n (fun z=>(Yj.mp (I.stkSub b z)).elim hL hb) hc) (fun b o _ _ hc e n=>u.any e n hc) (fun b o hc e n=>u.free b o e n hc) (fun b o hc e=>u.there b o e hc) u.tups u.frzs u.tbls (fun m' hm=>by obtain⟨o',es',ep',ho',r'⟩:=hm;rw[ho]at ho';cases ho';exact⟨_,es',ep',hL,r'⟩) hok hg
theorem Inv.turned{t':Nat}{it:Addr}(I:Inv X tf σ H s)(k:∀b o,b≠it->s.heap.get? b=some o->h'.get? b=some o)(hn:H it=none)(hL:it≠X.env.locals)
 (h1:it∈X.ex\/X.s₀.heap.objs.size<=it) (h2:∀x c,X.env.cells.lookup x=some c->c≠it) (h3:∀p∈X.pn++tf,p.1≠it):Inv X tf σ H { s with heap:=h',toks:=t' }:=by
 have nit:∀b u,H b=some u->b≠it:=fun b u e z=>by rw[z,hn]at e;cases e
 refine I.step (g':=s.gens) (d':=s.drawn) (ch:=[it]) (fun b hb=>?_) (fun b o _ _ hc e _=>k b o (fun z=>hc (by simp[z])) e) (fun b o _ _ hc e _=>⟨o.slots,k b o (fun z=>hc (by simp[z])) e⟩) (fun _ _ _ _ n=>n)
  (fun b o hc e=>⟨o,k b o (fun z=>hc (by simp[z])) e⟩) (fun _ _ e=>e) (fun _ _ _ e=>e) (fun b ps e=>⟨#[],by rw[e];simp⟩) (fun m hm=>?_) (fun b u e=>?_) I.bare
 . have e:b=it:=by simpa using hb
   subst e;exact⟨h1,hL,h2,h3⟩
 . obtain⟨o,es,ep,ho,r⟩:=hm;exact⟨o,es,ep,k _ o (Ne.symm hL) ho,r⟩
 . refine(I.hok b u e).stay (fun c v hc q=>k c v ?_ q) (fun _ q=>q) fun _ _ q=>q;rcases hc with z | z
   . rw[z];exact nit b u e
   . exact nit c _ z
theorem Inv.tok(I:Inv X tf σ H s)(t:Nat):Inv X tf σ H { s with toks:=t }:=I.un (h':=s.heap) (t':=t) Un.refl I.hok
theorem Inv.kept{t':Nat}(I:Inv X tf σ H s)(k:∀b u,s.heap.get? b=some u->h'.get? b=some u):Inv X tf σ H { s with heap:=h',toks:=t' }:=I.un (Un.kept k) (I.hok.kept k)
theorem Inv.laid{a:Addr}{o:HO}{t':Nat}(I:Inv X tf σ H s)(k:∀b u,s.heap.get? b=some u->h'.get? b=some u)(hp:s.heap.objs.size<=a)(new:ObjOk X.prog X.w (upd H a o) h' a o):
 Inv X tf σ (upd H a o) { s with heap:=h',toks:=t' }:=I.un (Un.laid k hp (I.hok.fresh hp)) (I.hok.laid k hp new)
theorem Inv.write{x e:Addr}{o:HO}{t':Nat}(I:Inv X tf σ H s)(mu:Mut (H x))(he:e=x\/H e=some (.own x))(k:∀b u,b≠e->s.heap.get? b=some u->h'.get? b=some u)(heo:∃u,h'.get? e=some u)
 (new:ObjOk X.prog X.w (upd H x o) h' x o):Inv X tf σ (upd H x o) { s with heap:=h',toks:=t' }:=I.un (Un.write mu he k heo) (I.hok.write mu he k heo new)
theorem Inv.weak{σ':List (Option V)}(I:Inv X tf σ H s)(hl:σ'.length=σ.length)(w:∀(i:Nat) v,σ'[i]?=some (some v)->σ[i]?=some (some v)):Inv X tf σ' H s:=⟨I.ok,I.os,I.bare,I.base,let ⟨m,hn,hl'⟩:=I.loc;⟨m,hn,fun i x v e1 e2 e3=>hl' i x v e1 (w i v e2) e3⟩,I.cell,I.free,I.freeC,I.pin,I.hok,hl.trans I.len⟩
theorem Inv.pins_of{pins':List (Addr×Obj)}(I:Inv X tf σ H s)(h:∀p∈pins',s.heap.get? p.1=some p.2/\H p.1=none/\p.1≠X.env.locals/\p.1∉X.fs/\∀v,p.2.data≠.cell v):Inv X pins' σ H s:=⟨I.ok,I.os,I.bare,I.base,I.loc,I.cell,I.free,I.freeC,fun p hp=>(yn.mp hp).elim (fun z=>I.pin p (yC _ z)) (h p),I.hok,I.len⟩
theorem jbA{N:List Str}(hN:N.Nodup){i j:Nat}{x:Str}(a:N[i]?=some x)(b:N[j]?=some x):i=j:=by obtain⟨h1,e1⟩:=Yh.mp a;obtain⟨h2,e2⟩:=Yh.mp b;exact(List.getElem_inj hN).mp (e1.trans e2.symm)
theorem jaH{M:Model}{A:Around}{E:Value->Shared->Prop}{i:Nat}{x:Str}{v:V}{u:Value}{Q:Unit->Shared->Prop}(I:Inv X tf σ H s)(hN:X.N.Nodup)(hi:X.N[i]?=some x)(hx:Loc X.env.scope x)(r:RelV v u)
 (h:∀s',Inv X tf (σ.set i (some v)) H s'->(∃a,Heap.SameBut a s.heap s'.heap/\(a=X.env.locals\/X.env.cells.lookup x=some a))->Q () s') (hf:autoParam (X.fn x=true\/X.env.scope.names.lookup x=some .local) QA.a0._auto_1):wpAny M A (storeName X.env x u) Q E s:=by
 obtain⟨m,hn,hl⟩:=id I.loc;have hcls:(X.env.scope.kind == .class || (X.env.scope.kind == .module && X.env.locals != X.env.globals))=false:=by rw[I.ok.kind];rfl
 have hiσ:i<σ.length:=by rw[I.len];exact(Yh.mp hi).1
 have cne:=I.cne;have tracked:∀{a:Addr} {h':Heap},(∃o,s.heap.get? a=some o/\H a=none)->Heap.SameBut a s.heap h'->HOk X.prog X.w H h':=fun{a h'} ha hs b ob e=>by
  obtain⟨_,_,hfree⟩:=ha;refine(I.hok b ob e).stay (fun c w' hc q=>(hs.2 c ?_).trans q) (fun _ q=>q) fun _ _ q=>q;rintro rfl;rcases hc with rfl | hc
  . rw[hfree]at e;cases e
  . rw[hfree]at hc;cases hc
 rcases hx with hk | hk
 . refine wpAny_storeName_local hk hn (fun h' hn' hs=>?_) hcls;obtain⟨oL,_,_,hoL,_⟩:=id hn;refine h _ ⟨I.ok,I.os,I.bare,⟨fun b o e n hb hx=>?_,fun b o e n hb hx=>?_,I.base.free,fun b o e hx=>?_,I.base.tups,I.base.frzs,I.base.tbls⟩,⟨_,hn',fun j y v' e1 e2 e3=>?_⟩,fun y c e=>?_,I.free,I.freeC,fun p hp=>?_,tracked ⟨oL,hoL,I.free⟩ hs,by simpa using I.len⟩ ⟨_,hs,.inl rfl⟩
   . exact(hs.2 b (Yo (Yc (Yp e) I.ok.above))).trans (I.base.keep b o e n hb hx)
   . obtain⟨sl,e1⟩:=I.base.slot b o e n hb hx;exact⟨sl,(hs.2 b (Yo (Yc (Yp e) I.ok.above))).trans e1⟩
   . obtain⟨o',e1⟩:=I.base.there b o e hx;exact⟨o',(hs.2 b (Yo (Yc (Yp e) I.ok.above))).trans e1⟩
   . by_cases hj:j=i
     . subst hj;rw[hi]at e1;cases e1;rw[YT hiσ]at e2;cases e2;exact⟨u,r,.inl ⟨hk,by simp⟩⟩
     . rw[Yz (Ne.symm hj)]at e2;obtain⟨u',r',q⟩:=hl j y v' e1 e2 e3;refine⟨u',r',?_⟩;rcases q with⟨k,e⟩ | ⟨k,c,e,z⟩
       . refine .inl ⟨k,?_⟩;have:y≠x:=fun e=>hj (jbA hN e1 (e ▸ hi));simp[this,e]
       . exact .inr ⟨k,c,e,z.sameBut hs (cne y c e)⟩
   . obtain⟨w',z⟩:=I.cell y c e;exact⟨w',z.sameBut hs (cne y c e)⟩
   . obtain⟨e,n,ne,nf,d⟩:=I.pin p hp;exact⟨(hs.2 p.1 ne).trans e,n,ne,nf,d⟩
 . have hfn:X.fn x=true:=by
    rcases hf with z | z
    . exact z
    . rw[z]at hk;cases hk
   obtain⟨c,hc⟩:=I.ok.has x (.inl hk);obtain⟨w',z⟩:=I.cell x c hc;refine wpAny_storeName_cell I.ok.kind hk hc z (fun h' hc' hs=>?_);obtain⟨oc,hoc,hocd⟩:=id z;refine h { s with heap:=h' } ⟨I.ok,I.os,I.bare,⟨fun b o e n hb hx=>?_,fun b o e n hb hx=>?_,I.base.free,fun b o e hx=>?_,I.base.tups,I.base.frzs,I.base.tbls⟩,⟨m,hn.sameBut hs (Ne.symm (cne x c hc)),fun j y v' e1 e2 e3=>?_⟩,fun y c' e=>?_,I.free,I.freeC,fun p hp=>?_,tracked ⟨oc,hoc,I.freeC x c hc⟩ hs,by simpa using I.len⟩ ⟨c,hs,.inr hc⟩
   . exact(hs.2 b (Yo (Yc (Yp e) (I.ok.cab x c hfn hc)))).trans (I.base.keep b o e n hb hx)
   . obtain⟨sl,e1⟩:=I.base.slot b o e n hb hx;exact⟨sl,(hs.2 b (Yo (Yc (Yp e) (I.ok.cab x c hfn hc)))).trans e1⟩
   . obtain⟨o',e1⟩:=I.base.there b o e hx;exact⟨o',(hs.2 b (Yo (Yc (Yp e) (I.ok.cab x c hfn hc)))).trans e1⟩
   . by_cases hj:j=i
     . subst hj;rw[hi]at e1;cases e1;rw[YT hiσ]at e2;cases e2;exact⟨u,r,.inr ⟨.inl hk,c,hc,hc'⟩⟩
     . rw[Yz (Ne.symm hj)]at e2;obtain⟨u',r',q⟩:=hl j y v' e1 e2 e3;refine⟨u',r',?_⟩;rcases q with q | ⟨k,c',e,z'⟩
       . exact .inl q
       . refine .inr ⟨k,c',e,z'.sameBut hs ?_⟩;rintro rfl;exact hj (jbA hN e1 (I.ok.inj _ _ _ e hc ▸ hi))
   . by_cases hcc:c'=c
     . subst hcc;exact⟨_,hc'⟩
     . obtain⟨w2,z2⟩:=I.cell y c' e;exact⟨w2,z2.sameBut hs hcc⟩
   . obtain⟨e,n,ne,nf,d⟩:=I.pin p hp;refine⟨(hs.2 p.1 ?_).trans e,n,ne,nf,d⟩;intro q;rw[q,hoc]at e;have q':oc=p.2:=Option.some.inj e;exact d w' (by rw[<-q'];exact hocd)
theorem jbI{M:Model}{A:Around}{E:Value->Shared->Prop}{i:Nat}{x:Str}{v:V}{u:Value}{Q:Unit->Shared->Prop}(I:Inv X tf σ H s)(hN:X.N.Nodup)(hi:X.N[i]?=some x)(hx:Loc X.env.scope x)(r:RelV v u)
 (h:∀s',Inv X tf (σ.set i (some v)) H s'->Q () s') (hf:autoParam (X.fn x=true\/X.env.scope.names.lookup x=some .local) QA.a0._auto_1):wpAny M A (storeName X.env x u) Q E s:=
 jaH I hN hi hx r (fun s' I' _=>h s' I') hf
theorem Inv.call'{s':Shared}{ch:List Addr}(I:Inv X tf σ H s)(ho:s'.os=s.os)(u:Un (frs X.stack) ch H H' s.heap s'.heap)(hok:HOk X.prog X.w H' s'.heap)(hg:AllBare s'.gens)
 (hch:∀b∈ch,(b∈X.ex\/X.s₀.heap.objs.size<=b)/\b≠X.env.locals/\(∀x c,X.env.cells.lookup x=some c->c≠b)/\∀p∈X.pn++tf,p.1≠b):Inv X tf σ H' s':=by
 obtain⟨h',g',d',t',o'⟩:=s';have e:o'=s.os:=ho;subst e;exact I.call (g':=g') (t':=t') (d':=d') u hok hg hch
end
abbrev XK:=Value->Option Addr->Hp->Prop
abbrev St:=List (Option V)
abbrev VK:=V->Hp->Prop
abbrev TE:=St->Hp->VK->Prop
abbrev TT:=St->Hp->(Bool->Hp->Prop)->Prop
abbrev TA:=St->Hp->(List V->Hp->Prop)->Prop
structure Ends where
 nx:St->Hp->Prop
 rt:VK
 bk:St->Hp->Prop:=fun _ _=>False
 ct:St->Hp->Prop:=fun _ _=>False
abbrev TS:=Ends->St->Hp->Prop
def EP(X:Cx)(tf:List (Addr×Obj))(σ:St)(Q:VK)(u:Value)(s':Shared):Prop:=∃v H',Inv X tf σ H' s'/\RelV v u/\Q v H'
def TP(X:Cx)(tf:List (Addr×Obj))(σ:St)(Q:Bool->Hp->Prop)(b:Bool)(s':Shared):Prop:=∃H',Inv X tf σ H' s'/\Q b H'
def AP(X:Cx)(tf:List (Addr×Obj))(σ:St)(Q:List V->Hp->Prop)(us:List Value)(s':Shared):Prop:=∃vs H',Inv X tf σ H' s'/\Vals vs us/\Q vs H'
def SP(X:Cx)(tf:List (Addr×Obj))(D:Ends)(f:Flow)(s':Shared):Prop:=
 match f with
 | .next=>∃σ' H',Inv X tf σ' H' s'/\D.nx σ' H'
 | .brk=>∃σ' H',Inv X tf σ' H' s'/\D.bk σ' H'
 | .cont=>∃σ' H',Inv X tf σ' H' s'/\D.ct σ' H'
 | .ret u=>∃v σ' H',Inv X tf σ' H' s'/\RelV v u/\D.rt v H'
def PE(X:Cx)(e:Expr)(t:TE):Prop:=∀(tf:List (Addr×Obj)) (s:Shared) (σ:St) (H:Hp) (Q:VK),Inv X tf σ H s->t σ H Q->wpAny (model X.prog X.w) X.A (eval e X.env) (EP X tf σ Q) X.xe s
def PT(X:Cx)(e:Expr)(t:TT):Prop:=∀(tf:List (Addr×Obj)) (s:Shared) (σ:St) (H:Hp) (Q:Bool->Hp->Prop),Inv X tf σ H s->t σ H Q->wpAny (model X.prog X.w) X.A (isTrue e X.env (eval e X.env)) (TP X tf σ Q) X.xe s
def PW(X:Cx)(e:Expr)(t:TT):Prop:=∀(whole:Sem Value) (tf:List (Addr×Obj)) (s:Shared) (σ:St) (H:Hp) (Q:Bool->Hp->Prop),Inv X tf σ H s->t σ H Q->wpAny (model X.prog X.w) X.A (isTrue e X.env whole) (TP X tf σ Q) X.xe s
theorem PW.pt{X:Cx}{e:Expr}{t:TT}(h:PW X e t):PT X e t:=h _
def PA(X:Cx)(es:List Expr)(t:TA):Prop:=∀(pos:Pos) (tf:List (Addr×Obj)) (s:Shared) (σ:St) (H:Hp) (Q:List V->Hp->Prop),Inv X tf σ H s->t σ H Q->wpAny (model X.prog X.w) X.A (spliced (backTo pos (starEach es X.env))) (AP X tf σ Q) X.xe s
def PS(X:Cx)(st:Stmt)(t:TS):Prop:=∀(tf:List (Addr×Obj)) (s:Shared) (σ:St) (H:Hp) (D:Ends),Inv X tf σ H s->t D σ H->wpAny (model X.prog X.w) X.A (exec st X.env) (SP X tf D) X.xe s
def PSs(X:Cx)(st:List Stmt)(t:TS):Prop:=∀(tf:List (Addr×Obj)) (s:Shared) (σ:St) (H:Hp) (D:Ends),Inv X tf σ H s->t D σ H->wpAny (model X.prog X.w) X.A (execs st X.env) (SP X tf D) X.xe s
theorem qe{α:Type}{t:Sem α}{Q Q':α->Shared->Prop}{M:Model}{A:Around}{E:Value->Shared->Prop}{s:Shared}(h:wpAny M A t Q E s)(hQ:∀a s,Q a s->Q' a s):wpAny M A t Q' E s:=ym h hQ fun _ _ x=>x
section
variable{X:Cx}
theorem bin{a b:Expr}{ta tb:TE}(ha:PE X a ta)(hb:PE X b tb){tf:List (Addr×Obj)}{s:Shared}{σ:St}{H:Hp}{R:V->V->Hp->Prop}(I:Inv X tf σ H s)(h:ta σ H fun x H1=>tb σ H1 fun y H2=>R x y H2)
 {α:Type} {Q:α->Shared->Prop} {f:Value->Value->Sem α}
 (hf:∀v u s2 x y H2,Inv X tf σ H2 s2->RelV x v->RelV y u->R x y H2->wpAny (model X.prog X.w) X.A (f v u) Q X.xe s2) :
 wpAny (model X.prog X.w) X.A (eval a X.env) (fun v s₁=>wpAny (model X.prog X.w) X.A (eval b X.env) (fun u s₂=>wpAny (model X.prog X.w) X.A (f v u) Q X.xe s₂) X.xe s₁) X.xe s:=by
 refine qe (ha tf s σ H _ I h) fun v s1 zz=>?_;obtain⟨x,H1,I1,r1,q1⟩:=zz;refine qe (hb tf s1 σ H1 _ I1 q1) fun u s2 zz=>?_;obtain⟨y,H2,I2,r2,q2⟩:=zz;exact hf v u s2 x y H2 I2 r1 r2 q2
def Z5(i:Nat):TE:=fun σ H Q=>∃v,σ[i]?=some (some v)/\Q v H
def tC(v:V):TE:=fun _ H Q=>Q v H
theorem Qe{i:Nat}{x:Str}{pos:Pos}(hN:X.N[i]?=some x)(hv:Vis X.env.scope x)(hd:(x == ("__debug__":Str))=false:=by decide)(hcd:(x == ("__classdict__":Str))=false:=by decide):PE X (.Name x pos) (Z5 i):=by
 intro tf s σ H Q I h;obtain⟨v,e,h⟩:=h;obtain⟨m,hn,hl⟩:=I.loc;obtain⟨u,r,l⟩:=hl i x v hN e hv;have fin:EP X tf σ Q u s:=⟨v,H,I,r,h⟩;rcases l with⟨hk,hm⟩ | ⟨hk,c,hc,hcell⟩
 . exact wpAny_Name (wpAny_loadName_local I.ok.kind hk hn hm fin) hd
 . rcases hk with hk | hk
   . exact wpAny_Name (wpAny_loadName_cell I.ok.kind hk hc hcell fin) hd
   . exact wpAny_Name (wpAny_loadName_free I.ok.kind hk hc hcell fin hcd) hd
theorem jcA{i j pos}:PE X (.Constant (.int i) j pos) (tC (.int i)):=fun _ _ _ H _ I h=>wpAny_Constant_int ⟨.int i,H,I.tok _,⟨_,rfl⟩,h⟩
theorem jke{b j pos}:PE X (.Constant (.bool b) j pos) (tC (.bl b)):=fun _ _ _ H _ I h=>Constant_bool ⟨.bl b,H,I,rfl,h⟩
theorem jfG{x j pos}:PE X (.Constant (.str x) j pos) (tC (.str x)):=fun _ _ _ H _ I h=>Calls.Constant_str ⟨.str x,H,I.tok _,⟨_,rfl⟩,h⟩
def Gl(X:Cx)(x:Str):Prop:=X.env.kindOf x=some .globalImplicit
theorem jdk{E:Value->Shared->Prop}{tf:List (Addr×Obj)}{s:Shared}{σ:St}{H:Hp}{x:Str}{u:Value}{pos:Pos}{Q:Value->Shared->Prop}(I:Inv X tf σ H s)(hg:Gl X x)(hm:X.mg x=some u)(h:Q u s)
 (hd:(x == ("__debug__":Str))=false:=by decide):wpAny (model X.prog X.w) X.A (eval (.Name x pos) X.env) Q E s:=
 Calls.Name_function_global I.ok.kind hg (Calls.loadGlobal_global (by rw[I.ok.glob];exact I.mod.glob.keeps I.bk) hm h) hd
theorem JE{E:Value->Shared->Prop}{tf:List (Addr×Obj)}{s:Shared}{σ:St}{H:Hp}{x:Str}{u:Value}{pos:Pos}{Q:Value->Shared->Prop}(I:Inv X tf σ H s)(hg:Gl X x)(hm:X.mg x=none)(hv:bootBuiltins x=some u)(h:Q u s)
 (hn:x ≠ "__name__":=by decide) (hd:(x == ("__debug__":Str))=false:=by decide):wpAny (model X.prog X.w) X.A (eval (.Name x pos) X.env) Q E s:=by
 obtain⟨mb,h1,h2⟩:=I.mod.blt;exact Calls.Name_function_global I.ok.kind hg (Calls.loadGlobal_builtin (by rw[I.ok.glob];exact I.mod.glob.keeps I.bk) hm (by rw[I.ok.blt];exact h1.keeps I.bk) ((h2 x hn).trans hv) h) hd
theorem jbi{x:Str}{v:V}{u:Value}{pos:Pos}(hg:Gl X x)(hm:X.mg x=some u)(r:RelV v u)(hd:(x == ("__debug__":Str))=false:=by decide):PE X (.Name x pos) (tC v):=fun _ _ _ H _ I h=>jdk I hg hm ⟨v,H,I,r,h⟩ hd
theorem jg1{x:Str}{v:V}{u:Value}{pos:Pos}(hg:Gl X x)(hm:X.mg x=none)(hv:bootBuiltins x=some u)(r:RelV v u)(hn:x ≠ "__name__":=by decide)(hd:(x == ("__debug__":Str))=false:=by decide):PE X (.Name x pos) (tC v):=fun _ _ _ H _ I h=>JE I hg hm hv ⟨v,H,I,r,h⟩ hn hd
variable{a b:Expr}{ta tb:TE}{pos:Pos}
def PC(X:Cx)(op:CmpOp)(a b:Expr)(t:TE):Prop:=
 ∀(tf:List (Addr×Obj)) (s:Shared) (σ:St) (H:Hp) (Q:VK),Inv X tf σ H s->t σ H Q->
   wpAny (model X.prog X.w) X.A (eval a X.env) (fun v s₁=>wpAny (model X.prog X.w) X.A (eval b X.env) (fun u s₂=>wpAny (model X.prog X.w) X.A (compareOp op v u) (EP X tf σ Q) X.xe s₂) X.xe s₁) X.xe s
theorem nobehind(b:Expr){op:CmpOp}(h:op≠.In)(h2:op≠.NotIn):behindInMarks op b=false:=by
 have e1:(op == CmpOp.In)=false:=by cases op <;> first | rfl | exact absurd rfl h
 have e2:(op == CmpOp.NotIn)=false:=by cases op <;> first | rfl | exact absurd rfl h2
 cases b <;> simp[behindInMarks,e1,e2]
def tB(t:TE):TT:=fun σ H Q=>t σ H fun x H1=>∃c,x=.bl c/\Q c H1
theorem jln{op:CmpOp}{t:TE}(h:PC X op a b t)(h1:autoParam (behindInMarks op b=false) QA.a2._auto_1):PT X (.Compare a [op] [b] pos) (tB t):=by intro tf s σ H Q I hw;refine wpAny_isTrue_Compare1 (qe (h tf s σ H _ I hw) fun v s1 h1=>qe h1 fun u s2 h2=>qe h2 fun c s3 zz=>?_) h1;obtain⟨x,H1,I1,r1,q1⟩:=zz;obtain⟨d,rfl,q⟩:=q1;cases r1;exact YR ⟨H1,I1,q⟩
theorem jiI{e:Expr}{t:TE}(h:PE X e t)(he:∀whole,isTrue e X.env whole=(do let v <- whole;standAt e.pos;holding [v] (truthy v)):=by intro _;rfl):PT X e (tB t):=by intro tf s σ H Q I hw;refine isTrue_plain (qe (h tf s σ H _ I hw) fun v s1 zz=>?_) (he _);obtain⟨x,H1,I1,r1,q1⟩:=zz;obtain⟨d,rfl,q⟩:=q1;cases r1;exact YR ⟨H1,I1,q⟩
variable{tA tB':TT}{Zb:List Expr}
def jkQ(t u:TT):TT:=fun σ H Q=>t σ H fun c H1=>if c=true then u σ H1 Q else Q false H1
def tOr(t u:TT):TT:=fun σ H Q=>t σ H fun c H1=>if c=true then Q true H1 else u σ H1 Q
def jkq(t:TT):TT:=fun σ H Q=>t σ H fun c H1=>Q (!c) H1
theorem jgs(ha:PT X a tA):PW X (.BoolOp .And [a] pos) tA:=by
 intro wh tf s σ H Q I h;refine isTrue_and (qe (ha tf s σ H Q I h) fun c s1 e=>?_);cases c with
 | true=>exact isTrue_and_nil e
 | false=>exact e
theorem jjc(ha:PT X a tA):PW X (.BoolOp .Or [a] pos) tA:=by
 intro wh tf s σ H Q I h;refine isTrue_or (qe (ha tf s σ H Q I h) fun c s1 e=>?_);cases c with
 | false=>exact isTrue_or_nil e
 | true=>exact e
theorem jiQ(ha:PT X a tA)(hb:PW X (.BoolOp .And (b::Zb) pos) tB'):PW X (.BoolOp .And (a::b::Zb) pos) (jkQ tA tB'):=by
 intro wh tf s σ H Q I h;refine isTrue_and (qe (ha tf s σ H _ I h) fun c s1 zz=>?_);obtain⟨H1,I1,q1⟩:=zz;cases c with
 | true=>exact hb wh tf s1 σ H1 Q I1 q1
 | false=>exact⟨H1,I1,q1⟩
theorem jjN(ha:PT X a tA)(hb:PW X (.BoolOp .Or (b::Zb) pos) tB'):PW X (.BoolOp .Or (a::b::Zb) pos) (tOr tA tB'):=by
 intro wh tf s σ H Q I h;refine isTrue_or (qe (ha tf s σ H _ I h) fun c s1 zz=>?_);obtain⟨H1,I1,q1⟩:=zz;cases c with
 | true=>exact⟨H1,I1,q1⟩
 | false=>exact hb wh tf s1 σ H1 Q I1 q1
theorem jh9(ha:PT X a tA):PT X (.UnaryOp .Not a pos) (jkq tA):=by intro tf s σ H Q I h;exact isTrue_not (ha tf s σ H (fun c H1=>Q (!c) H1) I h)
def jhs(ta tb:TE):TE:=fun σ H Q=>ta σ H fun x H1=>∃c,x=.bl c/\if c=true then tb σ H1 Q else Q (.bl false) H1
def jjO(ta tb:TE):TE:=fun σ H Q=>ta σ H fun x H1=>∃c,x=.bl c/\if c=true then Q (.bl true) H1 else tb σ H1 Q
def jhj(ta:TE):TE:=fun σ H Q=>ta σ H fun x H1=>∃c,x=.bl c/\Q (.bl (!c)) H1
theorem jib{op}{t:TE}(h:PE X a t):PE X (.BoolOp op [a] pos) t:=fun tf s σ H Q I hw=>BoolOp_one (h tf s σ H Q I hw)
theorem jia(ha:PE X a ta)(hb:PE X (.BoolOp .And (b::Zb) pos) tb):PE X (.BoolOp .And (a::b::Zb) pos) (jhs ta tb):=by
 intro tf s σ H Q I h;refine BoolOp_and (qe (ha tf s σ H _ I h) fun v s1 zz=>?_);obtain⟨x,H1,I1,r1,q1⟩:=zz;obtain⟨c,rfl,q1⟩:=q1;cases r1;refine YR ?_;cases c with
 | true=>exact hb tf s1 σ H1 Q I1 q1
 | false=>exact⟨.bl false,H1,I1,rfl,q1⟩
theorem jkx(ha:PE X a ta)(hb:PE X (.BoolOp .Or (b::Zb) pos) tb):PE X (.BoolOp .Or (a::b::Zb) pos) (jjO ta tb):=by
 intro tf s σ H Q I h;refine BoolOp_or (qe (ha tf s σ H _ I h) fun v s1 zz=>?_);obtain⟨x,H1,I1,r1,q1⟩:=zz;obtain⟨c,rfl,q1⟩:=q1;cases r1;refine YR ?_;cases c with
 | false=>exact hb tf s1 σ H1 Q I1 q1
 | true=>exact⟨.bl true,H1,I1,rfl,q1⟩
theorem ji0(ha:PE X a ta):PE X (.UnaryOp .Not a pos) (jhj ta):=by intro tf s σ H Q I h;refine UnaryOp_ (qe (ha tf s σ H _ I h) fun v s1 zz=>?_);obtain⟨x,H1,I1,r1,q1⟩:=zz;obtain⟨c,rfl,q1⟩:=q1;cases r1;exact not_of (YR ⟨.bl (!c),H1,I1,rfl,q1⟩)
def tIf(t:TT)(ta tb:TE):TE:=fun σ H Q=>t σ H fun c H1=>if c=true then ta σ H1 Q else tb σ H1 Q
theorem jfJ{c:Expr}(hc:PT X c tA)(ha:PE X a ta)(hb:PE X b tb):PE X (.IfExp c a b pos) (tIf tA ta tb):=by
 intro tf s σ H Q I h;refine wpAny_IfExp (qe (hc tf s σ H _ I h) fun d s1 zz=>?_);obtain⟨H1,I1,q1⟩:=zz;cases d with
 | true=>exact ha tf s1 σ H1 Q I1 q1
 | false=>exact hb tf s1 σ H1 Q I1 q1
end
def qW(K:PySem.W.Frag)(H:Hp)(a:Addr)(xs:List V):Prop:=
 Rd H a (.lst xs) \/
   ∃(o:Obj) (tm:Array Value) (n:Nat),K.lookup a=some o ∧ o.cls=.type "list" ∧ o.dict=none ∧ o.data=.seq tm n ∧ tm.size ≤ sizeLine ∧ Vals xs tm.toList
def SqT(K:PySem.W.Frag)(H:Hp)(a:Addr)(xs:List V):Prop:=
 Rd H a (.tup xs) \/
   ∃(o:Obj) (tm:Array Value) (n:Nat),K.lookup a=some o ∧ o.cls=.type "tuple" ∧ o.data=.seq tm n ∧ tm.size ≤ sizeLine ∧ Vals xs tm.toList
def jk6:Value->Option V
 | .none=>some .non
 | .bool b=>some (.bl b)
 | .int i _=>some (.int i)
 | .str x _=>some (.str x)
 | .bytes b _=>some (.byt b)
 | .float b _=>some (.flt b)
 | .ref a=>some (.ref a)
 | .type n=>some (.ty n)
 | _=>none
theorem RelV.abs{x:V}{u:Value}(r:RelV x u):jk6 u=some x:=by
 cases x with
 | non=>cases r;rfl
 | bl _=>cases r;rfl
 | int _=>obtain⟨t,rfl⟩:=r;rfl
 | str _=>obtain⟨t,rfl⟩:=r;rfl
 | byt _=>obtain⟨t,rfl⟩:=r;rfl
 | flt _=>obtain⟨t,rfl⟩:=r;rfl
 | ref _=>cases r;rfl
 | ty _=>cases r;rfl
theorem RelV.inj{x y:V}{u:Value}(r:RelV x u)(q:RelV y u):x=y:=Option.some.inj (r.abs.symm.trans q.abs)
theorem Vals.inj:∀{xs ys:List V} {us:List Value},Vals xs us->Vals ys us->xs=ys:=fun{xs ys us} h=>by
 induction h generalizing ys with
 | nil=>intro h;cases h;rfl
 | cons r _ ih=>intro h;cases h with | cons q t=>rw[r.inj q,ih t]
section
variable{X:Cx}{tf:List (Addr×Obj)}{σ:St}{H:Hp}{s:Shared}{a:Addr}{xs ys:List V}
theorem SqT.of{K:PySem.W.Frag}(h:H a=some (.tup xs)):SqT K H a xs:=.inl (.inl h)
theorem Inv.list(I:Inv X tf σ H s)(h:qW X.K H a xs):∃tm:List Value,Vals xs tm/\PlainL s.heap a tm.toArray/\xs.length<=sizeLine:=by
 rcases h with h | ⟨o,tm,n,hk,hc,hd,hs,hz,r⟩
 . obtain⟨z,tm,n,r,e⟩:=h.ok I.hok;exact⟨tm,r,⟨_,n,e,rfl,rfl,rfl⟩,z⟩
 . refine⟨tm.toList,r,⟨o,n,I.kIn a o hk,hc,hd,by simpa using hs⟩,?_⟩;have e:=r.length;simp only[yg]at e;omega
theorem Inv.tuple(I:Inv X tf σ H s)(h:SqT X.K H a xs):∃tm:List Value,Vals xs tm/\IsTup s.heap a tm.toArray/\xs.length<=sizeLine:=by
 rcases h with h | ⟨o,tm,n,hk,hc,hs,hz,r⟩
 . obtain⟨z,tm,r,p⟩:=h.ok I.hok;exact⟨tm,r,p,z⟩
 . refine⟨tm.toList,r,⟨o,I.kIn a o hk,hc,n,by simpa using hs⟩,?_⟩;have e:=r.length;simp only[yg]at e;omega
theorem Inv.list_inj(I:Inv X tf σ H s)(h:qW X.K H a xs)(h':qW X.K H a ys):xs=ys:=by
 obtain⟨tm,r,⟨o,n,e,_,_,d⟩,_⟩:=I.list h;obtain⟨its',r',⟨o',n',e',_,_,d'⟩,_⟩:=I.list h';rw[e]at e';cases e';rw[d]at d';injection d' with d1 _;have:tm=its':=by simpa using congrArg Array.toList d1
 subst this;exact r.inj r'
theorem Inv.tuple_inj(I:Inv X tf σ H s)(h:SqT X.K H a xs)(h':SqT X.K H a ys):xs=ys:=by
 obtain⟨tm,r,⟨o,e,_,n,d⟩,_⟩:=I.tuple h;obtain⟨its',r',⟨o',e',_,n',d'⟩,_⟩:=I.tuple h';rw[e]at e';cases e';rw[d]at d';injection d' with d1 _;have:tm=its':=by simpa using congrArg Array.toList d1
 subst this;exact r.inj r'
end
abbrev Cx.wish(X:Cx)(E:Value->Shared->Prop):Cx:={ X with xe:=E }
abbrev Cx.nox(X:Cx):Cx:=X.wish fun _ _=>False
theorem Cx.Ok.wish{X:Cx}(ok:X.Ok)(E:Value->Shared->Prop):(X.wish E).Ok:=⟨ok.mod,ok.kind,ok.glob,ok.blt,ok.above,ok.inj,ok.has,ok.cab,ok.hd,ok.frames,ok.stk,ok.exf,ok.bs,ok.bsz,ok.noex,ok.exfs,ok.funs,ok.frf⟩
theorem Cx.Ok.unwish{X:Cx}{E:Value->Shared->Prop}(ok:(X.wish E).Ok):X.Ok:=⟨ok.mod,ok.kind,ok.glob,ok.blt,ok.above,ok.inj,ok.has,ok.cab,ok.hd,ok.frames,ok.stk,ok.exf,ok.bs,ok.bsz,ok.noex,ok.exfs,ok.funs,ok.frf⟩
section
variable{X:Cx}{tf:List (Addr×Obj)}{σ:St}{H:Hp}{s:Shared}{E:Value->Shared->Prop}
theorem Inv.wish(I:Inv X tf σ H s)(E:Value->Shared->Prop):Inv (X.wish E) tf σ H s:=⟨I.ok.wish E,I.os,I.bare,I.base,I.loc,I.cell,I.free,I.freeC,I.pin,I.hok,I.len⟩
theorem Inv.unwish(I:Inv (X.wish E) tf σ H s):Inv X tf σ H s:=⟨I.ok.unwish,I.os,I.bare,I.base,I.loc,I.cell,I.free,I.freeC,I.pin,I.hok,I.len⟩
theorem SP.unwish{D:Ends}{f:Flow}{s':Shared}(h:SP (X.wish E) tf D f s'):SP X tf D f s':=by
 cases f with
 | next=>obtain⟨σ',H',I,q⟩:=h;exact⟨σ',H',I.unwish,q⟩
 | brk=>obtain⟨σ',H',I,q⟩:=h;exact⟨σ',H',I.unwish,q⟩
 | cont=>obtain⟨σ',H',I,q⟩:=h;exact⟨σ',H',I.unwish,q⟩
 | ret u=>obtain⟨v,σ',H',I,r,q⟩:=h;exact⟨v,σ',H',I.unwish,r,q⟩
theorem PSs.nox{st:List Stmt}{t:TS}(h:PSs X.nox st t):PSs X st t:=fun tf s σ H D I hw=>ym (h tf s σ H D (I.wish _) hw) (fun _ _ q=>q.unwish) fun _ _ z=>False.elim z
end
section
variable{X:Cx}{st:Stmt}{Zb:List Stmt}{t u:TS}{e:Expr}{te:TE}{pos:Pos}
def Qt:TS:=fun D σ H=>D.nx σ H
def jaa(t u:TS):TS:=fun D σ H=>t { D with nx:=u D } σ H
theorem JZ:PSs X [] Qt:=fun _ _ σ H _ I h=>wpAny_execs_nil ⟨σ,H,I,h⟩
theorem qV(h1:PS X st t)(h2:PSs X Zb u):PSs X (st::Zb) (jaa t u):=by
 intro tf s σ H D I h;refine wpAny_execs_cons (qe (h1 tf s σ H { D with nx:=u D } I h) fun f s1 q=>?_);cases f with
 | next=>obtain⟨σ',H',I',q⟩:=q;exact h2 tf s1 σ' H' D I' q
 | ret v=>exact q
 | brk=>exact q
 | cont=>exact q
theorem Zf(h1:PS X st t):PSs X [st] t:=by
 intro tf s σ H D I h;refine wpAny_execs_cons (qe (h1 tf s σ H D I h) fun f s1 q=>?_);cases f with
 | next=>exact wpAny_execs_nil q
 | ret v=>exact q
 | brk=>exact q
 | cont=>exact q
theorem Inv.quiet{tf:List (Addr×Obj)}{σ:St}{H:Hp}{s:Shared}(I:Inv X tf σ H s):interactive X.env=false:=by simp[interactive,I.ok.kind]
def jbF(te:TE):TS:=fun D σ H=>te σ H fun _ H1=>D.nx σ H1
theorem Ze(he:PE X e te)(hs:swapsWith e none pos.line X.env=pure false:=by rfl):PS X (.Expr e pos) (jbF te):=by intro tf s σ H D I h;exact wpAny_Expr_any (qe (he tf s σ H _ I h) fun v s1 ⟨x,H1,I1,r1,q1⟩=>⟨σ,H1,I1,q1⟩) I.quiet hs
def jfC(te:TE):TS:=fun D σ H=>te σ H D.rt
theorem jaZ(he:PE X e te):PS X (.Return (some e) pos) (jfC te):=by intro tf s σ H D I h;exact wpAny_Return_some (qe (he tf s σ H _ I h) fun v s1 ⟨x,H1,I1,r1,q1⟩=>⟨x,σ,H1,I1,r1,q1⟩)
def jaW(c:TT)(t u:TS):TS:=fun D σ H=>c σ H fun b H1=>if b=true then t D σ H1 else u D σ H1
theorem jaD{c:Expr}{a b:List Stmt}{tc:TT}(hc:PT X c tc)(ha:PSs X a t)(hb:PSs X b u):PS X (.If c a b pos) (jaW tc t u):=by
 intro tf s σ H D I h;refine wpAny_If (qe (hc tf s σ H _ I h) fun d s1 zz=>?_);obtain⟨H1,I1,q1⟩:=zz;cases d with
 | true=>exact ha tf s1 σ H1 D I1 q1
 | false=>exact hb tf s1 σ H1 D I1 q1
def Qb:TS:=fun _ _ _=>False
theorem JR{sts:List Stmt}:PSs X sts Qb:=fun _ _ _ _ _ _ h=>h.elim
end
abbrev TG:=V->St->Hp->(St->Hp->Prop)->Prop
abbrev TGs:=List V->St->Hp->(St->Hp->Prop)->Prop
def PG(X:Cx)(target:Expr)(t:TG):Prop:=
 ∀(tf:List (Addr×Obj)) (s:Shared) (σ:St) (H:Hp) (v:V) (u:Value) (Q:St->Hp->Prop),Inv X tf σ H s->RelV v u->t v σ H Q->
   wpAny (model X.prog X.w) X.A (assign target X.env u) (fun _ s'=>∃σ' H',Inv X tf σ' H' s'/\Q σ' H') X.xe s
def PGs(X:Cx)(ts:List Expr)(t:TGs):Prop:=
 ∀(tf:List (Addr×Obj)) (s:Shared) (σ:St) (H:Hp) (vs:List V) (us:List Value) (Q:St->Hp->Prop),Inv X tf σ H s->Vals vs us->t vs σ H Q->
   wpAny (model X.prog X.w) X.A (assignInOrder ((assignEach ts X.env).map (·.2)) us) (fun _ s'=>∃σ' H',Inv X tf σ' H' s'/\Q σ' H') X.xe s
abbrev jik:=V->V->V->Hp->(Hp->Prop)->Prop
def jkA(X:Cx)(t:jik):Prop:=
 ∀(tf:List (Addr×Obj)) (s:Shared) (σ:St) (H:Hp) (o i v:V) (ov iv u:Value) (Q:Hp->Prop),Inv X tf σ H s->RelV o ov->RelV i iv->RelV v u->t o i v H Q->
   wpAny (model X.prog X.w) X.A (setItem ov iv u) (fun _ s'=>∃H',Inv X tf σ H' s'/\Q H') X.xe s
section
variable{X:Cx}{pos:Pos}
def J2(i:Nat):TG:=fun v σ H Q=>Q (σ.set i (some v)) H
theorem Zi{i:Nat}{x:Str}(hN:X.N.Nodup)(hi:X.N[i]?=some x)(hx:Loc X.env.scope x)(hf:autoParam (X.fn x=true\/X.env.scope.names.lookup x=some .local) QA.a0._auto_1):PG X (.Name x pos) (J2 i):=by intro tf s σ H v u Q I r h;exact wpAny_assign_Name (jbI I hN hi hx r (fun s' I'=>⟨_,H,I',h⟩) hf)
def jjd:TGs:=fun vs σ H Q=>vs=[]/\Q σ H
def jhx(t:TG)(u:TGs):TGs:=fun vs σ H Q=>∃v r,vs=v::r/\t v σ H fun σ' H'=>u r σ' H' Q
theorem jf7:PGs X [] jjd:=by intro tf s σ H vs us Q I r h;obtain⟨e,h⟩:=h;subst e;cases r;exact assignInOrder_nil ⟨σ,H,I,h⟩
theorem jf1{e:Expr}{es:List Expr}{t:TG}{u:TGs}(h1:PG X e t)(h2:PGs X es u)
 (hs:(assignEach (e::es) X.env).map (·.2)=assign e X.env::(assignEach es X.env).map (·.2):=by rfl):PGs X (e::es) (jhx t u):=by
 intro tf s σ H vs us Q I r h;obtain⟨v,vr,e1,h⟩:=h;subst e1;cases r with
 | cons r rr=>rw[hs];refine assignInOrder_cons (qe (h1 tf s σ H _ _ _ I r h) fun _ s1 zz=>?_);obtain⟨σ1,H1,I1,q1⟩:=zz;exact h2 tf s1 σ1 H1 _ _ Q I1 rr q1
def jh8(K:PySem.W.Frag)(n:Nat)(t:TGs):TG:=fun v σ H Q=>∃a xs,v=.ref a/\SqT K H a xs/\xs.length=n/\t xs σ H Q
theorem jh4{es:List Expr}{k:Nat}{t:TGs}{n:Nat}(hc:X.calm=true)(h:PGs X es t)
 (hn:(assignEach es X.env).length=n:=by rfl) (hst:(assignEach es X.env).findIdx? (·.1)=none:=by rfl):PG X (.Tuple es k pos) (jh8 X.K n t):=by
 intro tf s σ H v u Q I r hw;obtain⟨a,xs,e1,hq,hl,hw⟩:=hw;subst e1;cases r;obtain⟨tm,rv,ht,hz⟩:=I.tuple hq;refine assign_Tuple_tuple (I.ok.hd hc) ht (by simp[hn,<- hl,rv.length]) hst fun h' hx=>?_;have I1:Inv X tf σ H { s with heap:=h' }:=I.kept (t':=s.toks) fun b o e=>hx b o (Yo (Yp e)) e;exact h tf _ σ H xs _ Q I1 (by simpa using rv) hw
def jj7(to ti:TE)(t:jik):TG:=fun v σ H Q=>to σ H fun o H1=>ti σ H1 fun i H2=>t o i v H2 fun H3=>Q σ H3
theorem jhC{o i:Expr}{to ti:TE}{t:jik}(ho:PE X o to)(hi:PE X i ti)(hs:jkA X t)
 (ha:autoParam (∀v,assign (.Subscript o i pos) X.env v=(do
  let ov <- holding [v] (eval o X.env)
  let iv <- holding [v,ov] (eval i X.env)
  standAt pos
  holding [v,ov,iv] (setItem ov iv v)
  release [v,ov,iv] [])) QA.a3._auto_1):PG X (.Subscript o i pos) (jj7 to ti t):=by
 intro tf s σ H v u Q I r h;rw[ha];refine QB (Y3 (qe (ho tf s σ H _ I h) fun ov s1 zz=>?_));obtain⟨x,H1,I1,r1,q1⟩:=zz;refine QB (Y3 (qe (hi tf s1 σ H1 _ I1 q1) fun iv s2 zz=>?_));obtain⟨y,H2,I2,r2,q2⟩:=zz;refine QB (wpAny_standAt (QB (Y3 (qe (hs tf s2 σ H2 x y v ov iv u _ I2 r1 r2 r q2) fun _ s3 zz=>?_))));obtain⟨H3,I3,q3⟩:=zz;exact wpAny_release ⟨σ,H3,I3,q3⟩
def jaT(te:TE)(g:TG):TS:=fun D σ H=>te σ H fun x H1=>g x σ H1 D.nx
theorem jfy{tg e:Expr}{te:TE}{g:TG}(he:PE X e te)(hg:PG X tg g)(hs:swapsWithSole [tg] e pos.line X.env=pure false:=by rfl)(hw:swappedStores [tg] e X.env=pure none:=by rfl)
 (h1:(assignEach [tg] X.env).map (·.2)=[assign tg X.env]:=by rfl):PS X (.Assign [tg] e pos) (jaT te g):=by
 intro tf s σ H D I h;refine wpAny_Assign_stores (qe (he tf s σ H _ I h) fun v s1 zz=>?_) hs hw;obtain⟨x,H1,I1,r1,q1⟩:=zz;rw[h1];exact qe (hg tf s1 σ H1 x v _ I1 r1 q1) fun _ s2 q=>q
theorem jcM{i:Nat}{x:Str}{e:Expr}{te:TE}{pos':Pos}(hN:X.N.Nodup)(hi:X.N[i]?=some x)(hx:Loc X.env.scope x)(he:PE X e te)(hs:swapsWith e (some (.Name x pos')) pos.line X.env=pure false:=by rfl)(hf:autoParam (X.fn x=true\/X.env.scope.names.lookup x=some .local) QA.a0._auto_1):
 PS X (.Assign [.Name x pos'] e pos) (jaT te (J2 i)):=by
 intro tf s σ H D I h;refine wpAny_Assign_Name (qe (he tf s σ H _ I h) fun v s1 zz=>?_) hs;obtain⟨y,H1,I1,r1,q1⟩:=zz;exact jbI I1 hN hi hx r1 (fun s2 I2=>⟨_,H1,I2,q1⟩) hf
end
structure It where
 go:Nat->Hp->Prop
 yld:Nat->Hp->V->Hp->Prop
 stop:Nat->Hp->Prop
def QZ(X:Cx)(tf:List (Addr×Obj))(H:Hp)(b:Addr):Prop:=H b=none/\b≠X.env.locals/\b∉X.fs/\(b∈X.ex\/X.s₀.heap.objs.size<=b)/\(∀x c,X.env.cells.lookup x=some c->c≠b)/\∀p∈X.pn++tf,p.1≠b
theorem Inv.fpOk{X:Cx}{tf:List (Addr×Obj)}{σ:St}{H H':Hp}{s:Shared}{b:Addr}(I:Inv X tf σ H s)(hb:s.heap.objs.size<=b)(hn:H' b=none):QZ X tf H' b:=by
 refine⟨hn,YS (Yc I.lt hb),I.nofs hb,.inr (Yx I.sz hb),fun x c e z=>?_,fun p hp z=>?_⟩
 . obtain⟨v,q⟩:=I.cell x c e;exact absurd (Yc q.lt (by rw[z];exact hb)) (YH _)
 . exact absurd (Yc (Yp (I.pin p hp).1) (by rw[z];exact hb)) (YH _)
structure Turn(P:Program)(w:World)(K:PySem.W.Frag)(tg:Expr)(J:It)(fp:List Addr)(it:Addr)(tn:Nat->Heap->Prop):Prop where
 mem:it∈fp
 obj:∀i h,tn i h->∀b∈fp,∃o,h.get? b=some o/\∀v,o.data≠.cell v
 keep:∀i h h',tn i h->(∀b∈fp,∀o,h.get? b=some o->h'.get? b=some o)->tn i h'
 item:∀(X:Cx),X.prog=P->X.w=w->X.K=K->X.calm=true->∀(i:Nat) (tf:List (Addr×Obj)) (s:Shared) (σ:St) (H:Hp) (E:Value->Shared->Prop),Inv X tf σ H s->(∀b∈fp,QZ X tf H b)->tn i s.heap->J.go i H->
  wpAny (model P w) X.A (pyNext (.ref it)) (fun r s1=>∃u,r=some u /\
   wpAny (model P w) X.A (letOwnedTupleGo tg (.ref it) u) (fun _ s2=>∃x H',Inv X tf σ H' s2/\RelV x u/\J.yld i H x H'/\tn (i+1) s2.heap/\∀b∈fp,H' b=none) E s1) E s
 done:∀(X:Cx),X.prog=P->X.w=w->X.K=K->X.calm=true->∀(i:Nat) (tf:List (Addr×Obj)) (s:Shared) (σ:St) (H:Hp) (E:Value->Shared->Prop),Inv X tf σ H s->(∀b∈fp,QZ X tf H b)->tn i s.heap->J.stop i H->
  wpAny (model P w) X.A (pyNext (.ref it)) (fun r s1=>r=none/\Inv X tf σ H s1) E s
 self:∀(A:Around) (i:Nat) (s:Shared) (Q:Value->Shared->Prop) (E:Value->Shared->Prop),tn i s.heap->Q (.ref it) s->wpAny (model P w) A (pyIter (.ref it)) Q E s
abbrev TI:=St->Hp->(It->Hp->Prop)->Prop
def PIE(X:Cx)(tf:List (Addr×Obj))(σ:St)(tg:Expr)(R:It->Hp->Prop)(itv:Value)(s2:Shared):Prop:=∃(it:Addr) (fp:List Addr) (tn:Nat->Heap->Prop) (J:It) (H':Hp),itv=.ref it/\Inv X tf σ H' s2/\Turn X.prog X.w X.K tg J fp it tn/\tn 0 s2.heap/\(∀b∈fp,QZ X tf H' b)/\R J H'
def PI(X:Cx)(tg iter:Expr)(wi:TI):Prop:=
 ∀(tf:List (Addr×Obj)) (s:Shared) (σ:St) (H:Hp) (R:It->Hp->Prop),Inv X tf σ H s->wi σ H R->
   wpAny (model X.prog X.w) X.A (eval iter X.env) (fun v s1=>wpAny (model X.prog X.w) X.A (pyIter v) (PIE X tf σ tg R) X.xe s1) X.xe s
theorem jce{M:Model}{A:Around}{E:Value->Shared->Prop}{s:Shared}{tg:Expr}{it:Addr}{u:Value}{o:Obj}{n:String}{vs:Array Value}{Q:Unit->Shared->Prop}(ho:s.heap.get? it=some o)(hc:o.cls=.type n)(hd:o.data=.fields vs)
 (hn:["enumerate","zip","dict_itemiterator","dict_reverseitemiterator","odict_iterator","itertools.zip_longest","itertools.pairwise"].contains n=false) (hQ:Q () s):wpAny M A (letOwnedTupleGo tg (.ref it) u) Q E s:=by
 unfold letOwnedTupleGo;cases tg <;> first
  | exact Yn hQ
  | (cases u <;> first
      | exact Yn hQ
      | (refine QB (wpAny_load ho ?_)
         rw[hc,hd];show wpAny M A (if (["enumerate","zip","dict_itemiterator","dict_reverseitemiterator","odict_iterator","itertools.zip_longest","itertools.pairwise"].contains n && vs[0]? == some (rawInt _))=true then _ else _) Q E s;rw[YG (by intro h;rw[hn,Bool.false_and]at h;cases h)];exact Yn hQ))
def Itl(K:PySem.W.Frag)(a:Addr):It:=⟨fun i H=>∃xs x,qW K H a xs/\xs[i]?=some x,fun i H x H'=>H'=H/\∀xs,qW K H a xs->xs[i]?=some x,fun i H=>∃xs,qW K H a xs/\xs.length<=i⟩
def Itt(K:PySem.W.Frag)(a:Addr):It:=⟨fun i H=>∃xs x,SqT K H a xs/\xs[i]?=some x,fun i H x H'=>H'=H/\∀xs,SqT K H a xs->xs[i]?=some x,fun i H=>∃xs,SqT K H a xs/\xs.length<=i⟩
def Itr(lo:Int)(n:Nat):It:=⟨fun i _=>i<n,fun i H x H'=>H'=H/\x=.int (lo+i),fun i _=>n<=i⟩
theorem jd4{P:Program}{w:World}{K:PySem.W.Frag}{tg:Expr}(a it:Addr):Turn P w K tg (Itl K a) [it] it (fun i h=>h.IsListIter it a i) where
 mem:=by simp
 obj:=fun i h st b hb=>by
  have e:b=it:=by simpa using hb
  subst e;obtain⟨o,e,c,d⟩:=st;exact⟨o,e,fun v z=>by rw[d]at z;cases z⟩
 keep:=fun i h h' st k=>st.at fun o e=>k it (by simp) o e
 item:=by intro X hP hw hK hc i tf s σ H E I hf st hg;subst hP hw hK;obtain⟨xs,x,hq,hx⟩:=hg;obtain⟨tm,rv,p,hz⟩:=I.list hq;obtain⟨u,hu,ru⟩:=rv.get hx;obtain⟨f0,f1,f2,f3,f4,f5⟩:=hf it (by simp);refine wpAny_pyNext_list_item st p.isList (x:=u) (by simpa using hu) fun h' st' sb=>?_;have I1:Inv X tf σ H { s with heap:=h' }:=I.turned (t':=s.toks) (fun b o hb e=>(sb.2 b hb).trans e) f0 f1 f3 f4 f5;obtain⟨o,e,c,d⟩:=id st';exact⟨u,rfl,jce (s:={ s with heap:=h' }) e c d (by decide) ⟨x,H,I1,ru,⟨rfl,fun ys hy=>by rw[I.list_inj hy hq];exact hx⟩,st',fun b hb=>(hf b hb).1⟩⟩
 done:=by intro X hP hw hK hc i tf s σ H E I hf st hg;subst hP hw hK;obtain⟨xs,hq,hx⟩:=hg;obtain⟨tm,rv,p,hz⟩:=I.list hq;obtain⟨f0,f1,f2,f3,f4,f5⟩:=hf it (by simp);have hl:=rv.length;exact wpAny_pyNext_list_end (I.ok.hd hc) st p.isList (by simp;omega) fun h' eb=>⟨rfl,I.turned (t':=s.toks) (fun b o hb e=>eb b o hb e) f0 f1 f3 f4 f5⟩
 self:=fun _ _ _ _ _ st h=>wpAny_pyIter_listiter st h
theorem jc5{P:Program}{w:World}{K:PySem.W.Frag}{tg:Expr}(a it:Addr):Turn P w K tg (Itt K a) [it] it (fun i h=>h.IsTupleIter it a i) where
 mem:=by simp
 obj:=fun i h st b hb=>by
  have e:b=it:=by simpa using hb
  subst e;obtain⟨o,e,c,d⟩:=st;exact⟨o,e,fun v z=>by rw[d]at z;cases z⟩
 keep:=fun i h h' st k=>st.at fun o e=>k it (by simp) o e
 item:=by intro X hP hw hK hc i tf s σ H E I hf st hg;subst hP hw hK;obtain⟨xs,x,hq,hx⟩:=hg;obtain⟨tm,rv,p,hz⟩:=I.tuple hq;obtain⟨u,hu,ru⟩:=rv.get hx;obtain⟨f0,f1,f2,f3,f4,f5⟩:=hf it (by simp);refine wpAny_pyNext_tuple_item st (show s.heap.IsTuple a tm.toArray from p) (x:=u) (by simpa using hu) fun h' st' sb=>?_;have I1:Inv X tf σ H { s with heap:=h' }:=I.turned (t':=s.toks) (fun b o hb e=>(sb.2 b hb).trans e) f0 f1 f3 f4 f5;obtain⟨o,e,c,d⟩:=id st';exact⟨u,rfl,jce (s:={ s with heap:=h' }) e c d (by decide) ⟨x,H,I1,ru,⟨rfl,fun ys hy=>by rw[I.tuple_inj hy hq];exact hx⟩,st',fun b hb=>(hf b hb).1⟩⟩
 done:=by intro X hP hw hK hc i tf s σ H E I hf st hg;subst hP hw hK;obtain⟨xs,hq,hx⟩:=hg;obtain⟨tm,rv,p,hz⟩:=I.tuple hq;obtain⟨f0,f1,f2,f3,f4,f5⟩:=hf it (by simp);have hl:=rv.length;exact wpAny_pyNext_tuple_end (I.ok.hd hc) st (show s.heap.IsTuple a tm.toArray from p) (by simp;omega) fun h' eb=>⟨rfl,I.turned (t':=s.toks) (fun b o hb e=>eb b o hb e) f0 f1 f3 f4 f5⟩
 self:=fun _ _ _ _ _ st h=>wpAny_pyIter_tupleiter st h
theorem jcC{P:Program}{w:World}{K:PySem.W.Frag}{tg:Expr}(it:Addr)(lo:Int)(n:Nat):Turn P w K tg (Itr lo n) [it] it (fun i h=>IsRangeIter h it (lo+(i:Nat)*1) ((n:Int)-(i:Nat)) 1) where
 mem:=by simp
 obj:=fun i h st b hb=>by
  have e:b=it:=by simpa using hb
  subst e;exact⟨_,st,fun v z=>by have z':Data.fields _=Data.cell v:=z;cases z'⟩
 keep:=fun i h h' st k=>k it (by simp) _ st
 item:=by intro X hP hw hK hc i tf s σ H E I hf st hg;subst hP hw hK;obtain⟨f0,f1,f2,f3,f4,f5⟩:=hf it (by simp);have W:=Walks.range (prog:=X.prog) (w:=X.w) (I.ok.hd hc) it lo 1 n;refine W.item i s _ _ hg st fun v h' tk hv st' kk=>?_;obtain⟨t,rfl⟩:=hv;have I1:Inv X tf σ H { s with heap:=h',toks:=tk }:=I.turned (fun b o hb e=>kk b o (by simpa using hb) e) f0 f1 f3 f4 f5;refine⟨_,rfl,jce (s:={ s with heap:=h',toks:=tk }) (n := "range_iterator") st' rfl rfl (by decide) ⟨.int (lo+i),H,I1,⟨t,?_⟩,⟨rfl,rfl⟩,st',fun b hb=>(hf b hb).1⟩⟩;rw[Int.mul_one]
 done:=by intro X hP hw hK hc i tf s σ H E I hf st hg;subst hP hw hK;obtain⟨f0,f1,f2,f3,f4,f5⟩:=hf it (by simp);exact wpAny_pyNext_range_end (I.ok.hd hc) st (by have:n<=i:=hg;omega) fun h' eb=>⟨rfl,I.turned (t':=s.toks) (fun b o hb e=>eb b o hb e) f0 f1 f3 f4 f5⟩
 self:=fun _ _ _ _ _ st h=>wpAny_pyIter_rangeiter st h
section
variable{X:Cx}{tg:Expr}
def jcf(K:PySem.W.Frag)(tl:TE):TI:=fun σ H R=>tl σ H fun x H1=>∃a,x=.ref a/\(∃xs,qW K H1 a xs)/\R (Itl K a) H1
def jhM(K:PySem.W.Frag)(tl:TE):TI:=fun σ H R=>tl σ H fun x H1=>∃a,x=.ref a/\(∃xs,SqT K H1 a xs)/\R (Itt K a) H1
theorem jdL{l:Expr}{tl:TE}(hl:PE X l tl):PI X tg l (jcf X.K tl):=by
 intro tf s σ H R I h;refine qe (hl tf s σ H _ I h) fun v s1 zz=>?_;obtain⟨x,H1,I1,r1,q1⟩:=zz;obtain⟨a,e,⟨xs,hq⟩,q⟩:=q1;subst e;cases r1;obtain⟨tm,rv,p,hz⟩:=I1.list hq;refine wpAny_pyIter_list p.isList ?_;refine⟨s1.heap.objs.size,[s1.heap.objs.size],_,_,H1,rfl,I1.kept (t':=s1.toks) fun b o e=>Yb _ e,jd4 a _,⟨_,Yl _ rfl,rfl,rfl⟩,fun b hb=>?_,q⟩;have e:b=s1.heap.objs.size:=by simpa using hb
 subst e;exact I1.fpOk (Ym _) (I1.hok.fresh (Ym _))
theorem jiu{l:Expr}{tl:TE}(hl:PE X l tl):PI X tg l (jhM X.K tl):=by
 intro tf s σ H R I h;refine qe (hl tf s σ H _ I h) fun v s1 zz=>?_;obtain⟨x,H1,I1,r1,q1⟩:=zz;obtain⟨a,e,⟨xs,hq⟩,q⟩:=q1;subst e;cases r1;obtain⟨tm,rv,p,hz⟩:=I1.tuple hq;refine wpAny_pyIter_tuple (show s1.heap.IsTuple a tm.toArray from p) ?_;refine⟨s1.heap.objs.size,[s1.heap.objs.size],_,_,H1,rfl,I1.kept (t':=s1.toks) fun b o e=>Yb _ e,jc5 a _,⟨_,Yl _ rfl,rfl,rfl⟩,fun b hb=>?_,q⟩;have e:b=s1.heap.objs.size:=by simpa using hb
 subst e;exact I1.fpOk (Ym _) (I1.hok.fresh (Ym _))
theorem jeK{tf:List (Addr×Obj)}{σ:St}{H:Hp}{s:Shared}{R:It->Hp->Prop}{E:Value->Shared->Prop}{lo hi:Int}{t u v:Tok}{tk:Nat}(I:Inv X tf σ H s)(h1:-(2 ^ 62)<=lo)(h2:lo<2 ^ 62)(h3:-(2 ^ 62)<=hi)(h4:hi<2 ^ 62)
 (q:R (Itr lo (hi-lo).toNat) H):wpAny (model X.prog X.w) X.A (pyIter (.ref s.heap.objs.size)) (PIE X tf σ tg R) E { s with heap:=s.heap.push { cls:=.type "range",data:=.fields #[.int lo t,.int hi u,.int 1 v] },toks:=tk }:=by
 refine wpAny_pyIter_range (IsRange.new ..) (small_one h1 h2 h3 h4) ?_;have I1:Inv X tf σ H { s with heap:=s.heap.push { cls:=.type "range",data:=.fields #[.int lo t,.int hi u,.int 1 v] },toks:=tk }:=I.kept fun b o e=>Yb _ e;refine⟨(s.heap.push { cls:=.type "range",data:=.fields #[.int lo t,.int hi u,.int 1 v] }).objs.size,[(s.heap.push { cls:=.type "range",data:=.fields #[.int lo t,.int hi u,.int 1 v] }).objs.size],_,_,H,rfl,
  I1.kept (t':=tk) fun b o e=>Yb _ e,jcC _ lo (hi-lo).toNat,?_,fun b hb=>?_,q⟩
 . have e1:lo+((0:Nat):Int)*1=lo:=by simp
   have e2:(((hi-lo).toNat:Nat):Int)-((0:Nat):Int)=Builtin.Range.rangeSize lo hi 1:=by rw[rangeSize_one];split <;> omega
   show IsRangeIter _ _ (lo+((0:Nat):Int)*1) ((((hi-lo).toNat:Nat):Int)-((0:Nat):Int)) 1;rw[e1,e2];exact Yl _ rfl
 . have e:b=(s.heap.push { cls:=.type "range",data:=.fields #[.int lo t,.int hi u,.int 1 v] }).objs.size:=by simpa using hb
   subst e;exact I1.fpOk (Ym _) (I1.hok.fresh (Ym _))
def jhw(ta:TA):TI:=fun σ H R=>ta σ H fun vs H1=>∃j:Int,vs=[.int j] /\ -(2 ^ 62)<=j/\j<2 ^ 62/\R (Itr 0 j.toNat) H1
theorem jd9{a:Expr}{ta:TA}{p pos:Pos}(hg:Gl X "range")(hm:X.mg "range"=none)(ha:PA X [a] ta)(hs:starEach [a] X.env=[(false,eval a X.env)]:=by rfl):PI X tg (.Call (.Name "range" p) [a] [] pos) (jhw ta):=by
 intro tf s σ H R I h;refine Call_ (JE I hg hm boot_range (YN (qe (ha pos tf s σ H _ I h) fun us s1 zz=>?_) hs rfl));obtain⟨vs,H1,I1,r1,q1⟩:=zz;obtain⟨j,e,q1,q2,q⟩:=q1;subst e;cases r1 with
 | cons r rr=>cases rr;obtain⟨t,rfl⟩:=r;exact call_range_1 (jeK I1 (by omega) (by omega) q1 q2 (by simpa using q))
def jiF(wi:TI)(g:TG)(tb:TS):TS:=fun D σ H=>wi σ H fun J H1=>∃W:Nat->Nat->St->Hp->Prop,(∃m,W 0 m σ H1)/\∀i m σ H,W i m σ H->
 (J.stop i H/\D.nx σ H)\/(J.go i H/\∃N:St->Hp->Prop,(∀σ' H',N σ' H'->∃m',m'<m/\W (i+1) m' σ' H')/\∀x H',J.yld i H x H'->g x σ H' fun σ2 H2=>tb { D with nx:=N,ct:=N,bk:=D.nx } σ2 H2)
def Zn(fp:List Addr)(h:Heap):List (Addr×Obj):=fp.filterMap fun b=>(h.get? b).map fun o=>(b,o)
theorem Jg{fp:List Addr}{h:Heap}{b:Addr}{o:Obj}(hb:b∈fp)(e:h.get? b=some o):(b,o)∈Zn fp h:=List.mem_filterMap.mpr ⟨b,hb,by rw[e];rfl⟩
theorem jdQ{fp:List Addr}{h:Heap}{p:Addr×Obj}(hp:p∈Zn fp h):p.1∈fp/\h.get? p.1=some p.2:=by
 obtain⟨b,hb,e⟩:=List.mem_filterMap.mp hp;cases q:h.get? b with
 | none=>rw[q]at e;cases e
 | some o=>rw[q]at e;have e':(b,o)=p:=Option.some.inj e;subst e';exact⟨hb,q⟩
theorem Inv.pinned{tf:List (Addr×Obj)}{σ:St}{H:Hp}{s:Shared}{fp:List Addr}(I:Inv X tf σ H s)(hf:∀b∈fp,QZ X tf H b)(ho:∀b∈fp,∃o,s.heap.get? b=some o/\∀v,o.data≠.cell v):Inv X (tf++Zn fp s.heap) σ H s:=
 I.pins_of fun p hp=>(yn.mp hp).elim (fun z=>I.pin p (Yy _ z)) fun z=>by obtain⟨hb,e⟩:=jdQ z;obtain⟨f0,f1,f2,_⟩:=hf p.1 hb;obtain⟨o,e',d⟩:=ho p.1 hb;rw[e]at e';cases e';exact⟨e,f0,f1,f2,d⟩
theorem Inv.unpinned{tf pl:List (Addr×Obj)}{σ:St}{H:Hp}{s:Shared}(I:Inv X (tf++pl) σ H s):Inv X tf σ H s:=I.pins_of fun p hp=>I.pin p (Yy _ (yC _ hp))
theorem jf3{iter:Expr}{body:List Stmt}{wi:TI}{g:TG}{tb:TS}{pos:Pos}(hp:PassesOwn (model X.prog X.w) X.A X.env X.xe)(hc:X.calm=true)(hi:PI X tg iter wi)(hg:PG X tg g)(hb:PSs X body tb)
 (hs:∀x,foldedSetIterable iter X.env x=pure x:=by intro _;rfl):PS X (.For tg iter body [] pos) (jiF wi g tb):=by
 intro tf s σ H D I h;refine wpAny_For (qe (hi tf s σ H _ I h) fun v s1 h1=>qe h1 fun itv s2 h2=>?_) hs;obtain⟨it,fp,tn,J,H2,e,I2,T,st2,f2,W,⟨m0,w0⟩,turn⟩:=h2;subst e
 -- what stays true of the iterator's objects through the loop
 have stat:∀{H':Hp},(∀b∈fp,H' b=none)->∀b∈fp,QZ X tf H' b:=fun hn b hb=>⟨hn b hb,(f2 b hb).2⟩;refine codeAny_forLoop_any (fun n s'=>∃i σ' H',Inv X tf σ' H' s'/\tn i s'.heap/\(∀b∈fp,H' b=none)/\W i n σ' H') ?_ m0 ⟨0,σ,H2,I2,st2,fun b hb=>(f2 b hb).1,w0⟩;rintro n s3 ⟨i,σ3,H3,I3,st3,fr3,w3⟩;rcases turn i n σ3 H3 w3 with⟨stop,qn⟩ | ⟨go,N,hN,step⟩
 . refine yL hp (qe (T.done X rfl rfl rfl hc i tf s3 σ3 H3 X.xe I3 (stat fr3) st3 stop) fun r s4 zz=>?_);obtain⟨hr,I4⟩:=zz;subst hr;exact wpAny_execs_nil ⟨σ3,H3,I4,qn⟩
 . refine yL hp (qe (T.item X rfl rfl rfl hc i tf s3 σ3 H3 X.xe I3 (stat fr3) st3 go) fun r s4 zz=>?_);obtain⟨u,hr,h4⟩:=zz;subst hr;refine yL hp (qe h4 fun _ s5 zz=>?_);obtain⟨x,H5,I5,r5,y5,st5,fr5⟩:=zz;have I5':=I5.pinned (stat fr5) (T.obj _ _ st5);refine yL hp (qe (hg _ s5 σ3 H5 x u _ I5' r5 (step x H5 y5)) fun _ s6 zz=>?_);obtain⟨σ6,H6,I6,q6⟩:=zz;refine yL hp (qe (hb _ s6 σ6 H6 _ I6 q6) fun f s7 q7=>?_);have again:∀{σ7:St} {H7:Hp},Inv X (tf++Zn fp s5.heap) σ7 H7 s7->N σ7 H7->∃m,m<n/\∃i σ' H',Inv X tf σ' H' s7/\tn i s7.heap/\(∀b∈fp,H' b=none)/\W i m σ' H':=fun{σ7 H7} I7 n7=>by obtain⟨m',hm,w7⟩:=hN σ7 H7 n7;refine⟨m',hm,i+1,σ7,H7,I7.unpinned,T.keep _ _ _ st5 fun b hb o e=>(I7.pin (b,o) (Yy _ (Yy _ (Jg hb e)))).1,fun b hb=>?_,w7⟩;obtain⟨o,e,d⟩:=T.obj _ _ st5 b hb;exact(I7.pin (b,o) (Yy _ (Yy _ (Jg hb e)))).2.1
   cases f with
   | next=>obtain⟨σ7,H7,I7,n7⟩:=q7;exact again I7 n7
   | cont=>obtain⟨σ7,H7,I7,n7⟩:=q7;exact again I7 n7
   | brk=>obtain⟨σ7,H7,I7,q7⟩:=q7;exact⟨σ7,H7,I7.unpinned,q7⟩
   | ret v=>obtain⟨x7,σ7,H7,I7,r7,q7⟩:=q7;exact⟨x7,σ7,H7,I7.unpinned,r7,q7⟩
end
abbrev R2:=V->V->Hp->VK->Prop
def Qm(X:Cx)(f:Value->Value->Sem Value)(r:R2):Prop:=
 ∀(tf:List (Addr×Obj)) (s:Shared) (σ:St) (H:Hp) (x y:V) (v u:Value) (Q:VK),Inv X tf σ H s->RelV x v->RelV y u->r x y H Q->
   wpAny (model X.prog X.w) X.A (f v u) (EP X tf σ Q) X.xe s
def UnR(X:Cx)(f:Value->Sem Value)(r:V->Hp->VK->Prop):Prop:=
 ∀(tf:List (Addr×Obj)) (s:Shared) (σ:St) (H:Hp) (x:V) (v:Value) (Q:VK),Inv X tf σ H s->RelV x v->r x H Q->
   wpAny (model X.prog X.w) X.A (f v) (EP X tf σ Q) X.xe s
def CallR(X:Cx)(f:Value)(r:List V->Hp->VK->Prop):Prop:=
 ∀(tf:List (Addr×Obj)) (s:Shared) (σ:St) (H:Hp) (xs:List V) (us:List Value) (Q:VK),Inv X tf σ H s->Vals xs us->r xs H Q->
   wpAny (model X.prog X.w) X.A (call f us) (EP X tf σ Q) X.xe s
def tOp(r:R2)(ta tb:TE):TE:=fun σ H Q=>ta σ H fun x H1=>tb σ H1 fun y H2=>r x y H2 Q
def tUn(r:V->Hp->VK->Prop)(ta:TE):TE:=fun σ H Q=>ta σ H fun x H1=>r x H1 Q
def rI(C:Int->Int->Prop)(g:Int->Int->V):R2:=fun x y H Q=>∃i j,x=.int i/\y=.int j/\C i j/\Q (g i j) H
def rI0(g:Int->Int->V):R2:=fun x y H Q=>∃i j,x=.int i/\y=.int j/\Q (g i j) H
def rU(g:Int->V):V->Hp->VK->Prop:=fun x H Q=>∃i,x=.int i/\Q (g i) H
section
variable{X:Cx}{a b c:Expr}{ta tb tc:TE}{pos:Pos}
theorem jic(ha:PE X a ta)(hb:PE X b tb){tf:List (Addr×Obj)}{s:Shared}{σ:St}{H:Hp}{R:V->V->Hp->Prop}(I:Inv X tf σ H s)
 (h:ta σ H fun x H1=>tb σ H1 fun y H2=>R x y H2) {Q:Value->Shared->Prop} {f:Value->Value->Sem Value}
 (hf:∀v u s2 x y H2,Inv X tf σ H2 s2->RelV x v->RelV y u->R x y H2->wpAny (model X.prog X.w) X.A (f v u) Q X.xe s2) :
 wpAny (model X.prog X.w) X.A (eval a X.env) (fun v s₁=>wpAny (model X.prog X.w) X.A (eval b X.env) (fun u s₂=>wpAny (model X.prog X.w) X.A (f v u) Q X.xe s₂) X.xe s₁) X.xe s:=by
 refine qe (ha tf s σ H _ I h) fun v s1 zz=>?_;obtain⟨x,H1,I1,r1,q1⟩:=zz;refine qe (hb tf s1 σ H1 _ I1 q1) fun u s2 zz=>?_;obtain⟨y,H2,I2,r2,q2⟩:=zz;exact hf v u s2 x y H2 I2 r1 r2 q2
theorem jhg{op:Operator}{r:R2}(ho:Qm X (binaryOp op) r)(ha:PE X a ta)(hb:PE X b tb):PE X (.BinOp a op b pos) (tOp r ta tb):=by intro tf s σ H Q I h;exact wpAny_BinOp (jic ha hb I h fun v u s2 x y H2 I2 rx ry q=>ho tf s2 σ H2 x y v u Q I2 rx ry q)
theorem jkf{op:UnaryOp}{r:V->Hp->VK->Prop}(ho:UnR X (unaryOp op) r)(ha:PE X a ta):PE X (.UnaryOp op a pos) (tUn r ta):=by intro tf s σ H Q I h;exact UnaryOp_ (qe (ha tf s σ H _ I h) fun v s1 ⟨x,H1,I1,r1,q1⟩=>ho tf s1 σ H1 x v Q I1 r1 q1)
theorem opI{f:Value->Value->Sem Value}{C:Int->Int->Prop}{g:Int->Int->Int}
 (rule:∀(i j:Int) (t u:Tok) (s:Shared) (Q:Value->Shared->Prop) (E:Value->Shared->Prop),C i j->Q (.int (g i j) s.toks) { s with toks:=s.toks+1 }->wpAny (model X.prog X.w) X.A (f (.int i t) (.int j u)) Q E s) :
 Qm X f (rI C fun i j=>.int (g i j)):=by
 intro tf s σ H x y v u Q I rx ry h;obtain⟨i,j,rfl,rfl,hc,q⟩:=h;obtain⟨t,rfl⟩:=rx;obtain⟨t',rfl⟩:=ry;exact rule i j t t' s _ _ hc ⟨.int (g i j),H,I.tok _,⟨_,rfl⟩,q⟩
theorem jkh{f:Value->Value->Sem Value}{g:Int->Int->Int}
 (rule:∀(i j:Int) (t u:Tok) (s:Shared) (Q:Value->Shared->Prop) (E:Value->Shared->Prop),Q (.int (g i j) s.toks) { s with toks:=s.toks+1 }->wpAny (model X.prog X.w) X.A (f (.int i t) (.int j u)) Q E s) :
 Qm X f (rI0 fun i j=>.int (g i j)):=by
 intro tf s σ H x y v u Q I rx ry h;obtain⟨i,j,rfl,rfl,q⟩:=h;obtain⟨t,rfl⟩:=rx;obtain⟨t',rfl⟩:=ry;exact rule i j t t' s _ _ ⟨.int (g i j),H,I.tok _,⟨_,rfl⟩,q⟩
theorem jgz{f:Value->Value->Sem Value}{g:Int->Int->Bool}
 (rule:∀(i j:Int) (t u:Tok) (s:Shared) (Q:Value->Shared->Prop) (E:Value->Shared->Prop),Q (.bool (g i j)) s->wpAny (model X.prog X.w) X.A (f (.int i t) (.int j u)) Q E s) :
 Qm X f (rI0 fun i j=>.bl (g i j)):=by
 intro tf s σ H x y v u Q I rx ry h;obtain⟨i,j,rfl,rfl,q⟩:=h;obtain⟨t,rfl⟩:=rx;obtain⟨t',rfl⟩:=ry;exact rule i j t t' s _ _ ⟨.bl (g i j),H,I,rfl,q⟩
def jbO(i j:Int):Prop:=0<=j/\j<=1000000/\i.natAbs<2 ^ 64
def CMul(i j:Int):Prop:=(-(2 ^ 64)<i/\i<2 ^ 64)\/(-(2 ^ 64)<j/\j<2 ^ 64)
theorem CMul.ok{i j:Int}(h:CMul i j):IntMulOk i j:=by
 rcases h with⟨h1,h2⟩ | ⟨h1,h2⟩
 . exact .of_left (intBits_le_64 h1 h2)
 . exact .of_right (intBits_le_64 h1 h2)
theorem jiy:Qm X (binaryOp .Add) (rI0 fun i j=>.int (i+j)):=jkh fun _ _ _ _ _ _ _ q=>add_int q
theorem jiv:Qm X (binaryOp .Sub) (rI0 fun i j=>.int (i-j)):=jkh fun _ _ _ _ _ _ _ q=>sub_int q
theorem jit:Qm X (binaryOp .Mod) (rI (fun _ j=>0<j) fun i j=>.int (i%j)):=opI fun i j _ _ _ _ _ hc q=>by have h1:(0:Int)<j:=hc;exact mod_int' (by omega) (by rw[Int.fmod_eq_emod_of_nonneg i (by omega)];exact q)
theorem ji8:Qm X (binaryOp .Pow) (rI jbO fun i j=>.int (i ^ j.toNat)):=opI fun _ _ _ _ _ _ _ hc q=>pow_int_small hc.1 hc.2.1 hc.2.2 q
theorem unI{f:Value->Sem Value}{g:Int->Int}
 (rule:∀(i:Int) (t:Tok) (s:Shared) (Q:Value->Shared->Prop) (E:Value->Shared->Prop),Q (.int (g i) s.toks) { s with toks:=s.toks+1 }->wpAny (model X.prog X.w) X.A (f (.int i t)) Q E s) :
 UnR X f (rU fun i=>.int (g i)):=by
 intro tf s σ H x v Q I rx h;obtain⟨i,rfl,q⟩:=h;obtain⟨t,rfl⟩:=rx;exact rule i t s _ _ ⟨.int (g i),H,I.tok _,⟨_,rfl⟩,q⟩
theorem jiD:UnR X (unaryOp .USub) (rU fun i=>.int (-i)):=unI fun _ _ _ _ _ q=>neg_int q
end
def jhD:V->V->Bool
 | .non,.non=>true | .non,.int _=>true | .int _,.non=>true | .non,.bl _=>true | .bl _,.non=>true | .non,.str _=>true | .str _,.non=>true
 | .int _,.int _=>true | .bl _,.bl _=>true | .str _,.str _=>true | .byt _,.byt _=>true
 | .int _,.str _=>true | .str _,.int _=>true | .bl _,.str _=>true | .str _,.bl _=>true
 | _,_=>false
def rEq:R2:=fun x y H Q=>jhD x y=true/\Q (.bl (decide (x=y))) H
def rNe:R2:=fun x y H Q=>jhD x y=true/\Q (.bl (!decide (x=y))) H
theorem jdo{i j:Int}:decide (V.int i=V.int j)=(i == j):=by rw[yR];simp
theorem je4{i j:Bool}:decide (V.bl i=V.bl j)=(i == j):=by rw[yR];simp
theorem jdg{i j:Str}:decide (V.str i=V.str j)=(i == j):=by rw[yR];simp
theorem jdx{i j:Array UInt8}:decide (V.byt i=V.byt j)=(i.toList == j.toList):=by rw[yR];cases i;cases j;simp
section
variable{X:Cx}{a b c:Expr}{ta tb tc:TE}{pos:Pos}
theorem jH{tf:List (Addr×Obj)}{σ:St}{H:Hp}{s:Shared}{Q:VK}{k k':Bool}(I:Inv X tf σ H s)(q:Q (.bl k) H)(e:k=k'):EP X tf σ Q (.bool k') s:=by subst e;exact⟨.bl k,H,I,rfl,q⟩
theorem jkg:Qm X (compareOp .Eq) rEq:=by
 intro tf s σ H x y v u Q I rx ry h;obtain⟨hs,q⟩:=h;cases x with
 | non=>
   cases rx;cases y with
   | non=>cases ry;exact PySem.EqNone.eq_none_none (jH I q (by simp))
   | bl j=>cases ry;exact PySem.EqNone.eq_none_bool (jH I q (by simp))
   | int j=>obtain⟨t',rfl⟩:=ry;exact PySem.EqNone.eq_none_int (jH I q (by simp))
   | str j=>obtain⟨t',rfl⟩:=ry;exact PySem.EqNone.eq_none_str (jH I q (by simp))
   | _=>exact absurd (show false=true from hs) Ya
 | bl i=>
   cases rx;cases y with
   | non=>cases ry;exact PySem.EqNone.eq_bool_none (jH I q (by simp))
   | bl j=>cases ry;exact eq_bool (jH I q je4)
   | str j=>obtain⟨t',rfl⟩:=ry;exact PySem.EqMixed.eq_bool_str (jH I q (by simp))
   | _=>exact absurd (show false=true from hs) Ya
 | int i=>
   obtain⟨t,rfl⟩:=rx;cases y with
   | non=>cases ry;exact PySem.EqNone.eq_int_none (jH I q (by simp))
   | int j=>obtain⟨t',rfl⟩:=ry;exact eq_int (jH I q jdo)
   | str j=>obtain⟨t',rfl⟩:=ry;exact PySem.EqMixed.eq_int_str (jH I q (by simp))
   | _=>exact absurd (show false=true from hs) Ya
 | str i=>
   obtain⟨t,rfl⟩:=rx;cases y with
   | non=>cases ry;exact PySem.EqNone.eq_str_none (jH I q (by simp))
   | bl j=>cases ry;exact PySem.EqMixed.eq_str_bool (jH I q (by simp))
   | int j=>obtain⟨t',rfl⟩:=ry;exact PySem.EqMixed.eq_str_int (jH I q (by simp))
   | str j=>obtain⟨t',rfl⟩:=ry;exact eq_str (jH I q jdg)
   | _=>exact absurd (show false=true from hs) Ya
 | byt i=>
   obtain⟨t,rfl⟩:=rx;cases y with
   | byt j=>obtain⟨t',rfl⟩:=ry;exact PySem.W.eq_bytes (jH I q jdx)
   | _=>exact absurd (show false=true from hs) Ya
 | _=>cases y <;> exact absurd (show false=true from hs) Ya
theorem jj8:Qm X (compareOp .NotEq) rNe:=by
 intro tf s σ H x y v u Q I rx ry h;obtain⟨hs,q⟩:=h;cases x with
 | non=>
   cases rx;cases y with
   | non=>cases ry;exact PySem.EqNone.ne_none_none (jH I q (by simp))
   | bl j=>cases ry;exact PySem.EqNone.ne_none_bool (jH I q (by simp))
   | int j=>obtain⟨t',rfl⟩:=ry;exact PySem.EqNone.ne_none_int (jH I q (by simp))
   | str j=>obtain⟨t',rfl⟩:=ry;exact PySem.EqNone.ne_none_str (jH I q (by simp))
   | _=>exact absurd (show false=true from hs) Ya
 | bl i=>
   cases rx;cases y with
   | non=>cases ry;exact PySem.EqNone.ne_bool_none (jH I q (by simp))
   | bl j=>cases ry;exact ne_bool (jH I q (congrArg not je4))
   | str j=>obtain⟨t',rfl⟩:=ry;exact PySem.EqMixed.ne_bool_str (jH I q (by simp))
   | _=>exact absurd (show false=true from hs) Ya
 | int i=>
   obtain⟨t,rfl⟩:=rx;cases y with
   | non=>cases ry;exact PySem.EqNone.ne_int_none (jH I q (by simp))
   | int j=>obtain⟨t',rfl⟩:=ry;exact ne_int (jH I q (congrArg not jdo))
   | str j=>obtain⟨t',rfl⟩:=ry;exact PySem.EqMixed.ne_int_str (jH I q (by simp))
   | _=>exact absurd (show false=true from hs) Ya
 | str i=>
   obtain⟨t,rfl⟩:=rx;cases y with
   | non=>cases ry;exact PySem.EqNone.ne_str_none (jH I q (by simp))
   | bl j=>cases ry;exact PySem.EqMixed.ne_str_bool (jH I q (by simp))
   | int j=>obtain⟨t',rfl⟩:=ry;exact PySem.EqMixed.ne_str_int (jH I q (by simp))
   | str j=>obtain⟨t',rfl⟩:=ry;exact ne_str (jH I q (congrArg not jdg))
   | _=>exact absurd (show false=true from hs) Ya
 | byt i=>
   obtain⟨t,rfl⟩:=rx;cases y with
   | byt j=>obtain⟨t',rfl⟩:=ry;exact PySem.W.ne_bytes (jH I q (congrArg not jdx))
   | _=>exact absurd (show false=true from hs) Ya
 | _=>cases y <;> exact absurd (show false=true from hs) Ya
theorem jkO:Qm X (compareOp .Lt) (rI0 fun i j=>.bl (decide (i<j))):=jgz fun _ _ _ _ _ _ _ q=>lt_int q
theorem jkr:Qm X (compareOp .LtE) (rI0 fun i j=>.bl (decide (i<=j))):=jgz fun _ _ _ _ _ _ _ q=>le_int q
theorem jjU:Qm X (compareOp .Gt) (rI0 fun i j=>.bl (decide (j<i))):=jgz fun _ _ _ _ _ _ _ q=>gt_int q
theorem jkb:Qm X (compareOp .GtE) (rI0 fun i j=>.bl (decide (j<=i))):=jgz fun _ _ _ _ _ _ _ q=>ge_int q
theorem jdU:Qm X (compareOp .In) (fun x y H Q=>∃i j,x=.str i/\y=.str j/\Q (.bl (!(Builtin.Str.occurrences j i 0 j.length 1).isEmpty)) H):=by intro tf s σ H x y v u Q I rx ry h;obtain⟨i,j,rfl,rfl,q⟩:=h;obtain⟨t,rfl⟩:=rx;obtain⟨t',rfl⟩:=ry;exact in_str (jH I q rfl)
theorem nomark(b:Expr){op:CmpOp}(h:op≠.In:=by decide)(h2:op≠.NotIn:=by decide):behindInMarks op b=false:=by
 have e1:(op == CmpOp.In)=false:=by cases op <;> first | rfl | exact absurd rfl h
 have e2:(op == CmpOp.NotIn)=false:=by cases op <;> first | rfl | exact absurd rfl h2
 cases b <;> simp[behindInMarks,e1,e2]
theorem jgS{op:CmpOp}{r:R2}(ho:Qm X (compareOp op) r)(ha:PE X a ta)(hb:PE X b tb)(hm:behindInMarks op b=false):PE X (.Compare a [op] [b] pos) (tOp r ta tb):=by intro tf s σ H Q I h;exact wpAny_Compare1 (jic ha hb I h fun v u s2 x y H2 I2 rx ry q=>ho tf s2 σ H2 x y v u Q I2 rx ry q) hm
def jfA(t:TE):TT:=fun σ H Q=>t σ H fun x H'=>∃k,x=.bl k/\Q k H'
theorem jgD{op:CmpOp}{r:R2}(ho:Qm X (compareOp op) r)(ha:PE X a ta)(hb:PE X b tb)(hm:behindInMarks op b=false):PT X (.Compare a [op] [b] pos) (jfA (tOp r ta tb)):=by
 intro tf s σ H Q I h;refine wpAny_isTrue_Compare1 (qe (ha tf s σ H _ I h) fun v s1 ⟨x,H1,I1,r1,q1⟩=>qe (hb tf s1 σ H1 _ I1 q1) fun u s2 ⟨y,H2,I2,r2,q2⟩=>qe (ho tf s2 σ H2 x y v u _ I2 r1 r2 q2) fun c s3 ⟨z,H3,I3,r3,k,e,q3⟩=>?_) hm
 subst e;cases r3;exact YR ⟨H3,I3,q3⟩
def jcI(r r':R2)(ta tb tc:TE):TE:=fun σ H Q=>ta σ H fun x H1=>tb σ H1 fun y H2=>r x y H2 fun z H3=>∃k,z=.bl k /\
 (if k=true then tc σ H3 fun w' H4=>r' y w' H4 Q else Q (.bl false) H3)
theorem jfv{op op':CmpOp}{r r':R2}(ho:Qm X (compareOp op) r)(ho':Qm X (compareOp op') r')(ha:PE X a ta)(hb:PE X b tb)(hc:PE X c tc)
 (hm:autoParam (lastMarks [op,op'] [b,c]=false) QA.a5._auto_1):PE X (.Compare a [op,op'] [b,c] pos) (jcI r r' ta tb tc):=by
 intro tf s σ H Q I h;refine Compare_chain (qe (ha tf s σ H _ I h) fun v s1 ⟨x,H1,I1,r1,q1⟩=>chain_link (qe (hb tf s1 σ H1 _ I1 q1) fun u s2 ⟨y,H2,I2,r2,q2⟩=>qe (ho tf s2 σ H2 x y v u _ I2 r1 r2 q2) fun d s3 ⟨z,H3,I3,r3,k,e,q3⟩=>?_)) hm
 subst e;cases r3;refine YR ?_;cases k with
 | false=>exact ite_ff ⟨.bl false,H3,I3,rfl,q3⟩
 | true=>exact ite_tt (chain_last (qe (hc tf s3 σ H3 _ I3 q3) fun w' s4 ⟨z',H4,I4,r4,q4⟩=>ho' tf s4 σ H4 y z' u w' Q I4 r2 r4 q4))
theorem jfS{op op':CmpOp}{r r':R2}(ho:Qm X (compareOp op) r)(ho':Qm X (compareOp op') r')(ha:PE X a ta)(hb:PE X b tb)(hc:PE X c tc)
 (hm:autoParam (lastMarks [op,op'] [b,c]=false) QA.a5._auto_1):PT X (.Compare a [op,op'] [b,c] pos) (jfA (jcI r r' ta tb tc)):=by
 intro tf s σ H Q I h;refine isTrue_chain (qe (ha tf s σ H _ I h) fun v s1 ⟨x,H1,I1,r1,q1⟩=>test_link (qe (hb tf s1 σ H1 _ I1 q1) fun u s2 ⟨y,H2,I2,r2,q2⟩=>qe (ho tf s2 σ H2 x y v u _ I2 r1 r2 q2) fun d s3 ⟨z,H3,I3,r3,k,e,q3⟩=>?_)) hm
 subst e;cases r3;refine YR ?_;cases k with
 | false=>obtain⟨k',e',q'⟩:=q3;cases e';exact ite_ff ⟨H3,I3,q'⟩
 | true=>refine ite_tt (test_last (qe (hc tf s3 σ H3 _ I3 q3) fun w' s4 ⟨z',H4,I4,r4,q4⟩=>qe (ho' tf s4 σ H4 y z' u w' _ I4 r2 r4 q4) fun d' s5 zz=>?_));obtain⟨z2,H5,I5,r5,k2,e2,q5⟩:=zz;subst e2;cases r5;exact YR ⟨H5,I5,q5⟩
theorem QP:(sizeLine:Nat)<2 ^ 63:=by rw[sizeLine_eq];decide
theorem jcW:Qm X (binaryOp .Add) (fun x y H Q=>∃i j,x=.str i/\y=.str j/\i.length+j.length<=sizeLine/\Q (.str (i++j)) H):=by intro tf s σ H x y v u Q I rx ry h;obtain⟨i,j,rfl,rfl,hz,q⟩:=h;obtain⟨t,rfl⟩:=rx;obtain⟨t',rfl⟩:=ry;exact add_str (fun t' tk=>⟨.str (i++j),H,I.tok _,⟨_,rfl⟩,q⟩) hz
theorem Qs{x:V}{us:List Value}(r:Vals [x] us):∃u,us=[u]/\RelV x u:=by
 cases r with
 | cons r1 r2=>cases r2;exact⟨_,rfl,r1⟩
theorem jg9{x y:V}{us:List Value}(r:Vals [x,y] us):∃u w',us=[u,w']/\RelV x u/\RelV y w':=by
 cases r with
 | cons r1 r2=>
   cases r2 with
   | cons r3 r4=>cases r4;exact⟨_,_,rfl,r1,r3⟩
theorem jef(hc:X.calm=true):CallR X (.builtin "min") (fun xs H Q=>∃i j,xs=[.int i,.int j] ∧ Q (.int (if j<i then j else i)) H):=by
 intro tf s σ H xs us Q I r h;obtain⟨i,j,rfl,q⟩:=h;obtain⟨u,w',rfl,⟨t,rfl⟩,⟨t',rfl⟩⟩:=jg9 r;refine min_two_ints (I.ok.hd hc) fun h' tk k=>⟨_,H,I.kept k,?_,q⟩;by_cases hj:j<i
 . rw[Yq hj,Yq hj];exact⟨_,rfl⟩
 . rw[YG hj,YG hj];exact⟨_,rfl⟩
theorem jet:CallR X (.type "int") (fun xs H Q=>(∃i,xs=[.int i] ∧ Q (.int i) H) ∨ ∃k,xs=[.bl k] ∧ Q (.int (if k then 1 else 0)) H):=by
 intro tf s σ H xs us Q I r h;rcases h with⟨i,rfl,q⟩ | ⟨k,rfl,q⟩
 . obtain⟨u,rfl,t,rfl⟩:=Qs r;exact call_int_int ⟨.int i,H,I,⟨_,rfl⟩,q⟩
 . obtain⟨u,rfl,r1⟩:=Qs r;cases r1;exact call_int_bool ⟨.int (if k then 1 else 0),H,I.tok _,⟨_,rfl⟩,q⟩
theorem jbo:CallR X (.type "str") (fun xs H Q=>∃i,xs=[.int i] ∧ i.natAbs.log2<1920 ∧ Q (.str (toString i)) H):=by intro tf s σ H xs us Q I r h;obtain⟨i,rfl,hz,q⟩:=h;obtain⟨u,rfl,t,rfl⟩:=Qs r;exact PySem.P.str_of_int hz ⟨.str _,H,I.tok _,⟨_,rfl⟩,q⟩
end
structure ObjM(h:Heap)(x dx C:Addr)(mA:Str->Option Value):Prop where
 obj:h.get? x=some (PySem.W.instObj C dx)
 ns:h.Ns1 dx mA
 ne:dx≠x
theorem jej{h:Heap}{dx:Addr}{mA:Str->Option Value}(n:h.Ns1 dx mA):∃od,h.get? dx=some od/\∀name,PySem.W.lookIn name od=some (mA name):=by
 obtain⟨o,es,ep,ho,hd,hk,_,hm⟩:=n;refine⟨o,ho,fun name=>?_⟩;have e:=hm name;unfold nsFind findBy at e;rw[<-Array.find?_toList]at e;unfold PySem.W.lookIn;rw[hd];dsimp only;split
 . rename_i y q;rw[q]at e;exact congrArg some e
 . rename_i q;rw[q]at e;have a:es.toList.any (·.refKey)=false:=by rw[List.any_eq_false];intro y hy;obtain⟨z,t,hkey⟩:=hk y (Array.mem_toList_iff.mp hy);simp[DictEntry.refKey,hkey]
   have a':¬es.toList.any (·.refKey)=true:=by rw[a];exact Ya
   rw[YG a'];exact congrArg some e
theorem ObjM.look{h:Heap}{x dx C:Addr}{mA:Str->Option Value}(I:ObjM h x dx C mA):∃od,PySem.W.InstAt h x (PySem.W.instObj C dx) C (some od)/\∀name,PySem.W.lookIn name od=some (mA name):=
 let ⟨od,ho,hl⟩:=jej I.ns
 ⟨od,⟨I.obj,rfl,rfl,ho⟩,hl⟩
section
variable{P:Program}{w:World}{H H':Hp}{h h':Heap}{a C dx:Addr}{fs fs':List (Str×V)}
theorem jgM(hok:HOk P w H h)(e:H a=some (.ins C dx fs)):∃mA,ObjM h a dx C mA/\(∀f,RelO (fs.lookup f) (mA f))/\PySem.Within mA (fs.map (·.1))/\fs.length<=1000/\H dx=some (.own a):=by obtain⟨d,z,ne,ob,mA,n,r,q⟩:=(show ObjOk P w H h a (.ins C dx fs)from hok a _ e);exact⟨mA,⟨ob,n,ne⟩,r,q,z,d⟩
end
structure Cls(K:PySem.W.Frag)(C:Addr):Prop where
 pg:PySem.W.plainGet K C Str.empty=true
 hd:PySem.W.hasDictIn K C=true
 po:PySem.W.plainOver K C=true
 sa:PySem.W.findIn K (.ref C) "__setattr__"=some (some (.builtin "object.__setattr__"))
theorem Cls.get{K:PySem.W.Frag}{C:Addr}(c:Cls K C)(f:Str):PySem.W.plainGet K C f=true:=c.pg
section
variable{X:Cx}{tf:List (Addr×Obj)}{σ:St}{H:Hp}{s:Shared}{A:Around}{E:Value->Shared->Prop}{Q:Value->Shared->Prop}{c:Value}{b:Bool}
inductive TyOf(K:PySem.W.Frag)(H:Hp):V->Value->Prop where
 | non:TyOf K H .non (.type "NoneType")
 | bl (x:Bool):TyOf K H (.bl x) (.type "bool")
 | int (i:Int):TyOf K H (.int i) (.type "int")
 | str (x:Str):TyOf K H (.str x) (.type "str")
 | flt (x:UInt64):TyOf K H (.flt x) (.type "float")
 | lst {a:Addr} {xs:List V} (e:H a=some (.lst xs)):TyOf K H (.ref a) (.type "list")
 | frz {a:Addr} {o:Obj} {xs:List V} (e:H a=some (.frz o (.lst xs))):TyOf K H (.ref a) (.type "list")
 | tup {a:Addr} {xs:List V} (e:H a=some (.tup xs)):TyOf K H (.ref a) (.type "tuple")
 | dK {a:Addr} {kvs:List (QK×V)} (e:H a=some (.dK kvs)):TyOf K H (.ref a) (.type "dict")
 | dT {a:Addr} {kvs:List (List QK×V)} (e:H a=some (.dT kvs)):TyOf K H (.ref a) (.type "dict")
 | ins {a C dx:Addr} {fs:List (Str×V)} (e:H a=some (.ins C dx fs)) (cl:Cls K C) (ha:PySem.W.findIn K (.ref C) "__class__"=some (some (.builtin "object.__class__")))
  (hn:PySem.W.specialIn K (.builtin "object.__class__") "__get__"=some (some (.builtin "getset_descriptor.__get__"))) (htk:PySem.W.takesIn K (.builtin "object.__class__")=some true)
  (hm:PySem.W.mroIn K C (.type "object")=some true):TyOf K H (.ref a) (.ref C)
theorem jd3{x:V}{u t:Value}(I:Inv X tf σ H s)(rx:RelV x u)(ty:TyOf X.K H x t)(e:PySem.W.kitOne X.K t c=some b)(h:∀tk,Q (.bool b) { s with toks:=tk }):
 wpAny (model X.prog X.w) A (call (.builtin "isinstance") [u,c]) Q E s:=by
 cases ty with
 | non=>cases (show u=Value.none from rx);exact YW PySem.W.kitx_none I.kIn True.intro e (fun z=>nomatch z) h
 | bl y=>cases (show u=Value.bool y from rx);exact YW PySem.W.kitx_bool I.kIn True.intro e (fun z=>nomatch z) h
 | int i=>obtain⟨t,q⟩:=(show ∃t,u=Value.int i t from rx);cases q;exact YW PySem.W.kitx_int I.kIn True.intro e (fun z=>nomatch z) h
 | str y=>obtain⟨t,q⟩:=(show ∃t,u=Value.str y t from rx);cases q;exact YW PySem.W.kitx_str I.kIn True.intro e (fun z=>nomatch z) h
 | flt y=>obtain⟨t,q⟩:=(show ∃t,u=Value.float y t from rx);cases q;exact YW PySem.W.kitx_float I.kIn True.intro e (fun z=>nomatch z) h
 | @lst a xs ea=>cases (show u=Value.ref a from rx);obtain⟨_,_,n,_,h1⟩:=(show ObjOk X.prog X.w H s.heap a (.lst xs)from I.hok a _ ea);exact YW PySem.W.kitx_list I.kIn ⟨_,h1,rfl⟩ e (fun z=>nomatch z) h
 | @frz a ob xs ea=>cases (show u=Value.ref a from rx);obtain⟨_,_,_,n,_,h1⟩:=(show ObjOk X.prog X.w H s.heap a (.frz ob (.lst xs))from I.hok a _ ea);exact YW PySem.W.kitx_list I.kIn ⟨_,h1,rfl⟩ e (fun z=>nomatch z) h
 | @tup a xs ea=>cases (show u=Value.ref a from rx);obtain⟨_,_,_,p⟩:=(show ObjOk X.prog X.w H s.heap a (.tup xs)from I.hok a _ ea);obtain⟨o,h1,h2,_⟩:=p;exact YW PySem.W.kitx_tuple I.kIn ⟨o,h1,h2⟩ e (fun z=>nomatch z) h
 | @dK a kvs ea=>cases (show u=Value.ref a from rx);obtain⟨_,_,vs,_,p⟩:=(show ObjOk X.prog X.w H s.heap a (.dK kvs)from I.hok a _ ea);obtain⟨o,es,ep,h1,h2,_⟩:=p;exact YW PySem.W.kitx_dict I.kIn ⟨o,h1,h2.1⟩ e (fun z=>nomatch z) h
 | @dT a kvs ea=>cases (show u=Value.ref a from rx);obtain⟨_,_,xs,_,o,es,ep,h1,h2,_⟩:=(show ObjOk X.prog X.w H s.heap a (.dT kvs)from I.hok a _ ea);exact YW PySem.W.kitx_dict I.kIn ⟨o,h1,h2.1⟩ e (fun z=>nomatch z) h
 | @ins a C dx fs ea cl ha hn htk hm=>cases (show u=Value.ref a from rx);obtain⟨mA,O,_⟩:=jgM I.hok ea;obtain⟨od,J,_⟩:=O.look;exact YW (PySem.W.kitx_own (cl.get _) cl.hd ha hn htk hm) I.kIn J e (fun z=>nomatch z) h
end
structure Room(k:Nat)(A:Around):Prop where
 hd:A.handled=none
 dp:A.depth+3*k+5<recursionLimit
 un:A.units+16*k+200<cLine
theorem Room.mono{j k:Nat}{A:Around}(r:Room k A)(h:j<=k):Room j A:=⟨r.hd,by have:=r.dp;omega,by have:=r.un;omega⟩
theorem Room.deeper{k:Nat}{A:Around}(r:Room (k+1) A)(env:Env):Room k (A.deeper env):=⟨r.hd,by have:=r.dp;show A.depth+1+3*k+5<_;omega,by have:=r.un;show A.units+3+16*k+200<_;omega⟩
theorem Room.in1{k:Nat}{A:Around}(r:Room (k+1) A):Room k A.in1:=⟨r.hd,by have:=r.dp;show A.depth+3*k+5<_;omega,by have:=r.un;show A.units+1+16*k+200<_;omega⟩
theorem Room.depth{k:Nat}{A:Around}(r:Room k A):A.depth<recursionLimit:=by have:=r.dp;omega
theorem Room.units{k:Nat}{A:Around}(r:Room k A):A.units+64<cLine:=by have:=r.un;omega
def Z8:TA:=fun _ H Q=>Q [] H
def Jo(ta:TE)(tr:TA):TA:=fun σ H Q=>ta σ H fun x H1=>tr σ H1 fun xs H2=>Q (x::xs) H2
section
variable{X:Cx}{e:Expr}{es:List Expr}{te:TE}{t:TA}{pos:Pos}
theorem zT:PA X [] Z8:=fun _ _ _ _ H Q I h=>Calls.spliced_nil ⟨[],H,I,.nil,h⟩
theorem qC(ha:PE X e te)(hr:PA X es t)(hs:starEach (e::es) X.env=(false,eval e X.env)::starEach es X.env:=by rfl):PA X (e::es) (Jo te t):=by intro pos tf s σ H Q I h;rw[hs];show wpAny _ _ (spliced ((false,eval e X.env)::backTo pos (starEach es X.env))) _ _ s;refine Calls.spliced_cons (qe (ha tf s σ H _ I h) fun u s1 zz=>?_);obtain⟨x,H1,I1,r1,q1⟩:=zz;exact qe (hr pos tf s1 σ H1 _ I1 q1) fun us s2 ⟨xs,H2,I2,r2,q2⟩=>⟨x::xs,H2,I2,.cons r1 r2,q2⟩
def ji9(t:TA):TE:=fun σ H Q=>t σ H fun xs H1=>xs.length<=sizeLine/\∀p,H1 p=none->Q (.ref p) (upd H1 p (.tup xs))
def jj5(t:TA):TE:=fun σ H Q=>t σ H fun xs H1=>xs.length<=sizeLine/\∀p,H1 p=none->Q (.ref p) (upd H1 p (.lst xs))
theorem jfL{x1}(h:PA X es t):PE X (.Tuple es x1 pos) (ji9 t):=by intro tf s σ H Q I hq;refine wpAny_Tuple_spliced (qe (h pos tf s σ H _ I hq) fun us s1 ⟨xs,H1,I1,r,z,q⟩=>⟨by rw[<-r.length];exact z,?_⟩);have hf:H1 s1.heap.objs.size=none:=I1.hok.fresh (Ym _);refine⟨.ref s1.heap.objs.size,upd H1 s1.heap.objs.size (.tup xs),I1.laid (t':=s1.toks) (fun b u e=>Yb _ e) (Ym _) ?_,rfl,q _ hf⟩;exact⟨z,us,r,⟨_,Yl _ rfl,rfl,_,rfl⟩⟩
theorem jio(h:PA X es t):PE X (.List es pos) (jj5 t):=by intro tf s σ H Q I hq;refine wpAny_List_spliced (qe (h pos tf s σ H _ I hq) fun us s1 ⟨xs,H1,I1,r,z,q⟩=>⟨by rw[<-r.length];exact z,?_⟩);have hf:H1 s1.heap.objs.size=none:=I1.hok.fresh (Ym _);refine⟨.ref s1.heap.objs.size,upd H1 s1.heap.objs.size (.lst xs),I1.laid (t':=s1.toks) (fun b u e=>Yb _ e) (Ym _) ?_,rfl,q _ hf⟩;exact⟨z,us,0,r,Yl _ rfl⟩
end
abbrev Sp:=List V->Hp->VK->XK->Prop
abbrev CXT:=List Env->Hp->Shared->XK->Value->Shared->Prop
structure Env0(P:Program)(w:World)(K:PySem.W.Frag)(mg:Str->Option Value)(base:Heap)(A:Around)(outer:List Env)(s:Shared)(H:Hp):Prop where
 frames:A.frames=some outer
 mod:Mod K mg base
 bs:∀b o,base.get? b=some o->s.heap.get? b=some o/\H b=none
 bsz:base.objs.size<=s.heap.objs.size
 funs:s.heap.FunFrames base outer
 frf:∀b∈frs outer,H b=none
 hok:HOk P w H s.heap
 bare:AllBare s.gens
def CE(outer:List Env)(P:Program)(w:World)(H:Hp)(s:Shared)(Q:VK)(u:Value)(s':Shared):Prop:=∃v H',s'.os=s.os/\AllBare s'.gens/\Un (frs outer) [] H H' s.heap s'.heap/\HOk P w H' s'.heap/\RelV v u/\Q v H'
def CR(CX:CXT)(outer:List Env)(P:Program)(w:World)(H:Hp)(s:Shared)(Q:VK)(E:XK)(r:Result)(s':Shared):Prop:=
 match r with
 | .ok (.ret u)=>CE outer P w H s Q u s'
 | .ok _=>False
 | .error e=>CX outer H s E e s'
structure FnOk(P:Program)(w:World)(K:PySem.W.Frag)(mg:Str->Option Value)(base:Heap)(CX:CXT)(k:Nat)(f:Addr)(fd:FuncData)(ps:List Str)(sp:Sp):Prop where
 len:∀vs H Q E,sp vs H Q E->vs.length=ps.length
 run:∀(A:Around) (outer:List Env) (s:Shared) (H:Hp) (args:Args) (us:List Value) (vs:List V) (Q:VK) (E:XK),Room k A->Env0 P w K mg base A outer s H->BindsTo s fd args (ps.zip us)->Vals vs us->sp vs H Q E->
  codeAny (model P w) A (.call (.ref f) args) (CR CX outer P w H s Q E) s
theorem FnOk.mono{P:Program}{w:World}{K:PySem.W.Frag}{mg:Str->Option Value}{base:Heap}{CX:CXT}{j k:Nat}{f:Addr}{fd:FuncData}{ps:List Str}{sp:Sp}(F:FnOk P w K mg base CX j f fd ps sp)(h:j<=k):
 FnOk P w K mg base CX k f fd ps sp:=⟨F.len,fun A outer s H args us vs Q E hr=>F.run A outer s H args us vs Q E (hr.mono h)⟩
theorem FnOk.imp{P:Program}{w:World}{K:PySem.W.Frag}{mg:Str->Option Value}{base:Heap}{CX:CXT}{k:Nat}{f:Addr}{fd:FuncData}{ps:List Str}{sp sp':Sp}(F:FnOk P w K mg base CX k f fd ps sp)
 (h:∀vs H Q E,sp' vs H Q E->sp vs H Q E):FnOk P w K mg base CX k f fd ps sp':=
 ⟨fun vs H Q E q=>F.len vs H Q E (h _ _ _ _ q),fun A outer s H args us vs Q E hr he hb hv hs=>F.run A outer s H args us vs Q E hr he hb hv (h _ _ _ _ hs)⟩
theorem Env0.in1{P:Program}{w:World}{K:PySem.W.Frag}{mg:Str->Option Value}{base:Heap}{A:Around}{outer:List Env}{s:Shared}{H:Hp}(e:Env0 P w K mg base A outer s H):
 Env0 P w K mg base A.in1 outer s H:=⟨e.frames,e.mod,e.bs,e.bsz,e.funs,e.frf,e.hok,e.bare⟩
section
variable{X:Cx}{tf:List (Addr×Obj)}{σ:St}{H:Hp}{s s':Shared}
theorem Inv.env0(I:Inv X tf σ H s):Env0 X.prog X.w X.K X.mg X.base X.A X.stack s H:=⟨I.ok.frames,I.ok.mod,I.bs,Yx I.ok.bsz I.sz,I.stack,I.stkFree,I.hok,I.bare⟩
theorem Inv.after{Q:VK}{u:Value}(I:Inv X tf σ H s)(h:CE X.stack X.prog X.w H s Q u s'):EP X tf σ Q u s':=by obtain⟨v,H',os,bare,un,hok,r,q⟩:=h;obtain⟨hh,g,d,t,os'⟩:=s';obtain rfl:os'=s.os:=os;exact⟨v,H',I.call (h':=hh) (g':=g) (d':=d) (t':=t) (ch:=[]) un hok bare (fun b z=>absurd z (by simp)),r,q⟩
end
def jdt(sp:Sp)(dvs:List V)(E:XK)(t:TA):TE:=fun σ H Q=>t σ H fun vs H1=>sp (vs++dvs) H1 Q E
def Binds(K:PySem.W.Frag)(fd:FuncData)(ps:List Str)(ds:List Value):Prop:=∀(s:Shared) (us:List Value),K.In s.heap->(us++ds).length=ps.length->BindsTo s fd ⟨us,[]⟩ (ps.zip (us++ds))
theorem Binds.all{K:PySem.W.Frag}{fd:FuncData}{ps:List Str}(h:∀us:List Value,us.length=ps.length->bindArgs fd ⟨us,[]⟩=pure (ps.zip us)):Binds K fd ps []:=fun s us _ hl=>by rw[yo]at hl ⊢;exact .of_eq (h us hl)
def jc6(CX:CXT)(X:Cx)(E:XK):Prop:=∀(tf:List (Addr×Obj)) (σ:St) (H:Hp) (s:Shared) (e:Value) (s':Shared),Inv X tf σ H s->CX X.stack H s E e s'->X.xe e s'
section
variable{X:Cx}{CX:CXT}{k:Nat}{f C:Addr}{fd:FuncData}{ps:List Str}{sp:Sp}{dvs:List V}{ds:List Value}{E:XK}{x m:Str}{p pos apos:Pos}{e o:Expr}{es:List Expr}{ta:TE}{t:TA}
theorem ji1{tf:List (Addr×Obj)}{σ:St}{H:Hp}{s:Shared}{Q:VK}{us:List Value}{vs:List V}(F:FnOk X.prog X.w X.K X.mg X.base CX k f fd ps sp)(hr:Room k X.A)(hb:Binds X.K fd ps ds)(hd:Vals dvs ds)(hx:jc6 CX X E)
 (I:Inv X tf σ H s) (r:Vals vs us) (h:sp (vs++dvs) H Q E):wpAny (model X.prog X.w) X.A (call (.ref f) us) (EP X tf σ Q) X.xe s:=by
 have r2:Vals (vs++dvs) (us++ds):=r.append hd;have hl:(us++ds).length=ps.length:=by rw[<-r2.length];exact F.len _ _ _ _ h
 refine wpAny_call (Ki (F.run X.A X.stack s H ⟨us,[]⟩ (us++ds) (vs++dvs) Q E hr I.env0 (hb s us I.kIn hl) r2 h) fun r s' hq=>?_);cases r with
 | error e=>exact hx tf σ H s e s' I hq
 | ok fl=>
   cases fl with
   | ret u=>exact I.after hq
   | next=>exact False.elim hq
   | brk=>exact False.elim hq
   | cont=>exact False.elim hq
theorem jbd(F:FnOk X.prog X.w X.K X.mg X.base CX k f fd ps sp)(hr:Room k X.A)(hg:Gl X x)(hm:X.mg x=some (.ref f))(hk:PySem.W.keepIn X.K (.ref f)=true)(hb:Binds X.K fd ps ds)(hd:Vals dvs ds)(hx:jc6 CX X E)
 (ha:PA X (e::es) t) (hdb:(x == ("__debug__":Str))=false:=by decide) (he:starEach (e::es) X.env=(false,eval e X.env)::starEach es X.env:=by rfl) (hpl:(backTo pos (starEach es X.env)).any (·.1)=false:=by rfl) :
 PE X (.Call (.Name x p) (e::es) [] pos) (jdt sp dvs E t):=by
 intro tf s σ H Q I h;refine wpAny_Call_Name_kw (jdk I hg hm ?_ hdb);refine PySem.W.callWith_K (h₀:=X.base) I.ok.mod.kin hk (qe (ha pos tf s σ H _ I h) fun us s1 ⟨vs,H1,I1,r,q⟩=>⟨I1.kIn,?_⟩) he hpl;exact ji1 F hr hb hd hx I1 r q
end
structure FnScope(N P:List Str)(sc:Scope):Prop where
 kind:sc.kind=.function
 co:sc.isCoroutine=false
 gen:sc.isGenerator=false
 nd:N.Nodup
 pre:N.take P.length=P
 par:∀x∈P,sc.names.lookup x=some .local\/sc.names.lookup x=some .cell
 nofree:∀y∈sc.names,y.2≠.free
theorem jaK{kindOf:Str->Option NameKind}{x:Str}:∀{binds:List (Str×Value)} {m:Str->Option Value},(∀v,(x,v)∉binds)->bindL kindOf binds m x=m x
 | [],_,_=>rfl
 | (n,v)::r,m,h=>by
   unfold bindL;rw[jaK fun w hw=>h w (Yg _ hw)];split
   . have:x≠n:=by rintro rfl;exact h v Yd
     simp[this]
   . rfl
theorem jas{kindOf:Str->Option NameKind}{x:Str}:∀{binds:List (Str×Value)} {m:Str->Option Value},(∀v,(x,v)∉binds)->bindC kindOf binds m x=m x
 | [],_,_=>rfl
 | (n,v)::r,m,h=>by
   unfold bindC;rw[jas fun w hw=>h w (Yg _ hw)];split
   . rfl
   . have:x≠n:=by rintro rfl;exact h v Yd
     simp[this]
theorem jaG{kindOf:Str->Option NameKind}{x:Str}{v:Value}:∀{P:List Str} {vs:List Value} {i:Nat} {m:Str->Option Value},P.Nodup->P[i]?=some x->vs[i]?=some v->kindOf x=some .local->
 bindL kindOf (P.zip vs) m x=some v
 | [],_,_,_,_,h,_,_=>by simp at h
 | _::_,[],_,_,_,_,h,_=>by simp at h
 | p::P,w::vs,0,m,nd,h1,h2,hk=>by simp at h1 h2;subst h1;subst h2;show bindL kindOf ((p,w)::P.zip vs) m p=_;unfold bindL;rw[jaK fun v hv=>(ye.mp nd).1 (List.of_mem_zip hv).1,Yq hk];simp
 | p::P,w::vs,i+1,m,nd,h1,h2,hk=>by show bindL kindOf ((p,w)::P.zip vs) m x=_;unfold bindL;exact jaG (i:=i) (ye.mp nd).2 (by simpa using h1) (by simpa using h2) hk
theorem jaF{kindOf:Str->Option NameKind}{x:Str}{v:Value}:∀{P:List Str} {vs:List Value} {i:Nat} {m:Str->Option Value},P.Nodup->P[i]?=some x->vs[i]?=some v->kindOf x≠some .local->
 bindC kindOf (P.zip vs) m x=some v
 | [],_,_,_,_,h,_,_=>by simp at h
 | _::_,[],_,_,_,_,h,_=>by simp at h
 | p::P,w::vs,0,m,nd,h1,h2,hk=>by simp at h1 h2;subst h1;subst h2;show bindC kindOf ((p,w)::P.zip vs) m p=_;unfold bindC;rw[jas fun v hv=>(ye.mp nd).1 (List.of_mem_zip hv).1,YG hk];simp
 | p::P,w::vs,i+1,m,nd,h1,h2,hk=>by show bindC kindOf ((p,w)::P.zip vs) m x=_;unfold bindC;exact jaF (i:=i) (ye.mp nd).2 (by simpa using h1) (by simpa using h2) hk
def J4(N:List Str)(vs:List V):St:=vs.map some++List.replicate (N.length-vs.length) none
def jct(CX:CXT)(P:Program)(w:World)(K:PySem.W.Frag)(mg:Str->Option Value)(base:Heap)(N:List Str)(qual:Str)(scope:Scope)(f:Addr)(cd:Value)(A:Around)(outer:List Env)(s:Shared)(H:Hp)(E:XK):Cx where
 prog:=P
 w:=w
 K:=K
 mg:=mg
 base:=base
 A:=A.deeper (envOfC qual scope s.heap.objs.size f cd)
 N:=N
 s₀:=s
 H₀:=H
 env:=envOfC qual scope s.heap.objs.size f cd
 outer:=outer
 stack:=envOfC qual scope s.heap.objs.size f cd::outer
 ex:=[]
 calm:=true
 fn:=fun _=>true
 pn:=[]
 xe:=fun e s'=>wpAny (model P w) (A.deeper (envOfC qual scope s.heap.objs.size f cd)) (leaving (envOfC qual scope s.heap.objs.size f cd) e) (fun _ s''=>CX outer H s E e s'') (fun e' s''=>CX outer H s E e' s'') s'
theorem jbG{sc:Scope}{n:Nat}{x:Str}(h:sc.names.lookup x=some .cell):∃c,(cellsFrom n sc.names []).lookup x=some c:=by have q:=PySem.W.cellsFrom_some sc.names n [] (.inl h);exact Option.isSome_iff_exists.mp q
theorem jd0{CX:CXT}{P:Program}{w:World}{K:PySem.W.Frag}{mg:Str->Option Value}{base:Heap}{N ps:List Str}{qual:Str}{scope:Scope}{f:Addr}{cd:Value}{A:Around}{outer:List Env}{s s1:Shared}{H:Hp}{E:XK}{us:List Value}{vs:List V}
 (S:FnScope N ps scope) (hd:A.handled=none) (e0:Env0 P w K mg base A outer s H) (hl:vs.length=ps.length) (r:Vals vs us)
 (x:InCallC s s.heap.objs.size (bindL (envOfC qual scope s.heap.objs.size f cd).kindOf (ps.zip us) fun _=>none) (cellsFrom (s.heap.objs.size+1) scope.names []) (bindC (envOfC qual scope s.heap.objs.size f cd).kindOf (ps.zip us) fun _=>none) s1) :
 Inv (jct CX P w K mg base N qual scope f cd A outer s H E) [] (J4 N vs) H s1:=by
 have hpl:ps.length<=N.length:=by have:=congrArg List.length S.pre;rw[List.length_take]at this;omega
 obtain⟨h1,tk,rfl,hk⟩:=x.done;have noA:∀b:Addr,b∉(jct CX P w K mg base N qual scope f cd A outer s H E).ex:=fun b z=>absurd (show b∈([]:List Addr)from z) (by simp);refine⟨⟨e0.mod,S.kind,rfl,rfl,Ym _,fun y z c h1 h2=>?_,fun y hy=>?_,fun y c _ h=>?_,fun _=>hd,Around.frames_deeper e0.frames,.inr ⟨rfl,rfl⟩,fun b z=>absurd z (noA b),e0.bs,e0.bsz,fun b _ _=>noA b,fun b z=>absurd z (noA b),e0.funs,e0.frf⟩,
  rfl,e0.bare,Un.kept hk,⟨_,x.toInCall.ns,fun i y v h1 h2 h3=>?_⟩,fun y c h=>⟨_,x.cell y c h⟩,e0.hok.fresh (Ym _),fun y c h=>?_,fun p hp=>absurd (show p∈([]:List (Addr×Obj))from hp) (by simp),e0.hok.kept hk,?_⟩
 . exact name_of_addr x.apart (yp h1) (yp h2)
 . have hy:scope.names.lookup y=some .cell\/scope.names.lookup y=some .free:=hy;rcases hy with hy | hy
   . exact jbG hy
   . exact absurd rfl (S.nofree _ (yp hy))
 . exact yK (x.above y c (yp h))
 . have hi:i<vs.length:=by
    unfold J4 at h2;by_cases hi:i<vs.length
    . exact hi
    . rw[YI (by simpa using hi)]at h2;rw[Y0]at h2;split at h2 <;> cases h2
   have ha:vs[i]?=some v:=by
    unfold J4 at h2;rw[YE (by simpa using hi),Yt]at h2;cases e:vs[i]? with
    | none=>rw[e]at h2;cases h2
    | some a=>rw[e]at h2;cases h2;rfl
   obtain⟨u,hu,rv⟩:=r.get ha;have hp:ps[i]?=some y:=by rw[<-S.pre,List.getElem?_take_of_lt (by omega)];exact h1
   have ndP:ps.Nodup:=by rw[<-S.pre];exact S.nd.sublist (List.take_sublist _ _)
   refine⟨u,rv,?_⟩;rcases S.par y (Y1 hp)with k | k
   . exact .inl ⟨k,jaG ndP hp hu k⟩
   . obtain⟨c,e⟩:=jbG (n:=s.heap.objs.size+1) k;refine .inr ⟨.inl k,c,e,?_⟩;have q:=x.cell y c e;rw[jaF ndP hp hu (by show scope.names.lookup y≠_;rw[k];decide)]at q;exact q
 . exact e0.hok.fresh (yK (x.above y c (yp h)))
 . unfold J4;show _=N.length;rw[YB,Ye,yj];omega
theorem jjD{CX:CXT}{P:Program}{w:World}{K:PySem.W.Frag}{mg:Str->Option Value}{base:Heap}{k:Nat}{f:Addr}{name qual:Str}{params:Arguments}{body:List Stmt}{scope:Scope}{dV kV doc pm cdv ct oc:Value}{an od:Option Addr}
 {osl:Array (Option Value)} {N ps:List Str} {sp:Sp} (lk:K.lookup f=some ⟨oc,od,.func (PySem.W.fnOf name qual params body scope dV kV doc pm an cdv ct),osl⟩) (hcd:PySem.W.codeIn K cdv qual=true) (S:FnScope N ps scope)
 (len:∀vs H Q E,sp vs H Q E->vs.length=ps.length)
 (hbody:∀(A:Around) (outer:List Env) (s:Shared) (H:Hp) (vs:List V) (Q:VK) (E:XK),Room k (A.deeper (envOfC qual scope s.heap.objs.size f cdv))->sp vs H Q E->
  ∃t,PSs (jct CX P w K mg base N qual scope f cdv A outer s H E) body t/\t { nx:=fun _ H'=>Q .non H',rt:=Q } (J4 N vs) H) :
 FnOk P w K mg base CX (k+1) f (PySem.W.fnOf name qual params body scope dV kV doc pm an cdv ct) ps sp:=by
 refine⟨len,fun A outer s H args us vs Q E hr e0 hb r hsp=>?_⟩;have hl:=len _ _ _ _ hsp;have KX:K.In s.heap:=e0.mod.kin.keeps fun b o e=>(e0.bs b o e).1;have lim:s.heap.NoLimit:=e0.mod.nolimit.keeps fun b o e=>(e0.bs b o e).1;have hkind:∀y∈ps.zip us,scope.names.lookup y.1=some .local\/(scope.names.lookup y.1=some .cell/\((cellsFrom (s.heap.objs.size+1) scope.names []).lookup y.1).isSome=true):=fun⟨n,v⟩ hy=>by
  rcases S.par n (List.of_mem_zip hy).1 with q | q
  . exact .inl q
  . exact .inr ⟨q,PySem.W.cellsFrom_some _ _ _ (.inl q)⟩
 refine codeAny_call_function hr.depth (KX _ _ lk) rfl S.co S.gen rfl (PySem.W.codeRec_of KX hcd) (hb _ _ _ _ ?_);refine wpAny_newFunctionEnv_cells S.kind hkind fun env he s1 x=>?_;subst he;refine⟨lim.keeps x.toInCall.keep,codeAny_func ?_⟩;obtain⟨t,ht,hq⟩:=hbody A outer s H vs Q E (hr.deeper _) hsp;have I:Inv (jct CX P w K mg base N qual scope f cdv A outer s H E) [] (J4 N vs) H s1:=jd0 S hr.hd e0 hl r x;refine ym (ht [] s1 (J4 N vs) H _ I hq) (fun fl s' hs=>?_) fun e s' hs=>hs;have fin:∀{σ':St} {H':Hp} {v:V} {u:Value},Inv (jct CX P w K mg base N qual scope f cdv A outer s H E) [] σ' H' s'->RelV v u->Q v H'->CE outer P w H s Q u s':=fun{σ' H' v u} J rv q=>⟨v,H',J.os,J.bare,J.base,J.hok,rv,q⟩
 cases fl with
 | ret u=>obtain⟨v,σ',H',J,rv,q⟩:=hs;exact fin J rv q
 | next=>obtain⟨σ',H',J,q⟩:=hs;exact fin (v:=V.non) (u:=Value.none) J rfl q
 | brk=>obtain⟨_,_,_,q⟩:=hs;exact False.elim q
 | cont=>obtain⟨_,_,_,q⟩:=hs;exact False.elim q
section
variable{X:Cx}{x:Str}{p pos:Pos}{e:Expr}{es:List Expr}{t:TA}{id T:String}{r:List V->Hp->VK->Prop}
def tCB(r:List V->Hp->VK->Prop)(t:TA):TE:=fun σ H Q=>t σ H fun vs H1=>r vs H1 Q
theorem Zx(hc:CallR X (.builtin id) r)(hg:Gl X x)(hm:X.mg x=none)(hv:bootBuiltins x=some (.builtin id))(ha:PA X (e::es) t)(hn:x ≠ "__name__":=by decide)(hdb:(x == ("__debug__":Str))=false:=by decide)
 (he:starEach (e::es) X.env=(false,eval e X.env)::starEach es X.env:=by rfl) (hpl:(backTo pos (starEach es X.env)).any (·.1)=false:=by rfl):PE X (.Call (.Name x p) (e::es) [] pos) (tCB r t):=by
 intro tf s σ H Q I h;refine wpAny_Call_Name_kw (JE I hg hm hv ?_ hn hdb);exact PyProof.Rows.callWith_builtin1 (qe (ha pos tf s σ H _ I h) fun us s1 ⟨vs,H1,I1,r1,q1⟩=>hc tf s1 σ H1 vs us Q I1 r1 q1) he hpl
theorem QH(hc:CallR X (.type T) r)(hg:Gl X x)(hm:X.mg x=none)(hv:bootBuiltins x=some (.type T))(ha:PA X (e::es) t)(hn:x ≠ "__name__":=by decide)(hdb:(x == ("__debug__":Str))=false:=by decide)
 (he:starEach (e::es) X.env=(false,eval e X.env)::starEach es X.env:=by rfl) (hpl:(backTo pos (starEach es X.env)).any (·.1)=false:=by rfl):PE X (.Call (.Name x p) (e::es) [] pos) (tCB r t):=by
 intro tf s σ H Q I h;refine wpAny_Call_Name_kw (JE I hg hm hv ?_ hn hdb);exact YN (qe (ha pos tf s σ H _ I h) fun us s1 ⟨vs,H1,I1,r1,q1⟩=>hc tf s1 σ H1 vs us Q I1 r1 q1) he hpl
end
end L2
namespace HT
open PySem PyProof.Rows
section
variable{prog:Program}{w:World}{A:Around}{E:Value->Shared->Prop}{s:Shared}
def sIx(n d:Nat):Option Int->Nat
 | none=>d
 | some v=>if v<0 then(v+(n:Int)).toNat else min v.toNat n
end
end HT
namespace L2
open PySem PySem.Spec PyProof.Rows
abbrev TO:=St->Hp->(Option Int->Hp->Prop)->Prop
def PO(X:Cx)(e:Option Expr)(t:TO):Prop:=
 ∀(tf:List (Addr×Obj)) (s:Shared) (σ:St) (H:Hp) (Q:Option Int->Hp->Prop),Inv X tf σ H s->t σ H Q->
   wpAny (model X.prog X.w) X.A (evalPart e X.env) (fun u s'=>∃o H',Inv X tf σ H' s'/\IsPart u o/\Q o H') X.xe s
def jdE:TO:=fun _ H Q=>Q none H
def jhe(t:TE):TO:=fun σ H Q=>t σ H fun x H1=>∃i,x=.int i/\Q (some i) H1
section
variable{X:Cx}{e:Expr}{te:TE}{lo hi:Option Expr}{tl th:TO}{pos p2:Pos}
theorem jgr:PO X none jdE:=by intro tf s σ H Q I h;rw[evalPart_none];exact Yn ⟨none,H,I,.none,h⟩
theorem jgi(h:PE X e te):PO X (some e) (jhe te):=by intro tf s σ H Q I hw;rw[evalPart_some];refine qe (h tf s σ H _ I hw) fun u s1 zz=>?_;obtain⟨x,H1,I1,r1,q1⟩:=zz;obtain⟨i,rfl,q⟩:=q1;obtain⟨t,rfl⟩:=r1;exact⟨some i,H1,I1,.int i t,q⟩
def SlR(X:Cx)(r:V->Option Int->Option Int->Hp->VK->Prop):Prop:=
 ∀(tf:List (Addr×Obj)) (s:Shared) (σ:St) (H:Hp) (x:V) (v vl vu:Value) (lo hi:Option Int) (sl:Addr) (Q:VK),Inv X tf σ H s->RelV x v->s.heap.IsSliceOf sl vl vu .none->IsPart vl lo->IsPart vu hi->r x lo hi H Q->
   ∃T id,typeLookup (.type T) "__getitem__"=pure (some (.builtin id)) ∧ s.TypeIs v T ∧ wpAny (model X.prog X.w) X.A (getItem v (.ref sl)) (EP X tf σ Q) X.xe s
def tSl(r:V->Option Int->Option Int->Hp->VK->Prop)(te:TE)(tl th:TO):TE:=fun σ H Q=>te σ H fun x H1=>tl σ H1 fun l H2=>th σ H2 fun u H3=>r x l u H3 Q
theorem jca{r:V->Option Int->Option Int->Hp->VK->Prop}(hr:SlR X r)(he:PE X e te)(hl:PO X lo tl)(hu:PO X hi th):PE X (.Subscript e (.Slice lo hi none p2) pos) (tSl r te tl th):=by intro tf s σ H Q I h;refine Subscript_ (qe (he tf s σ H _ I h) fun v s1 zz=>?_);obtain⟨x,H1,I1,r1,q1⟩:=zz;refine wpAny_Slice (qe (hl tf s1 σ H1 _ I1 q1) fun vl s2 ⟨l,H2,I2,pl,q2⟩=>qe (hu tf s2 σ H2 _ I2 q2) fun vu s3 zz=>?_);obtain⟨u,H3,I3,pu,q3⟩:=zz;rw[evalPart_none];refine Yn ?_;have I4:Inv X tf σ H3 { s3 with heap:=s3.heap.push { cls:=.type "slice",data:=.fields #[vl,vu,.none] } }:=I3.kept (t':=s3.toks) fun b ob q=>Yb _ q;obtain⟨T,id,hT,ht,hg⟩:=hr tf { s3 with heap:=s3.heap.push { cls:=.type "slice",data:=.fields #[vl,vu,.none] } } σ H3 x v vl vu l u s3.heap.objs.size Q I4 r1 (Heap.IsSliceOf.new ..) pl pu q3;show wpAny (model X.prog X.w) X.A (subscriptTail e (.Slice lo hi none p2) v (.ref s3.heap.objs.size)) (EP X tf σ Q) X.xe { s3 with heap:=s3.heap.push { cls:=.type "slice",data:=.fields #[vl,vu,.none] } };exact tail_any (ops:=[.ref s3.heap.objs.size,v]) ht hT hg (by with_unfolding_all rfl)
def jd2(xs:List V)(lo hi:Option Int):List V:=(xs.drop (HT.sIx xs.length 0 lo)).take (HT.sIx xs.length xs.length hi-HT.sIx xs.length 0 lo)
theorem jbV(xs:List V)(lo hi:Option Int):(jd2 xs lo hi).length<=xs.length:=by unfold jd2;rw[List.length_take,y8];omega
end
def ixN(n:Nat)(i:Int):Option Nat:=if 0<=i then(if i<n then some i.toNat else none)else if -(n:Int)<=i then some (i+n).toNat else none
def atI{α:Type}(xs:List α)(i:Int):Option α:=(ixN xs.length i).bind fun j=>xs[j]?
theorem jdp{n:Nat}{i:Int}{j:Nat}(h:ixN n i=some j):seqIndex? i n=some j/\j<n /\ -(n:Int)<=i/\i<n:=by
 unfold ixN at h;by_cases h0:0<=i
 . rw[Yq h0]at h;by_cases h1:i<n
   . rw[Yq h1]at h;have e:i.toNat=j:=Option.some.inj h;exact⟨by rw[seqIndex_of h0 h1,e],by omega,by omega,h1⟩
   . rw[YG h1]at h;cases h
 . rw[YG h0]at h;by_cases h1:-(n:Int)<=i
   . rw[Yq h1]at h;have e:(i+n).toNat=j:=Option.some.inj h;exact⟨by rw[seqIndex_neg (by omega) h1,e],by omega,h1,by omega⟩
   . rw[YG h1]at h;cases h
theorem jbk{α:Type}{xs:List α}{i:Int}{v:α}(h:atI xs i=some v):∃j,seqIndex? i xs.length=some j/\xs[j]?=some v/\j<xs.length /\ -(xs.length:Int)<=i/\i<xs.length:=by
 unfold atI at h;cases e:ixN xs.length i with
 | none=>rw[e]at h;cases h
 | some j=>rw[e]at h;obtain⟨h1,h2,h3,h4⟩:=jdp e;exact⟨j,h1,h,h2,h3,h4⟩
def jdM(b:Expr):Prop:=∀o i,subscripted b false o i=operate [o,i] (getItem o i)
def IxR(X:Cx)(r:R2):Prop:=
 ∀(value slice:Expr) (tf:List (Addr×Obj)) (s:Shared) (σ:St) (H:Hp) (x y:V) (v u:Value) (Q:VK),Inv X tf σ H s->RelV x v->RelV y u->r x y H Q->
   subscripted slice false v u=operate [v,u] (getItem v u)->wpAny (model X.prog X.w) X.A (subscriptTail value slice v u) (EP X tf σ Q) X.xe s
def MtR(X:Cx)(id:String)(r:V->List V->Hp->VK->Prop):Prop:=
 ∀(tf:List (Addr×Obj)) (s:Shared) (σ:St) (H:Hp) (x:V) (xs:List V) (v:Value) (us:List Value) (Q:VK),Inv X tf σ H s->RelV x v->Vals xs us->r x xs H Q->
   wpAny (model X.prog X.w) X.A (call (.builtin id) (v::us)) (EP X tf σ Q) X.xe s
section
variable{X:Cx}{a b:Expr}{ta tb:TE}{pos:Pos}
theorem IxR.or{r r':R2}(h:IxR X r)(h':IxR X r'):IxR X (fun x y H Q=>r x y H Q\/r' x y H Q):=by
 intro value slice tf s σ H x y v u Q I rx ry q hs;rcases q with q | q
 . exact h value slice tf s σ H x y v u Q I rx ry q hs
 . exact h' value slice tf s σ H x y v u Q I rx ry q hs
theorem jfW{r:R2}(hr:IxR X r)(ha:PE X a ta)(hb:PE X b tb)(hs:jdM b):PE X (.Subscript a b pos) (tOp r ta tb):=by intro tf s σ H Q I h;exact Subscript_ (jic ha hb I h fun v u s2 x y H2 I2 rx ry q=>hr a b tf s2 σ H2 x y v u Q I2 rx ry q (hs _ _))
def jjw(K:PySem.W.Frag):R2:=fun x y H Q=>∃p xs i v,x=.ref p/\y=.int i/\qW K H p xs/\atI xs i=some v/\Q v H
def jjP(K:PySem.W.Frag):R2:=fun x y H Q=>∃p xs i v,x=.ref p/\y=.int i/\SqT K H p xs/\atI xs i=some v/\Q v H
def jjI:R2:=fun x y H Q=>∃z i c,x=.str z/\y=.int i/\z.length<=sizeLine/\atI z.cps.toList i=some c/\Q (.str ⟨#[c]⟩) H
theorem ix_list:IxR X (jjw X.K):=by
 intro value slice tf s σ H x y v u Q I rx ry h hs;obtain⟨p,xs,i,z,rfl,rfl,hq,he,q⟩:=h;cases rx;obtain⟨t,rfl⟩:=ry;obtain⟨tm,r,pl,hz⟩:=I.list hq;obtain⟨j,h1,h2,h3,h4,h5⟩:=jbk he;obtain⟨w,ew,rw'⟩:=r.get h2;have hl:=r.length;have hn:=QP;have fin:EP X tf σ Q w s:=⟨z,H,I,rw',q⟩;by_cases h0:0<=i
 . have hj:i.toNat=j:=by rw[seqIndex_of h0 h5]at h1;exact Option.some.inj h1
   exact item_listR pl.isList h0 (by omega) (by rw[hj];simpa using ew) fin hs
 . have hj:(i+(tm.toArray.size:Int)).toNat=j:=by rw[seqIndex_neg (by omega) h4]at h1;rw[Yk,<- hl];exact Option.some.inj h1
   exact subscriptTail_builtinR (x:=w) pl.isList.typeIs slot_list_getitem.lookup
    (wpAny_getItem_list_neg (Q:=fun r s'=>r=w/\EP X tf σ Q r s') pl.isList (by omega) (by rw[Yk] <;> omega) (by omega) (by rw[hj];simpa using ew) ⟨rfl,fin⟩) hs
theorem ix_tup:IxR X (jjP X.K):=by
 intro value slice tf s σ H x y v u Q I rx ry h hs;obtain⟨p,xs,i,z,rfl,rfl,hq,he,q⟩:=h;cases rx;obtain⟨t,rfl⟩:=ry;obtain⟨tm,r,pl,hz⟩:=I.tuple hq;obtain⟨j,h1,h2,h3,h4,h5⟩:=jbk he;obtain⟨w,ew,rw'⟩:=r.get h2;have hl:=r.length;have hn:=QP;have fin:EP X tf σ Q w s:=⟨z,H,I,rw',q⟩;exact subscriptTail_builtinR (x:=w) pl.typeIs slot_tuple_getitem.lookup
  (getItem_tuple (j:=j) (Q:=fun r s'=>r=w/\EP X tf σ Q r s') pl (by omega) (by omega) (by rw[Yk,<- hl];exact h1) (by simpa using ew) ⟨rfl,fin⟩) hs
theorem jiL:IxR X jjI:=by
 intro value slice tf s σ H x y v u Q I rx ry h hs;obtain⟨z,i,c,rfl,rfl,hz,he,q⟩:=h;obtain⟨t,rfl⟩:=rx;obtain⟨t',rfl⟩:=ry;obtain⟨j,h1,h2,h3,h4,h5⟩:=jbk he;have hl:z.cps.toList.length=z.length:=by simp[Str.length]
 rw[hl]at h1 h4 h5;have hn:=QP;exact tail_any (Ka s z t) slot_str_getitem.lookup (getItem_str (c:=c) (by have e1:decide (i < -(2 ^ 63:Int))=false:=YJ (by omega);have e2:decide (i>=2 ^ 63)=false:=YJ (by omega);rw[e1,e2,Bool.or_false]) (by rw[h1];simpa using h2) ⟨.str ⟨#[c]⟩,H,I.tok _,⟨_,rfl⟩,q⟩) hs
def rIx(K:PySem.W.Frag):R2:=fun x y H Q=>jjw K x y H Q\/jjP K x y H Q\/jjI x y H Q
theorem jcy:IxR X (rIx X.K):=ix_list.or (ix_tup.or jiL)
theorem jc3(tm:List Value)(n j:Nat)(u:Value):Obj.mapSeq (·.setIfInBounds j u) { cls:=.type "list",data:=.seq tm.toArray n }={ cls:=.type "list",data:=.seq (tm.set j u).toArray n }:=by simp[Obj.mapSeq]
theorem Inv.lst{tf:List (Addr×Obj)}{σ:St}{H:Hp}{s:Shared}{p:Addr}{xs:List V}(I:Inv X tf σ H s)(h:H p=some (.lst xs)):
 ∃(tm:List Value) (n:Nat),Vals xs tm ∧ s.heap.get? p=some { cls:=.type "list",data:=.seq tm.toArray n } ∧ xs.length ≤ sizeLine:=by
 obtain⟨z,tm,n,r,e⟩:=I.hok p _ h;exact⟨tm,n,r,e,z⟩
theorem Inv.lstUpd{tf:List (Addr×Obj)}{σ:St}{H:Hp}{s:Shared}{p:Addr}{xs ys:List V}{tm its':List Value}{n n':Nat}{f:Obj->Obj}(I:Inv X tf σ H s)(h:H p=some (.lst xs))
 (ho:s.heap.get? p=some { cls:=.type "list",data:=.seq tm.toArray n }) (hf:f { cls:=.type "list",data:=.seq tm.toArray n }={ cls:=.type "list",data:=.seq its'.toArray n' }) (r:Vals ys its') (hz:ys.length ≤ sizeLine) (t:Nat) :
 Inv X tf σ (upd H p (.lst ys)) { s with heap:=s.heap.update p f,toks:=t }:=by
 have e:(s.heap.update p f).get? p=some { cls:=.type "list",data:=.seq its'.toArray n' }:=by rw[YZ f ho (by rw[hf] <;> rfl),hf]
 refine I.write (x:=p) (e:=p) (by rw[h];trivial) (.inl rfl) (fun b u hb q=>(Heap.get?_update_other _ _ (Ne.symm hb)).trans q) ⟨_,e⟩ ?_;exact⟨hz,its',n',r,e⟩
def jht:V->V->V->Hp->(Hp->Prop)->Prop:=fun o i v H Q=>∃p xs k j,o=.ref p/\i=.int k/\H p=some (.lst xs)/\ixN xs.length k=some j/\Q (upd H p (.lst (xs.set j v)))
theorem jeH:jkA X jht:=by
 intro tf s σ H o i v ov iv u Q I ro ri rv h;obtain⟨p,xs,k,j,rfl,rfl,hp,hj,q⟩:=h;cases ro;obtain⟨t,rfl⟩:=ri;obtain⟨tm,n,r,ho,hz⟩:=I.lst hp;obtain⟨h1,h2,h3,h4⟩:=jdp hj;have hl:=r.length;have hn:=QP;have I':Inv X tf σ (upd H p (.lst (xs.set j v))) { s with heap:=s.heap.update p (Obj.mapSeq (·.setIfInBounds j u)) }:=I.lstUpd hp ho (jc3 tm n j u) (r.set rv j) (by rw[List.length_set];exact hz) s.toks
 by_cases h0:0<=k
 . have hk:k.toNat=j:=by rw[seqIndex_of h0 h4]at h1;exact Option.some.inj h1
   exact PySem.W.ki_setAt ho h0 (by omega) (by rw[Yk,<- hl];exact h4) (by rw[hk];exact⟨_,I',q⟩)
 . have hk:(k+(tm.toArray.size:Int)).toNat=j:=by rw[seqIndex_neg (by omega) h3]at h1;rw[Yk,<- hl];exact Option.some.inj h1
   exact PySem.W.ki_setBack ho (by omega) (by rw[Yk,<- hl];exact h3) (by omega) (by rw[hk];exact⟨_,I',q⟩)
theorem jaX(lo hi:Option Int)(n:Nat):(sliceBounds lo hi none n).1=((HT.sIx n 0 lo:Nat):Int)/\(sliceBounds lo hi none n).2.1=((HT.sIx n n hi:Nat):Int)/\(sliceBounds lo hi none n).2.2=1:=by
 refine⟨?_,?_,rfl⟩
 . cases lo with
   | none=>simp[sliceBounds,HT.sIx]
   | some i=>
     simp only[sliceBounds,HT.sIx,Option.getD_none,show(1:Int)>0 by decide,yU];by_cases h:i<0
     . simp only[h,yU] <;> omega
     . simp only[h,Kh] <;> omega
 . cases hi with
   | none=>simp[sliceBounds,HT.sIx]
   | some i=>
     simp only[sliceBounds,HT.sIx,Option.getD_none,show(1:Int)>0 by decide,yU];by_cases h:i<0
     . simp only[h,yU] <;> omega
     . simp only[h,Kh] <;> omega
theorem jap(tm:List Value)(lo hi:Option Int):slicePick tm.toArray lo hi none=((tm.drop (HT.sIx tm.length 0 lo)).take (HT.sIx tm.length tm.length hi-HT.sIx tm.length 0 lo)).toArray:=by obtain⟨h1,h2,h3⟩:=jaX lo hi tm.toArray.size;unfold slicePick;rw[h1,h2,h3];simp only[sliceRange_one,pick_run,Yk] <;> rfl
def jiC(K:PySem.W.Frag):V->Option Int->Option Int->Hp->VK->Prop:=fun x lo hi H Q=>∃a xs,x=.ref a/\qW K H a xs/\∀p,H p=none->Q (.ref p) (upd H p (.lst (jd2 xs lo hi)))
theorem jgE:SlR X (jiC X.K):=by intro tf s σ H x v vl vu lo hi sl Q I rx hs pl pu h;obtain⟨a,xs,rfl,hx,q⟩:=h;cases rx;obtain⟨tm,r,ht,hz⟩:=I.list hx;have tI:=r.length;refine⟨"list",_,slot_list_getitem.lookup,ht.isList.typeIs,?_⟩;refine wpAny_getItem_list_slice ht.isList hs pl pu .none (by simp) ?_ (by rw[Yk] <;> omega);rw[jap,<- tI];refine⟨.ref s.heap.objs.size,_,I.laid (t':=s.toks) (o:=.lst (jd2 xs lo hi)) (fun b ob q=>Yb _ q) (Ym _) ?_,rfl,q _ (I.hok.fresh (Ym _))⟩;exact⟨Yx (jbV xs lo hi) hz,_,0,(r.drop (HT.sIx xs.length 0 lo)).take (HT.sIx xs.length xs.length hi-HT.sIx xs.length 0 lo),Yl _ rfl⟩
def Jc:V->Bool
 | .non=>true
 | .bl _=>true
 | .int _=>true
 | .str _=>true
 | _=>false
def eqV:V->V->Bool
 | .non,.non=>true
 | .bl a,.bl b=>a == b
 | .bl a,.int b=>(if a then 1 else 0) == b
 | .int a,.bl b=>a == (if b then 1 else 0)
 | .int a,.int b=>a == b
 | .str a,.str b=>a == b
 | _,_=>false
theorem jcX{A:Around}{s:Shared}{y x:V}{u v:Value}(ry:RelV y u)(rx:RelV x v)(fy:Jc y=true)(fx:Jc x=true):SeqAt.EqAt A s u v (eqV y x):=by
 cases y with
 | non=>
   cases ry;cases x with
   | non=>cases rx;exact SeqAt.EqAt.same _
   | bl b=>cases rx;exact SeqAt.EqAt.none_bool b
   | int b=>obtain⟨t,rfl⟩:=rx;exact SeqAt.EqAt.none_int b t
   | str b=>obtain⟨t,rfl⟩:=rx;exact SeqAt.EqAt.none_str b t
   | _=>exact absurd (show false=true from fx) Ya
 | bl a=>
   cases ry;cases x with
   | non=>cases rx;exact SeqAt.EqAt.bool_none a
   | bl b=>cases rx;exact SeqAt.EqAt.bool_bool a b
   | int b=>obtain⟨t,rfl⟩:=rx;exact SeqAt.EqAt.bool_int a b t
   | str b=>obtain⟨t,rfl⟩:=rx;exact SeqAt.EqAt.bool_str a b t
   | _=>exact absurd (show false=true from fx) Ya
 | int a=>
   obtain⟨t',rfl⟩:=ry;cases x with
   | non=>cases rx;exact SeqAt.EqAt.int_none a t'
   | bl b=>cases rx;exact SeqAt.EqAt.int_bool a t' b
   | int b=>obtain⟨t,rfl⟩:=rx;exact SeqAt.EqAt.int_int a t' b t
   | str b=>obtain⟨t,rfl⟩:=rx;exact SeqAt.EqAt.int_str a t' b t
   | _=>exact absurd (show false=true from fx) Ya
 | str a=>
   obtain⟨t',rfl⟩:=ry;cases x with
   | non=>cases rx;exact SeqAt.EqAt.str_none a t'
   | bl b=>cases rx;exact SeqAt.EqAt.str_bool a t' b
   | int b=>obtain⟨t,rfl⟩:=rx;exact SeqAt.EqAt.str_int a t' b t
   | str b=>obtain⟨t,rfl⟩:=rx;exact SeqAt.EqAt.str_str a t' b t
   | _=>exact absurd (show false=true from fx) Ya
 | _=>exact absurd (show false=true from fy) Ya
def eqU(x:V)(u:Value):Bool:=match u with
 | .none=>eqV .non x
 | .bool b=>eqV (.bl b) x
 | .int i _=>eqV (.int i) x
 | .str z _=>eqV (.str z) x
 | _=>false
theorem jfI{x y:V}{u:Value}(r:RelV y u)(f:Jc y=true):eqU x u=eqV y x:=by
 cases y with
 | non=>cases r;rfl
 | bl b=>cases r;rfl
 | int i=>obtain⟨t,rfl⟩:=r;rfl
 | str z=>obtain⟨t,rfl⟩:=r;rfl
 | _=>exact absurd (show false=true from f) Ya
theorem jbc{x:V}:∀{xs:List V} {us:List Value},Vals xs us->xs.all Jc=true->us.any (eqU x)=xs.any fun y=>eqV y x
 | _,_,.nil,_=>rfl
 | y::xs,u::us,.cons r t,f=>by rw[yq,YQ]at f;rw[List.any_cons,List.any_cons,jfI r f.1,jbc t f.2]
theorem ZQ{A:Around}{s:Shared}{x:V}{v:Value}(rx:RelV x v)(fx:Jc x=true):∀{xs:List V} {us:List Value},Vals xs us->xs.all Jc=true->∀u∈us,SeqAt.EqAt A s u v (eqU x u)
 | _,_,.nil,_=>fun u hu=>by cases hu
 | y::xs,u::us,.cons r t,f=>fun u' hu=>by
   rw[yq,YQ]at f;rcases Yj.mp hu with rfl | hu
   . rw[jfI r f.1];exact jcX r rx f.1 fx
   . exact ZQ rx fx t f.2 u' hu
def inV(x:V)(xs:List V):Bool:=xs.any fun y=>eqV y x
def rIn(K:PySem.W.Frag)(neg:Bool):R2:=fun x y H Q=>∃p xs,y=.ref p/\(qW K H p xs\/SqT K H p xs)/\Jc x=true/\xs.all Jc=true/\Q (.bl (if neg then !inV x xs else inV x xs)) H
theorem jes:Qm X (compareOp .In) (rIn X.K false):=by
 intro tf s σ H x y v u Q I rx ry h;obtain⟨p,xs,rfl,hq,fx,fs,q⟩:=h;cases ry;rcases hq with hq | hq
 . obtain⟨tm,r,pl,hz⟩:=I.list hq;refine SeqAt.in_listAt (eqU x) pl.isList (fun w hw=>ZQ rx fx r fs w (by simpa using hw)) ⟨.bl _,H,I,rfl,?_⟩;rw[show tm.toArray.any (eqU x)=tm.any (eqU x) by simp,jbc r fs];exact q
 . obtain⟨tm,r,pl,hz⟩:=I.tuple hq;refine SeqAt.in_tupleAt (eqU x) pl (fun w hw=>ZQ rx fx r fs w (by simpa using hw)) ⟨.bl _,H,I,rfl,?_⟩;rw[show tm.toArray.any (eqU x)=tm.any (eqU x) by simp,jbc r fs];exact q
theorem call_len_seq:CallR X (.builtin "len") (fun xs H Q=>∃p ys,xs=[.ref p] ∧ (qW X.K H p ys ∨ SqT X.K H p ys) ∧ Q (.int ys.length) H):=by
 intro tf s σ H xs us Q I r h;obtain⟨p,ys,rfl,hq,q⟩:=h;obtain⟨u,rfl,rx⟩:=Qs r;cases rx;have hn:=QP;rcases hq with hq | hq
 . obtain⟨tm,r',pl,hz⟩:=I.list hq;have tI:=r'.length;exact Calls.call_len_list pl.isList (by simp only[Yk] <;> omega) ⟨.int ys.length,H,I.tok _,⟨s.toks+1,by rw[Yk,tI]⟩,q⟩
 . obtain⟨tm,r',pl,hz⟩:=I.tuple hq;have tI:=r'.length;exact len_tuple pl (by simp only[Yk] <;> omega) ⟨.int ys.length,H,I.tok _,⟨s.toks+1,by rw[Yk,tI]⟩,q⟩
theorem jaS:CallR X (.builtin "len") (fun xs H Q=>∃z,xs=[.str z] ∧ z.length ≤ sizeLine ∧ Q (.int z.length) H):=by intro tf s σ H xs us Q I r h;obtain⟨z,rfl,hz,q⟩:=h;obtain⟨u,rfl,t,rfl⟩:=Qs r;have hn:=QP;exact len_str (by omega) ⟨.int z.length,H,I.tok _,⟨_,rfl⟩,q⟩
theorem CallR.or{f:Value}{r r':List V->Hp->VK->Prop}(h:CallR X f r)(h':CallR X f r'):CallR X f (fun xs H Q=>r xs H Q\/r' xs H Q):=by
 intro tf s σ H xs us Q I rs q;rcases q with q | q
 . exact h tf s σ H xs us Q I rs q
 . exact h' tf s σ H xs us Q I rs q
theorem ja2:CallR X (.type "list") (fun xs H Q=>∃p ys,xs=[.ref p] ∧ (qW X.K H p ys ∨ SqT X.K H p ys) ∧ ∀l,H l=none → Q (.ref l) (upd H l (.lst ys))):=by
 intro tf s σ H xs us Q I r h;obtain⟨p,ys,rfl,hq,q⟩:=h;obtain⟨u,rfl,rx⟩:=Qs r;cases rx;have fin:∀(tm:List Value),Vals ys tm->ys.length<=sizeLine->∀(h':Heap) (c':Nat),(∀b o',s.heap.get? b=some o'->h'.get? b=some o')->
  h'.get? s.heap.objs.size=some { cls:=.type "list",dict:=none,data:=.seq tm.toArray c',slots:=#[] } → EP X tf σ Q (.ref s.heap.objs.size) { s with heap:=h' }:=fun tm r' hz h' c' kp e=>
  ⟨.ref s.heap.objs.size,_,I.laid (t':=s.toks) kp (Ym _) (show ObjOk X.prog X.w _ h' _ (.lst ys)from⟨hz,tm,c',r',e⟩),rfl,q _ (I.hok.fresh (Ym _))⟩
 rcases hq with hq | hq
 . obtain⟨tm,r',pl,hz⟩:=I.list hq;have tI:=r'.length;obtain⟨o,ho,hc,n,hd⟩:=pl.isList;exact call_list_seq p (.inl rfl) ho hc hd (fun h' c' kp e=>fin tm r' hz h' c' kp e) (by simp only[Yk] <;> omega)
 . obtain⟨tm,r',pl,hz⟩:=I.tuple hq;have tI:=r'.length;obtain⟨o,ho,hc,n,hd⟩:=pl;exact call_list_seq p (.inr rfl) ho hc hd (fun h' c' kp e=>fin tm r' hz h' c' kp e) (by simp only[Yk] <;> omega)
theorem jak:CallR X (.type "tuple") (fun xs H Q=>∃p ys,xs=[.ref p] ∧ ((qW X.K H p ys ∧ ∀l,H l=none → Q (.ref l) (upd H l (.tup ys))) ∨ (SqT X.K H p ys ∧ Q (.ref p) H))):=by
 intro tf s σ H xs us Q I r h;obtain⟨p,ys,rfl,h⟩:=h;obtain⟨u,rfl,rx⟩:=Qs r;cases rx;rcases h with⟨hq,q⟩ | ⟨hq,q⟩
 . obtain⟨tm,r',pl,hz⟩:=I.list hq;have tI:=r'.length;refine call_tuple_list pl.isList (fun h' kp=>?_) (by simp only[Yk] <;> omega);have I1:Inv X tf σ H { s with heap:=h' }:=I.kept (t':=s.toks) kp;have I2:Inv X tf σ (upd H h'.objs.size (.tup ys)) { s with heap:=h'.push { cls:=.type "tuple",data:=.seq tm.toArray } }:=I1.laid (t':=s.toks) (fun b o e=>Yb _ e) (Ym _) (show ObjOk X.prog X.w _ _ _ (.tup ys)from⟨hz,tm,r',IsTup.new _ _⟩)
   exact⟨.ref h'.objs.size,_,I2,rfl,q _ (I1.hok.fresh (Ym _))⟩
 . obtain⟨tm,r',pl,hz⟩:=I.tuple hq;exact call_tuple_same pl ⟨.ref p,H,I,rfl,q⟩
def tyV(K:PySem.W.Frag)(T:String)(x:V)(H:Hp):Prop:=match x with
 | .str _=>T = "str"
 | .int _=>T = "int"
 | .ref p=>(T = "list" ∧ ∃xs,qW K H p xs) ∨ (T="tuple" ∧ ∃o,K.lookup p=some o ∧ o.cls=.type "tuple" ∧ o.dict=none) ∨
  (T = "dict" ∧ ((∃kvs,H p=some (.dK kvs)) ∨ ∃kvs,H p=some (.dT kvs))) ∨ (T="set" ∧ ∃S n,H p=some (.set S n))
 | _=>False
theorem jfU{tf:List (Addr×Obj)}{σ:St}{H:Hp}{s:Shared}{T:String}{x:V}{v:Value}(I:Inv X tf σ H s)(r:RelV x v)(ty:tyV X.K T x H):
 s.TypeIs v T/\∀a,v=.ref a->∃ob,s.heap.get? a=some ob/\ob.dict=none:=by
 cases x with
 | str z=>obtain⟨t,rfl⟩:=r;cases (show T = "str" from ty);exact⟨Ka s z t,fun _ e=>nomatch e⟩
 | int i=>obtain⟨t,rfl⟩:=r;cases (show T = "int" from ty);exact⟨typeIs_int s i t,fun _ e=>nomatch e⟩
 | ref p=>
   cases r;rcases ty with⟨rfl,xs,hq⟩ | ⟨rfl,o,hk,hc,hd⟩ | ⟨rfl,hk⟩ | ⟨rfl,S,n,hk⟩
   . obtain⟨tm,_,pl,_⟩:=I.list hq;refine⟨pl.isList.typeIs,fun a e=>?_⟩;cases e;obtain⟨o,n,e,c,hd,_⟩:=pl;exact⟨o,e,hd⟩
   . refine⟨⟨o,I.kIn p o hk,hc⟩,fun a e=>?_⟩;cases e;exact⟨o,I.kIn _ o hk,hd⟩
   . have z:∃o,s.heap.get? p=some o/\o.ExactDict:=by
       rcases hk with⟨kvs,hk⟩ | ⟨kvs,hk⟩
       . obtain⟨_,_,_,_,o,_,_,e,ex,_⟩:=I.hok p _ hk;exact⟨o,e,ex⟩
       . obtain⟨_,_,_,_,o,_,_,e,ex,_⟩:=I.hok p _ hk;exact⟨o,e,ex⟩
     obtain⟨o,e,ex⟩:=z;refine⟨⟨o,e,ex.1⟩,fun a e2=>?_⟩;cases e2;exact⟨o,e,ex.2.1⟩
   . obtain⟨o,_,_,_,e,ex,_⟩:=I.hok p _ hk;refine⟨⟨o,e,ex.1⟩,fun a e2=>?_⟩;cases e2;exact⟨o,e,ex.2.1⟩
 | _=>exact False.elim ty
def jhF(K:PySem.W.Frag)(T:String)(r:V->List V->Hp->VK->Prop)(to:TE):TE:=fun σ H Q=>to σ H fun x H1=>tyV K T x H1/\r x [] H1 Q
def tBM(K:PySem.W.Frag)(T:String)(r:V->List V->Hp->VK->Prop)(to:TE)(t:TA):TE:=fun σ H Q=>to σ H fun x H1=>tyV K T x H1/\t σ H1 fun xs H2=>r x xs H2 Q
variable{o e:Expr}{es:List Expr}{to:TE}{t:TA}{name:Str}{apos cpos:Pos}{T id:String}{r:V->List V->Hp->VK->Prop}
theorem jhA(pa:PlainAttrs T)(slot:Slot T name id)(hty:typeOf (.builtin id)=pure (.type "method_descriptor"))(hm:MtR X id r)(ho:PE X o to)
 (hbase:attributeBase o name X.env (eval o X.env)=eval o X.env:=by rfl) (hline:(apos.endLine == cpos.line)=true:=by rfl):PE X (.Call (.Attribute o name apos) [] [] cpos) (jhF X.K T r to):=by
 intro tf s σ H Q I h;refine wpAny_Call_method0_late hbase hline (qe (ho tf s σ H _ I h) fun v s1 zz=>?_);obtain⟨x,H1,I1,r1,ty,q1⟩:=zz;obtain⟨h1,h2⟩:=jfU I1 r1 ty;exact⟨T,id,pa,slot,hty,h1,h2,Calls.callWith_builtin rfl (PySem.evalArgs_none (hm tf s1 σ H1 x [] v [] Q I1 r1 .nil q1))⟩
theorem jbD(pa:PlainAttrs T)(slot:Slot T name id)(hty:typeOf (.builtin id)=pure (.type "method_descriptor"))(hm:MtR X id r)(ho:PE X o to)(ha:PA X (e::es) t)
 (hbase:attributeBase o name X.env (eval o X.env)=eval o X.env:=by rfl)
 (hfew:autoParam (((backTo cpos (starEach (e::es) X.env)).all (fun x=>!x.1) && (backToKw cpos (keywordEach [] X.env)).all (fun x=>x.1.isSome)
  && decide ((e::es).length+([]:List Keyword).length+(if ([]:List Keyword).isEmpty then 0 else 1)<30))=true) QA.a4._auto_1)
 (hline:(apos.endLine == cpos.line)=true:=by rfl) (hs:starEach (e::es) X.env=(false,eval e X.env)::starEach es X.env:=by rfl) (hplain:(backTo cpos (starEach es X.env)).any (·.1)=false:=by rfl) :
 PE X (.Call (.Attribute o name apos) (e::es) [] cpos) (tBM X.K T r to t):=by
 intro tf s σ H Q I h;refine wpAny_Call_method_late hbase hfew hline rfl (qe (ho tf s σ H _ I h) fun v s1 zz=>?_);obtain⟨x,H1,I1,r1,ty,q1⟩:=zz;obtain⟨h1,h2⟩:=jfU I1 r1 ty;refine⟨T,id,pa,slot,hty,h1,h2,?_⟩;have hA:=ha cpos tf s1 σ H1 _ I1 q1;rw[hs]at hA ⊢;refine Calls.callWith_builtin (by show(false || (backTo cpos (starEach es X.env)).any (·.1))=false;rw[hplain] <;> rfl) (Calls.evalArgs_plain ?_);exact qe hA fun us s2 ⟨vs,H2,I2,r2,q2⟩=>hm tf s2 σ H2 x vs v us Q I2 r1 r2 q2
end
def MtM(X:Cx)(id:String)(r:V->List V->Hp->VK->Prop):Prop:=
 ∀(tf:List (Addr×Obj)) (s:Shared) (σ:St) (H:Hp) (x:V) (xs:List V) (v:Value) (us:List Value) (Q:VK),Inv X tf σ H s->RelV x v->Vals xs us->r x xs H Q->
   wpAny (model X.prog X.w) X.A (call (.builtin id) (v::us)) (EP X tf σ Q) X.xe s
theorem Vals.one:∀{x:V} {us:List Value},Vals [x] us->∃u,us=[u]/\RelV x u:=fun h=>Qs h
theorem Vals.two:∀{x y:V} {us:List Value},Vals [x,y] us->∃u v,us=[u,v]/\RelV x u/\RelV y v:=fun h=>jg9 h
theorem Vals.zero:∀{us:List Value},Vals [] us->us=[]
 | _,.nil=>rfl
theorem Vals.dropLast{xs:List V}{us:List Value}(h:Vals xs us):Vals xs.dropLast us.dropLast:=by
 induction h with
 | nil=>exact .nil
 | cons r t ih=>
   cases t with
   | nil=>exact .nil
   | cons q t'=>exact .cons r ih
theorem Vals.eraseIdx:∀{xs:List V} {us:List Value} (i:Nat),Vals xs us->Vals (xs.eraseIdx i) (us.eraseIdx i)
 | _,_,_,.nil=>.nil
 | _,_,0,.cons _ t=>t
 | _,_,i+1,.cons r t=>.cons r (Vals.eraseIdx i t)
theorem Vals.reverse{xs:List V}{us:List Value}(h:Vals xs us):Vals xs.reverse us.reverse:=by
 induction h with
 | nil=>exact .nil
 | cons r t ih=>rw[yX,yX];exact Vals.append ih (.cons r .nil)
theorem jcH{α:Type}(l:List α):l.eraseIdx (l.length-1)=l.dropLast:=by
 induction l with
 | nil=>rfl
 | cons a r ih=>
   cases r with
   | nil=>rfl
   | cons b r=>
     have e:(a::b::r).length-1=((b::r).length-1)+1:=by have h1:(a::b::r).length=r.length+2:=rfl;have h2:(b::r).length=r.length+1:=rfl;omega
     rw[e,List.eraseIdx_cons_succ,ih];all_goals rfl
section
variable{X:Cx}{tf:List (Addr×Obj)}{σ:St}{H:Hp}{s:Shared}{l b:Addr}{xs ys zs:List V}
theorem Inv.lset{tm its':List Value}{n:Nat}{f:Array Value->Array Value}{t':Nat}(I:Inv X tf σ H s)(hH:H l=some (.lst xs))
 (e:s.heap.get? l=some { cls:=.type "list",data:=.seq tm.toArray n }) (hf:f tm.toArray=its'.toArray) (hv:Vals ys its') (hz:ys.length ≤ sizeLine) :
 Inv X tf σ (upd H l (.lst ys)) { s with heap:=s.heap.update l (Obj.mapSeq f),toks:=t' }:=by
 have q:=PySem.IsL.update e f;rw[hf]at q;refine I.write (x:=l) (e:=l) (by rw[hH];exact trivial) (.inl rfl) (fun b' u hb hu=>(Heap.get?_update_other s.heap (Obj.mapSeq f) (Ne.symm hb)).trans hu) ⟨_,q⟩ ?_;exact⟨hz,its',_,hv,q⟩
theorem Inv.lnew{tm:List Value}{t':Nat}(I:Inv X tf σ H s)(hv:Vals ys tm)(hz:ys.length<=sizeLine):
 Inv X tf σ (upd H s.heap.objs.size (.lst ys)) { s with heap:=s.heap.push { cls:=.type "list",data:=.seq tm.toArray },toks:=t' }:=
 I.laid (fun _ _ q=>Yb _ q) (Ym _) ⟨hz,tm,0,hv,Yl _ rfl⟩
theorem Inv.fresh(I:Inv X tf σ H s):H s.heap.objs.size=none:=I.hok.fresh (Ym _)
theorem Inv.lstM(I:Inv X tf σ H s)(hH:H l=some (.lst xs)):xs.length ≤ sizeLine ∧ ∃(tm:List Value) (n:Nat),Vals xs tm ∧ xs.length=tm.length ∧ s.heap.get? l=some { cls:=.type "list",data:=.seq tm.toArray n }:=by obtain⟨z,tm,n,r,e⟩:=I.hok l _ hH;exact⟨z,tm,n,r,r.length,e⟩
end
section
variable{X:Cx}
def Qo:V->List V->Hp->VK->Prop:=fun x vs H Q=>∃l xs y,x=.ref l/\vs=[y]/\H l=some (.lst xs)/\xs.length<sizeLine/\Q .non (upd H l (.lst (xs++[y])))
theorem jay:MtM X "list.append" Qo:=by intro tf s σ H x vs v us Q I rx rv h;obtain⟨l,xs,y,rfl,rfl,hH,hz,q⟩:=h;cases rx;obtain⟨u,rfl,ru⟩:=rv.one;obtain⟨z,tm,n,r,hl,e⟩:=I.lstM hH;refine Kj F.slot_list_append ⟨_,e,rfl⟩ F.entry_list_append (F.args_list_append_2 _ _) (PySem.list_append l tm.toArray n u (by rw[Yk];omega)) ⟨e,?_⟩;refine⟨.non,_,I.lset (its':=tm++[u]) hH e (by simp) (r.append (.cons ru .nil)) ?_,rfl,q⟩;rw[YB,List.length_singleton];omega
def jlK:V->List V->Hp->VK->Prop:=fun x vs H Q=>∃l xs y,x=.ref l/\vs=[]/\H l=some (.lst xs)/\xs[xs.length-1]?=some y/\Q y (upd H l (.lst xs.dropLast))
theorem jlk:MtM X "list.pop" jlK:=by
 intro tf s σ H x vs v us Q I rx rv h;obtain⟨l,xs,y,rfl,rfl,hH,hy,q⟩:=h;cases rx;have hus:=rv.zero;subst hus;obtain⟨z,tm,n,r,hl,e⟩:=I.lstM hH;obtain⟨u,hu,ru⟩:=r.get hy;have hy':tm.toArray[tm.toArray.size-1]?=some u:=by show tm.toArray[tm.length-1]?=some u;rw[<-yk,<- hl];exact hu
 refine Kj F.slot_list_pop ⟨_,e,rfl⟩ F.entry_list_pop (F.args_list_pop_1 _) (MeetsSeq.list_pop_last l tm.toArray n u hy' (by rw[Yk];omega)) ⟨e,?_⟩;refine⟨y,_,I.lset (its':=tm.dropLast) hH e ?_ r.dropLast ?_,ru,q⟩
 . show tm.toArray.eraseIdxIfInBounds (tm.toArray.size-1)=tm.dropLast.toArray;rw[Yk,List.eraseIdxIfInBounds_toArray,jcH]
 . rw[List.length_dropLast];omega
def jcZ:V->List V->Hp->VK->Prop:=fun x vs H Q=>∃l xs,x=.ref l/\vs=[]/\H l=some (.lst xs)/\Q .non (upd H l (.lst []))
theorem jeI:MtM X "list.clear" jcZ:=by intro tf s σ H x vs v us Q I rx rv h;obtain⟨l,xs,rfl,rfl,hH,q⟩:=h;cases rx;have hus:=rv.zero;subst hus;obtain⟨z,tm,n,r,hl,e⟩:=I.lstM hH;refine Kj F.slot_list_clear ⟨_,e,rfl⟩ F.entry_list_clear (F.args_list_clear_1 _) (AutoSeq1.list_clear_list_0 l tm.toArray n (by rw[Yk];omega)) ⟨e,?_⟩;exact⟨.non,_,I.lset (its':=[]) (ys:=[]) hH e rfl .nil (yx _),rfl,q⟩
end
end L2
namespace Att
open PySem PySem.W PySem.Calls PyProof.Rows
theorem Q3{P:Params}{h:Heap}:∀(ns:List Int) (vs:List Value),WellAll P h vs (ns.map WData.int)->IntsAre vs ns:=by
 intro ns;induction ns with
 | nil=>intro vs w;rw[List.map_nil]at w;cases w;exact .nil
 | cons n ns ih=>
   intro vs w;rw[YM]at w;cases w with
   | cons a b=>cases a;exact .cons _ _ (ih _ b)
theorem jed{l:OpenLaw}{n:Nat}(hn:l.most=some n){P:Params}{h:Heap}{args:List WData}{vals:List Value}
 (hpre:l.row.toRowW.claim.pre args=true) (hwl:WellAll P h vals args) :
 ∃a vs ns,vals=[Value.ref a] ∧ args=[WData.list (ns.map WData.int)] ∧ h.get? a=some { cls:=.type "list",data:=.seq vs.toArray } ∧ IntsAre vs ns ∧ ns.length ≤ n:=by
 have hsh:WShape.hasAll [] args [.list .int]=true:=(pre_splitW hpre).1;have hc:l.pre.holds [] { args:=args }=true:=(pre_splitW hpre).2;obtain⟨d,r,rfl,h1,h2⟩:=hasAllW_cons hsh;obtain rfl:=hasAllW_nil h2;obtain⟨xs,rfl,h3⟩:=hasW_list h1;obtain⟨ns,rfl⟩:=items_int h3;have tI:ns.length<=n:=by
  unfold OpenLaw.pre at hc;have h4:(WTm.not (.lt (.lit (.int (n:Int))) (.len (.arg 0)))).holds [] { args:=[.list (ns.map .int)] }=true:=by have h4:=(holds_andW hc).1;rw[hn]at h4;exact h4
  have h5:=condW_of h4 (w_not (w_lt w_lit (w_len_list (w_arg rfl))));rw[Ye]at h5;refine Nat.le_of_not_lt fun q=>?_;have q':(n:Int)<((ns.length:Nat):Int):=by omega
  first
   | (rw[Yw q']at h5;exact absurd h5 (by decide))
   | (simp at h5;omega)
 cases hwl with
 | cons w1 w2=>
   cases w2;cases w1 with
   | list ho hall=>exact⟨_,_,ns,rfl,rfl,ho,Q3 ns _ hall,tI⟩
theorem jd1(l:OpenLaw)(args:List WData):l.row.toRowW.claim.post args (.bool true) args=true:=
 postW_of (r:=l.row.toRowW) (X:=(true == true))
  (show WShape.has [] (.bool true) .bool=true by first | rfl | decide | simp[WShape.has,WShape.arms,WShape.armsAll])
  (show(WTm.eq .res (.lit (.bool true))).value [] { args:=args,res:=some (.bool true),after:=args }=some (.bool (true == true))from w_eq_bool (w_res rfl) w_lit) rfl
theorem attach_call{l:OpenLaw}{n:Nat}{q:Program}{loose:List Str}{XP:(Str->Option Value)->Heap->Prop}{YP:World->Heap->Prop}{d:DefRec}
 (hn:l.most=some n) (hdf:d.params.defaults=[])
 (call:∀(w:World) (s₀ s₁:Shared) (mg mb:Str->Option Value) (fa:Addr) (o:Obj) (pm cd doc:Value) (a:Addr) (vs:List Value) (ns:List Int),
  Ground q loose [] XP w s₀ mg mb s₁.heap->YP w s₁.heap->
  s₁.heap.get? fa=some o->o.data=.func (docDef d.name d.params d.body d.scope pm cd doc)->s₁.heap.CodeRec cd d.name->mg d.name=some (.ref fa)->
  s₁.heap.get? a=some { cls:=.type "list",data:=.seq vs.toArray } → IntsAre vs ns → ns.length ≤ n → s₁.gens=#[] →
  codeAny (model l.prog w) callerA (.call (.ref fa) ⟨[.ref a],[]⟩) (fun r s'=>r=.ok (.ret (.bool true))/\OldK s₁.heap s'.heap/\s'.os=s₁.os/\AllBare s'.gens) s₁) :
 WalkO q loose XP YP l.row.toRowW d [] (fun f vs=>PySem.call f vs):=by
 intro w s₀ s₁ mg mb G Y fa o pm cd doc dV kV ho hd hcd hD hmg hg args vals as hpre hlay hrd hwl hlo;obtain rfl:dV=.none:=Dflts.none hD hdf;obtain rfl:kV=.none:=Dflts.noKw hD;obtain⟨a,vs,ns,rfl,rfl,hobj,hints,tI⟩:=jed hn hpre hwl;refine enter_call (Ki (call w s₀ s₁ mg mb fa o pm cd doc a vs ns G Y ho (fd_plain hd) hcd hmg hobj hints tI hg) fun r s' hq=>?_);obtain⟨rfl,h2,h3,h4⟩:=hq;exact⟨.inl ⟨.bool true,.bool true,[],rfl,fun _=>rfl,.bool true,jd1 l _,fun _=>⟨List.Pairwise.nil,fun _ hm=>(nomatch hm)⟩⟩,h2,h3,h4⟩
end Att
namespace L2
open PySem PySem.Spec PyProof.Rows
theorem jd6:∀{vs:List Value} {ns:List Int},IntsAre vs ns->Vals (ns.map V.int) vs:=fun h=>by
 induction h with
 | nil=>exact .nil
 | cons n t _ ih=>exact .cons ⟨t,rfl⟩ ih
def jix(H:Hp):Prop:=∀b,H b=none\/∃o xs,H b=some (.frz o (.lst xs))
theorem jfK{P:Program}{w:World}{K:PySem.W.Frag}{mg mb:Str->Option Value}{CX:CXT}{k:Nat}{fa a:Addr}{fd:FuncData}{x:Str}{sp:Sp}{s₁:Shared}{vs:List Value}{ns:List Int}
 (KX:K.In s₁.heap) (hns:s₁.heap.Ns mainGlobals mg) (hb:s₁.heap.Ns builtinsNs mb) (hbb:∀x:Str,x ≠ "__name__" → mb x=bootBuiltins x) (hlim:s₁.heap.NoLimit) (hg:s₁.gens=#[])
 (ha:s₁.heap.get? a=some { cls:=.type "list",data:=.seq vs.toArray }) (hi:IntsAre vs ns) (hl:ns.length ≤ sizeLine) (hr:Room k callerA)
 (F:∀base:Heap,K.In base->base.Ns mainGlobals mg->FnOk P w K mg base CX k fa fd [x] sp) (hbind:∀(s:Shared) (u:Value),BindsTo s fd ⟨[u],[]⟩ [(x,u)])
 (hsp:∀H:Hp,jix H->qW K H a (ns.map V.int)->sp [.ref a] H (fun v _=>v=.bl true) fun _ _ _=>False)
 (hCX:∀H e s',CX [] H s₁ (fun _ _ _=>False) e s'->False) :
 codeAny (model P w) callerA (.call (.ref fa) ⟨[.ref a],[]⟩) (fun r s'=>r=.ok (.ret (.bool true))/\OldK s₁.heap s'.heap/\s'.os=s₁.os/\AllBare s'.gens) s₁:=by
 have rv:=jd6 hi;have lenV:=hi.length
 -- from an abstract heap in which nothing but the script may be tracked
 have core:∀H:Hp,jix H->qW K H a (ns.map V.int)->HOk P w H s₁.heap->(∀b,H b≠none->b=a)->(H a≠none->K.lookup a=none)->
  codeAny (model P w) callerA (.call (.ref fa) ⟨[.ref a],[]⟩) (fun r s'=>r=.ok (.ret (.bool true))/\OldK s₁.heap s'.heap/\s'.os=s₁.os/\AllBare s'.gens) s₁:=by
  intro H hO hS hok hA hK;have base_of:∀{b:Addr} {o:Obj},s₁.heap.get? b=some o->H b=none->(ja3 s₁.heap H).get? b=some o:=fun e n=>jeY e n;have noA:∀{b:Addr} {o:Obj} {es:Array DictEntry} {ep:Nat},s₁.heap.get? b=some o->o.data=.dict es ep->H b=none:=fun{b o es ep} e d=>by
   cases q:H b with
   | none=>rfl
   | some u=>have e':b=a:=hA b (by rw[q];simp);subst e';rw[ha]at e;cases e;have d':Data.seq vs.toArray _=Data.dict es ep:=d;cases d'
  have nsK:∀{b:Addr} {m:Str->Option Value},s₁.heap.Ns b m->(ja3 s₁.heap H).Ns b m:=fun{b m} ⟨o,es,ep,e,d,r⟩=>⟨o,es,ep,base_of e (noA e d),d,r⟩;have hKb:K.In (ja3 s₁.heap H):=fun b o e=>base_of (KX b o e) (by
   cases q:H b with
   | none=>rfl
   | some u=>have e':b=a:=hA b (by rw[q];simp);subst e';rw[hK (by rw[q];simp)]at e;cases e)
  have hM:Mod K mg (ja3 s₁.heap H):=⟨hKb,nsK hns,⟨mb,nsK hb,hbb⟩,let ⟨mc,h1,h2⟩:=hlim;⟨mc,nsK h1,h2⟩⟩;have e0:Env0 P w K mg (ja3 s₁.heap H) callerA [] s₁ H:=⟨rfl,hM,fun b o e=>jgK e,Nat.le_of_eq (jdZ _ _),trivial,fun b hb=>absurd (show b∈([]:List Addr)from hb) (by simp),hok,.of_eq hg⟩;refine Ki ((F _ hKb (nsK hns)).run callerA [] s₁ H ⟨[.ref a],[]⟩ [.ref a] [.ref a] _ _ hr e0 (hbind s₁ (.ref a)) (.cons rfl .nil) (hsp H hO hS)) fun r s' h=>?_;cases r with
  | error e=>exact(hCX H e s' h).elim
  | ok fl=>
    cases fl with
    | next=>exact False.elim h
    | brk=>exact False.elim h
    | cont=>exact False.elim h
    | ret u=>
      obtain⟨v,H',os,bare,un,hok',r',q⟩:=h;have q':v=.bl true:=q;subst q';obtain rfl:u=Value.bool true:=r';refine⟨rfl,OldK.of_keep fun b o e=>?_,os,bare⟩;cases q:H b with
      | none=>exact un.keep b o e q (by intro z;exact absurd (show b∈([]:List Addr)from z) (by simp)) (by simp)
      | some u=>
        rcases hO b with z | ⟨ob,xs,z⟩
        . rw[q]at z;cases z
        . have z2:=un.frzs b ob _ z;obtain⟨e1,_⟩:=hok b _ z;obtain⟨e2,_⟩:=hok' b _ z2;rw[e]at e1;cases e1;exact e2
 cases hk:K.lookup a with
 | some o=>
   -- the script is one of the module's own objects
   have e:=KX a o hk;rw[ha]at e;cases e;refine core (fun _=>none) (fun _=>.inl rfl) (.inr ⟨_,vs.toArray,_,hk,rfl,rfl,rfl,by rw[Yk,lenV];exact hl,by simpa using rv⟩) (fun b u z=>by have z':(none:Option HO)=some u:=z;cases z') (fun b z=>absurd rfl z) fun z=>absurd rfl z
 | none=>
   refine core (fun b=>if b=a then some (.frz { cls:=.type "list",data:=.seq vs.toArray } (.lst (ns.map V.int)))else none) (fun b=>?_) (.inl (.inr ⟨{ cls:=.type "list",data:=.seq vs.toArray },Yq rfl⟩)) (fun b u z=>?_) (fun b z=>?_) fun _=>hk
   . by_cases hb:b=a
     . exact .inr ⟨_,_,Yq hb⟩
     . exact .inl (YG hb)
   . by_cases hb:b=a
     . have z':=(Yq hb).symm.trans z;cases z';subst hb;exact⟨ha,by rw[Ye];exact hl,vs,_,rv,ha⟩
     . have z':=(YG hb).symm.trans z;cases z'
   . by_cases hb:b=a
     . exact hb
     . exact absurd (YG hb) z
theorem jgO{l:PySem.W.OpenLaw}{n k:Nat}{q:Program}{loose:List Str}{XP:(Str->Option Value)->Heap->Prop}{YP:World->Heap->Prop}{d:DefRec}{K:Params->PySem.W.Frag}{CX:World->CXT}{sp:World->Sp}{x:Str}
 (hn:l.most=some n) (hn2:n<=sizeLine) (hdf:d.params.defaults=[]) (hr:Room k callerA)
 (hY:∀(w:World) (h:Heap),YP w h->(K w.params).In h)
 (F:∀(w:World) (mg:Str->Option Value) (fa:Addr) (h:Heap),(K w.params).In h->h.Ns mainGlobals mg->mg d.name=some (.ref fa)->
  ∃fd:FuncData,(∀(s:Shared) (u:Value),BindsTo s fd ⟨[u],[]⟩ [(x,u)]) /\
    ∀base:Heap,(K w.params).In base->base.Ns mainGlobals mg->FnOk l.prog w (K w.params) mg base (CX w) k fa fd [x] (sp w))
 (hsp:∀(w:World) (H:Hp) (a:Addr) (ns:List Int),ns.length<=n->jix H->qW (K w.params) H a (ns.map V.int)->sp w [.ref a] H (fun v _=>v=.bl true) fun _ _ _=>False)
 (hCX:∀(w:World) (H:Hp) (s:Shared) (e:Value) (s':Shared),CX w [] H s (fun _ _ _=>False) e s'->False) :
 PySem.W.WalkO q loose XP YP l.row.toRowW d [] (fun f vs=>PySem.call f vs):=by
 refine Att.attach_call hn hdf fun w s₀ s₁ mg mb fa o pm cd doc a vs ns G Y ho hd hcd hmg hobj hints tI hg=>?_;have KX:=hY w _ Y;obtain⟨fd,hb,hF⟩:=F w mg fa _ KX G.T.g hmg;exact jfK KX G.T.g G.T.b G.T.builtins G.T.nolimit hg hobj hints (Yx tI hn2) hr hF hb (fun H hO hS=>hsp w H a ns tI hO hS) fun H e s'=>hCX w H s₁ e s'
def jJ(s:Stmt):Arguments:=match s with
 | .FunctionDef _ a _ _ _ _ _ _ _ _=>a
 | _=>{ posonlyargs:=[],args:=[],vararg:=none,kwonlyargs:=[],kw_defaults:=[],kwarg:=none,defaults:=[] }
def jx(s:Stmt):List Stmt:=match s with
 | .FunctionDef _ _ b _ _ _ _ _ _ _=>b
 | _=>[]
def jc(s:Stmt):Scope:=match s with
 | .FunctionDef _ _ _ _ _ _ sc _ _ _=>sc
 | _=>{ kind:=.function,names:=[],isGenerator:=false,isCoroutine:=false }
abbrev Jp:CXT:=fun _ _ _ _ _ _=>False
abbrev E0:XK:=fun _ _ _=>False
theorem je5{X:Cx}:jc6 Jp X E0:=fun _ _ _ _ _ _ _ h=>h.elim
structure Fun(K:PySem.W.Frag)(x qual:Str)(st:Stmt)(f:Addr)(fd:FuncData):Prop where
 ex:∃(oc:Value) (od:Option Addr) (kV doc pm:Value) (an:Option Addr) (cdv ct:Value) (osl:Array (Option Value)),
  fd=PySem.W.fnOf x qual (jJ st) (jx st) (jc st) .none kV doc pm an cdv ct/\K.lookup f=some ⟨oc,od,.func fd,osl⟩/\PySem.W.codeIn K cdv qual=true
 kp:PySem.W.keepIn K (.ref f)=true
section
variable{P:Program}{w:World}{K:PySem.W.Frag}{mg:Str->Option Value}{base:Heap}
theorem Fun.ok{x qual:Str}{st:Stmt}{f:Addr}{fd:FuncData}{N ps:List Str}{k:Nat}{sp:Sp}(F:Fun K x qual st f fd)(S:FnScope N ps (jc st))(len:∀vs H Q E,sp vs H Q E->vs.length=ps.length)
 (hbody:∀(cdv:Value) (A:Around) (outer:List Env) (s:Shared) (H:Hp) (vs:List V) (Q:VK) (E:XK),Room k (A.deeper (envOfC qual (jc st) s.heap.objs.size f cdv))->sp vs H Q E->
  ∃t,PSs (jct Jp P w K mg base N qual (jc st) f cdv A outer s H E).nox (jx st) t/\t { nx:=fun _ H'=>Q .non H',rt:=Q } (J4 N vs) H):FnOk P w K mg base Jp (k+1) f fd ps sp:=by
 obtain⟨oc,od,kV,doc,pm,an,cdv,ct,osl,rfl,lk,hcd⟩:=F.ex;refine jjD lk hcd S len fun A outer s H vs Q E hr hsp=>?_;obtain⟨t,h,q⟩:=hbody cdv A outer s H vs Q E hr hsp;exact⟨t,h.nox,q⟩
theorem Fun.binds{x qual:Str}{st:Stmt}{f:Addr}{fd:FuncData}{ps:List Str}(F:Fun K x qual st f fd)
 (h:∀(kV doc pm:Value) (an:Option Addr) (cdv ct:Value) (us:List Value),us.length=ps.length->bindArgs (PySem.W.fnOf x qual (jJ st) (jx st) (jc st) .none kV doc pm an cdv ct) ⟨us,[]⟩=pure (ps.zip us)):Binds K fd ps []:=by
 obtain⟨oc,od,kV,doc,pm,an,cdv,ct,osl,rfl,lk,hcd⟩:=F.ex;exact .all (h kV doc pm an cdv ct)
theorem j4{x qual:Str}{st:Stmt}{f:Addr}{oc:Value}{od an:Option Addr}{osl:Array (Option Value)}{kV doc pm cdv ct:Value}(l:K.lookup f=some ⟨oc,od,.func (PySem.W.fnOf x qual (jJ st) (jx st) (jc st) .none kV doc pm an cdv ct),osl⟩)
 (c:PySem.W.codeIn K cdv qual=true) (k:PySem.W.keepIn K (.ref f)=true):Fun K x qual st f (PySem.W.fnOf x qual (jJ st) (jx st) (jc st) .none kV doc pm an cdv ct):=⟨⟨oc,od,kV,doc,pm,an,cdv,ct,osl,rfl,l,c⟩,k⟩
end
def Same(H H':Hp):Prop:=∀b o,H b=some o->H' b=some o
theorem Same.refl(H:Hp):Same H H:=fun _ _ h=>h
theorem Same.trans{H H1 H2:Hp}(a:Same H H1)(b:Same H1 H2):Same H H2:=fun c o h=>b c o (a c o h)
theorem Same.free{H H':Hp}(e:Same H H'){l:Addr}(h:H' l=Option.none):H l=Option.none:=by
 cases q:H l with
 | none=>rfl
 | some o=>rw[e l o q]at h;cases h
theorem Same.seq{K:PySem.W.Frag}{H H':Hp}{a:Addr}{xs:List V}(e:Same H H')(h:qW K H a xs):qW K H' a xs:=by
 rcases h with(h | ⟨o,h⟩) | h
 . exact .inl (.inl (e _ _ h))
 . exact .inl (.inr ⟨o,e _ _ h⟩)
 . exact .inr h
section
variable{κ:Type}[DecidableEq κ]
theorem RelO.getD{o:Option V}{u:Option Value}{d:V}{d':Value}(r:RelO o u)(rd:RelV d d'):RelV (o.getD d) (u.getD d'):=by
 cases o with
 | none=>cases u with
   | none=>exact rd
   | some _=>exact(show False from r).elim
 | some _=>cases u with
   | none=>exact(show False from r).elim
   | some _=>exact r
theorem KV.any{kvs:List (κ×V)}{vs:List (κ×Value)}(r:KV kvs vs)(k:κ):(kvs.any fun kv=>decide (kv.1=k))=vs.any fun kv=>decide (kv.1=k):=by
 unfold KV at r;induction r with
 | nil=>rfl
 | cons h t ih=>rw[List.any_cons,List.any_cons,ih,h.1]
theorem KV.length{kvs:List (κ×V)}{vs:List (κ×Value)}(r:KV kvs vs):kvs.length=vs.length:=Paired.length r
end
abbrev KT(H:Hp):List (List QK×V)->List (List QK×Addr×Value)->Prop:=Paired fun p q=>p.1=q.1/\H q.2.1=some (.tup (p.1.map kV))/\RelV p.2 q.2.2
theorem KT.keeps{H H':Hp}{kvs:List (List QK×V)}{xs:List (List QK×Addr×Value)}(r:KT H kvs xs)(ht:∀b ys,H b=some (.tup ys)->H' b=some (.tup ys)):KT H' kvs xs:=Paired.mapP r fun _ _ z=>⟨z.1,ht _ _ z.2.1,z.2.2⟩
end L2
namespace L2S
open PySem
def Ris(xs:Array Nat):Prop:=∀i j,i<j->j<xs.size->xs.getD i 0<xs.getD j 0
end L2S
set_option maxHeartbeats 4000000
namespace L2
open PySem PySem.Spec PyProof.Rows
abbrev zw(h:Heap)(z TI TO a:Addr)(f:Bool):Prop:=h.get? z=some { cls:=.type "zip",dict:=none,data:=.fields #[rawInt a,.bool f,.bool false,.ref TI,.ref TO],slots:=#[] }
section
variable{prog:Program}{w:World}{A:Around}{E:Value->Shared->Prop}{s:Shared}
theorem QJ{h:Heap}{b:Addr}{o:Obj}(e:h.get? b=some o):@LT.lt Nat instLTNat b h.objs.size:=Yp e
theorem jfT{a:Addr}{o:Obj}{Q:Option Obj->Shared->Prop}(ho:s.heap.get? a=some o)(h:Q (some o) s):wpAny (model prog w) A (loadIfAlive a) Q E s:=by
 have q:Q (s.heap.get? a) s:=by rw[ho];exact h
 exact fun _ _ _=>q
theorem ZJ{z TI TO a:Addr}{f:Bool}{oa:Obj}{Q:Bool->Shared->Prop}(hz:zw s.heap z TI TO a f)(ha:s.heap.get? a=some oa)
 (hQ:∀h',zw h' z TI TO a true->Heap.SameBut z s.heap h'->Q false { s with heap:=h' }):wpAny (model prog w) A (Builtin.SmallTypes.ownedTupleIsFree (.ref z)) Q E s:=by
 unfold Builtin.SmallTypes.ownedTupleIsFree;refine QB (YY hz rfl (x:=rawInt a) rfl ?_);show wpAny _ _ (loadIfAlive ((a:Int).toNat) >>= _) _ _ _;rw[Int.toNat_natCast];refine QB (jfT ha ?_);simp only[Option.isNone_some,Y2,Kh];refine QB (YY hz rfl (x:=.bool f) rfl ?_);cases f with
 | true=>rw[YG (show ¬((Value.bool true != Value.bool true)=true)from Ya)];exact Yn (hQ s.heap hz (Heap.SameBut.refl _ _))
 | false=>rw[Yq (show(Value.bool false != Value.bool true)=true from rfl)];refine QB (yh hz (by simp) fun h' hz' hs'=>?_);exact Yn (hQ h' hz' hs')
theorem Z4{z TI TO i1 i2 l1 l2 a:Addr}{f:Bool}{oa:Obj}{k1 k2:Nat}{xs ys:Array Value}{x y:Value}{Q:Option Value->Shared->Prop}(D:ZipApart z TI TO i1 i2 l1 l2)
 (hz:zw s.heap z TI TO a f) (ha:s.heap.get? a=some oa) (hTI:IsPair s.heap TI (.ref i1) (.ref i2))
 (h1:s.heap.IsListIter i1 l1 k1) (h2:s.heap.IsListIter i2 l2 k2) (hl1:s.heap.IsList l1 xs) (hl2:s.heap.IsList l2 ys) (hx:xs[k1]?=some x) (hy:ys[k2]?=some y)
 (hQ:∀h',zw h' z TI TO a true->h'.IsListIter i1 l1 (k1+1)->h'.IsListIter i2 l2 (k2+1)->IsPair h' s.heap.objs.size x y->h'.objs.size=s.heap.objs.size+1->
  (∀c o,c≠z->c≠i1->c≠i2->s.heap.get? c=some o->h'.get? c=some o)->Q (some (.ref s.heap.objs.size)) { s with heap:=h' }) :
 wpAny (model prog w) A (pyNext (.ref z)) Q E s:=by
 have hT:s.TypeIs (.ref z) "zip":=⟨_,hz,rfl⟩;unfold pyNext;refine QB (wpAny_attempt (Y4 (name:=Str.ofString "__next__") hT yf (yG yf hT y9 ?_ (yY _))));show wpAny _ _ (field (.ref z) 2 >>= _) _ _ _;refine QB (YY hz rfl (x:=.bool false) rfl ?_);show wpAny _ _ (field (.ref z) 3 >>= _) _ _ _;refine QB (YY hz rfl (x:=.ref TI) rfl ?_);refine QB (Y6 hTI rfl ?_);show wpAny _ _ (Builtin.SmallTypes.ownedTupleIsFree (.ref z) >>= _) _ _ _;refine QB (ZJ hz ha fun g1 hz1 s1=>?_);simp only[Y2,Kh];rw[<-Array.forIn_toList];simp only[yQ,yZ];refine QB (QB (QB (Y3 ?_)));show wpAny _ _ (Builtin.SmallTypes.nextOf (.ref i1) >>= _) _ _ _;refine QB (yr (h1.extBut s1.extBut D.i1z) (hl1.extBut s1.extBut D.l1z) hx fun g2 p2 s2=>Yn (Yn ?_));refine QB (QB (Y3 ?_));show wpAny _ _ (Builtin.SmallTypes.nextOf (.ref i2) >>= _) _ _ _;refine QB (yr ((h2.extBut s1.extBut D.i2z).extBut s2.extBut D.i12.symm) ((hl2.extBut s1.extBut D.l2z).extBut s2.extBut D.l2i1) hy fun g3 p3 s3=>Yn (Yn (Yn ?_)));dsimp only;refine QB (wpAny_newTuple (hsz:=by show 2<=sizeLine;decide) ?_);have hsz:g3.objs.size=s.heap.objs.size:=by rw[s3.1,s2.1,s1.1]
 have hz3:zw g3 z TI TO a true:=s3.extBut _ _ D.i2z.symm (s2.extBut _ _ D.i1z.symm hz1);refine Yn ⟨_,rfl,Yn ?_⟩;show Q (some (.ref g3.objs.size)) _;rw[hsz];refine hQ _ (Yb _ hz3) ((p2.extBut s3.extBut D.i12).at fun o e=>Yb _ e) (p3.at fun o e=>Yb _ e) ?_ (by rw[YO,hsz]) fun c o c1 c2 c3 e=>Yb _ (s3.extBut _ _ c3 (s2.extBut _ _ c2 (s1.extBut _ _ c1 e)));rw[<-hsz];exact Yl _ rfl
theorem jaY{z TI TO i1 i2 l1 l2 a:Addr}{f:Bool}{oa:Obj}{k1 k2:Nat}{xs ys:Array Value}{Q:Option Value->Shared->Prop}(hh:A.handled=none)(D:ZipApart z TI TO i1 i2 l1 l2)
 (hz:zw s.heap z TI TO a f) (ha:s.heap.get? a=some oa) (hTI:IsPair s.heap TI (.ref i1) (.ref i2))
 (h1:s.heap.IsListIter i1 l1 k1) (h2:s.heap.IsListIter i2 l2 k2) (hl1:s.heap.IsList l1 xs) (hl2:s.heap.IsList l2 ys) (hend:xs[k1]?=none\/ys[k2]?=none)
 (hQ:∀h',(∀c o,c≠z->c≠i1->c≠i2->s.heap.get? c=some o->h'.get? c=some o)->Q none { s with heap:=h' }):wpAny (model prog w) A (pyNext (.ref z)) Q E s:=by
 have hT:s.TypeIs (.ref z) "zip":=⟨_,hz,rfl⟩;have stop:∀(h':Heap) (e:Addr),(∀c o,c≠z → c≠i1 → c≠i2 → s.heap.get? c=some o → h'.get? c=some o) → (∃o,h'.get? e=some o ∧ o.cls=.type "StopIteration") →
  wpAny (model prog w) A (do let b ← isInstance (.ref e) (.type "StopIteration");if b=true then pure none else throw (.ref e)) Q E { s with heap:=h' }:=by
  rintro h' e hk ⟨o,ho,hc⟩;refine QB (wpAny_isInstance (T := "StopIteration") (b:=true) ⟨o,ho,hc⟩ isSubtype_stop ?_);exact Yn (hQ _ hk)
 unfold pyNext;refine QB (wpAny_attempt (Y4 (name:=Str.ofString "__next__") hT yf (yG yf hT y9 ?_ (yY _))));show wpAny _ _ (field (.ref z) 2 >>= _) _ _ _;refine QB (YY hz rfl (x:=.bool false) rfl ?_);show wpAny _ _ (field (.ref z) 3 >>= _) _ _ _;refine QB (YY hz rfl (x:=.ref TI) rfl ?_);refine QB (Y6 hTI rfl ?_);show wpAny _ _ (Builtin.SmallTypes.ownedTupleIsFree (.ref z) >>= _) _ _ _;refine QB (ZJ hz ha fun g1 hz1 s1=>?_);simp only[Y2,Kh];rw[<-Array.forIn_toList];simp only[yQ,yZ];refine QB (QB (QB (Y3 ?_)));show wpAny _ _ (Builtin.SmallTypes.nextOf (.ref i1) >>= _) _ _ _;cases hx:xs[k1]? with
 | none=>exact QB (y0 hh (h1.extBut s1.extBut D.i1z) (hl1.extBut s1.extBut D.l1z) hx fun g2 e s2 he=>stop g2 e (fun c o c1 c2 c3 q=>s2 _ _ c2 (s1.extBut _ _ c1 q)) he)
 | some x=>
   have hy:ys[k2]?=none:=by
    rcases hend with q | q
    . rw[hx]at q;cases q
    . exact q
   refine QB (yr (h1.extBut s1.extBut D.i1z) (hl1.extBut s1.extBut D.l1z) hx fun g2 p2 s2=>Yn (Yn ?_));refine QB (QB (Y3 ?_));show wpAny _ _ (Builtin.SmallTypes.nextOf (.ref i2) >>= _) _ _ _;exact QB (y0 hh ((h2.extBut s1.extBut D.i2z).extBut s2.extBut D.i12.symm) ((hl2.extBut s1.extBut D.l2z).extBut s2.extBut D.l2i1) hy fun g3 e s3 he=>stop g3 e (fun c o c1 c2 c3 q=>s3 _ _ c3 (s2.extBut _ _ c2 (s1.extBut _ _ c1 q))) he)
theorem jbY{R:Result->Shared->Prop}{S I:Addr}{res:Value}(St:Nat->Array Value->Shared->Prop)
 (turn:∀n tD s,St n tD s->tD.size<sizeLine/\wpAny (model prog w) A.in1 (pyNext (.ref I)) (fun r s'=>match r with
  | none=>R (.ok (.ret res)) s'
  | some v=>(∃c,s'.heap.get? S=some { cls:=.type "list",data:=.seq tD c }) ∧
      ∀h' c',h'.get? S=some { cls:=.type "list",data:=.seq (tD.push v) c' } → Heap.SameBut S s'.heap h' → ∃m,m<n ∧ St m (tD.push v) { s' with heap:=h' }) (fun e s'=>R (.error e) s') s) :
 ∀n tD s,St n tD s → codeAny (model prog w) A (.builtin "list.extend.loop" ⟨[.ref S,.ref I,res],[]⟩) R s:=by
 intro n;induction n using Nat.strongRecOn with
 | ind n ih=>
   intro tD s hs;obtain⟨hz,t⟩:=turn n tD s hs;refine yM F.entry_extend_loop ?_;rw[yD Kg _];show wpAny _ A.in1 (pyNext (.ref I) >>= _) _ _ s;refine QB (ym t (fun r s' q=>?_) fun _ _ q=>q);cases r with
   | none=>exact Yn q
   | some v=>obtain⟨⟨c,e⟩,q⟩:=q;show wpAny _ A.in1 (updateSeq S (·.push v) >>= _) _ _ _;refine QB ?_;refine Kb e rfl (Yn ⟨plainId_quiet Kg _,?_⟩) (by omega) (by show(tD.push v).size<=sizeLine+1;rw[Array.size_push];omega);have e2:=YZ (Obj.mapSeq (·.push v)) e rfl;obtain⟨m,hm,hs'⟩:=q _ _ e2 (Heap.SameBut.update ..);exact ih m hm _ _ hs'
theorem jcG:typeLookup (.type "zip") "__len__"=pure none:=by rw[typeLookup_type,builtinLookup_eq_fast];kernel_rfl
theorem jb5:typeLookup (.type "zip") "__length_hint__"=pure none:=by rw[typeLookup_type,builtinLookup_eq_fast];kernel_rfl
theorem jeV{z TI TO:Addr}{f0:Value}{Q:Bool->Shared->Prop}(hz:IsZip s.heap z TI TO f0)(h:Q true s):wpAny (model prog w) A (Builtin.List.listLengthHint (.ref z)) Q E s:=by have hT:s.TypeIs (.ref z) "zip":=⟨_,hz,rfl⟩;unfold Builtin.List.listLengthHint;refine QB (wpAny_specialOf hT jcG ?_);show wpAny _ _ (specialOf (Value.ref z) (Str.ofString "__length_hint__") >>= _) _ _ s;refine QB (wpAny_specialOf hT jb5 ?_);exact Yn h
structure ZipMade(h₀ h:Heap)(S z TO i1 i2:Addr)(xs ys tD:Array Value)(i:Nat):Prop where
 size:tD.size=i
 pair:∀j,j<i->∃T x y,tD[j]?=some (.ref T)/\xs[j]?=some x/\ys[j]?=some y/\IsPair h T x y/\h₀.objs.size<=T/\T≠S/\(T≠z/\T≠TO/\T≠i1/\T≠i2)/\∀k,k<j->tD[k]?≠some (.ref T)
 keep:∀b o,h₀.get? b=some o->h.get? b=some o
theorem jez{z TI TO i1 i2 l1 l2:Addr}{xs ys:Array Value}{h₀:Heap}{Q:Value->Shared->Prop}(hh:A.handled=none)(D:ZipApart z TI TO i1 i2 l1 l2)
 (hz:IsZip s.heap z TI TO .none) (hTI:IsPair s.heap TI (.ref i1) (.ref i2)) (hTO:∃a b,IsPair s.heap TO a b) (h1:s.heap.IsListIter i1 l1 0) (h2:s.heap.IsListIter i2 l2 0) (hl1:h₀.IsList l1 xs) (hl2:h₀.IsList l2 ys)
 (hk:∀b o,h₀.get? b=some o->s.heap.get? b=some o) (hge:h₀.objs.size<=z/\h₀.objs.size<=TO/\h₀.objs.size<=i1/\h₀.objs.size<=i2) (hle:h₀.objs.size<=s.heap.objs.size) (hn:xs.size<sizeLine)
 (hQ:∀S h' tD c,h₀.objs.size ≤ S → h'.get? S=some { cls:=.type "list",data:=.seq tD c } → ZipMade h₀ h' S z TO i1 i2 xs ys tD (min xs.size ys.size) → Q (.ref S) { s with heap:=h' }) :
 wpAny (model prog w) A (call (.type "list") [.ref z]) Q E s:=by
 refine callType_codes (Q₁:=fun obj s₁=>obj=.ref s.heap.objs.size ∧ s₁={ s with heap:=s.heap.push { cls:=.type "list",data:=.seq #[] } }) F.called_list (F.typeCall_list_1 _) F.entry_list_init (code_list_new _ ⟨rfl,rfl⟩) fun obj s₁ e₁=>?_;obtain⟨rfl,rfl⟩:=e₁;generalize hSd:s.heap.objs.size=S at *
 have hS:(s.heap.push { cls:=.type "list",data:=.seq #[] }).get? S=some { cls:=.type "list",data:=.seq #[] }:=by rw[← hSd];exact Yl _ rfl
 refine⟨⟨_,hS,rfl⟩,F.args_list_init_2 _ _,?_⟩;generalize hG:s.heap.push { cls:=.type "list",data:=.seq #[] }=G at *
 have up:∀b o,s.heap.get? b=some o->G.get? b=some o:=fun b o e=>by rw[<-hG];exact Yb _ e
 have nS:∀b o,s.heap.get? b=some o->b≠S:=fun b o e=>by rw[<-hSd];exact Yo (Yp e)
 obtain⟨ta,tb,hTO⟩:=hTO;obtain⟨oi1,ei1,_⟩:=id h1;obtain⟨oi2,ei2,_⟩:=id h2;have zS:=nS _ _ hz;have i1S:=nS _ _ ei1;have i2S:=nS _ _ ei2;have TIS:=nS _ _ hTI;have TOS:=nS _ _ hTO;have zl:z<S:=by have q:=QJ hz;rw[hSd]at q;exact q
 have TOl:TO<S:=by have q:=QJ hTO;rw[hSd]at q;exact q
 have i1l:i1<S:=by have q:=QJ ei1;rw[hSd]at q;exact q
 have i2l:i2<S:=by have q:=QJ ei2;rw[hSd]at q;exact q
 -- the list is emptied, then filled
 show wpAny _ _ (do let old <- Builtin.List.listItems (.ref S);Builtin.List.listUpdate (.ref S) (fun _=>#[]);letGo old.toList.reverse;Builtin.List.listExtendWith (.ref S) (.ref z) .none) _ _ _;refine QB ?_;unfold Builtin.List.listItems;refine QB (Y6 hS rfl (Yn ?_));show wpAny _ _ (updateSeq S (fun _=>#[]) >>= fun _=>letGo (#[]:Array Value).toList.reverse >>= fun _=>Builtin.List.listExtendWith (.ref S) (.ref z) .none) _ _ _;refine QB (Kb hS rfl ?_);have hS2:=YZ (Obj.mapSeq (fun _=>(#[]:Array Value))) hS rfl;refine QB (wpAny_letGo ?_);have sb1:Heap.SameBut S G (G.update S (Obj.mapSeq fun _=>(#[]:Array Value))):=Heap.SameBut.update ..
 generalize G.update S (Obj.mapSeq fun _=>(#[]:Array Value))=G1 at hS2 sb1 ⊢;have up1:∀b o,s.heap.get? b=some o->G1.get? b=some o:=fun b o e=>sb1.extBut b o (nS b o e) (up b o e);unfold Builtin.List.listExtendWith;refine QB (wpAny_typeOf (T := "zip") ⟨_,up1 _ _ hz,rfl⟩ ?_);have hsr:Builtin.List.listSameRef (.ref S) (.ref z)=false:=by simp[Builtin.List.listSameRef,Ne.symm zS]
 have t1:(Value.type "zip" == Value.type "list")=false:=by decide
 have t2:(Value.type "zip" == Value.type "tuple")=false:=by decide
 simp only[hsr,t1,t2,Bool.or_false,Y2,Kh];refine QB (yF (up1 _ _ hz) ?_);refine QB (Y3 (jeV (up1 _ _ hz) ?_));simp only[Bool.true_or,yU];refine QB (wpAny_rule ?_);refine QB ?_;show wpAny _ _ (updateSeq S (·.push .none) >>= fun _=>updateSeq S (·.pop)) _ _ _;refine QB (Kb hS2 rfl ?_);have hS3:=YZ (Obj.mapSeq (·.push Value.none)) hS2 rfl;have sb2:Heap.SameBut S G1 (G1.update S (Obj.mapSeq (·.push Value.none))):=Heap.SameBut.update ..
 generalize G1.update S (Obj.mapSeq (·.push Value.none))=G2 at hS3 sb2 ⊢;refine Kb (hz:=by seq_fits) hS3 rfl ?_;have hS4:=YZ (Obj.mapSeq (·.pop)) hS3 rfl;have sb3:Heap.SameBut S G2 (G2.update S (Obj.mapSeq (·.pop))):=Heap.SameBut.update ..
 generalize G2.update S (Obj.mapSeq (·.pop))=G3 at hS4 sb3 ⊢;have up3:∀b o,s.heap.get? b=some o->G3.get? b=some o:=fun b o e=>sb3.extBut b o (nS b o e) (sb2.extBut b o (nS b o e) (up1 b o e));refine Yn ⟨plainId_quiet Kg _,?_⟩;refine jbY (fun n tD s'=>∃(i c:Nat) (h:Heap),s'={ s with heap:=h } ∧ n=xs.size+1-i ∧ i ≤ xs.size ∧ i ≤ ys.size ∧ ZipMade h₀ h S z TO i1 i2 xs ys tD i ∧ h.get? S=some { cls:=.type "list",data:=.seq tD c } ∧ IsPair h TI (.ref i1) (.ref i2) ∧
  h.IsListIter i1 l1 i/\h.IsListIter i2 l2 i/\h₀.objs.size<=h.objs.size/\((IsZip h z TI TO .none/\∃a b,IsPair h TO a b)\/∃a f oa,zw h z TI TO a f/\h.get? a=some oa/\a≠z/\a≠i1/\a≠i2/\a≠S)) ?_ (xs.size+1) #[] _
  ⟨0,_,G3,rfl,by omega,yx _,yx _,⟨rfl,fun j hj=>absurd hj (Nat.not_lt_zero _),fun b o e=>up3 b o (hk b o e)⟩,hS4,up3 _ _ hTI,h1.at fun o e=>up3 _ o e,h2.at fun o e=>up3 _ o e,
   by rw[sb3.1,sb2.1,sb1.1,<- hG,YO];omega,.inl ⟨up3 _ _ hz,_,_,up3 _ _ hTO⟩⟩
 rintro n tD s' ⟨i,c,h,rfl,rfl,hix,hiy,M,hSl,pTI,p1,p2,hsz,zs⟩;have hb0:∀{b:Addr} {o:Obj},h₀.get? b=some o->b≠z/\b≠TO/\b≠i1/\b≠i2/\b≠S:=fun{b o} e=>by have q:=QJ e;exact⟨Yo (Yc q hge.1),Yo (Yc q hge.2.1),Yo (Yc q hge.2.2.1),Yo (Yc q hge.2.2.2),Yo (Yc q hle)⟩
 have hl1':h.IsList l1 xs:=hl1.at fun o e=>M.keep _ o e;have hl2':h.IsList l2 ys:=hl2.at fun o e=>M.keep _ o e;obtain⟨ol1,el1,_⟩:=id hl1;obtain⟨ol2,el2,_⟩:=id hl2;refine⟨by rw[M.size];omega,?_⟩;have ltS:S<h.objs.size:=QJ hSl
 -- behind a pair
 have next:∀(h':Heap) (x y:Value) (a:Addr) (f:Bool) (oa:Obj),xs[i]?=some x->ys[i]?=some y->IsPair h' h.objs.size x y->h'.objs.size=h.objs.size+1->zw h' z TI TO a f->h'.get? a=some oa->a≠z->a≠i1->a≠i2->a≠S->
  h'.IsListIter i1 l1 (i+1)->h'.IsListIter i2 l2 (i+1)->(∀c o,c≠z->c≠TO->c≠i1->c≠i2->h.get? c=some o->h'.get? c=some o)->
  (∃c,h'.get? S=some { cls:=.type "list",data:=.seq tD c }) ∧
  ∀h'' c',h''.get? S=some { cls:=.type "list",data:=.seq (tD.push (.ref h.objs.size)) c' } → Heap.SameBut S h' h'' → ∃m,m<xs.size+1-i ∧ ∃(i' c:Nat) (g:Heap),({ s with heap:=h'' }:Shared)={ s with heap:=g } ∧ m=xs.size+1-i' ∧ i' ≤ xs.size ∧ i' ≤ ys.size ∧ ZipMade h₀ g S z TO i1 i2 xs ys (tD.push (.ref h.objs.size)) i' ∧
    g.get? S=some { cls:=.type "list",data:=.seq (tD.push (.ref h.objs.size)) c } ∧ IsPair g TI (.ref i1) (.ref i2) ∧ g.IsListIter i1 l1 i' ∧ g.IsListIter i2 l2 i' ∧ h₀.objs.size ≤ g.objs.size ∧
    ((IsZip g z TI TO .none/\∃a b,IsPair g TO a b)\/∃a f oa,zw g z TI TO a f/\g.get? a=some oa/\a≠z/\a≠i1/\a≠i2/\a≠S):=by
  intro h' x y a f oa hx hy pT hs' zh ea az a1 a2 aS q1 q2 kk;have hxl:i<xs.size:=by
   rcases Y8 i xs.size with q | q
   . exact q
   . rw[YU q]at hx;cases hx
  have hyl:i<ys.size:=by
   rcases Y8 i ys.size with q | q
   . exact q
   . rw[YU q]at hy;cases hy
  have TS:h.objs.size≠S:=YS ltS;refine⟨⟨c,kk _ _ (Ne.symm zS) (Ne.symm TOS) (Ne.symm i1S) (Ne.symm i2S) hSl⟩,fun h'' c' eS sb=>⟨xs.size+1-(i+1),by omega,i+1,c',h'',rfl,rfl,hxl,hyl,⟨by rw[Array.size_push,M.size],fun j hj=>?_,fun b o e=>?_⟩,eS,sb.extBut _ _ TIS (kk _ _ D.TIz D.TITO D.TIi1 D.TIi2 pTI),q1.extBut sb.extBut i1S,q2.extBut sb.extBut i2S,by rw[sb.1];omega,
   .inr ⟨a,f,oa,sb.extBut _ _ zS zh,sb.extBut _ _ aS ea,az,a1,a2,aS⟩⟩⟩
  . rcases Y8 j i with q | q
    . obtain⟨T',x',y',e1,e2,e3,e4,e5,e6,e8,e7⟩:=M.pair j q;have hT':=QJ e4;refine⟨T',x',y',by rw[yI,YG (by rw[M.size];omega)];exact e1,e2,e3,?_,e5,e6,e8,fun k hk'=>by rw[yI,YG (by rw[M.size];omega)];exact e7 k hk'⟩;obtain⟨t1',t2',t3',t4'⟩:=e8;exact sb.extBut _ _ e6 (kk _ _ t1' t2' t3' t4' e4)
    . have e:j=i:=by omega
      subst e;refine⟨h.objs.size,x,y,by rw[yI,Yq M.size.symm],hx,hy,sb.extBut _ _ TS pT,hsz,TS,⟨YS (yJ zl ltS),YS (yJ TOl ltS),YS (yJ i1l ltS),YS (yJ i2l ltS)⟩,fun k hk'=>?_⟩;obtain⟨T',x',y',e1,e2,e3,e4,e5,e6,e8,e7⟩:=M.pair k hk';have hT':=QJ e4;rw[yI,YG (by rw[M.size];omega),e1];intro z';have:T'=h.objs.size:=by injection z' with z';injection z'
      exact absurd this (Yo hT')
  . obtain⟨b1,b2,b3,b4,b5⟩:=hb0 e;exact sb.extBut _ _ b5 (kk _ _ b1 b2 b3 b4 (M.keep b o e))
 have none_of:¬(i<xs.size/\i<ys.size)->(xs[i]?=none\/ys[i]?=none)/\i=min xs.size ys.size:=fun q=>by
  refine⟨?_,by omega⟩;rcases Y8 i xs.size with q1 | q1
  . exact .inr (YU (by omega))
  . exact .inl (YU q1)
 by_cases hij:i<xs.size/\i<ys.size
 . have hx:=YF hij.1;have hy:=YF hij.2;rcases zs with⟨zf,ta',tb',pTO⟩ | ⟨a,f,oa,zh,ea,az,a1,a2,aS⟩
   . refine wpAny_pyNext_zip_item D zf pTI pTO p1 p2 hl1' hl2' hx hy fun h' r1 r2 r3 r4 r5 r6 r7=>?_;exact next h' _ _ _ false _ hx hy r5 r6 r1 r5 (YS (yJ zl ltS)) (YS (yJ i1l ltS)) (YS (yJ i2l ltS)) (YS ltS) r3 r4 r7
   . refine Z4 D zh ea pTI p1 p2 hl1' hl2' hx hy fun h' r1 r3 r4 r5 r6 r7=>?_;exact next h' _ _ a true oa hx hy r5 r6 r1 (r7 _ _ az a1 a2 ea) az a1 a2 aS r3 r4 fun c o c1 _ c3 c4 e=>r7 c o c1 c3 c4 e
 . obtain⟨he,hm⟩:=none_of hij;have fin:∀h':Heap,(∀c o,c≠z->c≠TO->c≠i1->c≠i2->h.get? c=some o->h'.get? c=some o)->wants (fun r s₂=>r=Value.none/\Q (.ref S) s₂) E (.ok (.ret .none)) { s with heap:=h' }:=fun h' kk=>by
    refine⟨rfl,hQ S h' tD c hle (kk _ _ (Ne.symm zS) (Ne.symm TOS) (Ne.symm i1S) (Ne.symm i2S) hSl) ⟨by rw[M.size,hm],fun j hj=>?_,fun b o e=>?_⟩⟩
    . obtain⟨T',x',y',e1,e2,e3,e4,e5,e6,e8,e7⟩:=M.pair j (by omega);exact⟨T',x',y',e1,e2,e3,kk _ _ e8.1 e8.2.1 e8.2.2.1 e8.2.2.2 e4,e5,e6,e8,e7⟩
    . obtain⟨b1,b2,b3,b4,b5⟩:=hb0 e;exact kk _ _ b1 b2 b3 b4 (M.keep b o e)
   rcases zs with⟨zf,ta',tb',pTO⟩ | ⟨a,f,oa,zh,ea,az,a1,a2,aS⟩
   . exact wpAny_pyNext_zip_end hh D zf pTI pTO p1 p2 hl1' hl2' he fun h' kk=>fin h' kk
   . exact jaY hh D zh ea pTI p1 p2 hl1' hl2' he fun h' kk=>fin h' fun c o c1 _ c3 c4 e=>kk c o c1 c3 c4 e
end
end L2
namespace L2S
open PySem PySem.Spec PyProof.Rows
theorem ZR{α:Type}:∀{l:List α} {i:Nat} (h:i<l.length),(l[i]::l.eraseIdx i).Perm l
 | a::l,0,_=>.rfl
 | a::l,i+1,h=>by have ih:=ZR (l:=l) (i:=i) (by simpa using h);rw[List.eraseIdx_cons_succ,List.getElem_cons_succ];exact(List.Perm.swap _ _ _).trans (ih.cons a)
theorem jdD{α:Type}(next:Nat->Nat):∀(fuel k:Nat) (left:List α) (out:Array α),left.length<=fuel->(pickOrder.go next fuel k left out).toList.Perm (out.toList++left)
 | 0,k,left,out,h=>by have:left=[]:=List.length_eq_zero_iff.mp (by omega);subst this;unfold pickOrder.go;simp
 | fuel+1,k,left,out,h=>by
   unfold pickOrder.go;cases left with
   | nil=>simp
   | cons a l=>
     have hlt:next k%(a::l).length<(a::l).length:=Nat.mod_lt _ (by simp)
     rw[QC hlt];dsimp only;refine(jdD next fuel (k+1) _ _ ?_).trans ?_
     . rw[List.length_eraseIdx_of_lt hlt];simp at h ⊢;omega
     . rw[Array.toList_push,yA];refine List.Perm.append_left _ ?_;exact(ZR hlt)
theorem jdX{α:Type}(next:Nat->Nat)(xs:Array α):(pickOrder next xs).toList.Perm xs.toList:=by
 have:=jdD next xs.size 0 xs.toList #[] (by simp)
 simpa[pickOrder]using this
section
variable{prog:Program}{w:World}{A:Around}{E:Value->Shared->Prop}{s:Shared}
def jky:Value->Int
 | .int k _=>k
 | _=>0
def jka(prog:Program)(w:World)(h:Heap)(a:Addr)(ns:List Int):Prop:=
 ∃o es ep t,h.get? a=some o/\o.ExactSet/\o.data=.set es ep t/\ElemsOf (intKind prog w) es.toList/\(∀k,k∈ns ↔ ∃e∈es.toList,(intKind prog w).is k e.2=true)/\t.fits es.size=true/\es.size<=ns.length /\
   (es.toList.map fun e=>jky e.2).Nodup ∧ Ris t.place ∧ (w.params.followText "set-order"=false → t.led=true)
theorem jlr{a:Addr}{o:Obj}{es es':Array (Int×Value)}{ep:Nat}{t t':SetTable}{ns:List Int}{h:Heap}(ho:h.get? a=some o)(hex:o.ExactSet)(hd:o.data=.set es ep t)(h1:ElemsOf (intKind prog w) es'.toList)
 (h2:∀k,k∈ns ↔ ∃e∈es'.toList,(intKind prog w).is k e.2=true) (h3:t'.fits es'.size=true) (h4:es'.size ≤ ns.length) (h5:(es'.toList.map fun e=>jky e.2).Nodup) (h6:Ris t'.place) (h7:w.params.followText "set-order"=false → t'.led=true) :
 (h.update a (Obj.putSet es' t')).get? a=some { o with data:=.set es' (ep+1) t' }/\jka prog w (h.update a (Obj.putSet es' t')) a ns:=by
 have e:(h.update a (Obj.putSet es' t')).get? a=some { o with data:=.set es' (ep+1) t' }:=by
  have q:=YZ (Obj.putSet es' t') ho (by rw[putSet_of es' t' hd];rfl)
  rwa [putSet_of es' t' hd]at q
 exact⟨e,_,es',ep+1,t',e,hex,rfl,h1,h2,h3,h4,h5,h6,h7⟩
theorem jdV(a:Value){Q₁:Value->Shared->Prop}
 (h:∀led:Bool,led=!w.params.followText "set-order" → Q₁ (.ref s.heap.objs.size) { s with heap:=s.heap.push { cls:=.type "set",dict:=none,data:=.set #[] 0 (.fresh 0 0 led) } }) :
 codeAny (model prog w) A (.call (.builtin "set.__new__") ⟨[.type "set",a],[]⟩) (wants Q₁ E) s:=by
 refine codeAny_of_tree ?_;show wpAny _ A.in1 (do checkBuiltinCall "set.__new__" ⟨[.type "set",a],[]⟩;again (.builtin "set.__new__" ⟨[.type "set",a],[]⟩)) _ _ s;refine QB (wpAny_of_eq (PySem.F.newCall_set_1 a) (Yn ⟨plainId_quiet PySem.F.plain_set_new _,yM PySem.F.entry_set_new ?_⟩));rw[yD PySem.F.plain_set_new _];unfold Builtin.«set.__new__» Builtin.Frozenset.newClass;have hsub:=sub_set_self;obtain⟨hp,g,d,tk,os⟩:=s;dsimp only
 wp_walk
 refine wpAny_askSetting (Yn ?_);dsimp only;simp only[newObj];refine QB (wpAny_alloc (Yn ?_));exact Yn (h _ rfl)
end
end L2S
namespace L2S
open PySem PySem.Spec PyProof.Rows
inductive Mode(w:World)(h:Heap)(a:Addr)(es:Array (Int×Value))(ep:Nat)(t:SetTable):Value->Nat->List Value->Prop where
 | text {sl i:Nat} (hb:w.params.followText "set-order"=true):Mode w h a es ep t (rawInt sl) i ((pickOrder (w.params.setOrder a ep) es).toList.map (·.2))
 | plain {sl i:Nat} (hb:w.params.followText "set-order"=false) (hd:(!t.plain && decide (es.size>1))=false) (hs:SetTable.below t.place sl=i):Mode w h a es ep t (rawInt sl) i (es.toList.map (·.2))
 | drawn {T:Addr} {i:Nat} {pl:List Nat} (hb:w.params.followText "set-order"=false) (hT:h.get? T=some { cls:=.type "tuple",data:=.seq (pl.map fun(j:Nat)=>rawInt j).toArray }) (hp:pl.Perm (List.range es.size)) :
  Mode w h a es ep t (.ref T) i (pl.filterMap fun j=>(es[j]?).map (·.2))
theorem Mode.perm{w:World}{h:Heap}{a:Addr}{es:Array (Int×Value)}{ep:Nat}{t:SetTable}{f:Value}{i:Nat}{q:List Value}(M:Mode w h a es ep t f i q):q.Perm (es.toList.map (·.2)):=by
 cases M with
 | text hb=>exact(jdX _ es).map _
 | plain hb hd hs=>exact .rfl
 | drawn hb hT hp=>refine(hp.filterMap _).trans ?_;have e:=filterMap_getElem?_range es;rw[<-e,List.map_filterMap]
theorem Mode.at{w:World}{h h':Heap}{a:Addr}{es:Array (Int×Value)}{ep:Nat}{t:SetTable}{f:Value}{i:Nat}{q:List Value}(M:Mode w h a es ep t f i q)(k:∀T o,f=.ref T->h.get? T=some o->h'.get? T=some o):Mode w h' a es ep t f i q:=by
 cases M with
 | text hb=>exact .text hb
 | plain hb hd hs=>exact .plain hb hd hs
 | drawn hb hT hp=>exact .drawn hb (k _ _ rfl hT) hp
end L2S
namespace L2
open PySem PySem.Spec PyProof.Rows
def ZL(cells:List (Str×Addr)):List (Str×NameKind)->List (Str×Addr)->List (Str×Addr)
 | [],tD=>tD
 | (n,k)::r,tD=>ZL cells r (if (k == NameKind.free)=true then(match cells.lookup n with | some c=>(n,c)::tD | none=>tD)else tD)
theorem ZC{α β:Type}{f:α->β->Sem (ForInStep β)}{g:α->β->β}:∀(l:List α) (b:β),(∀x∈l,∀b,f x b=pure (.yield (g x b)))->forIn l b f=pure (l.foldl (fun b x=>g x b) b)
 | [],b,_=>rfl
 | x::l,b,h=>by rw[yQ,h x Yd,pure_bind];exact ZC l _ fun y hy=>h y (Yg _ hy)
theorem Zy(cells:List (Str×Addr)):∀(names:List (Str×NameKind)) (tD:List (Str×Addr)),
 names.foldl (fun b x=>if (x.2 == NameKind.free)=true then(match cells.lookup x.1 with | some c=>(x.1,c)::b | none=>b)else b) tD=ZL cells names tD
 | [],_=>rfl
 | (n,k)::r,tD=>by rw[List.foldl_cons,Zy cells r];rfl
theorem J3{scope:Scope}{env:Env}(h:∀n,(n,NameKind.free)∈scope.names->∃c,env.cells.lookup n=some c):closureFor scope env=pure (ZL env.cells scope.names []):=by
 unfold closureFor;rw[<-Zy];have key:=ZC (f:=fun(x:Str×NameKind) (cs:List (Str×Addr))=>match x with
  | (name,kind)=>if (kind == NameKind.free)=true then(do let c <- cellOf env name;pure (ForInStep.yield ((name,c)::cs)))else pure (ForInStep.yield cs))
  (g:=fun x b=>if (x.2 == NameKind.free)=true then(match env.cells.lookup x.1 with | some c=>(x.1,c)::b | none=>b)else b) scope.names [] (by
   rintro⟨n,k⟩ hx b;dsimp only;by_cases hk:(k == NameKind.free)=true
   . have e:k=NameKind.free:=by simpa using hk
     subst e;obtain⟨c,hc⟩:=h n hx;rw[Yq hk,Yq hk];unfold cellOf;rw[hc];rfl
   . rw[YG hk,YG hk])
 first
  | exact key
  | (refine Eq.trans ?_ key;rfl)
  | (simp only[key];rfl)
  | (show(forIn scope.names [] _ >>= fun cs=>pure cs)=_;rw[bind_pure];exact key)
theorem jcc{cells:List (Str×Addr)}:∀{names:List (Str×NameKind)} {tD:List (Str×Addr)} {n:Str} {c:Addr},(∀n c,(n,c)∈tD->cells.lookup n=some c)->(n,c)∈ZL cells names tD->cells.lookup n=some c
 | [],tD,n,c,h,q=>h n c q
 | (m,k)::r,tD,n,c,h,q=>by
   refine jcc (names:=r) ?_ q;intro n' c' q';by_cases hk:(k == NameKind.free)=true
   . rw[Yq hk]at q';cases e:cells.lookup m with
     | none=>rw[e]at q';exact h n' c' q'
     | some d=>
       rw[e]at q';rcases Yj.mp q' with z | z
       . cases z;exact e
       . exact h n' c' z
   . rw[YG hk]at q';exact h n' c' q'
theorem JN{α:Type}:∀{l:List (Str×α)} {n:Str} {c:α},l.lookup n=some c->(n,c)∈l
 | [],_,_,h=>by simp at h
 | (m,d)::r,n,c,h=>by
   rw[Yv]at h;cases e:n == m with
   | true=>
     rw[e]at h;have e':n=m:=by simpa using e
     subst e';cases h;exact Yd
   | false=>rw[e]at h;exact Yg _ (JN h)
theorem jat{α:Type}:∀{l:List (Str×α)} {n:Str} {c:α},(n,c)∈l->∃d,l.lookup n=some d
 | (m,d)::r,n,c,h=>by
   rw[Yv];cases e:n == m with
   | true=>exact⟨d,rfl⟩
   | false=>
     rcases Yj.mp h with z | z
     . cases z;simp at e
     . exact jat z
theorem zF{cells:List (Str×Addr)}{names:List (Str×NameKind)}{n:Str}{c:Addr}(q:(ZL cells names []).lookup n=some c):cells.lookup n=some c:=jcc (tD:=[]) (fun _ _ z=>absurd z Yu) (JN q)
theorem jaL{cells:List (Str×Addr)}:∀{names:List (Str×NameKind)} {tD:List (Str×Addr)} {p:Str×Addr},p∈tD->p∈ZL cells names tD
 | [],tD,p,h=>h
 | (m,k)::r,tD,p,h=>by
   refine jaL (names:=r) ?_;by_cases hk:(k == NameKind.free)=true
   . rw[Yq hk];cases e:cells.lookup m with
     | none=>exact h
     | some d=>exact Yg _ h
   . rw[YG hk];exact h
theorem jb0{cells:List (Str×Addr)}:∀{names:List (Str×NameKind)} {tD:List (Str×Addr)} {n:Str} {c:Addr},(n,NameKind.free)∈names->cells.lookup n=some c->(n,c)∈ZL cells names tD
 | (m,k)::r,tD,n,c,h,q=>by
   rcases Yj.mp h with z | z
   . have z1:n=m:=congrArg Prod.fst z;have z2:NameKind.free=k:=congrArg Prod.snd z;subst z1 z2;show(n,c)∈ZL cells r (if (NameKind.free == NameKind.free)=true then _ else _);rw[Yq (show(NameKind.free == NameKind.free)=true from rfl),q];exact jaL Yd
   . exact jb0 (names:=r) z q
theorem jbL{cells:List (Str×Addr)}{names:List (Str×NameKind)}{n:Str}{c:Addr}(h:(n,NameKind.free)∈names)(q:cells.lookup n=some c):(ZL cells names []).lookup n=some c:=by obtain⟨d,e⟩:=jat (jb0 (tD:=[]) h q);have:=zF e;rw[q]at this;cases this;exact e
theorem Qx{env:Env}:∀{names:List (Str×NameKind)} {x:Str},names.lookup x=some .free->
 ((names.map fun(n,k)=>if (k == NameKind.free && env.scope.kind == .function && env.kindOf n == some .cell)then(n,NameKind.cell)else(n,k)).lookup x=some .cell \/
  (names.map fun(n,k)=>if (k == NameKind.free && env.scope.kind == .function && env.kindOf n == some .cell)then(n,NameKind.cell)else(n,k)).lookup x=some .free)
 | [],_,h=>by simp at h
 | (n,k)::r,x,h=>by
   rw[YM];rw[Yv]at h;cases hx:x == n with
   | true=>
     rw[hx]at h;have h:k=.free:=by simpa using h
     subst h;by_cases hk:(NameKind.free == NameKind.free && env.scope.kind == .function && env.kindOf n == some .cell)=true
     . left;simp only[hk,yU,Yv,hx]
     . right;simp only[hk,Y2,Kh,Yv,hx]
   | false=>
     rw[hx]at h;have ih:=Qx (env:=env) (names:=r) (x:=x) h;by_cases hk:(k == NameKind.free && env.scope.kind == .function && env.kindOf n == some .cell)=true
     . simpa only[hk,yU,Yv,hx]using ih
     . simpa only[hk,Y2,Kh,Yv,hx]using ih
theorem Zr{x:Str}:∀(names:List (Str×NameKind)) (n:Nat) (tD:List (Str×Addr)) (c:Addr),tD.lookup x=some c->∃d,(cellsFrom n names tD).lookup x=some d
 | [],n,tD,c,h=>⟨c,h⟩
 | (m,k)::r,n,tD,c,h=>by
   unfold cellsFrom;split
   . cases e:x == m with
     | true=>exact Zr r (n+1) _ n (by rw[Yv,e])
     | false=>exact Zr r (n+1) _ c (by rw[Yv,e];exact h)
   . exact Zr r n tD c h
theorem ja6{x:Str}:∀(names:List (Str×NameKind)) (n:Nat) (tD:List (Str×Addr)),(x,NameKind.cell)∈names->∃d,(cellsFrom n names tD).lookup x=some d
 | (m,k)::r,n,tD,h=>by
   rcases Yj.mp h with z | z
   . have z1:x=m:=congrArg Prod.fst z;have z2:NameKind.cell=k:=congrArg Prod.snd z;subst z1 z2;unfold cellsFrom;rw[Yq (show(NameKind.cell == NameKind.cell)=true from rfl)];exact Zr r (n+1) _ n (by rw[Yv,beq_self_eq_true])
   . unfold cellsFrom;split
     . exact ja6 r (n+1) _ z
     . exact ja6 r n tD z
theorem ZY{x:Str}:∀(names:List (Str×NameKind)) (n:Nat) (tD:List (Str×Addr)),(x,NameKind.cell)∉names->(cellsFrom n names tD).lookup x=tD.lookup x
 | [],n,tD,h=>rfl
 | (m,k)::r,n,tD,h=>by
   have hr:(x,NameKind.cell)∉r:=fun z=>h (Yg _ z);unfold cellsFrom;split
   . rename_i hk;have hk':k=.cell:=by simpa using hk
     rw[ZY r (n+1) _ hr,Yv];have:(x == m)=false:=by rw[beq_eq_false_iff_ne];intro e;subst e hk';exact h Yd
     rw[this]
   . exact ZY r n tD hr
theorem jbj{x:Str}{c:Addr}:∀(names:List (Str×NameKind)) (n:Nat) (tD:List (Str×Addr)),(x,NameKind.cell)∈names->(cellsFrom n names tD).lookup x=some c->n<=c
 | (m,k)::r,n,tD,h,q=>by
   unfold cellsFrom at q;by_cases hr:(x,NameKind.cell)∈r
   . split at q
     . exact Nat.le_of_succ_le (jbj r (n+1) _ hr q)
     . exact jbj r n tD hr q
   . rcases Yj.mp h with z | z
     . have z1:x=m:=congrArg Prod.fst z;have z2:NameKind.cell=k:=congrArg Prod.snd z;subst z1 z2;rw[Yq (show(NameKind.cell == NameKind.cell)=true from rfl),ZY r (n+1) _ hr,Yv,beq_self_eq_true]at q;cases q;exact Ym _
     . exact absurd z hr
theorem jfB{x:Str}{c:Addr}:∀(names:List (Str×NameKind)) (h:Heap) (tD:List (Str×Addr)),(cellsFrom h.objs.size names tD).lookup x=some c->tD.lookup x=some c\/((pushCells h names).IsCell c none/\h.objs.size<=c)
 | [],h,tD,q=>.inl q
 | (m,k)::r,h,tD,q=>by
   unfold cellsFrom at q;unfold pushCells;split at q
   . rename_i hk;rw[Yq hk];rw[← YO h { cls:=.type "cell",data:=.cell none }]at q;rcases jfB r _ _ q with z | ⟨z1,z2⟩
     . rw[Yv]at z;cases e:x == m with
       | true=>rw[e]at z;cases z;exact .inr ⟨(show(h.push { cls:=.type "cell",data:=.cell none }).IsCell h.objs.size none from⟨_,Yl _ rfl,rfl⟩).keeps (Kc r _),Ym _⟩
       | false=>rw[e]at z;exact .inl z
     . rw[YO]at z2;exact .inr ⟨z1,Nat.le_of_succ_le z2⟩
   . rename_i hk;rw[YG hk];exact jfB r h tD q
theorem jcT:∀(names:List (Str×NameKind)) (n:Nat) (tD:List (Str×Addr)),(∀x c,tD.lookup x=some c->c<n)->(∀x y c,tD.lookup x=some c->tD.lookup y=some c->x=y)->
 ∀x y c,(cellsFrom n names tD).lookup x=some c->(cellsFrom n names tD).lookup y=some c->x=y
 | [],n,tD,_,h=>h
 | (m,k)::r,n,tD,hl,h=>by
   unfold cellsFrom;split
   . refine jcT r (n+1) _ (fun x c q=>?_) fun x y c q1 q2=>?_
     . rw[Yv]at q;cases e:x == m with
       | true=>rw[e]at q;cases q;exact Nat.lt_succ_self _
       | false=>rw[e]at q;exact yW (hl x c q)
     . rw[Yv]at q1 q2;cases e1:x == m with
       | true=>
         cases e2:y == m with
         | true=>rw[beq_iff_eq.mp e1,beq_iff_eq.mp e2]
         | false=>rw[e1]at q1;rw[e2]at q2;cases q1;exact absurd (hl y _ q2) (YH _)
       | false=>
         cases e2:y == m with
         | true=>rw[e1]at q1;rw[e2]at q2;cases q2;exact absurd (hl x _ q1) (YH _)
         | false=>rw[e1]at q1;rw[e2]at q2;exact h x y c q1 q2
   . exact jcT r n tD hl h
theorem QX{env:Env}:∀{names:List (Str×NameKind)} {x:Str},
 ((names.map fun(n,k)=>if (k == NameKind.free && env.scope.kind == .function && env.kindOf n == some .cell)then(n,NameKind.cell)else(n,k)).lookup x=some .cell \/
  (names.map fun(n,k)=>if (k == NameKind.free && env.scope.kind == .function && env.kindOf n == some .cell)then(n,NameKind.cell)else(n,k)).lookup x=some .free)->(x,NameKind.free)∈names\/(x,NameKind.cell)∈names
 | [],_,h=>by simp at h
 | (n,k)::r,x,h=>by
   have ih:=QX (env:=env) (names:=r) (x:=x);rw[YM]at h;by_cases hx:x=n
   . subst hx;by_cases hk:(k == NameKind.free && env.scope.kind == .function && env.kindOf x == some .cell)=true
     . have:k=NameKind.free:=by simp only[YQ]at hk;simpa using hk.1.1
       subst this;exact .inl Yd
     . simp only[hk,Yv,beq_self_eq_true]at h;rcases h with h | h
       . have:k=NameKind.cell:=by simpa using h
         subst this;exact .inr Yd
       . have:k=NameKind.free:=by simpa using h
         subst this;exact .inl Yd
   . have hb:(x == n)=false:=by simpa using hx
     have ih':=ih (by
       by_cases hk:(k == NameKind.free && env.scope.kind == .function && env.kindOf n == some .cell)=true
       . simpa only[hk,yU,Yv,hb]using h
       . simpa only[hk,Y2,Kh,Yv,hb]using h)
     rcases ih' with z | z
     . exact .inl (Yg _ z)
     . exact .inr (Yg _ z)
def J9(scope:Scope)(x:Str):Bool:=match scope.names.lookup x with
 | some .cell=>true
 | _=>false
theorem Zl{scope:Scope}{x:Str}(h:J9 scope x=true):(x,NameKind.cell)∈scope.names:=by
 unfold J9 at h;split at h
 . rename_i e;exact JN e
 . cases h
def bcl(C:Addr)(scope:Scope)(cells:List (Str×Addr)):List (Str×Addr):=cellsFrom (C+1) scope.names (ZL cells scope.names [])
section
variable{M:Model}{A:Around}{E:Value->Shared->Prop}{s:Shared}
theorem zR{scope:Scope}{globals:Addr}{closure:List (Str×Addr)}{qual:Str}{func:Option Addr}{code:Value}{outer:Env}{builtins:Addr}{Q:Env->Shared->Prop}
 (hQ:Q (newEnv scope s.heap.objs.size globals (cellsFrom (s.heap.objs.size+1) scope.names closure) qual func code (some outer) builtins) { s with heap:=pushCells (s.heap.push { cls:=.type "dict",data:=.dict #[] }) scope.names }) :
 wpAny M A (newFunctionEnv scope globals closure [] qual func code (some outer) builtins) Q E s:=by
 simp only[newFunctionEnv,Option.isSome_some,yU];refine QB (wpAny_alloc ?_);refine QB (wpAny_layCells _ (fun name kind cells=>by cases hkc:kind == NameKind.cell <;> simp[hkc]) _ _ _ _ ?_);rw[show({ s with heap:=s.heap.push { cls:=.type "dict",data:=.dict #[] } }:Shared).heap.objs.size=s.heap.objs.size+1 from YO ..];rw[yZ];exact QB (Yn (Yn hQ))
end
def Cx.blk(X:Cx)(N:List Str)(scope:Scope)(C:Addr)(s:Shared)(H:Hp)(fp:List Addr):Cx:={ X with N:=N,s₀:=s,H₀:=H,env:=compEnvC scope (bcl C scope X.env.cells) C X.env,outer:=X.stack,stack:=X.stack,ex:=fp,fn:=J9 scope,pn:=[],xe:=fun _ _=>False }
def capt(σ:St)(ix:List Nat):St:=ix.map fun k=>(σ[k]?).getD none
def zH(n:Nat)(σ:St)(ix:List Nat):St:=List.replicate n none++capt σ ix
def jcr(n:Nat)(g:TG):Prop:=∀x σ H Q,g x σ H Q->g x σ H fun σ2 H2=>Q σ2 H2/\σ2.length=σ.length/\∀j,n<=j->σ2[j]?=σ[j]?
theorem jeh{n i:Nat}(h:i<n):jcr n (J2 i):=fun x σ H Q q=>⟨q,by simp,fun j hj=>by rw[Yz (by omega)]⟩
def PTs(X:Cx)(ifs:List Expr)(t:TT):Prop:=
 ∀(tf:List (Addr×Obj)) (s:Shared) (σ:St) (H:Hp) (Q:Bool->Hp->Prop) (E:Value->Shared->Prop),(∀e s',X.xe e s'->E e s')->Inv X tf σ H s->t σ H Q->
   wpAny (model X.prog X.w) X.A (forIn ifs true fun c r=>if r=true then do let ok <- isTrue c X.env (eval c X.env);pure (ForInStep.yield ok)else pure (ForInStep.yield r)) (TP X tf σ Q) E s
def jhb:TT:=fun _ H Q=>Q true H
theorem jgC{X:Cx}:PTs X [] jhb:=fun _ _ _ H _ _ _ I h=>wpAny_tests_nil ⟨H,I,h⟩
theorem jgI{X:Cx}{c:Expr}{t:TT}(h:PT X c t):PTs X [c] t:=fun tf s σ H Q E hE I q=>wpAny_tests_one (ym (h tf s σ H Q I q) (fun _ _ z=>z) hE)
def tLC(wi:TI)(g:TG)(tt:TT)(te:TE)(n:Nat)(ix:List Nat):TE:=fun σ H Q=>wi σ H fun J H1=>∃W:Nat->Nat->List V->Hp->Prop,(∃m,W 0 m [] H1)/\∀i m ys H,W i m ys H->
 (J.stop i H/\ys.length<=sizeLine/\∀p,H p=none->Q (.ref p) (upd H p (.lst ys))) \/
 (J.go i H/\ys.length<sizeLine/\∃N:List V->Hp->Prop,(∀ys' H',N ys' H'->∃m',m'<m/\W (i+1) m' ys' H')/\∀x H',J.yld i H x H'->g x (zH n σ ix) H' fun σ2 H2=>tt σ2 H2 fun b H3=>if b=true then te σ2 H3 fun v H4=>N (ys++[v]) H4 else N ys H3)
section
variable{prog:Program}{w:World}{A:Around}{E:Value->Shared->Prop}{R:Result->Shared->Prop}{s:Shared}
theorem JA{elt target iter:Expr}{ifs:List Expr}{scope:Scope}{pos:Pos}{it tD:Value}{env:Env}(I:Nat->Shared->Prop)
 (turn:∀n s,I n s->wpAny (model prog w) A (pyNext it) (fun r s₁=>match r with
  | none=>R (.ok .next) s₁
  | some v=>wpAny (model prog w) A (letOwnedTupleGo target it v) (fun _ s₁'=>wpAny (model prog w) A (assign target env v) (fun _ s₂=>
      wpAny (model prog w) A (forIn ifs true fun c r=>if r=true then do let ok <- isTrue c env (eval c env);pure (ForInStep.yield ok)else pure (ForInStep.yield r)) (fun ok s₃=>
        if ok=true then wpAny (model prog w) A (eval elt env) (fun x s₄=>wpAny (model prog w) A (call (.builtin "list.append") [tD,x]) (fun _ s₅=>∃m,m<n ∧ I m s₅) (fun _ _=>False) s₄) (fun _ _=>False) s₃
        else ∃m,m<n/\I m s₃) (fun _ _=>False) s₂) (fun _ _=>False) s₁') (fun _ _=>False) s₁) (fun _ _=>False) s)
 (n:Nat) (h:I n s) :
 codeAny (model prog w) A (.compLoop (.ListComp elt [⟨target,iter,ifs,0⟩] scope pos) 0 it tD env) R s:=by
 refine codeAny_loop rfl I (fun n s hI=>?_) n h;show wpAny _ A ((compTurn (.ListComp elt [⟨target,iter,ifs,0⟩] scope pos) 0 it tD env).onRaise (fun x=>do noteFrame x env;theTreesLotGoes x)) _ _ s;refine wpAny_noted ?_;rw[compTurn_list];refine QB (wpAny_standAt (QB (ym (turn n s hI) (fun r s₁ h₁=>?_) fun _ _ h'=>h'.elim)));cases r with
 | none=>exact Yn h₁
 | some v=>
   refine QB (ym h₁ (fun _ s₁' h₁'=>?_) fun _ _ h'=>h'.elim);refine QB (ym h₁' (fun _ s₂ h₂=>QB (ym h₂ (fun ok s₃ h₃=>?_) fun _ _ h'=>h'.elim)) fun _ _ h'=>h'.elim);cases ok with
   | false=>exact Yn ⟨rfl,h₃⟩
   | true=>exact QB (QB (ym h₃ (fun x s₄ h₄=>QB (ym h₄ (fun _ s₅ h₅=>Yn (Yn ⟨rfl,h₅⟩)) fun _ _ h'=>h'.elim)) fun _ _ h'=>h'.elim))
end
section
variable{X:Cx}{tf:List (Addr×Obj)}{σ:St}{H:Hp}{s:Shared}{scope:Scope}{C:Addr}{fp:List Addr}
theorem Inv.bclOld(I:Inv X tf σ H s)(hC:s.heap.objs.size<=C){x:Str}{c:Addr}(e:(bcl C scope X.env.cells).lookup x=some c):X.env.cells.lookup x=some c\/C<c:=by
 by_cases h:(x,NameKind.cell)∈scope.names
 . exact .inr (jbj _ _ _ h e)
 . unfold bcl at e;rw[ZY _ _ _ h]at e;exact .inl (zF e)
theorem Inv.blkOk(I:Inv X tf σ H s)(N:List Str)(hC:s.heap.objs.size<=C)(hkind:scope.kind=.function)
 (hfree:∀n,(n,NameKind.free)∈scope.names->X.env.scope.names.lookup n=some .cell\/X.env.scope.names.lookup n=some .free)
 (hf:∀b∈fp,QZ X tf H b) (hfl:∀b∈fp,b<s.heap.objs.size):(X.blk N scope C s H fp).Ok where
 mod:=I.ok.mod
 kind:=hkind
 glob:=I.ok.glob
 blt:=I.ok.blt
 above:=hC
 inj:=jcT _ _ _ (fun x c e=>by obtain⟨v,q⟩:=I.cell x c (zF e);exact yW (Yc q.lt hC)) fun x y c e1 e2=>I.ok.inj x y c (zF e1) (zF e2)
 has:=fun x hx=>by
  rcases QX (env:=X.env) hx with q | q
  . obtain⟨c,e⟩:=I.ok.has x (hfree x q);exact Zr _ _ _ c (jbL q e)
  . exact ja6 _ _ _ q
 cab:=fun x c e q=>Yx hC (yK (jbj _ _ _ (Zl e) q))
 hd:=I.ok.hd
 frames:=I.ok.frames
 stk:=.inl rfl
 exf:=fun b hb=>⟨Yo (Yc (hfl b hb) hC),fun x c e=>by
  rcases I.bclOld hC e with z | z
  . exact(hf b hb).2.2.2.2.1 x c z
  . exact YS (Yc (hfl b hb) (Yx hC (yK z)))⟩
 bs:=I.bs
 bsz:=Yx I.ok.bsz I.sz
 noex:=fun b o e hb=>by
  rcases(hf b hb).2.2.2.1 with z | z
  . exact I.ok.noex b o e z
  . exact absurd (Yc (Yp (I.ok.bs b o e).1) z) (YH _)
 exfs:=fun b hb z=>by
  rcases Yj.mp (I.stkSub b z)with q | q
  . exact(hf b hb).2.1 q
  . exact(hf b hb).2.2.1 q
 funs:=I.stack
 frf:=I.stkFree
theorem Inv.unblk{σ':St}{H':Hp}{s':Shared}{N:List Str}{D:Addr}{ys:List V}{tm:List Value}{n:Nat}{pl:List (Addr×Obj)}(I:Inv X tf σ H s)(hf:∀b∈fp,QZ X tf H b)(hD:s.heap.objs.size<=D)
 (J:Inv (X.blk N scope C s H fp) pl σ' H' s') (hv:Vals ys tm) (hz:ys.length ≤ sizeLine) (hl:s'.heap.get? D=some { cls:=.type "list",data:=.seq tm.toArray n }) (hn:H' D=none):Inv X tf σ (upd H' D (.lst ys)) s':=by
 have u:Un (frs X.stack) fp H H' s.heap s'.heap:=J.base;have neD:∀b o,s.heap.get? b=some o->b≠D:=fun b o e=>Yo (Yc (Yp e) hD);refine I.call' (ch:=fp) J.os (u:=⟨u.keep,u.slot,fun b o e n' hx=>?_,u.there,fun b xs e=>?_,fun b o x e=>?_,fun b ps e=>?_⟩) ?_ J.bare fun b hb=>⟨(hf b hb).2.2.2.1,(hf b hb).2.1,(hf b hb).2.2.2.2.1,(hf b hb).2.2.2.2.2⟩
 . rw[ji (neD b o e)];exact u.free b o e n' hx
 . rw[ji (jk (u.tups b xs e) hn)];exact u.tups b xs e
 . rw[ji (jk (u.frzs b o x e) hn)];exact u.frzs b o x e
 . obtain⟨more,q⟩:=u.tbls b ps e;exact⟨more,by rw[ji (jk q hn)];exact q⟩
 . intro b o e;by_cases hb:b=D
   . subst hb;rw[jm]at e;cases e;exact⟨hz,tm,n,hv,hl⟩
   . rw[ji hb]at e;exact(J.hok b o e).stay (fun c v _ q=>q) (fun c q=>by rw[ji (jk q hn)];exact q) fun c xs q=>by rw[ji (jk q hn)];exact q
end
section
variable{X:Cx}{elt iter tg:Expr}{ifs:List Expr}{scope:Scope}{pos:Pos}{Lc F:List Str}{ix:List Nat}{wi:TI}{g:TG}{tt:TT}{te:TE}
theorem jeG{σ:St}{ix:List Nat}{j:Nat}{v:V}(h:(capt σ ix)[j]?=some (some v)):∃k,ix[j]?=some k/\σ[k]?=some (some v):=by
 unfold capt at h;rw[Yt]at h;cases e:ix[j]? with
 | none=>rw[e]at h;cases h
 | some k=>
   rw[e]at h;have h':(σ[k]?).getD none=some v:=Option.some.inj h;refine⟨k,rfl,?_⟩;cases q:σ[k]? with
   | none=>rw[q]at h';cases h'
   | some o=>rw[q]at h';rw[show o=some v from h']
theorem jbT{tf:List (Addr×Obj)}{σ:St}{H:Hp}{s:Shared}{it:Addr}{fp:List Addr}{tn:Nat->Heap->Prop}{J:It}{E:Value->Shared->Prop}{Qv:List V->Hp->Prop}{RR:Value->Addr->Result->Shared->Prop}
 (hc:X.calm=true) (hkind:scope.kind=.function) (hcell:∀y∈scope.names,y.2=.cell->scope.names.lookup y.1=some .cell)
 (hfree:∀n,(n,NameKind.free)∈scope.names->X.env.scope.names.lookup n=some .cell\/X.env.scope.names.lookup n=some .free)
 (hix:ix.length=F.length) (hF:∀(j:Nat) (x:Str) (k:Nat),F[j]?=some x->ix[j]?=some k->X.N[k]?=some x/\(X.env.scope.names.lookup x=some .cell\/X.env.scope.names.lookup x=some .free)/\scope.names.lookup x=some .free)
 (hg:∀C s H fp,PG (X.blk (Lc++F) scope C s H fp) tg g) (hloc:jcr Lc.length g) (ht:∀C s H fp,PTs (X.blk (Lc++F) scope C s H fp) ifs tt) (he:∀C s H fp,PE (X.blk (Lc++F) scope C s H fp) elt te)
 (I:Inv X tf σ H s) (T:Turn X.prog X.w X.K tg J fp it tn) (st0:tn 0 s.heap) (hf:∀b∈fp,QZ X tf H b)
 (W:Nat->Nat->List V->Hp->Prop) (w0:∃m,W 0 m [] H)
 (turn:∀i m ys H,W i m ys H->(J.stop i H/\ys.length<=sizeLine/\Qv ys H) \/
  (J.go i H/\ys.length<sizeLine/\∃N:List V->Hp->Prop,(∀ys' H',N ys' H'->∃m',m'<m/\W (i+1) m' ys' H')/\∀x H',J.yld i H x H'->g x (zH Lc.length σ ix) H' fun σ2 H2=>tt σ2 H2 fun b H3=>if b=true then te σ2 H3 fun v H4=>N (ys++[v]) H4 else N ys H3))
 (hRR:∀(D C:Addr) (H':Hp) (s':Shared) (ys:List V) (m:Str->Option Value),D≠C->s.heap.objs.size<=D->s.heap.objs.size<=C->H' D=none->H' C=none->s'.heap.Ns C m->Inv X tf σ (upd H' D (.lst ys)) s'->Qv ys H'->RR (.ref D) C (.ok .next) s') :
 wpAny (model X.prog X.w) X.A (newList []) (fun tD s₃=>wpAny (model X.prog X.w) X.A (newFunctionEnv scope X.env.globals (ZL X.env.cells scope.names []) [] X.env.qual none .none (some X.env)) (fun cenv s₄=>codeAny (model X.prog X.w) X.A (.compStart (.ListComp elt [⟨tg,iter,ifs,0⟩] scope pos) 0 (.ref it) tD { cenv with scope:=relabel scope X.env }) (RR tD cenv.locals) s₄) E s₃) E s:=by
 refine wpAny_newObj_type (zR ?_);dsimp only;generalize hH2:s.heap.push { cls:=.type "list",dict:=none,data:=.seq ([]:List Value).toArray }=G;have hCs:G.objs.size=s.heap.objs.size+1:=by rw[<-hH2,YO]
 have hDC:s.heap.objs.size≠G.objs.size:=by rw[hCs];exact Yo (Nat.lt_succ_self _)
 have hCle:s.heap.objs.size<=G.objs.size:=by rw[hCs];exact Nat.le_succ _
 have hns₁:(pushCells (G.push { cls:=.type "dict",data:=.dict #[] }) scope.names).Ns G.objs.size fun _=>none:=(Heap.Ns.new G (.type "dict")).keeps (Kc _ _);have old:∀b o,s.heap.get? b=some o → (pushCells (G.push { cls:=.type "dict",data:=.dict #[] }) scope.names).get? b=some o:=fun b o e=>Kc _ _ _ _ (Yb _ (hH2 ▸ Yb _ e));have hacc:(pushCells (G.push { cls:=.type "dict",data:=.dict #[] }) scope.names).get? s.heap.objs.size=some { cls:=.type "list",data:=.seq ([]:List Value).toArray }:=Kc _ _ _ _ (Yb _ (hH2 ▸ Yl _ rfl));have hcs:∀x c,(bcl G.objs.size scope X.env.cells).lookup x=some c → X.env.cells.lookup x=some c ∨ ((pushCells (G.push { cls:=.type "dict",data:=.dict #[] }) scope.names).IsCell c none ∧ G.objs.size<c):=fun x c e=>by
  unfold bcl at e;rw[← YO G { cls:=.type "dict",data:=.dict #[] }]at e;rcases jfB _ _ _ e with z | ⟨z1,z2⟩
  . exact .inl (zF z)
  . rw[YO]at z2;exact .inr ⟨z1,z2⟩
 generalize hh1:pushCells (G.push { cls:=.type "dict",data:=.dict #[] }) scope.names=h₁ at hns₁ old hacc hcs ⊢;generalize hD:s.heap.objs.size=D at *
 generalize hC:G.objs.size=C at *
 have hfl:∀b∈fp,b<D:=fun b hb=>by obtain⟨o,e,_⟩:=T.obj 0 _ st0 b hb;rw[<-hD];exact Yp e
 have hfl':∀b∈fp,b<s.heap.objs.size:=fun b hb=>by rw[hD];exact hfl b hb
 have ok:(X.blk (Lc++F) scope C s H fp).Ok:=I.blkOk (Lc++F) (by rw[hD];exact hCle) hkind hfree hf hfl';have hσl:(zH Lc.length σ ix).length=(Lc++F).length:=by unfold zH capt;rw[YB,YB,yj,Ye,hix]
 have fpB:∀{H':Hp} {pl:List (Addr×Obj)},(∀b∈fp,H' b=none)->(∀p∈pl,p.1=D)->∀b∈fp,QZ (X.blk (Lc++F) scope C s H fp) pl H' b:=fun{H' pl} hn hp b hb=>
  ⟨hn b hb,Yo (Yc (hfl b hb) hCle),ok.exfs b hb,.inl hb,(ok.exf b hb).2,fun p hp'=>by
   have hp2:p∈pl:=by simpa[Cx.blk]using hp'
   rw[hp p hp2];exact YS (hfl b hb)⟩
 have HD:H D=none:=I.hok.fresh (by rw[hD];exact Ym _);have HC:H C=none:=I.hok.fresh (by rw[hD];exact hCle);have nfsD:∀b,D<=b->b∉frs X.stack:=fun b hb z=>by obtain⟨_,o,ho,_⟩:=I.stack.mem z;have:=Yp ho;rw[hD]at this;exact absurd (Yc this hb) (YH _)
 have nD:∀x c,(bcl C scope X.env.cells).lookup x=some c->c≠D:=fun x c e z=>by
  rcases hcs x c e with e | ⟨_,e⟩
  . obtain⟨v,q⟩:=I.cell x c e;have:=q.lt;rw[hD,z]at this;exact absurd this (YH _)
  . rw[z]at e;exact absurd (Nat.lt_of_le_of_lt hCle e) (YH _)
 have J4:∀s3:Shared,s3={ s with heap:=h₁ } → Inv (X.blk (Lc++F) scope C s H fp) [(D,{ cls:=.type "list",data:=.seq ([]:List Value).toArray })] (zH Lc.length σ ix) H s3:=by
  rintro s3 rfl;refine⟨ok,rfl,I.bare,Un.kept old,⟨_,hns₁,fun i x v e1 e2 e3=>?_⟩,fun x c e=>?_,HC,fun x c e=>?_,fun p hp=>?_,I.hok.kept old,hσl⟩
  . have hi:Lc.length<=i:=by
      rcases Y8 i Lc.length with q | q
      . unfold zH at e2;rw[YE (by simpa using q),Y0]at e2;rw[Yq q]at e2;cases e2
      . exact q
    have e2':(capt σ ix)[i-Lc.length]?=some (some v):=by
      unfold zH at e2
      rwa [YI (by simpa using hi),yj]at e2
    have e1':F[i-Lc.length]?=some x:=by
      have e1'':(Lc++F)[i]?=some x:=e1
      rwa [YI hi]at e1''
    obtain⟨k,hk,hσ⟩:=jeG e2';obtain⟨hN,hcl,hfr⟩:=hF _ x k e1' hk;obtain⟨m,hn,hl⟩:=I.loc;obtain⟨u,r,lk⟩:=hl k x v hN hσ (by rcases hcl with z | z;exact .inr (.inl z);exact .inr (.inr z));refine⟨u,r,.inr ⟨?_,?_⟩⟩
    . exact Qx (env:=X.env) hfr
    . rcases lk with⟨hk1,_⟩ | ⟨_,c,hc1,hc2⟩
      . have hk1':X.env.scope.names.lookup x=some .local:=hk1;rcases hcl with z | z <;> · rw[hk1']at z;cases z
      . refine⟨c,(ZY _ _ _ fun z=>?_).trans (jbL (JN hfr) hc1),?_⟩
        . have:=hcell _ z rfl;rw[hfr]at this;cases this
        obtain⟨o,ho,hd⟩:=hc2;exact⟨o,old c o ho,hd⟩
  . rcases hcs x c e with e | ⟨e,_⟩
    . obtain⟨v,o,ho,hd⟩:=I.cell x c e;exact⟨v,o,old c o ho,hd⟩
    . exact⟨none,e⟩
  . rcases hcs x c e with e | ⟨_,e⟩
    . exact I.freeC x c e
    . exact I.hok.fresh (by rw[hD];exact Yx hCle (yK e))
  . have:p=(D,{ cls:=.type "list",data:=.seq ([]:List Value).toArray }):=by simpa[Cx.blk]using hp
    subst this;exact⟨hacc,HD,hDC,nfsD D (Ym _),fun v z=>nomatch z⟩
 have loop:∀s3:Shared,s3={ s with heap:=h₁ }->
  codeAny (model X.prog X.w) X.A (.compLoop (.ListComp elt [⟨tg,iter,ifs,0⟩] scope pos) 0 (.ref it) (.ref D) (X.blk (Lc++F) scope C s H fp).env) (RR (.ref D) C) s3:=by
  intro s3 hs3;obtain⟨m0,w0⟩:=w0;have st3:tn 0 s3.heap:=by subst hs3;exact T.keep 0 _ _ st0 fun b _ o e=>old b o e
  refine JA (fun n s'=>∃i ys tm k H',Inv (X.blk (Lc++F) scope C s H fp) [(D,{ cls:=.type "list",data:=.seq tm.toArray k })] (zH Lc.length σ ix) H' s' ∧ Vals ys tm ∧ tn i s'.heap ∧ (∀b∈fp,H' b=none) ∧ W i n ys H')
   ?_ m0 ⟨0,[],[],0,H,J4 s3 hs3,.nil,st3,fun b hb=>(hf b hb).1,w0⟩
  rintro n s4 ⟨i,ys,tm,k,H4,I4,rv,st4,fr4,w4⟩;have pD:∀p∈[((D,{ cls:=.type "list",data:=.seq tm.toArray k }):Addr×Obj)],p.1=D:=fun p hp=>by simp at hp;rw[hp]
  rcases turn i n ys H4 w4 with⟨stop,hz,q⟩ | ⟨go,hz,N,hN,step⟩
  . refine qe (T.done (X.blk (Lc++F) scope C s H fp) rfl rfl rfl hc i _ s4 _ H4 _ I4 (fpB fr4 pD) st4 stop) fun r s5 zz=>?_;obtain⟨hr,I5⟩:=zz;subst hr;obtain⟨p1,p2,p3,p4,p5⟩:=I5.pin _ (Yy _ Yd);obtain⟨m,hn,_⟩:=I5.loc;exact hRR D C H4 s5 ys m hDC (Ym _) hCle p2 I5.free hn (I.unblk (C:=C) (scope:=scope) hf (by rw[hD];exact Ym _) I5 rv hz p1 p2) q
  . refine qe (T.item (X.blk (Lc++F) scope C s H fp) rfl rfl rfl hc i _ s4 _ H4 _ I4 (fpB fr4 pD) st4 go) fun r s5 zz=>?_;obtain⟨u,hr,h5⟩:=zz;subst hr;refine qe h5 fun _ s6 zz=>?_;obtain⟨x,H6,I6,r6,y6,st6,fr6⟩:=zz;have I6':=I6.pinned (fpB fr6 pD) (T.obj _ _ st6);refine qe (hg C s H fp _ s6 _ H6 x u _ I6' r6 (hloc _ _ _ _ (step x H6 y6))) fun _ s7 zz=>?_;obtain⟨σ7,H7,I7,q7,l7,k7⟩:=zz;have weak:∀(j:Nat) v,(zH Lc.length σ ix)[j]?=some (some v)->σ7[j]?=some (some v):=fun j v e=>by
      rw[k7 j ?_];exact e;rcases Y8 j Lc.length with z | z
      . unfold zH at e;rw[YE (by simpa using z),Y0,Yq z]at e;cases e
      . exact z
    have fin:∀{s':Shared} {H':Hp} {i':Nat} {ys':List V} {its':List Value} {k':Nat},Inv (X.blk (Lc++F) scope C s H fp) [] σ7 H' s' → s'.heap.get? D=some { cls:=.type "list",data:=.seq its'.toArray k' } → H' D=none → Inv (X.blk (Lc++F) scope C s H fp) [(D,{ cls:=.type "list",data:=.seq its'.toArray k' })] (zH Lc.length σ ix) H' s':=fun{s' H' i' ys' its' k'} I' e n'=>
      (I'.weak (by rw[l7]) weak).pins_of fun p hp=>by
       have:p=(D,{ cls:=.type "list",data:=.seq its'.toArray k' }):=by simpa using hp
       subst this;exact⟨e,n',hDC,nfsD D (Ym _),fun v z=>nomatch z⟩
    refine qe (ht C s H fp _ s7 σ7 H7 _ _ (fun _ _ z=>z) I7 q7) fun b s8 zz=>?_;obtain⟨H8,I8,q8⟩:=zz;have keepS:∀{s':Shared} {H':Hp},Inv (X.blk (Lc++F) scope C s H fp) ([((D,{ cls:=.type "list",data:=.seq tm.toArray k }):Addr×Obj)]++Zn fp s6.heap) σ7 H' s' → tn (i+1) s'.heap ∧ (∀b∈fp,H' b=none) ∧ s'.heap.get? D=some { cls:=.type "list",data:=.seq tm.toArray k } ∧ H' D=none:=fun{s' H'} I'=>by
      refine⟨T.keep _ _ _ st6 fun b hb o e=>(I'.pin (b,o) (Yy _ (Yy _ (Jg hb e)))).1,fun b hb=>?_,?_⟩
      . obtain⟨o,e,d⟩:=T.obj _ _ st6 b hb;exact(I'.pin (b,o) (Yy _ (Yy _ (Jg hb e)))).2.1
      . have:=I'.pin (D,{ cls:=.type "list",data:=.seq tm.toArray k }) (Yy _ (yC _ Yd));exact⟨this.1,this.2.1⟩
    cases b with
    | false=>rw[YG Ya]at q8 ⊢;obtain⟨m',hm,w8⟩:=hN _ _ q8;obtain⟨a1,a2,a3,a4⟩:=keepS I8;exact⟨m',hm,i+1,ys,tm,k,H8,fin (i':=i) (ys':=ys) (I8.pins_of fun p hp=>nomatch hp) a3 a4,rv,a1,a2,w8⟩
    | true=>
      rw[Yq rfl]at q8 ⊢;refine qe (he C s H fp _ s8 σ7 H8 _ I8 q8) fun xv s9 zz=>?_;obtain⟨v,H9,I9,r9,q9⟩:=zz;obtain⟨m',hm,w9⟩:=hN _ _ q9;obtain⟨a1,a2,a3,a4⟩:=keepS I9;have tI:=rv.length;refine wpAny_list_append_plain (hsz:=by simp;omega) ⟨k,a3⟩ fun h10 hl10 hs10=>?_;obtain⟨k10,e10⟩:=hl10;have I9':Inv (X.blk (Lc++F) scope C s H fp) [] σ7 H9 s9:=I9.pins_of fun p hp=>nomatch hp;have I10:Inv (X.blk (Lc++F) scope C s H fp) [] σ7 H9 { s9 with heap:=h10,toks:=s9.toks }:=I9'.turned (it:=D) (fun b o hb e=>(hs10.2 b hb).trans e) a4 hDC (.inr (by show s.heap.objs.size<=D;rw[hD];exact Ym _)) nD (fun p hp=>nomatch hp);have e10':h10.get? D=some { cls:=.type "list",data:=.seq (tm++[xv]).toArray k10 }:=by rw[e10,List.push_toArray]
      refine⟨m',hm,i+1,ys++[v],tm++[xv],k10,H9,fin (i':=i) (ys':=ys) I10 e10' a4,Paired.snoc rv r9,?_,a2,w9⟩;exact T.keep _ _ _ a1 fun b hb o e=>(hs10.2 b (Yo (hfl b hb))).trans e
 exact codeAny_compStart_list (loop _ rfl) (T.self _ 0 _ _ _ (T.keep 0 _ _ st0 fun b _ o e=>old b o e) (loop _ rfl))
theorem jjB(hc:X.calm=true)(hkind:scope.kind=.function)(hnames:∀x∈scope.names,x.2=.local->scope.names.lookup x.1=some .local)(hcell:∀y∈scope.names,y.2=.cell->scope.names.lookup y.1=some .cell)
 (hfree:∀n,(n,NameKind.free)∈scope.names->X.env.scope.names.lookup n=some .cell\/X.env.scope.names.lookup n=some .free)
 (hix:ix.length=F.length) (hF:∀(j:Nat) (x:Str) (k:Nat),F[j]?=some x->ix[j]?=some k->X.N[k]?=some x/\(X.env.scope.names.lookup x=some .cell\/X.env.scope.names.lookup x=some .free)/\scope.names.lookup x=some .free)
 (hi:PI X tg iter wi) (hg:∀C s H fp,PG (X.blk (Lc++F) scope C s H fp) tg g) (hloc:jcr Lc.length g) (ht:∀C s H fp,PTs (X.blk (Lc++F) scope C s H fp) ifs tt) (he:∀C s H fp,PE (X.blk (Lc++F) scope C s H fp) elt te)
 (hs:∀x,foldedSetIterable iter X.env x=pure x:=by intro _;rfl):PE X (.ListComp elt [⟨tg,iter,ifs,0⟩] scope pos) (tLC wi g tt te Lc.length ix):=by
 intro tf s σ H Q I h;rw[eval_ListComp];refine wpAny_comprehension_free (use:=none) rfl hs (J3 fun n hn=>I.ok.has n (hfree n hn)) hkind hnames (qe (hi tf s σ H _ I h) fun xv s₁ h₁=>qe h₁ fun itv s₂ h₂=>?_);obtain⟨it,fp,tn,J,H2,rfl,I2,T,st2,f2,W,w0,turn⟩:=h₂;refine jbT (RR:=fun tD C=>compPost (model X.prog X.w) X.A X.xe none (EP X tf σ Q) tD C) (Qv:=fun ys H'=>∀p,H' p=none->Q (.ref p) (upd H' p (.lst ys))) hc hkind hcell hfree hix hF hg hloc ht he I2 T st2 f2 W w0 turn ?_;intro D C H' s' ys m hDC hD hC nD nC hn I' q;refine⟨m,hn,fun h' hsb=>⟨.ref D,upd H' D (.lst ys),?_,rfl,q D nD⟩⟩;refine I'.turned (it:=C) (t':=s'.toks) (fun b o hb e=>(hsb.2 b hb).trans e) (by rw[ji (Ne.symm hDC)];exact nC) (fun z=>?_) (.inr (Yx I2.sz hC)) (fun x c e z=>?_) fun p hp z=>?_
 . exact absurd (Yc (by rw[z];exact I2.lt) hC) (YH _)
 . obtain⟨v,w⟩:=I2.cell x c e;exact absurd (Yc w.lt (by rw[z];exact hC)) (YH _)
 . have:=Yp (I2.pin p hp).1;rw[z]at this;exact absurd (Yc this hC) (YH _)
theorem jer{i:Nat}{y:Str}{py spos:Pos}(hN:X.N.Nodup)(hy:X.N[i]?=some y)(hyl:X.env.scope.names.lookup y=some .local)
 (hc:X.calm=true) (hkind:scope.kind=.function) (hnames:∀x∈scope.names,x.2=.local->scope.names.lookup x.1=some .local) (hcell:∀y∈scope.names,y.2=.cell->scope.names.lookup y.1=some .cell)
 (hfree:∀n,(n,NameKind.free)∈scope.names->X.env.scope.names.lookup n=some .cell\/X.env.scope.names.lookup n=some .free)
 (hix:ix.length=F.length) (hF:∀(j:Nat) (x:Str) (k:Nat),F[j]?=some x->ix[j]?=some k->X.N[k]?=some x/\(X.env.scope.names.lookup x=some .cell\/X.env.scope.names.lookup x=some .free)/\scope.names.lookup x=some .free)
 (hi:PI X tg iter wi) (hg:∀C s H fp,PG (X.blk (Lc++F) scope C s H fp) tg g) (hloc:jcr Lc.length g) (ht:∀C s H fp,PTs (X.blk (Lc++F) scope C s H fp) ifs tt) (he:∀C s H fp,PE (X.blk (Lc++F) scope C s H fp) elt te)
 (hsw:swapsWith (.ListComp elt [⟨tg,iter,ifs,0⟩] scope pos) (some (.Name y py)) spos.line X.env=pure true)
 (hs:∀x,foldedSetIterable iter X.env x=pure x:=by intro _;rfl):PS X (.Assign [.Name y py] (.ListComp elt [⟨tg,iter,ifs,0⟩] scope pos) spos) (jaT (tLC wi g tt te Lc.length ix) (J2 i)):=by
 intro tf s σ H D₀ I h;rw[exec_Assign_Name_used _ _ _ _ hsw];refine QB (wpAny_standAt (QB ?_));show wpAny _ X.A (do let _ <- comprehension (.ListComp elt [⟨tg,iter,ifs,0⟩] scope pos) scope X.env _ (newList []) false (eval iter X.env) (some (assign (.Name y py) X.env))) _ _ s;refine QB (ym (wpAny_comprehension_free (use:=some (assign (.Name y py) X.env)) (Q:=fun _ s'=>SP X tf D₀ .next s') rfl hs (J3 fun n hn=>I.ok.has n (hfree n hn)) hkind hnames
  (qe (hi tf s σ H _ I h) fun xv s₁ h₁=>qe h₁ fun itv s₂ h₂=>?_)) (fun _ s' hq=>Yn (Yn hq)) fun _ _ e=>e)
 obtain⟨it,fp,tn,J,H2,rfl,I2,T,st2,f2,W,w0,turn⟩:=h₂;refine jbT (RR:=fun tD C=>compPost (model X.prog X.w) X.A X.xe (some (assign (.Name y py) X.env)) (fun _ s'=>SP X tf D₀ .next s') tD C) (Qv:=fun ys H'=>∀p,H' p=none->D₀.nx (σ.set i (some (.ref p))) (upd H' p (.lst ys)))
  hc hkind hcell hfree hix hF hg hloc ht he I2 T st2 f2 W w0 turn ?_
 intro D C H' s' ys m hDC hD hC nD nC hn I' q;show wpAny _ X.A (assign (.Name y py) X.env (.ref D)) _ _ s';refine wpAny_assign_Name (jaH I' hN hy (.inl hyl) (v:=.ref D) rfl (fun s2 I2' zz=>?_) (.inr hyl));obtain⟨a,hsb,ha⟩:=zz;have hCL:C≠X.env.locals:=fun z=>absurd (Yc (by rw[z];exact I2.lt) hC) (YH _);have hCc:∀x c,X.env.cells.lookup x=some c->c≠C:=fun x c e z=>by obtain⟨v,w⟩:=I2.cell x c e;exact absurd (Yc w.lt (by rw[z];exact hC)) (YH _)
 have hCa:C≠a:=by
  rcases ha with z | z
  . rw[z];exact hCL
  . exact fun w=>hCc y a z w.symm
 refine⟨m,hn.sameBut hsb hCa,fun h' hsb'=>⟨σ.set i (some (.ref D)),upd H' D (.lst ys),?_,q D nD⟩⟩;refine I2'.turned (it:=C) (t':=s2.toks) (fun b o hb e=>(hsb'.2 b hb).trans e) (by rw[ji (Ne.symm hDC)];exact nC) hCL (.inr (Yx I2.sz hC)) hCc fun p hp z=>?_;have:=Yp (I2.pin p hp).1;rw[z]at this;exact absurd (Yc this hC) (YH _)
end
section
variable{X:Cx}
def jdh(i j:Int):Prop:=0<j/\j<2 ^ 200
theorem jeX:Qm X (binaryOp .FloorDiv) (rI jdh fun i j=>.int (i/j)):=opI fun i j _ _ _ _ _ hc q=>by
 have h1:(0:Int)<j:=hc.1;have h2:j<2 ^ 200:=hc.2;refine floordiv_int (by omega) (by rw[Int.fdiv_eq_ediv_of_nonneg i (by omega)];exact q) (.inl (PyProof.noPylong_of_log2 ?_));have h3:j.natAbs<2 ^ 200:=by omega
 have h4:j.natAbs≠0:=by omega
 have h5:=(Nat.log2_lt h4).mpr h3;omega
def IsT(K:PySem.W.Frag)(H:Hp)(x:V)(T:String)(b:Bool):Prop:=∃t,TyOf K H x t/\PySem.W.kitOne K t (.type T)=some b
theorem jbR:CallR X (.builtin "isinstance") (fun xs H Q=>∃x T b,xs=[x,.ty T] ∧ IsT X.K H x T b ∧ Q (.bl b) H):=by intro tf s σ H xs us Q I r h;obtain⟨x,T,b,rfl,⟨t,ty,e⟩,q⟩:=h;obtain⟨u,v,rfl,rx,ry⟩:=Vals.two r;have:v=Value.type T:=ry;subst this;exact jd3 I rx ty e fun tk=>⟨.bl b,H,I.tok _,rfl,q⟩
theorem jfq(hc:X.calm=true):CallR X (.builtin "all") (fun xs H Q=>∃(p:Addr) (bs:List Bool),xs=[.ref p] ∧ qW X.K H p (bs.map V.bl) ∧ Q (.bl (bs.all id)) H):=by
 intro tf s σ H xs us Q I r h;obtain⟨p,bs,rfl,hq,q⟩:=h;obtain⟨u,rfl,rx⟩:=Vals.one r;cases rx;obtain⟨tm,rv,pl,hz⟩:=I.list hq;have hl:=pl.isList;have hlt:p<s.heap.objs.size:=by obtain⟨_,e,_⟩:=hl;exact Yp e
 have tI:tm.length=bs.length:=by have:=rv.length;rw[Ye]at this;exact this.symm
 refine call_all_walk (wpAny_pyIter_list hl ?_);refine⟨s.heap.objs.size,[s.heap.objs.size,p],[s.heap.objs.size],tm.toArray.size,_,_,fun i=>(bs[i]?).getD true,rfl,Walks.list (A:=X.A.in1) (I.ok.hd hc) _ p (Yo hlt) tm.toArray,
  ⟨⟨_,Yl _ rfl,rfl,rfl⟩,hl.push _⟩,fun i v s' Q' E' hP hQ=>?_,fun h' tk hk=>?_⟩
 . have hP':tm[i]?=some v:=by simpa using hP
   cases e:bs[i]? with
   | none=>have:bs.length<=i:=YA.mp e;have:tm[i]?=none:=YA.mpr (by omega);rw[this]at hP';cases hP'
   | some b=>obtain⟨u,e1,e2⟩:=rv.get (i:=i) (x:=V.bl b) (by rw[Yt,e];rfl);rw[hP']at e1;cases e1;have:v=Value.bool b:=e2;subst this;simp only[e,Option.getD_some]at hQ;exact YR hQ
 . have e:((List.range tm.toArray.size).all fun i=>(bs[i]?).getD true)=bs.all id:=by rw[Yk,tI];exact LSm.range_all bs
   rw[e];exact⟨.bl (bs.all id),H,I.kept (LSm.kept_iter hk),rfl,q⟩
end
theorem jg3{X:Cx}{x:Str}{i:Int}{t:Tok}{pos:Pos}(hg:Gl X x)(hm:X.mg x=some (.int i t))(hd:(x == ("__debug__":Str))=false:=by decide):PE X (.Name x pos) (tC (.int i)):=jbi hg hm ⟨t,rfl⟩ hd
theorem jj3{X:Cx}{x:Str}{T:String}{pos:Pos}(hg:Gl X x)(hm:X.mg x=none)(hv:bootBuiltins x=some (.type T))(hn:x ≠ "__name__":=by decide)(hd:(x == ("__debug__":Str))=false:=by decide):PE X (.Name x pos) (tC (.ty T)):=jg1 hg hm hv rfl hn hd
theorem Same.seqT{K:PySem.W.Frag}{H H':Hp}{a:Addr}{xs:List V}(e:Same H H')(h:SqT K H a xs):SqT K H' a xs:=by
 rcases h with(h | ⟨o,h⟩) | h
 . exact .inl (.inl (e _ _ h))
 . exact .inl (.inr ⟨o,e _ _ h⟩)
 . exact .inr h
theorem Same.upd{H:Hp}{p:Addr}{o:HO}(h:H p=none):Same H (upd H p o):=fun b u e=>by rw[ji (jk e h)];exact e
theorem HOk.grow{P:Program}{w:World}{H H':Hp}{h h':Heap}(x:HOk P w H h)(k:∀b u,h.get? b=some u->h'.get? b=some u)(same:∀b,@LT.lt Nat instLTNat b h.objs.size->H' b=H b)
 (new:∀b o,h.objs.size<=b->H' b=some o->ObjOk P w H' h' b o):HOk P w H' h':=fun b o e=>by
 rcases Y8 b h.objs.size with z | z
 . rw[same b z]at e;exact(x b o e).stay (fun c v _ q=>k c v q) (fun c q=>by rw[same c (x.lt q)];exact q) fun c xs q=>by rw[same c (x.lt q)];exact q
 . exact new b o z e
section
variable{X:Cx}{tf:List (Addr×Obj)}{σ:St}{H H':Hp}{s:Shared}{h':Heap}
theorem Inv.grow{t':Nat}{d':Drawn}(I:Inv X tf σ H s)(k:∀b u,s.heap.get? b=some u->h'.get? b=some u)(same:∀b,@LT.lt Nat instLTNat b s.heap.objs.size->H' b=H b)
 (new:∀b o,s.heap.objs.size<=b->H' b=some o->ObjOk X.prog X.w H' h' b o):Inv X tf σ H' { s with heap:=h',drawn:=d',toks:=t' }:=
 I.step (g':=s.gens) (d':=d') (ch:=[]) (fun _ z=>nomatch z) (fun b o _ _ _ e _=>k b o e) (fun b o _ _ _ e _=>⟨o.slots,k b o e⟩) (fun b o _ e n=>by rw[same b (Yp e)];exact n) (fun b o _ e=>⟨o,k b o e⟩)
  (fun b xs e=>by rw[same b (I.hok.lt e)];exact e) (fun b o u e=>by rw[same b (I.hok.lt e)];exact e) (fun b ps e=>⟨#[],by rw[same b (I.hok.lt e),e];simp⟩) (fun m hm=>hm.keeps k) (I.hok.grow k same new) I.bare
theorem Inv.turnNew{ch:List Addr}{t:Addr}{o:HO}{tk:Nat}(I:Inv X tf σ H s)(hf:∀b∈ch,QZ X tf H b)(k:∀b u,b∉ch->s.heap.get? b=some u->h'.get? b=some u)(ht:s.heap.objs.size<=t)
 (new:ObjOk X.prog X.w (upd H t o) h' t o):Inv X tf σ (upd H t o) { s with heap:=h',toks:=tk }:=by
 have hn:H t=none:=I.hok.fresh ht;have lt:∀b u,s.heap.get? b=some u->b≠t:=fun b u e=>Yo (Yc (Yp e) ht);have nch:∀b u,H b=some u->b∉ch:=fun b u e z=>by rw[(hf b z).1]at e;cases e
 refine I.step (g':=s.gens) (d':=s.drawn) (ch:=ch) (fun b hb=>⟨(hf b hb).2.2.2.1,(hf b hb).2.1,(hf b hb).2.2.2.2.1,(hf b hb).2.2.2.2.2⟩) (fun b u _ _ hc e _=>k b u hc e) (fun b u _ _ hc e _=>⟨u.slots,k b u hc e⟩)
  (fun b u _ e n=>by rw[ji (lt b u e)];exact n) (fun b u hc e=>⟨u,k b u hc e⟩) (fun b xs e=>by rw[ji (jk e hn)];exact e) (fun b u v e=>by rw[ji (jk e hn)];exact e) (fun b ps e=>⟨#[],by rw[ji (jk e hn),e];simp⟩)
  (fun m hm=>?_) (fun b u e=>?_) I.bare
 . obtain⟨ol,es,ep,ho,r⟩:=hm;exact⟨ol,es,ep,k _ ol (fun z=>(hf _ z).2.1 rfl) ho,r⟩
 . by_cases hb:b=t
   . subst hb;rw[jm]at e;cases e;exact new
   . rw[ji hb]at e;refine(I.hok b u e).stay (fun c v hc q=>k c v ?_ q) (fun c q=>by rw[ji (jk q hn)];exact q) fun c xs q=>by rw[ji (jk q hn)];exact q
     rcases hc with z | z
     . rw[z];exact nch b u e
     . exact nch c _ z
end
def Itz(K:PySem.W.Frag)(p q:Addr):It:=
 ⟨fun i H=>∃xs ys x y,qW K H p xs/\qW K H q ys/\xs[i]?=some x/\ys[i]?=some y,
  fun i H v H'=>∃t x y,H t=none/\v=.ref t/\H'=upd H t (.tup [x,y])/\(∀xs,qW K H p xs->xs[i]?=some x)/\∀ys,qW K H q ys->ys[i]?=some y,
  fun i H=>∃xs ys,qW K H p xs/\qW K H q ys/\(xs.length<=i\/ys.length<=i)⟩
theorem Qc{h:Heap}{T:Addr}{a b:Value}(e:IsPair h T a b):IsTup h T [a,b].toArray:=⟨_,e,rfl,0,rfl⟩
theorem jfD{P:Program}{w:World}{K:PySem.W.Frag}{elts:List Expr}{x1:Nat}{tpos:Pos}{z TI TO i1 i2 p q:Addr}(D:ZipApart z TI TO i1 i2 p q):
 Turn P w K (.Tuple elts x1 tpos) (Itz K p q) [z,TI,TO,i1,i2] z (fun i h=>IsZip h z TI TO .none/\IsPair h TI (.ref i1) (.ref i2)/\(∃a b,IsPair h TO a b)/\h.IsListIter i1 p i/\h.IsListIter i2 q i) where
 mem:=by simp
 obj:=fun i h st b hb=>by
  obtain⟨hz,hTI,⟨a,c,hTO⟩,⟨o1,e1,_,d1⟩,⟨o2,e2,_,d2⟩⟩:=st;simp only[Yj,Yu,Y5]at hb;rcases hb with rfl | rfl | rfl | rfl | rfl
  . exact⟨_,hz,fun v y=>nomatch y⟩
  . exact⟨_,hTI,fun v y=>nomatch y⟩
  . exact⟨_,hTO,fun v y=>nomatch y⟩
  . exact⟨o1,e1,fun v y=>by rw[d1]at y;cases y⟩
  . exact⟨o2,e2,fun v y=>by rw[d2]at y;cases y⟩
 keep:=fun i h h' st k=>by obtain⟨hz,hTI,⟨a,c,hTO⟩,h1,h2⟩:=st;exact⟨k _ (by simp) _ hz,k _ (by simp) _ hTI,⟨a,c,k _ (by simp) _ hTO⟩,h1.at fun o e=>k _ (by simp) o e,h2.at fun o e=>k _ (by simp) o e⟩
 item:=by
  intro X hP hw hK hc i tf s σ H E I hf st hg;subst hP hw hK;obtain⟨xs,ys,x,y,hp,hq,hx,hy⟩:=hg;obtain⟨tm,rv,pl,_⟩:=I.list hp;obtain⟨its2,rv2,pl2,_⟩:=I.list hq;obtain⟨u,hu,ru⟩:=rv.get hx;obtain⟨u2,hu2,ru2⟩:=rv2.get hy;obtain⟨hz,hTI,⟨a,c,hTO⟩,h1,h2⟩:=st;refine wpAny_pyNext_zip_item D hz hTI hTO h1 h2 pl.isList pl2.isList (x:=u) (y:=u2) (by simpa using hu) (by simpa using hu2) fun h' r1 r2 r3 r4 r5 r6 r7=>?_;have kk:∀b o,b∉[z,TI,TO,i1,i2]->s.heap.get? b=some o->h'.get? b=some o:=fun b o hb e=>by simp only[Yj,Yu,Y5,not_or]at hb;exact r7 b o hb.1 hb.2.2.1 hb.2.2.2.1 hb.2.2.2.2 e
  have I1:Inv X tf σ (upd H s.heap.objs.size (.tup [x,y])) { s with heap:=h',toks:=s.toks }:=I.turnNew hf kk (Ym _) ⟨by show 2<=sizeLine;decide,[u,u2],.cons ru (.cons ru2 .nil),Qc r5⟩;have hTI':IsPair h' TI (.ref i1) (.ref i2):=r7 _ _ D.TIz D.TITO D.TIi1 D.TIi2 hTI;have nt:∀b∈[z,TI,TO,i1,i2],b≠s.heap.objs.size:=fun b hb=>by
   simp only[Yj,Yu,Y5]at hb;rcases hb with rfl | rfl | rfl | rfl | rfl
   . exact Yo (QJ hz)
   . exact Yo (QJ hTI)
   . exact Yo (QJ hTO)
   . obtain⟨_,e,_⟩:=h1;exact Yo (QJ e)
   . obtain⟨_,e,_⟩:=h2;exact Yo (QJ e)
  refine⟨_,rfl,wpAny_letOwnedTupleGo_zip (s:={ s with heap:=h' }) r1 fun h'' z' sb=>?_⟩;obtain⟨f0,f1,f2,f3,f4,f5⟩:=hf z (by simp);have hn:H s.heap.objs.size=none:=I.hok.fresh (Ym _);have I2:Inv X tf σ (upd H s.heap.objs.size (.tup [x,y])) { s with heap:=h'',toks:=s.toks }:=Inv.turned (s:={ s with heap:=h',toks:=s.toks }) (h':=h'') I1 (t':=s.toks) (it:=z) (fun b o hb e=>(sb.2 b hb).trans e) (by rw[ji (nt z (by simp))];exact f0) f1 f3 f4 f5;refine⟨.ref s.heap.objs.size,_,I2,rfl,⟨_,x,y,hn,rfl,rfl,fun xs' h'=>by rw[I.list_inj h' hp];exact hx,fun ys' h'=>by rw[I.list_inj h' hq];exact hy⟩,⟨z',sb.extBut _ _ D.TIz hTI',⟨_,_,sb.extBut _ _ D.TOz r2⟩,r3.extBut sb.extBut D.i1z,r4.extBut sb.extBut D.i2z⟩,fun b hb=>?_⟩;rw[ji (nt b hb)];exact(hf b hb).1
 done:=by
  intro X hP hw hK hc i tf s σ H E I hf st hg;subst hP hw hK;obtain⟨xs,ys,hp,hq,he⟩:=hg;obtain⟨tm,rv,pl,_⟩:=I.list hp;obtain⟨its2,rv2,pl2,_⟩:=I.list hq;obtain⟨hz,hTI,⟨a,c,hTO⟩,h1,h2⟩:=st;have l1:=rv.length;have l2:=rv2.length;refine wpAny_pyNext_zip_end (I.ok.hd hc) D hz hTI hTO h1 h2 pl.isList pl2.isList (by rcases he with e | e;exact .inl (by simp;omega);exact .inr (by simp;omega)) fun h' kk=>⟨rfl,?_⟩;have J:∀b o,b∉[z,TI,TO,i1,i2]->s.heap.get? b=some o->h'.get? b=some o:=fun b o hb e=>by simp only[Yj,Yu,Y5,not_or]at hb;exact kk b o hb.1 hb.2.2.1 hb.2.2.2.1 hb.2.2.2.2 e
  have nch:∀b u,H b=some u->b∉[z,TI,TO,i1,i2]:=fun b u e y=>by rw[(hf b y).1]at e;cases e
  refine I.step (g':=s.gens) (d':=s.drawn) (t':=s.toks) (ch:=[z,TI,TO,i1,i2]) (fun b hb=>⟨(hf b hb).2.2.2.1,(hf b hb).2.1,(hf b hb).2.2.2.2.1,(hf b hb).2.2.2.2.2⟩) (fun b u _ _ hc e _=>J b u hc e) (fun b u _ _ hc e _=>⟨u.slots,J b u hc e⟩)
   (fun _ _ _ _ n=>n) (fun b u hc e=>⟨u,J b u hc e⟩) (fun _ _ e=>e) (fun _ _ _ e=>e) (fun b ps e=>⟨#[],by rw[e];simp⟩) (fun m hm=>?_) (fun b u e=>?_) I.bare
  . obtain⟨ol,es,ep,ho,r⟩:=hm;exact⟨ol,es,ep,J _ ol (fun y=>(hf _ y).2.1 rfl) ho,r⟩
  . refine(I.hok b u e).stay (fun c v hc q=>J c v ?_ q) (fun _ q=>q) fun _ _ q=>q;rcases hc with y | y
    . rw[y];exact nch b u e
    . exact nch c _ y
 self:=fun _ _ _ _ _ st h=>yF st.1 h
section
variable{X:Cx}
def jhP(K:PySem.W.Frag)(ta:TA):TI:=fun σ H R=>ta σ H fun vs H1=>∃p q xs ys,vs=[.ref p,.ref q]/\qW K H1 p xs/\qW K H1 q ys/\R (Itz K p q) H1
theorem jhZ{a b:Expr}{ta:TA}{p pos:Pos}{elts:List Expr}{x1:Nat}{tpos:Pos}(hg:Gl X "zip")(hm:X.mg "zip"=none)(ha:PA X [a,b] ta)(hs:starEach [a,b] X.env=[(false,eval a X.env),(false,eval b X.env)]:=by rfl)(hs2:starEach [b] X.env=[(false,eval b X.env)]:=by rfl):
 PI X (.Tuple elts x1 tpos) (.Call (.Name "zip" p) [a,b] [] pos) (jhP X.K ta):=by
 intro tf s σ H R I h;refine Call_ (JE I hg hm boot_zip (YN (qe (ha pos tf s σ H _ I h) fun us s1 zz=>?_) (by rw[hs,hs2]) (by rw[hs2];rfl)));obtain⟨vs,H1,I1,r1,q1⟩:=zz;obtain⟨pa,pb,xs,ys,e,hp,hq,q⟩:=q1;subst e;obtain⟨u,v,rfl,ru,rv⟩:=Vals.two r1;cases ru;cases rv;obtain⟨tm,rx,pl,_⟩:=I1.list hp;obtain⟨its2,ry,pl2,_⟩:=I1.list hq;have lta:@LT.lt Nat instLTNat pa s1.heap.objs.size:=by obtain⟨_,e,_⟩:=pl.isList;exact QJ e
 have ltb:@LT.lt Nat instLTNat pb s1.heap.objs.size:=by obtain⟨_,e,_⟩:=pl2.isList;exact QJ e
 refine call_zip_2 pl.isList pl2.isList fun h' r1 r2 r3 r4 r5 r6 r7=>yF (s:={ s1 with heap:=h' }) r1 ?_;have I2:Inv X tf σ H1 { s1 with heap:=h',toks:=s1.toks }:=I1.kept (t':=s1.toks) r7;refine⟨_,[s1.heap.objs.size+4,s1.heap.objs.size+2,s1.heap.objs.size+3,s1.heap.objs.size,s1.heap.objs.size+1],_,_,H1,rfl,I2,jfD (zipApart_new lta ltb),⟨r1,r2,⟨_,_,r3⟩,r4,r5⟩,fun b hb=>?_,q⟩;have ge:s1.heap.objs.size<=b:=by
  simp only[Yj,Yu,Y5]at hb;rcases hb with rfl | rfl | rfl | rfl | rfl
  . exact YK _ 4
  . exact YK _ 2
  . exact YK _ 3
  . exact Ym _
  . exact YK _ 1
 exact I1.fpOk ge (I1.hok.fresh ge)
end
section
variable{X:Cx}
def ZD(K:PySem.W.Frag)(ta:TA):TE:=fun σ H Q=>ta σ H fun vs H1=>∃p q xs ys,vs=[.ref p,.ref q]/\qW K H1 p xs/\qW K H1 q ys/\xs.length<sizeLine /\
 ∀(l:Addr) (ts:List Addr) (H':Hp),H1 l=none->(∀t∈ts,H1 t=none)->l∉ts->ts.Nodup->ts.length=min xs.length ys.length->(∀b,b≠l->b∉ts->H' b=H1 b)->H' l=some (.lst (ts.map V.ref))->
   (∀(i:Nat) t x y,ts[i]?=some t->xs[i]?=some x->ys[i]?=some y->H' t=some (.tup [x,y]))->Q (.ref l) H'
theorem jau:∀ts:List Addr,Vals (ts.map V.ref) (ts.map Value.ref)
 | []=>.nil
 | _::ts=>.cons rfl (jau ts)
theorem jaP{ts:List Addr}{b:Addr}(h:b∈ts):ts.idxOf b<ts.length/\ts[ts.idxOf b]?=some b:=by have h1:=List.idxOf_lt_length_of_mem h;exact⟨h1,by rw[QC h1,List.getElem_idxOf h1]⟩
theorem jcQ{a b:Expr}{ta:TA}{p1 p2 pos1 pos2:Pos}(hc:X.calm=true)(hg1:Gl X "list")(hm1:X.mg "list"=none)(hg2:Gl X "zip")(hm2:X.mg "zip"=none)(ha:PA X [a,b] ta)
 (hs:starEach [a,b] X.env=[(false,eval a X.env),(false,eval b X.env)]:=by rfl) (hs2:starEach [b] X.env=[(false,eval b X.env)]:=by rfl)
 (hs3:starEach [.Call (.Name "zip" p2) [a,b] [] pos2] X.env=[(false,eval (.Call (.Name "zip" p2) [a,b] [] pos2) X.env)]:=by rfl) :
 PE X (.Call (.Name "list" p1) [.Call (.Name "zip" p2) [a,b] [] pos2] [] pos1) (ZD X.K ta):=by
 intro tf s σ H Q I h;refine Call_ (JE I hg1 hm1 boot_list (YN ?_ hs3 rfl));rw[hs3];show wpAny _ _ (spliced ((false,eval (.Call (.Name "zip" p2) [a,b] [] pos2) X.env)::backTo pos1 [])) _ _ s;refine Calls.spliced_cons (Call_ (JE I hg2 hm2 boot_zip (YN (qe (ha pos2 tf s σ H _ I h) fun us s1 zz=>?_) (by rw[hs,hs2]) (by rw[hs2];rfl))));obtain⟨vs,H1,I1,r1,q1⟩:=zz;obtain⟨pa,pb,xs,ys,e,hp,hq,hxl,q⟩:=q1;subst e;obtain⟨u,v,rfl,ru,rv⟩:=Vals.two r1;cases ru;cases rv;obtain⟨tm,rx,pl,hz1⟩:=I1.list hp;obtain⟨its2,ry,pl2,hz2⟩:=I1.list hq;have lx:=rx.length;have ly:=ry.length;have lta:@LT.lt Nat instLTNat pa s1.heap.objs.size:=by obtain⟨_,e,_⟩:=pl.isList;exact QJ e
 have ltb:@LT.lt Nat instLTNat pb s1.heap.objs.size:=by obtain⟨_,e,_⟩:=pl2.isList;exact QJ e
 refine call_zip_2 pl.isList pl2.isList fun h' r1 r2 r3 r4 r5 r6 r7=>?_;refine Calls.spliced_nil ?_;refine jez (h₀:=s1.heap) (xs:=tm.toArray) (ys:=its2.toArray) (I.ok.hd hc) (zipApart_new lta ltb) r1 r2 ⟨_,_,r3⟩ r4 r5 pl.isList pl2.isList r7 ⟨YK _ 4,YK _ 3,Ym _,YK _ 1⟩ (by show s1.heap.objs.size<=h'.objs.size;rw[r6];exact YK _ 5) (by simp;omega) fun S g tD c hS eS M=>?_
 -- the tuples' addresses
 have hmin:min tm.toArray.size its2.toArray.size=min xs.length ys.length:=by simp;omega
 have hts:∃ts:List Addr,tD.toList=ts.map Value.ref:=by
  have:∀v∈tD.toList,∃t,v=Value.ref t:=fun v hv=>by
   obtain⟨j,hj,e⟩:=List.getElem_of_mem hv;have hj':j<tD.size:=by simpa using hj
   obtain⟨T,x,y,e1,_⟩:=M.pair j (by rw[<-M.size];exact hj');rw[YF hj']at e1;exact⟨T,by rw[<-e];simpa using Option.some.inj e1⟩
  generalize tD.toList=l at this;clear eS M;induction l with
  | nil=>exact⟨[],rfl⟩
  | cons v l ih=>obtain⟨t,rfl⟩:=this v Yd;obtain⟨ts,e⟩:=ih fun x hx=>this x (Yg _ hx);exact⟨t::ts,by rw[e];rfl⟩
 obtain⟨ts,hts⟩:=hts;have tl:ts.length=min xs.length ys.length:=by have:=congrArg List.length hts;rw[Ye,yg,M.size,hmin]at this;exact this.symm
 have at_:∀(j:Nat) (t:Addr),ts[j]?=some t->tD[j]?=some (.ref t):=fun j t e=>by rw[<-yk,hts,Yt,e];rfl
 have info:∀(j:Nat) (t:Addr),ts[j]?=some t->∃x y,tm[j]?=some x/\its2[j]?=some y/\IsPair g t x y/\s1.heap.objs.size<=t/\t≠S/\∀k,k<j->tD[k]?≠some (.ref t):=fun j t e=>by
  have hj:j<ts.length:=(Yh.mp e).1;obtain⟨T,x,y,e1,e2,e3,e4,e5,e6,_,e7⟩:=M.pair j (by rw[hmin,<- tl];exact hj);rw[at_ j t e]at e1;have:t=T:=by injection (Option.some.inj e1)
  subst this;exact⟨x,y,by simpa using e2,by simpa using e3,e4,e5,e6,e7⟩
 have nd:ts.Nodup:=by rw[List.nodup_iff_pairwise_ne,List.pairwise_iff_getElem];intro i j hi hj hij e;obtain⟨_,_,_,_,_,_,_,q7⟩:=info j ts[j] (QC hj);exact q7 i hij (by rw[<-e];exact at_ i _ (QC hi))
 have fresh:∀t∈ts,s1.heap.objs.size<=t/\t≠S:=fun t ht=>by obtain⟨h1,h2⟩:=jaP ht;obtain⟨_,_,_,_,_,q5,q6,_⟩:=info _ t h2;exact⟨q5,q6⟩
 let H':Hp:=fun b=>if b=S then some (.lst (ts.map V.ref))else if b∈ts then some (.tup [(xs[ts.idxOf b]?).getD .non,(ys[ts.idxOf b]?).getD .non])else H1 b
 have HS:H' S=some (.lst (ts.map V.ref)):=Yq rfl;have HT:∀(i:Nat) t x y,ts[i]?=some t->xs[i]?=some x->ys[i]?=some y->H' t=some (.tup [x,y]):=fun i t x y e e1 e2=>by
  have hi:i<ts.length:=(Yh.mp e).1;have ht:t∈ts:=Y1 e;have hix:ts.idxOf t=i:=by obtain⟨h1,h2⟩:=jaP ht;exact(List.getElem_inj (h₀:=h1) (h₁:=hi) nd).mp ((Yh.mp h2).2.trans (Yh.mp e).2.symm)
  show(if t=S then _ else if t∈ts then _ else _)=_;rw[YG (fresh t ht).2,Yq ht,hix,e1,e2];rfl
 have HO':∀b,b≠S->b∉ts->H' b=H1 b:=fun b h1 h2=>by show(if b=S then _ else if b∈ts then _ else _)=_;rw[YG h1,YG h2]
 have I2:Inv X tf σ H' { s1 with heap:=g,drawn:=s1.drawn,toks:=s1.toks }:=by
  refine I1.grow M.keep (fun b hb=>HO' b (fun z=>?_) (fun z=>?_)) fun b o hb e=>?_
  . rw[z]at hb;exact Nat.not_lt.mpr hS hb
  . exact Nat.not_lt.mpr (fresh b z).1 hb
  . by_cases hbS:b=S
    . subst hbS;rw[HS]at e;cases e;refine⟨by rw[Ye,tl];omega,tD.toList,c,?_,by simpa using eS⟩;rw[hts];exact jau ts
    . by_cases hbt:b∈ts
      . obtain⟨h1,h2⟩:=jaP hbt;obtain⟨x,y,e1,e2,e3,_⟩:=info _ b h2;have hxi:ts.idxOf b<xs.length:=by omega
        have hyi:ts.idxOf b<ys.length:=by omega
        rw[HT _ b _ _ h2 (QC hxi) (QC hyi)]at e;cases e;obtain⟨u1,g1,g2⟩:=rx.get (QC hxi);obtain⟨u2,g3,g4⟩:=ry.get (QC hyi);rw[e1]at g1;rw[e2]at g3;cases g1;cases g3;exact⟨by show 2<=sizeLine;decide,[x,y],.cons g2 (.cons g4 .nil),Qc e3⟩
      . rw[HO' b hbS hbt]at e;exact absurd (I1.hok.lt e) (Nat.not_lt.mpr hb)
 have nS:H1 S=none:=I1.hok.fresh hS;exact⟨.ref S,H',I2,rfl,q S ts H' nS (fun t ht=>I1.hok.fresh (fresh t ht).1) (fun z=>(fresh S z).2 rfl) nd tl HO' HS HT⟩
def jlY(X:Cx)(a:Addr)(ns:List Int):HO:=.ext fun h=>L2S.jka X.prog X.w h a ns
inductive DEq(K:PySem.W.Frag)(H:Hp):Nat->V->V->Bool->Prop where
 | flat {n:Nat} {x y:V} (fx:Jc x=true) (fy:Jc y=true):DEq K H n x y (eqV x y)
 | same {n:Nat} {a:Addr}:DEq K H n (.ref a) (.ref a) true
 | lens {n:Nat} {a b:Addr} {xs ys:List V} (ha:qW K H a xs) (hb:qW K H b ys) (hl:xs.length≠ys.length):DEq K H (n+1) (.ref a) (.ref b) false
 | lsts {n:Nat} {a b:Addr} {xs ys:List V} {e:Nat->Bool} (ha:qW K H a xs) (hb:qW K H b ys) (hl:xs.length=ys.length) (hne:a≠b) (he:∀(j:Nat) x y,xs[j]?=some x->ys[j]?=some y->DEq K H n x y (e j)):DEq K H (n+1) (.ref a) (.ref b) ((List.range xs.length).all e)
 | tups {n:Nat} {a b:Addr} {xs ys:List V} {e:Nat->Bool} (ha:SqT K H a xs) (hb:SqT K H b ys) (hl:xs.length=ys.length) (hne:a≠b) (he:∀(j:Nat) x y,xs[j]?=some x->ys[j]?=some y->DEq K H n x y (e j)):DEq K H (n+1) (.ref a) (.ref b) ((List.range xs.length).all e)
theorem DEq.ok{tf:List (Addr×Obj)}{σ:St}{H:Hp}{s:Shared}(I:Inv X tf σ H s):∀{n:Nat} {x y:V} {b:Bool},DEq X.K H n x y b->∀{u v:Value} {A:Around},RelV x u->RelV y v->A.units+n<cLine->SeqAt.EqAt A s u v b:=by
 intro n x y b d;induction d with
 | flat fx fy=>intro u v A ru rv _;exact jcX ru rv fx fy
 | same=>intro u v A ru rv _;cases ru;cases rv;exact SeqAt.EqAt.same _
 | @lens n a b xs ys ha hb hl=>
   intro u v A ru rv hu;cases ru;cases rv;obtain⟨i1,r1,p1,_⟩:=I.list ha;obtain⟨i2,r2,p2,_⟩:=I.list hb;have l1:=r1.length;have l2:=r2.length;by_cases hab:a=b
   . subst hab;exact absurd (by rw[I.list_inj ha hb]) hl
   . exact yu hab (SeqAt.RcAt.lists_lengths p1.isList p2.isList (by simp;omega) (by omega))
 | @lsts n a b xs ys e ha hb hl hne he ih=>
   intro u v A ru rv hu;cases ru;cases rv;obtain⟨i1,r1,p1,_⟩:=I.list ha;obtain⟨i2,r2,p2,_⟩:=I.list hb;have l1:=r1.length;have l2:=r2.length;have e1:xs.length=i1.toArray.size:=by simpa using l1
   rw[e1];refine yu hne (SeqAt.RcAt.lists p1.isList p2.isList (by simp;omega) (by omega) fun j h1 h2=>?_);have hj1:j<xs.length:=by omega
   have hj2:j<ys.length:=by omega
   obtain⟨u1,g1,g2⟩:=r1.get (QC hj1);obtain⟨u2,g3,g4⟩:=r2.get (QC hj2);have k1:i1.toArray[j]=u1:=by have:=Yh.mp g1;simpa using this.2
   have k2:i2.toArray[j]=u2:=by have:=Yh.mp g3;simpa using this.2
   rw[k1,k2];exact ih j _ _ (QC hj1) (QC hj2) g2 g4 (by show A.units+1+n<cLine;omega)
 | @tups n a b xs ys e ha hb hl hne he ih=>
   intro u v A ru rv hu;cases ru;cases rv;obtain⟨i1,r1,p1,_⟩:=I.tuple ha;obtain⟨i2,r2,p2,_⟩:=I.tuple hb;have l1:=r1.length;have l2:=r2.length;have e1:(List.range xs.length).all e=((List.range (min i1.toArray.size i2.toArray.size)).all e && i1.toArray.size == i2.toArray.size):=by
    have q1:i1.toArray.size=xs.length:=by simpa using l1.symm
    have q2:i2.toArray.size=xs.length:=by simp;omega
    rw[q1,q2];simp
   rw[e1];refine yu hne (SeqAt.RcAt.tuples (show s.heap.IsTuple a i1.toArray from p1) (show s.heap.IsTuple b i2.toArray from p2) (by omega) fun j h1 h2=>?_);have hj1:j<xs.length:=by simp at h1;omega
   have hj2:j<ys.length:=by simp at h2;omega
   obtain⟨u1,g1,g2⟩:=r1.get (QC hj1);obtain⟨u2,g3,g4⟩:=r2.get (QC hj2);have k1:i1.toArray[j]=u1:=by have:=Yh.mp g1;simpa using this.2
   have k2:i2.toArray[j]=u2:=by have:=Yh.mp g3;simpa using this.2
   rw[k1,k2];exact ih j _ _ (QC hj1) (QC hj2) g2 g4 (by show A.units+1+n<cLine;omega)
end
def ins(k:Int):List Int->List Int
 | []=>[k]
 | x::l=>if k<x then k::x::l else if k=x then x::l else x::ins k l
structure Ship where
 b:Int
 e:Int
 n:Int
 m:Int
structure Ship.Ok(s:Ship):Prop where
 lt:s.b<s.e
 long:s.e-s.b<=300000000000000
 lo:-500000000000000<=s.b
 hi:s.b<=500000000000000
 m0:0<=s.m
 m1:s.m<=1000000000000000
 n0:0<=s.n
 n1:s.n<=s.m*(s.e-s.b)
section
variable{K:PySem.W.Frag}{H H':Hp}
def ShipV(K:PySem.W.Frag)(H:Hp)(v:V)(s:Ship):Prop:=∃a,v=.ref a/\SqT K H a [.int s.b,.int s.e,.int s.n,.int s.m]
def SpanV(K:PySem.W.Frag)(H:Hp)(v:V)(p:Int×Int):Prop:=∃a,v=.ref a/\SqT K H a [.int p.1,.int p.2]
def FleetAt(K:PySem.W.Frag)(H:Hp)(a:Addr)(fl:List Ship):Prop:=∃vs,qW K H a vs/\Paired (ShipV K H) vs fl
def SpansAt(K:PySem.W.Frag)(H:Hp)(a:Addr)(sp:List (Int×Int)):Prop:=∃vs,qW K H a vs/\Paired (SpanV K H) vs sp
theorem ShipV.same{v:V}{s:Ship}(h:ShipV K H v s)(e:Same H H'):ShipV K H' v s:=let ⟨a,h1,h2⟩:=h;⟨a,h1,e.seqT h2⟩
theorem SpanV.same{v:V}{p:Int×Int}(h:SpanV K H v p)(e:Same H H'):SpanV K H' v p:=let ⟨a,h1,h2⟩:=h;⟨a,h1,e.seqT h2⟩
theorem FleetAt.same{a:Addr}{fl:List Ship}(h:FleetAt K H a fl)(e:Same H H'):FleetAt K H' a fl:=let ⟨vs,h1,h2⟩:=h;⟨vs,e.seq h1,Paired.mapP h2 fun _ _ q=>q.same e⟩
theorem SpansAt.same{a:Addr}{sp:List (Int×Int)}(h:SpansAt K H a sp)(e:Same H H'):SpansAt K H' a sp:=let ⟨vs,h1,h2⟩:=h;⟨vs,e.seq h1,Paired.mapP h2 fun _ _ q=>q.same e⟩
theorem Paired.get{α β:Type}{F:α->β->Prop}{xs:List α}{ys:List β}{i:Nat}{x:α}(h:Paired F xs ys)(e:xs[i]?=some x):∃y,ys[i]?=some y/\F x y:=by
 induction h generalizing i with
 | nil=>rw[yz]at e;cases e
 | cons r _ ih=>
   cases i with
   | zero=>cases e;exact⟨_,rfl,r⟩
   | succ i=>exact ih (i:=i) e
theorem FleetAt.len{a:Addr}{fl:List Ship}{vs:List V}(h2:Paired (ShipV K H) vs fl):vs.length=fl.length:=Paired.length h2
end
set_option genInjectivity true in
inductive D where
 | int (i:Int) | bl (b:Bool) | non | str (x:Str) | lst (l:List D) | tup (l:List D)
 /-- the script -/
 | scr (ns:List Int)
 /-- a dict: tm keys, whole numbers, and what stands at each -/
 | dic (ks:List Int) (ds:List D)
 /-- a tuple of texts that the program itself holds -/
 | kst (xs:List Str)
 /-- a desk, let go: what it keeps -/
 | obj (l:List D)
theorem bind_some{α β:Type}{o:Option α}{f:α->Option β}{b:β}(h:o.bind f=some b):∃a,o=some a/\f a=some b:=by
 cases o with
 | none=>cases h
 | some a=>exact⟨a,rfl,h⟩
theorem map_some{α β:Type}{o:Option α}{f:α->β}{b:β}(h:o.map f=some b):∃a,o=some a/\f a=b:=by
 cases o with
 | none=>cases h
 | some a=>exact⟨a,rfl,Option.some.inj h⟩
theorem jgx{α β:Type}{f:α->β}{l:List α}{i:Int}:L2.atI (l.map f) i=(L2.atI l i).map f:=by
 unfold L2.atI;rw[Ye];cases ixN l.length i with
 | none=>rfl
 | some j=>simp
instance (i j:Int):Decidable (CMul i j):=inferInstanceAs (Decidable (_\/_))
def CMulB(i j:Int):Prop:=CMul i j\/(i.natAbs<2 ^ 400/\j.natAbs<2 ^ 400)
instance (i j:Int):Decidable (CMulB i j):=inferInstanceAs (Decidable (_\/_))
theorem CMulB.ok{i j:Int}(h:CMulB i j):IntMulOk i j:=by
 rcases h with h | ⟨h1,h2⟩
 . exact h.ok
 . exact IntMulOk.of_bits (Yx (intBits_le h1) (by decide)) (Yx (intBits_le h2) (by decide))
theorem jgf{X:Cx}:Qm X (binaryOp .Mult) (rI CMulB fun i j=>.int (i*j)):=opI fun _ _ _ _ _ _ _ hc q=>mul_int q hc.ok
class Fr where
 K:PySem.W.Frag
section
variable[Fr]
def j9:D->Bool
 | .lst _=>false
 | .tup _=>false
 | .scr _=>false
 | .dic _ _=>false
 | .kst _=>false
 | .obj _=>false
 | _=>true
def jd8(ks:List Int)(vs:List V):List (QK×V):=(ks.map Sum.inl).zip vs
mutual
/-- the value v stands for the data d in the heap G -/
inductive Rep(G:Hp):V->D->Prop where
 | int (i:Int):Rep G (.int i) (.int i)
 | bl (b:Bool):Rep G (.bl b) (.bl b)
 | non:Rep G .non .non
 | str (x:Str):Rep G (.str x) (.str x)
 | lst {a:Addr} {vs:List V} {ds:List D} (h:Rd G a (.lst vs)) (r:Reps G vs ds):Rep G (.ref a) (.lst ds)
 | tup {a:Addr} {vs:List V} {ds:List D} (h:G a=some (.tup vs)) (r:Reps G vs ds):Rep G (.ref a) (.tup ds)
 | scr {a:Addr} {ns:List Int} (h:qW Fr.K G a (ns.map V.int)):Rep G (.ref a) (.scr ns)
 | dic {a:Addr} {o:Obj} {ks:List Int} {vs:List V} {ds:List D} (h:G a=some (.frz o (.dK (jd8 ks vs)))) (hl:ks.length=vs.length) (r:Reps G vs ds):Rep G (.ref a) (.dic ks ds)
 | kst {a:Addr} {xs:List Str} (h:SqT Fr.K (fun _=>none) a (xs.map V.str)):Rep G (.ref a) (.kst xs)
 | obj {a C dx:Addr} {v1 v2 v3:V} {ds:List D} (hc:PySem.W.nsIn Fr.K mainGlobals "Desk"=some (some (.ref C))) (h:G a=some (.ins C dx [("names",v1),("fleet",v2),("plan",v3)])) (r:Reps G [v1,v2,v3] ds):Rep G (.ref a) (.obj ds)
inductive Reps(G:Hp):List V->List D->Prop where
 | nil:Reps G [] []
 | cons {v:V} {d:D} {vs:List V} {ds:List D}:Rep G v d->Reps G vs ds->Reps G (v::vs) (d::ds)
end
theorem Rd.same{G H:Hp}{a:Addr}{u:HO}(e:Same G H)(h:Rd G a u):Rd H a u:=by
 rcases h with h | ⟨o,h⟩
 . exact .inl (e _ _ h)
 . exact .inr ⟨o,e _ _ h⟩
theorem Rep.mono{G G':Hp}(e:Same G G'){v:V}{d:D}(h:Rep G v d):Rep G' v d:=Rep.rec (motive_1:=fun v d _=>Rep G' v d) (motive_2:=fun vs ds _=>Reps G' vs ds) .int .bl .non .str (fun h _ i=>.lst (h.same e) i) (fun h _ i=>.tup (e _ _ h) i) (fun h=>.scr (e.seq h)) (fun h hl _ i=>.dic (e _ _ h) hl i) (fun h=>.kst h) (fun hc h _ i=>.obj hc (e _ _ h) i) .nil (fun _ _ i j=>.cons i j) h
theorem Reps.ind{G:Hp}{P:List V->List D->Prop}(h0:P [] [])(h1:∀{v:V} {d:D} {vs:List V} {ds:List D},Rep G v d->Reps G vs ds->P vs ds->P (v::vs) (d::ds)){vs:List V}{ds:List D}(h:Reps G vs ds):P vs ds:=Reps.rec (motive_1:=fun _ _ _=>True) (motive_2:=fun vs ds _=>P vs ds) (fun _=>trivial) (fun _=>trivial) trivial (fun _=>trivial) (fun _ _ _=>trivial) (fun _ _ _=>trivial) (fun _=>trivial) (fun _ _ _ _=>trivial) (fun _=>trivial) (fun _ _ _ _=>trivial) h0 (fun r t _ i=>h1 r t i) h
theorem Reps.mono{G G':Hp}(e:Same G G'){vs:List V}{ds:List D}(h:Reps G vs ds):Reps G' vs ds:=h.ind (P:=fun vs ds=>Reps G' vs ds) .nil fun r _ i=>.cons (r.mono e) i
theorem Rep.flat{G G':Hp}{v:V}{d:D}(h:Rep G v d)(f:j9 d=true):Rep G' v d:=by
 cases h with
 | int i=>exact .int i
 | bl i=>exact .bl i
 | non=>exact .non
 | str i=>exact .str i
 | lst h r=>cases f
 | tup h r=>cases f
 | scr h=>cases f
 | dic h hl r=>cases f
 | kst h=>cases f
 | obj hc h r=>cases f
section
variable{G G':Hp}{vs us:List V}{ds es:List D}{v:V}{d:D}
theorem Reps.length{vs:List V}{ds:List D}(h:Reps G vs ds):vs.length=ds.length:=h.ind (P:=fun vs ds=>vs.length=ds.length) rfl fun _ _ i=>congrArg (· + 1) i
theorem Reps.get{vs:List V}{ds:List D}{i:Nat}{d:D}(h:Reps G vs ds):ds[i]?=some d->∃v,vs[i]?=some v/\Rep G v d:=
 h.ind (P:=fun vs ds=>∀i d,ds[i]?=some d->∃v,vs[i]?=some v/\Rep G v d) (fun _ _ e=>by rw[yz]at e;cases e) (fun r _ ih i _ e=>by
  cases i with
  | zero=>cases e;exact⟨_,rfl,r⟩
  | succ i=>exact ih i _ e) i d
theorem Reps.getV{vs:List V}{ds:List D}{i:Nat}{v:V}(h:Reps G vs ds):vs[i]?=some v->∃d,ds[i]?=some d/\Rep G v d:=
 h.ind (P:=fun vs ds=>∀i v,vs[i]?=some v->∃d,ds[i]?=some d/\Rep G v d) (fun _ _ e=>by rw[yz]at e;cases e) (fun r _ ih i _ e=>by
  cases i with
  | zero=>cases e;exact⟨_,rfl,r⟩
  | succ i=>exact ih i _ e) i v
theorem Reps.append{vs us:List V}{ds es:List D}(h:Reps G vs ds)(s:Reps G us es):Reps G (vs++us) (ds++es):=h.ind (P:=fun vs ds=>Reps G (vs++us) (ds++es)) s fun r _ i=>.cons r i
theorem Reps.snoc(r:Reps G vs ds)(q:Rep G v d):Reps G (vs++[v]) (ds++[d]):=r.append (.cons q .nil)
theorem Reps.set(q:Rep G v d){vs:List V}{ds:List D}(i:Nat)(h:Reps G vs ds):Reps G (vs.set i v) (ds.set i d):=
 h.ind (P:=fun vs ds=>∀i,Reps G (vs.set i v) (ds.set i d)) (fun _=>.nil) (fun r t ih i=>by
  cases i with
  | zero=>exact .cons q t
  | succ i=>exact .cons r (ih i)) i
theorem Reps.take{vs:List V}{ds:List D}(n:Nat)(h:Reps G vs ds):Reps G (vs.take n) (ds.take n):=
 h.ind (P:=fun vs ds=>∀n,Reps G (vs.take n) (ds.take n)) (fun n=>by cases n <;> exact .nil) (fun r t ih n=>by
  cases n with
  | zero=>exact .nil
  | succ n=>exact .cons r (ih n)) n
theorem Reps.drop{vs:List V}{ds:List D}(n:Nat)(h:Reps G vs ds):Reps G (vs.drop n) (ds.drop n):=
 h.ind (P:=fun vs ds=>∀n,Reps G (vs.drop n) (ds.drop n)) (fun n=>by cases n <;> exact .nil) (fun r t ih n=>by
  cases n with
  | zero=>exact .cons r t
  | succ n=>exact ih n) n
theorem Reps.reverse(h:Reps G vs ds):Reps G vs.reverse ds.reverse:=h.ind (P:=fun vs ds=>Reps G vs.reverse ds.reverse) .nil fun r _ i=>by rw[yX,yX];exact i.snoc r
theorem Reps.one_inv{vs:List V}{d:D}{ds:List D}(h:Reps G vs (d::ds)):∃v us,vs=v::us/\Rep G v d/\Reps G us ds:=by cases h with | cons r t=>exact⟨_,_,rfl,r,t⟩
theorem Reps.of_ints:∀(ns:List Int),Reps G (ns.map V.int) (ns.map D.int)
 | []=>.nil
 | n::ns=>.cons (.int n) (Reps.of_ints ns)
theorem Reps.bls{ns:List Bool}{vs:List V}(h:Reps G vs (ns.map D.bl)):vs=ns.map V.bl:=by
 induction ns generalizing vs with
 | nil=>cases h;rfl
 | cons n ns ih=>obtain⟨v,us,rfl,r,t⟩:=h.one_inv;cases r;rw[ih t];rfl
end
inductive RepT(G H:Hp):V->D->Prop where
 | int (i:Int):RepT G H (.int i) (.int i)
 | bl (b:Bool):RepT G H (.bl b) (.bl b)
 | non:RepT G H .non .non
 | str (x:Str):RepT G H (.str x) (.str x)
 | lst {a:Addr} {vs:List V} {ds:List D} (h:Rd H a (.lst vs)) (r:Reps G vs ds):RepT G H (.ref a) (.lst ds)
 | tup {a:Addr} {vs:List V} {ds:List D} (h:H a=some (.tup vs)) (r:Reps G vs ds):RepT G H (.ref a) (.tup ds)
 | scr {a:Addr} {ns:List Int} (h:qW Fr.K H a (ns.map V.int)):RepT G H (.ref a) (.scr ns)
 | dic {a:Addr} {ks:List Int} {vs:List V} {ds:List D} (h:Rd H a (.dK (jd8 ks vs))) (hl:ks.length=vs.length) (r:Reps G vs ds):RepT G H (.ref a) (.dic ks ds)
 | kst {a:Addr} {xs:List Str} (h:SqT Fr.K (fun _=>none) a (xs.map V.str)):RepT G H (.ref a) (.kst xs)
 | obj {a C dx:Addr} {v1 v2 v3:V} {ds:List D} (hc:PySem.W.nsIn Fr.K mainGlobals "Desk"=some (some (.ref C))) (h:H a=some (.ins C dx [("names",v1),("fleet",v2),("plan",v3)])) (r:Reps G [v1,v2,v3] ds):RepT G H (.ref a) (.obj ds)
inductive RepTs(G H:Hp):List V->List D->Prop where
 | nil:RepTs G H [] []
 | cons {v:V} {d:D} {vs:List V} {ds:List D}:RepT G H v d->RepTs G H vs ds->RepTs G H (v::vs) (d::ds)
theorem Rep.top{G H:Hp}{v:V}{d:D}(h:Rep G v d)(e:Same G H):RepT G H v d:=by
 cases h with
 | int i=>exact .int i
 | bl i=>exact .bl i
 | non=>exact .non
 | str i=>exact .str i
 | lst h r=>exact .lst (h.same e) r
 | tup h r=>exact .tup (e _ _ h) r
 | scr h=>exact .scr (e.seq h)
 | dic h hl r=>exact .dic (.inr ⟨_,e _ _ h⟩) hl r
 | kst h=>exact .kst h
 | obj hc h r=>exact .obj hc (e _ _ h) r
theorem RepT.of_int{G H:Hp}{v:V}{i:Int}(h:RepT G H v (.int i)):v=.int i:=by cases h;rfl
theorem RepT.of_bl{G H:Hp}{v:V}{i:Bool}(h:RepT G H v (.bl i)):v=.bl i:=by cases h;rfl
theorem RepT.of_str{G H:Hp}{v:V}{i:Str}(h:RepT G H v (.str i)):v=.str i:=by cases h;rfl
theorem RepT.of_lst{G H:Hp}{v:V}{ds:List D}(h:RepT G H v (.lst ds)):∃a vs,v=.ref a/\Rd H a (.lst vs)/\Reps G vs ds:=by cases h;exact⟨_,_,rfl,by assumption,by assumption⟩
theorem RepT.of_tup{G H:Hp}{v:V}{ds:List D}(h:RepT G H v (.tup ds)):∃a vs,v=.ref a/\H a=some (.tup vs)/\Reps G vs ds:=by cases h;exact⟨_,_,rfl,by assumption,by assumption⟩
theorem RepT.of_scr{G H:Hp}{v:V}{ns:List Int}(h:RepT G H v (.scr ns)):∃a,v=.ref a/\qW Fr.K H a (ns.map V.int):=by cases h;exact⟨_,rfl,by assumption⟩
theorem RepT.of_kst{G H:Hp}{v:V}{xs:List Str}(h:RepT G H v (.kst xs)):∃a,v=.ref a/\SqT Fr.K (fun _=>none) a (xs.map V.str):=by cases h;exact⟨_,rfl,by assumption⟩
theorem Rep.tt{G:Hp}{v:V}{d:D}(h:Rep G v d):RepT G G v d:=h.top fun _ _ e=>e
theorem Rep.of_int{G:Hp}{v:V}{i:Int}(h:Rep G v (.int i)):v=.int i:=h.tt.of_int
theorem Rep.of_bl{G:Hp}{v:V}{i:Bool}(h:Rep G v (.bl i)):v=.bl i:=h.tt.of_bl
theorem Rep.of_str{G:Hp}{v:V}{i:Str}(h:Rep G v (.str i)):v=.str i:=h.tt.of_str
theorem Rep.of_lst{G:Hp}{v:V}{ds:List D}(h:Rep G v (.lst ds)):∃a vs,v=.ref a/\Rd G a (.lst vs)/\Reps G vs ds:=h.tt.of_lst
theorem Rep.of_tup{G:Hp}{v:V}{ds:List D}(h:Rep G v (.tup ds)):∃a vs,v=.ref a/\G a=some (.tup vs)/\Reps G vs ds:=h.tt.of_tup
theorem RepT.mono{G H G' H':Hp}{v:V}{d:D}(h:RepT G H v d)(e:Same G G')(e':Same H H'):RepT G' H' v d:=by
 cases h with
 | int i=>exact .int i
 | bl i=>exact .bl i
 | non=>exact .non
 | str i=>exact .str i
 | lst h r=>exact .lst (h.same e') (r.mono e)
 | tup h r=>exact .tup (e' _ _ h) (r.mono e)
 | scr h=>exact .scr (e'.seq h)
 | dic h hl r=>exact .dic (h.same e') hl (r.mono e)
 | kst h=>exact .kst h
 | obj hc h r=>exact .obj hc (e' _ _ h) (r.mono e)
theorem RepTs.mono{G H G' H':Hp}(e:Same G G')(e':Same H H'){vs:List V}{ds:List D}(h:RepTs G H vs ds):RepTs G' H' vs ds:=by
 induction h with
 | nil=>exact .nil
 | cons r _ ih=>exact .cons (r.mono e e') ih
structure Ext(G H G' H':Hp):Prop where
 hh:Same H H'
 gg:Same G G'
 gh:Same G' H'
 nw:∀a o,G' a=some o->G a=some o\/H a=none
section
variable{G H G' H' G'' H'':Hp}{a:Addr}{o:HO}
theorem Ext.refl(h:Same G H):Ext G H G H:=⟨.refl _,.refl _,h,fun _ _ e=>.inl e⟩
theorem Ext.trans(x:Ext G H G' H')(y:Ext G' H' G'' H''):Ext G H G'' H'':=
 ⟨x.hh.trans y.hh,x.gg.trans y.gg,y.gh,fun a o e=>by
  rcases y.nw a o e with z | z
  . exact x.nw a o z
  . exact .inr (x.hh.free z)⟩
theorem Ext.new(h:Same G H)(hn:H a=none):Ext G H G (upd H a o):=⟨.upd hn,.refl _,fun b u e=>by rw[ji (jk (h b u e) hn)];exact h b u e,fun _ _ e=>.inl e⟩
theorem Ext.freeze(x:Ext G H G' H')(hn:H a=none)(hg:G' a=none)(ho:H' a=some o):Ext G H (upd G' a o) H':=
 ⟨x.hh,x.gg.trans (.upd hg),fun b u e=>by
  by_cases hb:b=a
  . subst hb;rw[jm]at e;cases e;exact ho
  . rw[ji hb]at e;exact x.gh b u e,fun b u e=>by
  by_cases hb:b=a
  . subst hb;exact .inr hn
  . rw[ji hb]at e;exact x.nw b u e⟩
theorem Ext.gone(x:Ext G H G' H')(hg:G a=none)(hh:H a=some o):G' a=none:=by
 cases e:G' a with
 | none=>rfl
 | some u=>
   rcases x.nw a u e with z | z
   . rw[hg]at z;cases z
   . rw[hh]at z;cases z
end
inductive Slot where
 | un | sh (d:D) | ow (ds:List D)
 /-- a dict of one's own -/
 | od (ks:List Int) (ds:List D)
 /-- a list of one's own, of lists of one's own -/
 | oo (dss:List (List D))
 /-- a tuple of one's own: a thing, a list of lists of one's own, a list of one's own -/
 | ot (d:D) (dss:List (List D)) (es:List D)
abbrev Env:=List Slot
abbrev ed:=L2.Env
inductive Rows(G H:Hp):List Addr->List (List D)->Prop where
 | nil:Rows G H [] []
 | cons {b:Addr} {us:List V} {ds:List D} {bs:List Addr} {dss:List (List D)} (h:H b=some (.lst us)) (r:Reps G us ds) (t:Rows G H bs dss):Rows G H (b::bs) (ds::dss)
def zM(H:Hp):Option V->Slot->Addr->Prop
 | some (.ref a),.ow _,b=>b=a
 | some (.ref a),.od _ _,b=>b=a
 | some (.ref a),.oo _,b=>b=a\/∃vs,H a=some (.lst vs)/\V.ref b∈vs
 | some (.ref t),.ot _ _ _,b=>b=t\/∃v a c vs,H t=some (.tup [v,.ref a,.ref c])/\H a=some (.lst vs)/\(b=c\/b=a\/V.ref b∈vs)
 | _,_,_=>False
inductive SlotOk(H0 G H:Hp):Option V->Slot->Prop where
 | un (o:Option V):SlotOk H0 G H o .un
 | sh {v:V} {d:D} (r:Rep G v d):SlotOk H0 G H (some v) (.sh d)
 | ow {a:Addr} {vs:List V} {ds:List D} (h0:H0 a=none) (hg:G a=none) (h:H a=some (.lst vs)) (r:Reps G vs ds):SlotOk H0 G H (some (.ref a)) (.ow ds)
 | od {a:Addr} {ks:List Int} {vs:List V} {ds:List D} (h0:H0 a=none) (hg:G a=none) (h:H a=some (.dK (jd8 ks vs))) (hl:ks.length=vs.length) (r:Reps G vs ds):SlotOk H0 G H (some (.ref a)) (.od ks ds)
 | oo {a:Addr} {bs:List Addr} {dss:List (List D)} (h:H a=some (.lst (bs.map V.ref))) (nd:(a::bs).Nodup) (own:∀b∈a::bs,H0 b=none/\G b=none) (rows:Rows G H bs dss):SlotOk H0 G H (some (.ref a)) (.oo dss)
 | ot {t a c:Addr} {bs:List Addr} {v:V} {us:List V} {d:D} {dss:List (List D)} {es:List D} (ht:H t=some (.tup [v,.ref a,.ref c])) (h:H a=some (.lst (bs.map V.ref))) (hc:H c=some (.lst us)) (nd:(t::c::a::bs).Nodup) (own:∀b∈t::c::a::bs,H0 b=none/\G b=none) (r0:Rep G v d) (rows:Rows G H bs dss) (r:Reps G us es):SlotOk H0 G H (some (.ref t)) (.ot d dss es)
structure EnvOk(G0 H0 G H:Hp)(σ:St)(ρ:ed):Prop where
 ext:Ext G0 H0 G H
 len:σ.length=ρ.length
 slot:∀(i:Nat) o s,σ[i]?=some o->ρ[i]?=some s->SlotOk H0 G H o s
 dist:∀(i j:Nat) o o' s s' b,σ[i]?=some o->ρ[i]?=some s->σ[j]?=some o'->ρ[j]?=some s'->zM H o s b->zM H o' s' b->i=j
section
variable{G0 H0 G H G' H':Hp}{σ:St}{ρ:ed}{i:Nat}{d:D}{ds:List D}{v:V}{vs:List V}{a:Addr}
theorem Rows.there{bs:List Addr}{dss:List (List D)}(h:Rows G H bs dss):∀b∈bs,∃us,H b=some (.lst us):=by
 induction h with
 | nil=>intro b hb;cases hb
 | cons h r t ih=>
   intro b hb;rcases Yj.mp hb with rfl | hb
   . exact⟨_,h⟩
   . exact ih b hb
theorem Rows.keep{bs:List Addr}{dss:List (List D)}(h:Rows G H bs dss)(gg:Same G G')(k:∀b∈bs,H' b=H b):Rows G' H' bs dss:=by
 induction h with
 | nil=>exact .nil
 | cons h r t ih=>exact .cons (by rw[k _ Yd];exact h) (r.mono gg) (ih fun b hb=>k b (Yg _ hb))
theorem Rows.length{bs:List Addr}{dss:List (List D)}(h:Rows G H bs dss):bs.length=dss.length:=by
 induction h with
 | nil=>rfl
 | cons h r t ih=>simp[ih]
theorem Rows.get{bs:List Addr}{dss:List (List D)}(h:Rows G H bs dss):∀{j:Nat} {ds:List D},dss[j]?=some ds->∃b us,bs[j]?=some b/\H b=some (.lst us)/\Reps G us ds:=by
 induction h with
 | nil=>intro j ds e;simp at e
 | cons h r t ih=>
   intro j ds e;cases j with
   | zero=>simp at e;subst e;exact⟨_,_,rfl,h,r⟩
   | succ j=>obtain⟨b,us,h1,h2,h3⟩:=ih (j:=j) (ds:=ds) (by simpa using e);exact⟨b,us,by simpa using h1,h2,h3⟩
theorem Rows.frozen{bs:List Addr}{dss:List (List D)}(h:Rows G H bs dss)(gg:Same G G')(k:∀b∈bs,G' b=H b):Reps G' (bs.map V.ref) (dss.map D.lst):=by
 induction h with
 | nil=>exact .nil
 | cons h r t ih=>exact .cons (.lst (.inl ((k _ Yd).trans h)) (r.mono gg)) (ih fun b hb=>k b (Yg _ hb))
theorem EnvOk.same(e:EnvOk G0 H0 G H σ ρ):Same G H:=e.ext.gh
theorem Qy{t a c:Addr}{bs:List Addr}{v:V}{d:D}{dss:List (List D)}{es:List D}{b:Addr}(ht:H t=some (.tup [v,.ref a,.ref c]))(h:H a=some (.lst (bs.map V.ref))):zM H (some (.ref t)) (.ot d dss es) b ↔ b∈t::c::a::bs:=by
 show(b=t\/∃v a c vs,H t=some (.tup [v,.ref a,.ref c])/\H a=some (.lst vs)/\(b=c\/b=a\/V.ref b∈vs)) ↔ _;rw[Yj,Yj,Yj];constructor
 . rintro(z | ⟨v',a',c',vs,q,q2,hb⟩)
   . exact .inl z
   . rw[ht]at q;cases q;rw[h]at q2;cases q2;rcases hb with z | z | z
     . exact .inr (.inl z)
     . exact .inr (.inr (.inl z))
     . obtain⟨c,hc,e⟩:=yi.mp z;injection e with e;subst e;exact .inr (.inr (.inr hc))
 . rintro(z | z)
   . exact .inl z
   . refine .inr ⟨_,_,_,_,ht,h,?_⟩;rcases z with z | z | z
     . exact .inl z
     . exact .inr (.inl z)
     . exact .inr (.inr (yH z))
theorem SlotOk.foot{o:Option V}{s:Slot}{b:Addr}(h:SlotOk H0 G H o s)(f:zM H o s b):H0 b=none/\G b=none/\∃u,H b=some u:=by
 cases h with
 | un=>cases o with | none=>exact f.elim | some v=>cases v <;> exact f.elim
 | @sh v d r=>cases v <;> exact f.elim
 | ow h0 hg h r=>cases (show b=_ from f);exact⟨h0,hg,_,h⟩
 | od h0 hg h hl r=>cases (show b=_ from f);exact⟨h0,hg,_,h⟩
 | @oo a bs dss h nd own rows=>
   have f':b=a\/∃vs,H a=some (.lst vs)/\V.ref b∈vs:=f;rcases f' with rfl | ⟨vs,q,hb⟩
   . exact⟨(own b Yd).1,(own b Yd).2,_,h⟩
   . rw[h]at q;cases q;obtain⟨c,hc,e⟩:=yi.mp hb;injection e with e;subst e;obtain⟨us,hu⟩:=rows.there c hc;exact⟨(own c (Yg _ hc)).1,(own c (Yg _ hc)).2,_,hu⟩
 | ot ht h hc nd own r0 rows r=>
   have m:=(Qy ht h).mp f;refine⟨(own b m).1,(own b m).2,?_⟩;rcases Yj.mp m with z | m
   . rw[z];exact⟨_,ht⟩
   rcases Yj.mp m with z | m
   . rw[z];exact⟨_,hc⟩
   rcases Yj.mp m with z | m
   . rw[z];exact⟨_,h⟩
   obtain⟨us,hu⟩:=rows.there b m;exact⟨_,hu⟩
theorem Qq{bs:List Addr}{dss:List (List D)}{b:Addr}(h:H a=some (.lst (bs.map V.ref))):zM H (some (.ref a)) (.oo dss) b ↔ b∈a::bs:=by
 show(b=a\/∃vs,H a=some (.lst vs)/\V.ref b∈vs) ↔ _;rw[Yj];constructor
 . rintro(z | ⟨vs,q,hb⟩)
   . exact .inl z
   . rw[h]at q;cases q;obtain⟨c,hc,e⟩:=yi.mp hb;injection e with e;subst e;exact .inr hc
 . rintro(z | z)
   . exact .inl z
   . exact .inr ⟨_,h,yH z⟩
theorem SlotOk.keep{o:Option V}{s:Slot}(h:SlotOk H0 G H o s)(gg:Same G G')(k:∀b,zM H o s b->H' b=H b/\G' b=none):SlotOk H0 G' H' o s/\∀b,zM H' o s b->zM H o s b:=by
 cases h with
 | un=>exact⟨.un _,fun b f=>by cases o with | none=>exact f.elim | some v=>cases v <;> exact f.elim⟩
 | @sh v d r=>exact⟨.sh (r.mono gg),fun b f=>by cases v <;> exact f.elim⟩
 | @ow a vs ds h0 hg h r=>have q:=k a rfl;exact⟨.ow h0 q.2 (by rw[q.1];exact h) (r.mono gg),fun b f=>f⟩
 | @od a ks vs ds h0 hg h hl r=>have q:=k a rfl;exact⟨.od h0 q.2 (by rw[q.1];exact h) hl (r.mono gg),fun b f=>f⟩
 | @oo a bs dss h nd own rows=>
   have h':H' a=some (.lst (bs.map V.ref)):=by rw[(k a (.inl rfl)).1];exact h
   refine⟨.oo h' nd (fun b hb=>⟨(own b hb).1,(k b ((Qq h).mpr hb)).2⟩) (rows.keep gg fun b hb=>(k b ((Qq h).mpr (Yg _ hb))).1),fun b f=>?_⟩;exact(Qq h).mpr ((Qq h').mp f)
 | @ot t a c bs v us d dss es ht h hc nd own r0 rows r=>
   have kk:=fun b hb=>k b ((Qy ht h).mpr hb);have ht':H' t=some (.tup [v,.ref a,.ref c]):=by rw[(kk t (by simp)).1];exact ht
   have h':H' a=some (.lst (bs.map V.ref)):=by rw[(kk a (by simp)).1];exact h
   have hc':H' c=some (.lst us):=by rw[(kk c (by simp)).1];exact hc
   exact⟨.ot ht' h' hc' nd (fun b hb=>⟨(own b hb).1,(kk b hb).2⟩) (r0.mono gg) (rows.keep gg fun b hb=>(kk b (by simp[hb])).1) (r.mono gg),fun b f=>(Qy ht h).mpr ((Qy ht' h').mp f)⟩
theorem EnvOk.grow(e:EnvOk G0 H0 G H σ ρ)(x:Ext G H G' H'):EnvOk G0 H0 G' H' σ ρ:=by
 have key:∀(i:Nat) o s,σ[i]?=some o->ρ[i]?=some s->_:=fun i o s h1 h2=>(e.slot i o s h1 h2).keep (H':=H') x.gg fun b f=>by obtain⟨_,g,u,hu⟩:=(e.slot i o s h1 h2).foot f;exact⟨by rw[hu];exact x.hh _ _ hu,x.gone g hu⟩
 exact⟨e.ext.trans x,e.len,fun i o s h1 h2=>(key i o s h1 h2).1,fun i j o o' s s' b h1 h2 h3 h4 f f'=>e.dist i j o o' s s' b h1 h2 h3 h4 ((key i o s h1 h2).2 b f) ((key j o' s' h3 h4).2 b f')⟩
theorem EnvOk.at{s:Slot}(e:EnvOk G0 H0 G H σ ρ)(h:ρ[i]?=some s):∃o,σ[i]?=some o/\SlotOk H0 G H o s:=by
 have hi:i<σ.length:=by rw[e.len];exact(Yh.mp h).1
 exact⟨σ[i],QC hi,e.slot i _ _ (QC hi) h⟩
theorem EnvOk.sh(e:EnvOk G0 H0 G H σ ρ)(h:ρ[i]?=some (.sh d)):∃v,σ[i]?=some (some v)/\Rep G v d:=by
 obtain⟨o,h1,h2⟩:=e.at h;cases h2 with
 | sh r=>exact⟨_,h1,r⟩
theorem EnvOk.ow(e:EnvOk G0 H0 G H σ ρ)(h:ρ[i]?=some (.ow ds)):∃a vs,σ[i]?=some (some (.ref a))/\H0 a=none/\G a=none/\H a=some (.lst vs)/\Reps G vs ds:=by
 obtain⟨o,h1,h2⟩:=e.at h;cases h2 with
 | ow h0 hg h r=>exact⟨_,_,h1,h0,hg,h,r⟩
theorem EnvOk.od{ks:List Int}(e:EnvOk G0 H0 G H σ ρ)(h:ρ[i]?=some (.od ks ds)):∃a vs,σ[i]?=some (some (.ref a))/\H0 a=none/\G a=none/\H a=some (.dK (jd8 ks vs))/\ks.length=vs.length/\Reps G vs ds:=by
 obtain⟨o,h1,h2⟩:=e.at h;cases h2 with
 | od h0 hg h hl r=>exact⟨_,_,h1,h0,hg,h,hl,r⟩
theorem EnvOk.oo{dss:List (List D)}(e:EnvOk G0 H0 G H σ ρ)(h:ρ[i]?=some (.oo dss)):∃a bs,σ[i]?=some (some (.ref a))/\H a=some (.lst (bs.map V.ref))/\(a::bs).Nodup/\(∀b∈a::bs,H0 b=none/\G b=none)/\Rows G H bs dss:=by
 obtain⟨o,h1,h2⟩:=e.at h;cases h2 with
 | oo h nd own rows=>exact⟨_,_,h1,h,nd,own,rows⟩
theorem EnvOk.ot{dss:List (List D)}{es:List D}(e:EnvOk G0 H0 G H σ ρ)(h:ρ[i]?=some (.ot d dss es)):∃t a c bs v us,σ[i]?=some (some (.ref t))/\H t=some (.tup [v,.ref a,.ref c])/\H a=some (.lst (bs.map V.ref))/\H c=some (.lst us)/\(t::c::a::bs).Nodup/\(∀b∈t::c::a::bs,H0 b=none/\G b=none)/\Rep G v d/\Rows G H bs dss/\Reps G us es:=by
 obtain⟨o,h1,h2⟩:=e.at h;cases h2 with
 | ot ht h hc nd own r0 rows r=>exact⟨_,_,_,_,_,_,h1,ht,h,hc,nd,own,r0,rows,r⟩
theorem EnvOk.change{o':Option V}{s':Slot}(e:EnvOk G0 H0 G H σ ρ)(x:Ext G0 H0 G' H')(gg:Same G G')
 (keep:∀j,j≠i->∀o s,σ[j]?=some o->ρ[j]?=some s->∀b,zM H o s b->H' b=H b/\G' b=none) (new:SlotOk H0 G' H' o' s')
 (foot:∀b,zM H' o' s' b->H b=none\/∃o s,σ[i]?=some o/\ρ[i]?=some s/\zM H o s b):EnvOk G0 H0 G' H' (σ.set i o') (ρ.set i s'):=by
 have key:∀(j:Nat) o s,j≠i->σ[j]?=some o->ρ[j]?=some s->_:=fun j o s hj h1 h2=>(e.slot j o s h1 h2).keep (H':=H') gg (keep j hj o s h1 h2);have at_i:∀o s,(σ.set i o')[i]?=some o->(ρ.set i s')[i]?=some s->o=o'/\s=s':=fun o s h1 h2=>by rw[List.getElem?_set]at h1 h2;simp at h1 h2;exact⟨h1.2.symm,h2.2.symm⟩
 refine⟨x,by simp[e.len],fun j o s h1 h2=>?_,fun j k o p s t b h1 h2 h3 h4 f g=>?_⟩
 . by_cases hj:i=j
   . subst hj;obtain⟨rfl,rfl⟩:=at_i o s h1 h2;exact new
   . rw[Yz hj]at h1 h2;exact(key j o s (Ne.symm hj) h1 h2).1
 . have other:∀(m:Nat) q u,i≠m->(σ.set i o')[m]?=some q->(ρ.set i s')[m]?=some u->zM H' q u b->zM H' o' s' b->False:=fun m q u hm g1 g2 f1 f2=>by
    rw[Yz hm]at g1 g2;have f1':=(key m q u (Ne.symm hm) g1 g2).2 b f1;obtain⟨_,_,w,hw⟩:=(e.slot m q u g1 g2).foot f1';rcases foot b f2 with z | ⟨o2,s2,z1,z2,z3⟩
    . rw[hw]at z;cases z
    . exact hm (e.dist i m _ _ _ _ b z1 z2 g1 g2 z3 f1')
   by_cases hj:i=j
   . by_cases hk:i=k
     . exact hj.symm.trans hk
     . subst hj;obtain⟨rfl,rfl⟩:=at_i o s h1 h2;exact(other k p t hk h3 h4 g f).elim
   . by_cases hk:i=k
     . subst hk;obtain⟨rfl,rfl⟩:=at_i p t h3 h4;exact(other j o s hj h1 h2 f g).elim
     . rw[Yz hj]at h1 h2;rw[Yz hk]at h3 h4;exact e.dist j k o p s t b h1 h2 h3 h4 ((key j o s (Ne.symm hj) h1 h2).2 b f) ((key k p t (Ne.symm hk) h3 h4).2 b g)
theorem EnvOk.stay(e:EnvOk G0 H0 G H σ ρ):∀j,j≠i->∀o s,σ[j]?=some o->ρ[j]?=some s->∀b,zM H o s b->H b=H b/\G b=none:=fun j _ o s h1 h2 b f=>⟨rfl,((e.slot j o s h1 h2).foot f).2.1⟩
theorem EnvOk.set(e:EnvOk G0 H0 G H σ ρ)(r:Rep G v d):EnvOk G0 H0 G H (σ.set i (some v)) (ρ.set i (.sh d)):=e.change e.ext (.refl _) e.stay (.sh r) fun b f=>by cases v <;> exact f.elim
theorem EnvOk.fresh(e:EnvOk G0 H0 G H σ ρ)(x:Ext G H G' H'){o':Option V}{s':Slot}(new:SlotOk H0 G' H' o' s')(foot:∀b,zM H' o' s' b->H b=none):EnvOk G0 H0 G' H' (σ.set i o') (ρ.set i s'):=
 e.change (e.ext.trans x) x.gg (fun j _ o s h1 h2 b f=>by obtain⟨_,g,u,hu⟩:=(e.slot j o s h1 h2).foot f;exact⟨by rw[hu];exact x.hh _ _ hu,x.gone g hu⟩) new fun b f=>.inl (foot b f)
theorem EnvOk.setO(e:EnvOk G0 H0 G H σ ρ)(x:Ext G H G' H')(hn:H a=none)(hg:G' a=none)(h:H' a=some (.lst vs))(r:Reps G' vs ds):EnvOk G0 H0 G' H' (σ.set i (some (.ref a))) (ρ.set i (.ow ds)):=e.fresh x (.ow (e.ext.hh.free hn) hg h r) fun b f=>by cases (show b=a from f);exact hn
theorem EnvOk.write{u:HO}{o:Option V}{s s':Slot}(e:EnvOk G0 H0 G H σ ρ)(h1:ρ[i]?=some s)(h2:σ[i]?=some o)(f:zM H o s a)(new:SlotOk H0 G (upd H a u) o s')(foot:∀b,zM (upd H a u) o s' b->zM H o s b):EnvOk G0 H0 G (upd H a u) σ (ρ.set i s'):=by
 obtain⟨q1,q2,_⟩:=(e.slot i o s h2 h1).foot f;have hi:i<σ.length:=(Yh.mp h2).1;have key:=e.change (i:=i) (o':=o) (s':=s') (G':=G) (H':=upd H a u) ⟨fun b o z=>by rw[ji (jk z q1)];exact e.ext.hh b o z,e.ext.gg,fun b o z=>by rw[ji (jk z q2)];exact e.ext.gh b o z,e.ext.nw⟩ (.refl _)
  (fun j hj o' s' g1 g2 b f'=>by
   have hb:b≠a:=fun z=>by subst z;exact hj (e.dist j i _ _ _ _ b g1 g2 h2 h1 f' f)
   exact⟨ji hb,((e.slot j o' s' g1 g2).foot f').2.1⟩) new fun b f'=>.inr ⟨o,s,h2,h1,foot b f'⟩
 have e':σ.set i o=σ:=by
  refine List.ext_getElem? fun j=>?_;by_cases hj:i=j
  . subst hj;rw[YT hi,h2]
  . rw[Yz hj]
 rw[e']at key;exact key
theorem EnvOk.put(e:EnvOk G0 H0 G H σ ρ)(h1:ρ[i]?=some (.ow ds))(h2:σ[i]?=some (some (.ref a))){es:List D}(r:Reps G vs es):EnvOk G0 H0 G (upd H a (.lst vs)) σ (ρ.set i (.ow es)):=by obtain⟨b,us,q1,q2,q3,q4,q5⟩:=e.ow h1;rw[h2]at q1;cases q1;exact e.write h1 h2 rfl (.ow q2 q3 jm r) fun b f=>f
def frz(i:Nat)(ρ:ed):ed:=match ρ[i]? with
 | some (.ow ds)=>ρ.set i (.sh (.lst ds))
 | some (.oo dss)=>ρ.set i (.sh (.lst (dss.map .lst)))
 | some (.ot d dss es)=>ρ.set i (.sh (.tup [d,.lst (dss.map .lst),.lst es]))
 | _=>ρ
theorem EnvOk.let{o:Option V}{s s':Slot}(e:EnvOk G0 H0 G H σ ρ)(h1:ρ[i]?=some s)(h2:σ[i]?=some o)(gg:Same G G')(gh:Same G' H)(nw:∀b u,G' b=some u->G b=some u\/zM H o s b)
 (new:SlotOk H0 G' H o s') (foot:∀b,zM H o s' b->zM H o s b):EnvOk G0 H0 G' H σ (ρ.set i s'):=by
 have hi:i<σ.length:=(Yh.mp h2).1;have key:=e.change (i:=i) (o':=o) (s':=s') (G':=G') (H':=H) ⟨e.ext.hh,e.ext.gg.trans gg,gh,fun b u z=>by
  rcases nw b u z with w | w
  . exact e.ext.nw b u w
  . exact .inr ((e.slot i o s h2 h1).foot w).1⟩ gg
  (fun j hj o' s' g1 g2 b f'=>⟨rfl,by
   obtain⟨_,g,_⟩:=(e.slot j o' s' g1 g2).foot f';cases q:G' b with
   | none=>rfl
   | some u=>
     rcases nw b u q with w | w
     . rw[g]at w;cases w
     . exact(hj (e.dist j i _ _ _ _ b g1 g2 h2 h1 f' w)).elim⟩) new fun b f'=>.inr ⟨o,s,h2,h1,foot b f'⟩
 have e':σ.set i o=σ:=by
  refine List.ext_getElem? fun j=>?_;by_cases hj:i=j
  . subst hj;rw[YT hi,h2]
  . rw[Yz hj]
 rw[e']at key;exact key
theorem jig{u w:HO}{b:Addr}(h:upd G a u b=some w):G b=some w\/b=a:=by
 by_cases hb:b=a
 . exact .inr hb
 . rw[ji hb]at h;exact .inl h
theorem jid{u:HO}(s:Same G H)(h:H a=some u):Same (upd G a u) H:=fun b w e=>by
 by_cases hb:b=a
 . subst hb;rw[jm]at e;cases e;exact h
 . rw[ji hb]at e;exact s b w e
theorem EnvOk.freeze(e:EnvOk G0 H0 G H σ ρ)(h1:ρ[i]?=some (.ow ds))(h2:σ[i]?=some (some (.ref a)))(h3:H a=some (.lst vs))(h4:Reps G vs ds):EnvOk G0 H0 (upd G a (.lst vs)) H σ (ρ.set i (.sh (.lst ds))):=by obtain⟨b,us,q1,q2,q3,q4,q5⟩:=e.ow h1;rw[h2]at q1;cases q1;have up:Same G (upd G a (.lst vs)):=.upd q3;exact e.let h1 h2 up (jid e.same h3) (fun b u z=>jig z) (.sh (.lst (.inl jm) (h4.mono up))) fun b f=>f.elim
open Classical in
/-- the heap with more of it known -/
def more(G H:Hp)(bs:List Addr):Hp:=fun b=>if b∈bs then H b else G b
theorem JL{bs:List Addr}{b:Addr}(h:b∈bs):more G H bs b=H b:=Yq h
theorem qA{bs:List Addr}{b:Addr}(h:b∉bs):more G H bs b=G b:=YG h
theorem zX{bs:List Addr}(s:Same G H):Same G (more G H bs)/\Same (more G H bs) H:=by
 refine⟨fun b u e=>?_,fun b u e=>?_⟩
 . by_cases hb:b∈bs
   . rw[JL hb];exact s b u e
   . rw[qA hb];exact e
 . by_cases hb:b∈bs
   . rw[JL hb]at e;exact e
   . rw[qA hb]at e;exact s b u e
theorem EnvOk.half{dss:List (List D)}{bs:List Addr}(e:EnvOk G0 H0 G H σ ρ)(h1:ρ[i]?=some (.oo dss))(h2:σ[i]?=some (some (.ref a)))(h3:H a=some (.lst (bs.map V.ref)))(nd:(a::bs).Nodup)(own:∀b∈a::bs,H0 b=none/\G b=none)(rows:Rows G H bs dss):
 EnvOk G0 H0 (more G H bs) H σ (ρ.set i (.ow (dss.map .lst)))/\Reps (more G H bs) (bs.map V.ref) (dss.map D.lst):=by
 have ss:=zX (bs:=bs) e.same;have nd':=ye.mp nd;have rr:=rows.frozen ss.1 fun b hb=>JL hb;refine⟨e.let h1 h2 ss.1 ss.2 (fun b u z=>?_) (.ow (own a Yd).1 (by rw[qA nd'.1];exact(own a Yd).2) h3 rr) fun b f=>.inl f,rr⟩;by_cases hb:b∈bs
 . exact .inr ((Qq h3).mpr (Yg _ hb))
 . rw[qA hb]at z;exact .inl z
end
def EOk(t:TE)(f:ed->Option D):Prop:=∀G0 H0 G H σ ρ (Q:VK) d,EnvOk G0 H0 G H σ ρ->f ρ=some d->(∀v G' H',Ext G H G' H'->Rep G' v d->Q v H')->t σ H Q
def za(t:TE)(f:ed->Option D):Prop:=∀G0 H0 G H σ ρ (Q:VK) d,EnvOk G0 H0 G H σ ρ->f ρ=some d->(∀v G' H',Ext G H G' H'->RepT G' H' v d->Q v H')->t σ H Q
def EOkO(t:TE)(f:ed->Option (List D)):Prop:=∀G0 H0 G H σ ρ (Q:VK) ds,EnvOk G0 H0 G H σ ρ->f ρ=some ds->
 (∀a vs G' H',Ext G H G' H'->H a=none->G' a=none->H' a=some (.lst vs)->Reps G' vs ds->Q (.ref a) H')->t σ H Q
def Z1(t:TT)(f:ed->Option Bool):Prop:=∀G0 H0 G H σ ρ (Q:Bool->Hp->Prop) b,EnvOk G0 H0 G H σ ρ->f ρ=some b->(∀G' H',Ext G H G' H'->Q b H')->t σ H Q
def AOk(t:TA)(f:ed->Option (List D)):Prop:=∀G0 H0 G H σ ρ (Q:List V->Hp->Prop) ds,EnvOk G0 H0 G H σ ρ->f ρ=some ds->(∀vs G' H',Ext G H G' H'->Reps G' vs ds->Q vs H')->t σ H Q
def Qg(t:TA)(f:ed->Option (List D)):Prop:=∀G0 H0 G H σ ρ (Q:List V->Hp->Prop) ds,EnvOk G0 H0 G H σ ρ->f ρ=some ds->(∀vs G' H',Ext G H G' H'->RepTs G' H' vs ds->Q vs H')->t σ H Q
def jW(f:ed->Option (List D)):ed->Option D:=fun ρ=>(f ρ).map .lst
theorem EOkO.e{t:TE}{f:ed->Option (List D)}(h:EOkO t f):EOk t (jW f):=fun G0 H0 G H σ ρ Q d e q k=>by
 unfold jW at q;cases z:f ρ with
 | none=>rw[z]at q;cases q
 | some ds=>rw[z]at q;cases q;exact h G0 H0 G H σ ρ Q ds e z fun a vs G' H' x hn hg ha r=>k _ _ _ (x.freeze hn hg ha) (.lst (.inl jm) (r.mono (.upd hg)))
theorem EOk.t{t:TE}{f:ed->Option D}(h:EOk t f):za t f:=fun G0 H0 G H σ ρ Q d e q k=>h G0 H0 G H σ ρ Q d e q fun v G' H' x r=>k v G' H' x (r.top x.gh)
theorem AOk.t{t:TA}{f:ed->Option (List D)}(h:AOk t f):Qg t f:=fun G0 H0 G H σ ρ Q d e q k=>h G0 H0 G H σ ρ Q d e q fun v G' H' x r=>k v G' H' x (by
 clear k e q;induction r using Reps.rec (motive_1:=fun _ _ _=>True)with
 | nil=>exact .nil
 | cons r _ _ ih=>exact .cons (r.top x.gh) ih
 | _=>trivial)
def jz(i:Nat):ed->Option D:=fun ρ=>match ρ[i]? with
 | some (.sh d)=>some d
 | _=>none
def ja(i:Nat):ed->Option D:=fun ρ=>match ρ[i]? with
 | some (.sh d)=>some d
 | some (.ow ds)=>some (.lst ds)
 | some (.od ks ds)=>some (.dic ks ds)
 | _=>none
def eC(d:D):ed->Option D:=fun _=>some d
theorem jjW(i:Nat):EOk (Z5 i) (jz i):=fun G0 H0 G H σ ρ Q d e q k=>by
 unfold jz at q;split at q
 . rename_i d' h;cases q;obtain⟨v,h1,r⟩:=e.sh h;exact⟨v,h1,k v G H (.refl e.same) r⟩
 . cases q
theorem jil(i:Nat):za (Z5 i) (ja i):=fun G0 H0 G H σ ρ Q d e q k=>by
 unfold ja at q;split at q
 . rename_i d' h;cases q;obtain⟨v,h1,r⟩:=e.sh h;exact⟨v,h1,k v G H (.refl e.same) (r.top e.same)⟩
 . rename_i ds h;cases q;obtain⟨a,vs,h1,_,_,h2,r⟩:=e.ow h;exact⟨_,h1,k _ G H (.refl e.same) (.lst (.inl h2) r)⟩
 . rename_i ks ds h;cases q;obtain⟨a,vs,h1,_,_,h2,hl,r⟩:=e.od h;exact⟨_,h1,k _ G H (.refl e.same) (.dic (.inl h2) hl r)⟩
 . cases q
theorem jha{i:Int}:EOk (tC (.int i)) (eC (.int i)):=fun G0 H0 G H σ ρ Q d e q k=>by cases q;exact k _ G H (.refl e.same) (.int i)
theorem jk9{i:Bool}:EOk (tC (.bl i)) (eC (.bl i)):=fun G0 H0 G H σ ρ Q d e q k=>by cases q;exact k _ G H (.refl e.same) (.bl i)
theorem jg7{i:Str}:EOk (tC (.str i)) (eC (.str i)):=fun G0 H0 G H σ ρ Q d e q k=>by cases q;exact k _ G H (.refl e.same) (.str i)
def ZW(r:R2)(f:D->D->Option D):Prop:=∀G H x y dx dy d (Q:VK),Same G H->RepT G H x dx->RepT G H y dy->f dx dy=some d->(∀v G' H',Ext G H G' H'->Rep G' v d->Q v H')->r x y H Q
def jkt(r:R2)(f:D->D->Option (List D)):Prop:=∀G H x y dx dy ds (Q:VK),Same G H->RepT G H x dx->RepT G H y dy->f dx dy=some ds->
 (∀a vs G' H',Ext G H G' H'->H a=none->G' a=none->H' a=some (.lst vs)->Reps G' vs ds->Q (.ref a) H')->r x y H Q
def jo{β:Type}(f:D->D->Option β)(a b:ed->Option D):ed->Option β:=fun ρ=>(a ρ).bind fun x=>(b ρ).bind fun y=>f x y
section
variable{ta tb tc:TE}{fa fb fc:ed->Option D}{r r':R2}{f f':D->D->Option D}
theorem jgT(h:ZW r f)(ha:za ta fa)(hb:za tb fb):EOk (tOp r ta tb) (jo f fa fb):=fun G0 H0 G H σ ρ Q d e q k=>by obtain⟨x,qa,q⟩:=bind_some q;obtain⟨y,qb,q⟩:=bind_some q;refine ha G0 H0 G H σ ρ _ x e qa fun u G1 H1 x1 r1=>?_;refine hb G0 H0 G1 H1 σ ρ _ y (e.grow x1) qb fun v G2 H2 x2 r2=>?_;exact h G2 H2 u v x y d Q x2.gh (r1.mono x2.gg x2.hh) r2 q fun w G3 H3 x3 r3=>k w G3 H3 ((x1.trans x2).trans x3) r3
theorem jkI{f:D->D->Option (List D)}(h:jkt r f)(ha:za ta fa)(hb:za tb fb):EOkO (tOp r ta tb) (jo f fa fb):=fun G0 H0 G H σ ρ Q d e q k=>by obtain⟨x,qa,q⟩:=bind_some q;obtain⟨y,qb,q⟩:=bind_some q;refine ha G0 H0 G H σ ρ _ x e qa fun u G1 H1 x1 r1=>?_;refine hb G0 H0 G1 H1 σ ρ _ y (e.grow x1) qb fun v G2 H2 x2 r2=>?_;exact h G2 H2 u v x y d Q x2.gh (r1.mono x2.gg x2.hh) r2 q fun w vs G3 H3 x3 hn hg hh r3=>k w vs G3 H3 ((x1.trans x2).trans x3) ((x1.hh.trans x2.hh).free hn) hg hh r3
def dI0(g:Int->Int->D):D->D->Option D
 | .int i,.int j=>some (g i j)
 | _,_=>none
def dI(C:Int->Int->Prop)[∀i j,Decidable (C i j)](g:Int->Int->D):D->D->Option D
 | .int i,.int j=>if C i j then some (g i j)else none
 | _,_=>none
theorem j3{α:Type}{P:Prop}{d:α}(h:none=some d):P:=nomatch h
theorem jgt{m:Int->Int->D}{x y d:D}(q:dI0 m x y=some d):∃i j,x=.int i/\y=.int j/\m i j=d:=by
 cases x with
 | int i=>
   cases y with
   | int j=>exact⟨i,j,rfl,rfl,Option.some.inj q⟩
   | _=>exact j3 q
 | _=>exact j3 q
theorem jhR{C:Int->Int->Prop}[∀i j,Decidable (C i j)]{m:Int->Int->D}{x y d:D}(q:dI C m x y=some d):∃i j,x=.int i/\y=.int j/\C i j/\m i j=d:=by
 cases x with
 | int i=>
   cases y with
   | int j=>
     by_cases c:C i j
     . exact⟨i,j,rfl,rfl,c,Option.some.inj ((Yq c).symm.trans q)⟩
     . exact j3 ((YG c).symm.trans q)
   | _=>exact j3 q
 | _=>exact j3 q
theorem jdT{g:Int->Int->V}{m:Int->Int->D}(hg:∀G i j,Rep G (g i j) (m i j)):ZW (rI0 g) (dI0 m):=fun G H x y dx dy d Q s rx ry q k=>by
 obtain⟨i,j,rfl,rfl,rfl⟩:=jgt q
 (have hh:=RepT.of_int rx;subst hh)
 (have hh:=RepT.of_int ry;subst hh)
 exact⟨_,_,rfl,rfl,k _ G H (.refl s) (hg _ _ _)⟩
theorem o_I{C:Int->Int->Prop}[∀i j,Decidable (C i j)]{g:Int->Int->V}{m:Int->Int->D}(hg:∀G i j,Rep G (g i j) (m i j)):ZW (rI C g) (dI C m):=fun G H x y dx dy d Q s rx ry q k=>by
 obtain⟨i,j,rfl,rfl,hc,rfl⟩:=jhR q
 (have hh:=RepT.of_int rx;subst hh)
 (have hh:=RepT.of_int ry;subst hh)
 exact⟨_,_,rfl,rfl,hc,k _ G H (.refl s) (hg _ _ _)⟩
instance (i j:Int):Decidable (jdh i j):=inferInstanceAs (Decidable (_/\_))
instance (i j:Int):Decidable (jbO i j):=inferInstanceAs (Decidable (_/\_))
def zj:=dI0 fun i j=>.int (i+j)
def ZE:=dI0 fun i j=>.int (i-j)
def zo:=dI CMulB fun i j=>.int (i*j)
def Ji:=dI jdh fun i j=>.int (i/j)
def ql:=dI (fun _ j=>0<j) fun i j=>.int (i%j)
def Ju:=dI jbO fun i j=>.int (i ^ j.toNat)
def dLt:=dI0 fun i j=>.bl (decide (i<j))
def dLe:=dI0 fun i j=>.bl (decide (i<=j))
def dGt:=dI0 fun i j=>.bl (decide (j<i))
def dGe:=dI0 fun i j=>.bl (decide (j<=i))
theorem jj9:ZW (rI0 fun i j=>.int (i+j)) zj:=jdT fun _ _ _=>.int _
theorem jkj:ZW (rI0 fun i j=>.int (i-j)) ZE:=jdT fun _ _ _=>.int _
theorem jkk:ZW (rI CMulB fun i j=>.int (i*j)) zo:=o_I fun _ _ _=>.int _
theorem jkD:ZW (rI jdh fun i j=>.int (i/j)) Ji:=o_I fun _ _ _=>.int _
theorem jjn:ZW (rI (fun _ j=>0<j) fun i j=>.int (i%j)) ql:=o_I fun _ _ _=>.int _
theorem jkC:ZW (rI jbO fun i j=>.int (i ^ j.toNat)) Ju:=o_I fun _ _ _=>.int _
theorem jlw:ZW (rI0 fun i j=>.bl (decide (i<j))) dLt:=jdT fun _ _ _=>.bl _
theorem jlc:ZW (rI0 fun i j=>.bl (decide (i<=j))) dLe:=jdT fun _ _ _=>.bl _
theorem jk8:ZW (rI0 fun i j=>.bl (decide (j<i))) dGt:=jdT fun _ _ _=>.bl _
theorem jlh:ZW (rI0 fun i j=>.bl (decide (j<=i))) dGe:=jdT fun _ _ _=>.bl _
def zG:D->D->Option D
 | .lst l,.int i=>atI l i
 | .tup l,.int i=>atI l i
 | .scr ns,.int i=>(atI ns i).map .int
 | .str z,.int i=>if z.length<=sizeLine then(atI z.cps.toList i).map fun c=>.str ⟨#[c]⟩else none
 | _,_=>none
theorem Reps.atI{G:Hp}{vs:List V}{ds:List D}{i:Int}{d:D}(r:Reps G vs ds)(h:L2.atI ds i=some d):∃v,L2.atI vs i=some v/\Rep G v d:=by unfold L2.atI at h ⊢;rw[r.length];obtain⟨j,h1,h2⟩:=bind_some h;obtain⟨v,h3,h4⟩:=r.get h2;exact⟨v,by rw[h1];exact h3,h4⟩
theorem jgF{x y d:D}(q:zG x y=some d):∃i,y=.int i/\((∃l,x=.lst l/\atI l i=some d)\/(∃l,x=.tup l/\atI l i=some d)\/(∃ns n,x=.scr ns/\atI ns i=some n/\d=.int n)\/∃z c,x=.str z/\z.length<=sizeLine/\atI z.cps.toList i=some c/\d=.str ⟨#[c]⟩):=by
 cases y with
 | int i=>
   refine⟨i,rfl,?_⟩;cases x with
   | lst l=>exact .inl ⟨l,rfl,q⟩
   | tup l=>exact .inr (.inl ⟨l,rfl,q⟩)
   | scr ns=>obtain⟨n,h1,h2⟩:=map_some (show(atI ns i).map D.int=some d from q);exact .inr (.inr (.inl ⟨ns,n,rfl,h1,h2.symm⟩))
   | str z=>
     have q':(if z.length<=sizeLine then(atI z.cps.toList i).map fun c=>D.str ⟨#[c]⟩else none)=some d:=q;by_cases c:z.length<=sizeLine
     . rw[Yq c]at q';obtain⟨n,h1,h2⟩:=map_some q';exact .inr (.inr (.inr ⟨z,n,rfl,c,h1,h2.symm⟩))
     . rw[YG c]at q';exact j3 q'
   | _=>exact j3 q
 | _=>exact j3 (show none=some d from by cases x <;> exact q)
theorem jlA:ZW (rIx Fr.K) zG:=fun G H x y dx dy d Q s rx ry q k=>by
 obtain⟨i,rfl,z⟩:=jgF q
 (have hh:=RepT.of_int ry;subst hh)
 rcases z with⟨l,rfl,q⟩ | ⟨l,rfl,q⟩ | ⟨ns,n,rfl,e,rfl⟩ | ⟨z,c,rfl,hz,e,rfl⟩
 . cases rx with
   | lst h r=>obtain⟨v,h1,h2⟩:=r.atI q;exact .inl ⟨_,_,_,v,rfl,rfl,.inl h,h1,k v G H (.refl s) h2⟩
 . cases rx with
   | tup h r=>obtain⟨v,h1,h2⟩:=r.atI q;exact .inr (.inl ⟨_,_,_,v,rfl,rfl,.inl (.inl h),h1,k v G H (.refl s) h2⟩)
 . cases rx with
   | scr h=>exact .inl ⟨_,_,_,_,rfl,rfl,h,by rw[jgx,e];rfl,k _ G H (.refl s) (.int n)⟩
 . cases rx with
   | str z=>exact .inr (.inr ⟨_,_,c,rfl,rfl,hz,e,k _ G H (.refl s) (.str _)⟩)
def jcq(fa:ed->Option D):ed->Option D:=fun ρ=>match fa ρ with
 | some (.int i)=>some (.int (-i))
 | _=>none
theorem jjF(ha:za ta fa):EOk (tUn (rU fun i=>.int (-i)) ta) (jcq fa):=fun G0 H0 G H σ ρ Q d e q k=>by
 unfold jcq at q;split at q
 . rename_i i h;cases q;refine ha G0 H0 G H σ ρ _ _ e h fun v G' H' x r=>?_
   (have hh:=RepT.of_int r;subst hh)
   exact⟨_,rfl,k _ G' H' x (.int _)⟩
 . cases q
def qF(fa:ed->Option D):ed->Option Bool:=fun ρ=>match fa ρ with
 | some (.bl b)=>some b
 | _=>none
theorem J6(ha:za ta fa){G0 H0 G H:Hp}{σ:St}{ρ:ed}{b:Bool}{Q:VK}(e:EnvOk G0 H0 G H σ ρ)(q:qF fa ρ=some b)(k:∀G' H',Ext G H G' H'->Q (.bl b) H'):ta σ H Q:=by
 unfold qF at q;split at q
 . rename_i i h;cases q;refine ha G0 H0 G H σ ρ _ _ e h fun v G' H' x r=>?_
   (have hh:=RepT.of_bl r;subst hh)
   exact k G' H' x
 . cases q
def jb4(fa:ed->Option D):ed->Option D:=fun ρ=>(qF fa ρ).map fun b=>.bl (!b)
theorem jkF(ha:za ta fa):EOk (jhj ta) (jb4 fa):=fun G0 H0 G H σ ρ Q d e q k=>by
 unfold jb4 at q;cases h:qF fa ρ with
 | none=>rw[h]at q;cases q
 | some b=>rw[h]at q;cases q;exact J6 ha e h fun G' H' x=>⟨_,rfl,k _ G' H' x (.bl _)⟩
def Q7(fa fb:ed->Option D):ed->Option D:=fun ρ=>match qF fa ρ with
 | some true=>fb ρ
 | some false=>some (.bl false)
 | none=>none
def eOr(fa fb:ed->Option D):ed->Option D:=fun ρ=>match qF fa ρ with
 | some true=>some (.bl true)
 | some false=>fb ρ
 | none=>none
theorem jjY(ha:za ta fa)(hb:EOk tb fb):EOk (jhs ta tb) (Q7 fa fb):=fun G0 H0 G H σ ρ Q d e q k=>by
 unfold Q7 at q;split at q
 . rename_i h;exact J6 ha e h fun G' H' x=>⟨true,rfl,by rw[Yq rfl];exact hb _ _ _ _ _ _ _ _ (e.grow x) q fun v G2 H2 x2 r=>k v G2 H2 (x.trans x2) r⟩
 . rename_i h;cases q;exact J6 ha e h fun G' H' x=>⟨false,rfl,by rw[YG Ya];exact k _ G' H' x (.bl _)⟩
 . cases q
theorem jlo(ha:za ta fa)(hb:EOk tb fb):EOk (jjO ta tb) (eOr fa fb):=fun G0 H0 G H σ ρ Q d e q k=>by
 unfold eOr at q;split at q
 . rename_i h;cases q;exact J6 ha e h fun G' H' x=>⟨true,rfl,by rw[Yq rfl];exact k _ G' H' x (.bl _)⟩
 . rename_i h;exact J6 ha e h fun G' H' x=>⟨false,rfl,by rw[YG Ya];exact hb _ _ _ _ _ _ _ _ (e.grow x) q fun v G2 H2 x2 r=>k v G2 H2 (x.trans x2) r⟩
 . cases q
def qT(f f':D->D->Option D)(fa fb fc:ed->Option D):ed->Option D:=fun ρ=>(fa ρ).bind fun x=>(fb ρ).bind fun y=>(f x y).bind fun z=>match z with
 | .bl true=>(fc ρ).bind fun w=>f' y w
 | .bl false=>some (.bl false)
 | _=>none
theorem jdA(h:ZW r f)(h':ZW r' f')(ha:za ta fa)(hb:za tb fb)(hc:za tc fc):EOk (jcI r r' ta tb tc) (qT f f' fa fb fc):=fun G0 H0 G H σ ρ Q d e q k=>by
 obtain⟨x,qa,q⟩:=bind_some q;obtain⟨y,qb,q⟩:=bind_some q;obtain⟨z,qz,q⟩:=bind_some q;refine ha G0 H0 G H σ ρ _ x e qa fun u G1 H1 x1 r1=>?_;refine hb G0 H0 G1 H1 σ ρ _ y (e.grow x1) qb fun v G2 H2 x2 r2=>?_;refine h G2 H2 u v x y z _ x2.gh (r1.mono x2.gg x2.hh) r2 qz fun w G3 H3 x3 r3=>?_;cases r3 with
 | bl b=>
   refine⟨b,rfl,?_⟩;cases b with
   | false=>rw[YG Ya];cases q;exact k _ G3 H3 ((x1.trans x2).trans x3) (.bl _)
   | true=>rw[Yq rfl];obtain⟨w,qc,q⟩:=bind_some q;refine hc G0 H0 G3 H3 σ ρ _ w (e.grow ((x1.trans x2).trans x3)) qc fun w' G4 H4 x4 r4=>?_;exact h' G4 H4 v w' y w d Q x4.gh (r2.mono (x3.trans x4).gg (x3.trans x4).hh) r4 q fun z G5 H5 x5 r5=>k z G5 H5 ((((x1.trans x2).trans x3).trans x4).trans x5) r5
 | _=>cases q
theorem t_B(ha:za ta fa):Z1 (tB ta) (qF fa):=fun G0 H0 G H σ ρ Q b e q k=>J6 ha e q fun G' H' x=>⟨b,rfl,k G' H' x⟩
theorem jfa(ha:za ta fa):Z1 (jfA ta) (qF fa):=fun G0 H0 G H σ ρ Q b e q k=>J6 ha e q fun G' H' x=>⟨b,rfl,k G' H' x⟩
variable{ca cb:TT}{ga gb:ed->Option Bool}
def jcp(ga gb:ed->Option Bool):ed->Option Bool:=fun ρ=>match ga ρ with
 | some true=>gb ρ
 | some false=>some false
 | none=>none
def bOr(ga gb:ed->Option Bool):ed->Option Bool:=fun ρ=>match ga ρ with
 | some true=>some true
 | some false=>gb ρ
 | none=>none
def zm(ga:ed->Option Bool):ed->Option Bool:=fun ρ=>(ga ρ).map (!·)
theorem jfo(ha:Z1 ca ga)(hb:Z1 cb gb):Z1 (jkQ ca cb) (jcp ga gb):=fun G0 H0 G H σ ρ Q b e q k=>by
 unfold jcp at q;split at q
 . rename_i h;exact ha _ _ _ _ _ _ _ _ e h fun G' H' x=>by rw[Yq rfl];exact hb _ _ _ _ _ _ _ _ (e.grow x) q fun G2 H2 x2=>k G2 H2 (x.trans x2)
 . rename_i h;cases q;exact ha _ _ _ _ _ _ _ _ e h fun G' H' x=>by rw[YG Ya];exact k G' H' x
 . cases q
theorem jlG(ha:Z1 ca ga)(hb:Z1 cb gb):Z1 (tOr ca cb) (bOr ga gb):=fun G0 H0 G H σ ρ Q b e q k=>by
 unfold bOr at q;split at q
 . rename_i h;cases q;exact ha _ _ _ _ _ _ _ _ e h fun G' H' x=>by rw[Yq rfl];exact k G' H' x
 . rename_i h;exact ha _ _ _ _ _ _ _ _ e h fun G' H' x=>by rw[YG Ya];exact hb _ _ _ _ _ _ _ _ (e.grow x) q fun G2 H2 x2=>k G2 H2 (x.trans x2)
 . cases q
theorem zN(ha:Z1 ca ga):Z1 (jkq ca) (zm ga):=fun G0 H0 G H σ ρ Q b e q k=>by
 unfold zm at q;cases h:ga ρ with
 | none=>rw[h]at q;cases q
 | some c=>rw[h]at q;cases q;exact ha _ _ _ _ _ _ _ _ e h fun G' H' x=>k G' H' x
theorem jiN:Z1 jhb (fun _=>some true):=fun G0 H0 G H σ ρ Q b e q k=>by cases q;exact k G H (.refl e.same)
def eIf(ga:ed->Option Bool)(fa fb:ed->Option D):ed->Option D:=fun ρ=>match ga ρ with
 | some true=>fa ρ
 | some false=>fb ρ
 | none=>none
theorem jlD(hc:Z1 ca ga)(ha:EOk ta fa)(hb:EOk tb fb):EOk (tIf ca ta tb) (eIf ga fa fb):=fun G0 H0 G H σ ρ Q d e q k=>by
 unfold eIf at q;split at q
 . rename_i h;exact hc _ _ _ _ _ _ _ _ e h fun G' H' x=>by rw[Yq rfl];exact ha _ _ _ _ _ _ _ _ (e.grow x) q fun v G2 H2 x2 r=>k v G2 H2 (x.trans x2) r
 . rename_i h;exact hc _ _ _ _ _ _ _ _ e h fun G' H' x=>by rw[YG Ya];exact hb _ _ _ _ _ _ _ _ (e.grow x) q fun v G2 H2 x2 r=>k v G2 H2 (x.trans x2) r
 . cases q
end
section
variable{ta tb tc:TE}{fa fb fc:ed->Option D}{As:TA}{fs:ed->Option (List D)}
def jl:ed->Option (List D):=fun _=>some []
def jd(fa:ed->Option D)(fs:ed->Option (List D)):ed->Option (List D):=fun ρ=>(fa ρ).bind fun d=>(fs ρ).map (d::·)
theorem ZK{ρ:ed}{ds:List D}(h:jd fa fs ρ=some ds):∃d es,fa ρ=some d/\fs ρ=some es/\ds=d::es:=by
 obtain⟨d,h1,h2⟩:=bind_some h;cases z:fs ρ with
 | none=>rw[z]at h2;cases h2
 | some es=>rw[z]at h2;cases h2;exact⟨d,es,h1,rfl,rfl⟩
theorem a_nil:AOk Z8 jl:=fun G0 H0 G H σ ρ Q d e q k=>by cases q;exact k [] G H (.refl e.same) .nil
theorem jif(ha:EOk ta fa)(hs:AOk As fs):AOk (Jo ta As) (jd fa fs):=fun G0 H0 G H σ ρ Q ds e q k=>by obtain⟨d,es,q1,q2,rfl⟩:=ZK q;refine ha _ _ _ _ _ _ _ _ e q1 fun v G1 H1 x1 r1=>hs _ _ _ _ _ _ _ _ (e.grow x1) q2 fun vs G2 H2 x2 r2=>?_;exact k _ G2 H2 (x1.trans x2) (.cons (r1.mono x2.gg) r2)
theorem jaR:Qg Z8 jl:=a_nil.t
theorem Zd(ha:za ta fa)(hs:Qg As fs):Qg (Jo ta As) (jd fa fs):=fun G0 H0 G H σ ρ Q ds e q k=>by obtain⟨d,es,q1,q2,rfl⟩:=ZK q;refine ha _ _ _ _ _ _ _ _ e q1 fun v G1 H1 x1 r1=>hs _ _ _ _ _ _ _ _ (e.grow x1) q2 fun vs G2 H2 x2 r2=>?_;exact k _ G2 H2 (x1.trans x2) (.cons (r1.mono x2.gg x2.hh) r2)
def Jn(n:Nat):Bool:=decide (n<sizeLine)
def jc0(fs:ed->Option (List D)):ed->Option D:=fun ρ=>(fs ρ).bind fun ds=>if Jn ds.length then some (.tup ds)else none
def Jt(fs:ed->Option (List D)):ed->Option (List D):=fun ρ=>(fs ρ).bind fun ds=>if Jn ds.length then some ds else none
theorem jbB{n:Nat}(h:Jn n=true):n<=sizeLine:=yK (yy h)
theorem Qz{n:Nat}(h:Jn n=true):n<sizeLine:=yy h
theorem jki(h:AOk As fs):EOk (ji9 As) (jc0 fs):=fun G0 H0 G H σ ρ Q d e q k=>by
 obtain⟨ds,q1,q2⟩:=bind_some q;split at q2
 . rename_i hz;cases q2;refine h _ _ _ _ _ _ _ _ e q1 fun vs G1 H1 x1 r1=>⟨by rw[r1.length];exact jbB hz,fun p hp=>?_⟩;have hg:G1 p=none:=x1.gh.free hp;have x2:Ext G1 H1 (upd G1 p (.tup vs)) (upd H1 p (.tup vs)):=(Ext.new x1.gh hp).freeze hp hg jm;exact k _ _ _ (x1.trans x2) (.tup jm (r1.mono x2.gg))
 . cases q2
theorem jj4(h:AOk As fs):EOkO (jj5 As) (Jt fs):=fun G0 H0 G H σ ρ Q d e q k=>by
 obtain⟨ds,q1,q2⟩:=bind_some q;split at q2
 . rename_i hz;cases q2;refine h _ _ _ _ _ _ _ _ e q1 fun vs G1 H1 x1 r1=>⟨by rw[r1.length];exact jbB hz,fun p hp=>?_⟩;exact k p vs G1 _ (x1.trans (.new x1.gh hp)) (x1.hh.free hp) (x1.gh.free hp) jm r1
 . cases q2
def Z6(r:List V->Hp->VK->Prop)(f:List D->Option D):Prop:=∀G H xs ds d (Q:VK),Same G H->RepTs G H xs ds->f ds=some d->(∀v G' H',Ext G H G' H'->Rep G' v d->Q v H')->r xs H Q
def jeP(r:List V->Hp->VK->Prop)(f:List D->Option (List D)):Prop:=∀G H xs ds es (Q:VK),Same G H->RepTs G H xs ds->f ds=some es->
 (∀a vs G' H',Ext G H G' H'->H a=none->G' a=none->H' a=some (.lst vs)->Reps G' vs es->Q (.ref a) H')->r xs H Q
def jj{β:Type}(f:List D->Option β)(fs:ed->Option (List D)):ed->Option β:=fun ρ=>(fs ρ).bind f
theorem jkm{r:List V->Hp->VK->Prop}{f:List D->Option D}(h:Z6 r f)(ha:Qg As fs):EOk (tCB r As) (jj f fs):=fun G0 H0 G H σ ρ Q d e q k=>by obtain⟨ds,q1,q2⟩:=bind_some q;exact ha _ _ _ _ _ _ _ _ e q1 fun vs G1 H1 x1 r1=>h G1 H1 vs ds d Q x1.gh r1 q2 fun v G2 H2 x2 r2=>k v G2 H2 (x1.trans x2) r2
theorem jjQ{r:List V->Hp->VK->Prop}{f:List D->Option (List D)}(h:jeP r f)(ha:Qg As fs):EOkO (tCB r As) (jj f fs):=fun G0 H0 G H σ ρ Q d e q k=>by obtain⟨ds,q1,q2⟩:=bind_some q;exact ha _ _ _ _ _ _ _ _ e q1 fun vs G1 H1 x1 r1=>h G1 H1 vs ds d Q x1.gh r1 q2 fun a us G2 H2 x2 hn hg hh r2=>k a us G2 H2 (x1.trans x2) (x1.hh.free hn) hg hh r2
def Z2(f:List D->Option D):Sp:=fun vs H Q _=>∃G ds d,Same G H/\Reps G vs ds/\f ds=some d/\∀v G' H',Ext G H G' H'->Rep G' v d->Q v H'
def spO(f:List D->Option (List D)):Sp:=fun vs H Q _=>∃G ds es,Same G H/\Reps G vs ds/\f ds=some es/\∀a us G' H',Ext G H G' H'->H a=none->G' a=none->H' a=some (.lst us)->Reps G' us es->Q (.ref a) H'
theorem jh6{f:List D->Option D}{E:XK}(ha:AOk As fs):EOk (jdt (Z2 f) [] E As) (jj f fs):=fun G0 H0 G H σ ρ Q d e q k=>by obtain⟨ds,q1,q2⟩:=bind_some q;exact ha _ _ _ _ _ _ _ _ e q1 fun vs G1 H1 x1 r1=>⟨G1,ds,d,x1.gh,by rw[yo];exact r1,q2,fun v G2 H2 x2 r2=>k v G2 H2 (x1.trans x2) r2⟩
theorem jf9{f:List D->Option (List D)}{E:XK}(ha:AOk As fs):EOkO (jdt (spO f) [] E As) (jj f fs):=fun G0 H0 G H σ ρ Q d e q k=>by obtain⟨ds,q1,q2⟩:=bind_some q;exact ha _ _ _ _ _ _ _ _ e q1 fun vs G1 H1 x1 r1=>⟨G1,ds,d,x1.gh,by rw[yo];exact r1,q2,fun a us G2 H2 x2 hn hg hh r2=>k a us G2 H2 (x1.trans x2) (x1.hh.free hn) hg hh r2⟩
end
inductive Res where
 | next (ρ:ed) | ret (d:D) | retO (ds:List D) | retT (d:D) (dss:List (List D)) (es:List D) | retOO (dss:List (List D)) | brk (ρ:ed) | cnt (ρ:ed) | fail
def ResOk(G0 H0 Gc:Hp)(r:Res)(E:Ends):Prop:=match r with
 | .next ρ=>∀G H σ,Same Gc G->EnvOk G0 H0 G H σ ρ->E.nx σ H
 | .brk ρ=>∀G H σ,Same Gc G->EnvOk G0 H0 G H σ ρ->E.bk σ H
 | .cnt ρ=>∀G H σ,Same Gc G->EnvOk G0 H0 G H σ ρ->E.ct σ H
 | .ret d=>∀G H v,Ext G0 H0 G H->Rep G v d->E.rt v H
 | .retO ds=>∀G H a vs,Ext G0 H0 G H->H0 a=none->G a=none->H a=some (.lst vs)->Reps G vs ds->E.rt (.ref a) H
 | .retT d dss es=>∀G H t a c bs v us,Ext G0 H0 G H->H t=some (.tup [v,.ref a,.ref c])->H a=some (.lst (bs.map V.ref))->H c=some (.lst us)->(t::c::a::bs).Nodup->(∀b∈t::c::a::bs,H0 b=none/\G b=none)->Rep G v d->Rows G H bs dss->Reps G us es->E.rt (.ref t) H
 | .retOO dss=>∀G H a bs,Ext G0 H0 G H->(∀b∈a::bs,H0 b=none/\G b=none)->(a::bs).Nodup->H a=some (.lst (bs.map V.ref))->Rows G H bs dss->E.rt (.ref a) H
 | .fail=>False
theorem ResOk.mono{G0 H0 G G':Hp}{r:Res}{E:Ends}(s:Same G G')(h:ResOk G0 H0 G r E):ResOk G0 H0 G' r E:=by
 cases r with
 | next ρ=>exact fun G2 H2 σ s2 e=>h G2 H2 σ (s.trans s2) e
 | brk ρ=>exact fun G2 H2 σ s2 e=>h G2 H2 σ (s.trans s2) e
 | cnt ρ=>exact fun G2 H2 σ s2 e=>h G2 H2 σ (s.trans s2) e
 | ret d=>exact h
 | retO d=>exact h
 | retT d dss es=>exact h
 | retOO dss=>exact h
 | fail=>exact h
abbrev FS:=ed->Res
def Q8(t:TS)(F:FS):Prop:=∀G0 H0 G H σ ρ E,EnvOk G0 H0 G H σ ρ->ResOk G0 H0 G (F ρ) E->t E σ H
section
variable{t u:TS}{F F':FS}{te:TE}{fe:ed->Option D}{fo:ed->Option (List D)}{tc:TT}{fc:ed->Option Bool}
def j6:FS:=.next
theorem jih:Q8 Qt j6:=fun G0 H0 G H σ ρ E e h=>h G H σ (.refl _) e
def jI(F F':FS):FS:=fun ρ=>match F ρ with
 | .next ρ'=>F' ρ'
 | r=>r
theorem jkB(h:Q8 t F)(h':Q8 u F'):Q8 (jaa t u) (jI F F'):=fun G0 H0 G H σ ρ E e q=>by
 refine h G0 H0 G H σ ρ _ e ?_;unfold jI at q;cases z:F ρ with
 | next ρ'=>rw[z]at q;exact fun G' H' σ' s' e'=>h' G0 H0 G' H' σ' ρ' E e' (q.mono s')
 | ret d=>rw[z]at q;exact q
 | retO d=>rw[z]at q;exact q
 | retT d dss es=>rw[z]at q;exact q
 | retOO dss=>rw[z]at q;exact q
 | brk d=>rw[z]at q;exact q
 | cnt d=>rw[z]at q;exact q
 | fail=>rw[z]at q;exact q
def jaw(fe:ed->Option D):FS:=fun ρ=>match fe ρ with
 | some _=>.next ρ
 | none=>.fail
theorem jjf(h:za te fe):Q8 (jbF te) (jaw fe):=fun G0 H0 G H σ ρ E e q=>by
 unfold jaw at q;split at q
 . rename_i d z;exact h _ _ _ _ _ _ _ _ e z fun v G' H' x r=>q G' H' σ x.gg (e.grow x)
 . exact q.elim
def qx(fe:ed->Option D):FS:=fun ρ=>match fe ρ with
 | some d=>.ret d
 | none=>.fail
theorem jjE(h:EOk te fe):Q8 (jfC te) (qx fe):=fun G0 H0 G H σ ρ E e q=>by
 unfold qx at q;split at q
 . rename_i d z;exact h _ _ _ _ _ _ _ _ e z fun v G' H' x r=>q G' H' v (e.ext.trans x) r
 . exact q.elim
def ZN(fo:ed->Option (List D)):FS:=fun ρ=>match fo ρ with
 | some d=>.retO d
 | none=>.fail
theorem jhY(h:EOkO te fo):Q8 (jfC te) (ZN fo):=fun G0 H0 G H σ ρ E e q=>by
 unfold ZN at q;split at q
 . rename_i d z;exact h _ _ _ _ _ _ _ _ e z fun a vs G' H' x hn hg hh r=>q G' H' a vs (e.ext.trans x) (e.ext.hh.free hn) hg hh r
 . exact q.elim
def jdq(i:Nat):FS:=fun ρ=>match ρ[i]? with
 | some (.ow ds)=>.retO ds
 | _=>.fail
theorem jhL(i:Nat):Q8 (jfC (Z5 i)) (jdq i):=fun G0 H0 G H σ ρ E e q=>by
 unfold jdq at q;split at q
 . rename_i ds z;obtain⟨a,vs,h1,h2,h3,h4,h5⟩:=e.ow z;exact⟨_,h1,q G H a vs e.ext h2 h3 h4 h5⟩
 . exact q.elim
def J0(fc:ed->Option Bool)(F F':FS):FS:=fun ρ=>match fc ρ with
 | some true=>F ρ
 | some false=>F' ρ
 | none=>.fail
theorem jll(hc:Z1 tc fc)(h:Q8 t F)(h':Q8 u F'):Q8 (jaW tc t u) (J0 fc F F'):=fun G0 H0 G H σ ρ E e q=>by
 unfold J0 at q;split at q
 . rename_i z;exact hc _ _ _ _ _ _ _ _ e z fun G' H' x=>by rw[Yq rfl];exact h _ _ _ _ _ _ _ (e.grow x) (q.mono x.gg)
 . rename_i z;exact hc _ _ _ _ _ _ _ _ e z fun G' H' x=>by rw[YG Ya];exact h' _ _ _ _ _ _ _ (e.grow x) (q.mono x.gg)
 . exact q.elim
def jU(i:Nat)(fe:ed->Option D):FS:=fun ρ=>match fe ρ with
 | some d=>.next (ρ.set i (.sh d))
 | none=>.fail
theorem jhq(i:Nat)(h:EOk te fe):Q8 (jaT te (J2 i)) (jU i fe):=fun G0 H0 G H σ ρ E e q=>by
 unfold jU at q;split at q
 . rename_i d z;exact h _ _ _ _ _ _ _ _ e z fun v G' H' x r=>q G' H' _ x.gg ((e.grow x).set r)
 . exact q.elim
def jda(i:Nat)(fo:ed->Option (List D)):FS:=fun ρ=>match fo ρ with
 | some d=>.next (ρ.set i (.ow d))
 | none=>.fail
theorem jij(i:Nat)(h:EOkO te fo):Q8 (jaT te (J2 i)) (jda i fo):=fun G0 H0 G H σ ρ E e q=>by
 unfold jda at q;split at q
 . rename_i d z;exact h _ _ _ _ _ _ _ _ e z fun a vs G' H' x hn hg hh r=>q G' H' _ x.gg (e.setO x hn hg hh r)
 . exact q.elim
theorem Ext.back{G G' H:Hp}(sg:Same G G')(gh:Same G' H):∀G2 H2,Ext G' H G2 H2->∃G3,Ext G H G3 H2/\∀v d,j9 d=true->Rep G2 v d->Rep G3 v d:=fun G2 H2 x=>by
 refine⟨fun b=>match G b,G' b with | none,some _=>none | _,_=>G2 b,⟨x.hh,fun b o q=>?_,fun b o q=>?_,fun b o q=>?_⟩,fun v d f r=>r.flat f⟩
 . show(match G b,G' b with | none,some _=>none | _,_=>G2 b)=some o;rw[q,sg b o q];exact x.gg b o (sg b o q)
 . have q':(match G b,G' b with | none,some _=>none | _,_=>G2 b)=some o:=q;split at q'
   . cases q'
   . exact x.gh b o q'
 . have q':(match G b,G' b with | none,some _=>none | _,_=>G2 b)=some o:=q;cases g:G b with
   | some u=>rw[g,sg b u g]at q';have:G2 b=some u:=x.gg b u (sg b u g);rw[this]at q';exact .inl q'
   | none=>
     cases g':G' b with
     | some u=>rw[g,g']at q';cases q'
     | none=>
       rw[g,g']at q';rcases x.nw b o q' with w | w
       . rw[g']at w;cases w
       . exact .inr w
theorem EnvOk.frz{G0 H0 G H:Hp}{σ:St}{ρ:ed}(i:Nat)(e:EnvOk G0 H0 G H σ ρ):∃G',EnvOk G0 H0 G' H σ (L2.frz i ρ)/\Same G G'/\∀G2 H2,Ext G' H G2 H2->∃G3,Ext G H G3 H2/\∀v d,j9 d=true->Rep G2 v d->Rep G3 v d:=by
 have fin:∀(ρ':ed) G',EnvOk G0 H0 G' H σ ρ'->Same G G'->∃G',EnvOk G0 H0 G' H σ ρ'/\Same G G'/\∀G2 H2,Ext G' H G2 H2->∃G3,Ext G H G3 H2/\∀v d,j9 d=true->Rep G2 v d->Rep G3 v d:=fun ρ' G' e' s=>⟨G',e',s,Ext.back s e'.same⟩;unfold L2.frz;split
 . rename_i ds z;obtain⟨a,vs,h1,h2,h3,h4,h5⟩:=e.ow z;exact fin _ _ (e.freeze z h1 h4 h5) (.upd h3)
 . rename_i dss z;obtain⟨a,bs,h1,h2,h3,h4,h5⟩:=e.oo z;obtain⟨e1,rr⟩:=e.half z h1 h2 h3 h4 h5;have hi:i<ρ.length:=(Yh.mp z).1;have e2:=e1.freeze (i:=i) (by rw[YT hi]) h1 h2 rr;rw[List.set_set]at e2;have nd':=ye.mp h3;exact fin _ _ e2 ((zX e.same).1.trans (.upd (by rw[qA nd'.1];exact(h4 a Yd).2)))
 . rename_i d dss es z;obtain⟨t,a,c,bs,v,us,h1,ht,h,hc,nd,own,r0,rows,r⟩:=e.ot z;have ss:=zX (bs:=t::c::a::bs) e.same;have m:=fun b (hb:b∈t::c::a::bs)=>JL (G:=G) (H:=H) hb;have rr:=rows.frozen (G':=more G H (t::c::a::bs)) ss.1 fun b hb=>m b (by simp[hb]);refine fin _ _ (e.let z h1 ss.1 ss.2 (fun b u q=>?_) (.sh (.tup (by rw[m t (by simp)];exact ht) (.cons (r0.mono ss.1) (.cons (.lst (.inl (by rw[m a (by simp)];exact h)) rr) (.cons (.lst (.inl (by rw[m c (by simp)];exact hc)) (r.mono ss.1)) .nil))))) fun b f=>f.elim) ss.1;by_cases hb:b∈t::c::a::bs
   . exact .inr ((Qy ht h).mpr hb)
   . rw[qA hb]at q;exact .inl q
 . exact fin _ _ e (.refl _)
variable{ta:TE}{fa:ed->Option D}
def jee(i:Nat)(fa:ed->Option D):FS:=fun ρ=>match ρ[i]?,fa ρ with
 | some (.ow ds),some d=>if Jn ds.length then .next (ρ.set i (.ow (ds++[d])))else .fail
 | _,_=>.fail
theorem jj2(i:Nat)(h:EOk ta fa):Q8 (jbF (tBM Fr.K "list" Qo (Z5 i) (Jo ta Z8))) (jee i fa):=fun G0 H0 G H σ ρ E e q=>by
 unfold jee at q;split at q
 . rename_i ds d z1 z2;split at q
   . rename_i hz;obtain⟨a,vs,h1,h2,h3,h4,h5⟩:=e.ow z1;refine⟨_,h1,.inl ⟨rfl,vs,.inl (.inl h4)⟩,h _ _ _ _ _ _ _ _ e z2 fun v G' H' x r=>?_⟩;have e':=e.grow x;exact⟨a,vs,v,rfl,rfl,x.hh _ _ h4,by rw[h5.length];exact Qz hz,q G' _ σ x.gg (e'.put z1 h1 ((h5.mono x.gg).snoc r))⟩
   . exact q.elim
 . exact q.elim
def jfN(i:Nat)(fk fa:ed->Option D):FS:=fun ρ=>match ρ[i]?,fa ρ,fk ρ with
 | some (.ow ds),some d,some (.int k)=>match ixN ds.length k with
   | some j=>.next (ρ.set i (.ow (ds.set j d)))
   | none=>.fail
 | _,_,_=>.fail
theorem jjL{tk:TE}{fk:ed->Option D}(i:Nat)(hk:EOk tk fk)(h:EOk ta fa):Q8 (jaT ta (jj7 (Z5 i) tk jht)) (jfN i fk fa):=fun G0 H0 G H σ ρ E e q=>by
 unfold jfN at q;split at q
 . rename_i ds d k z1 z2 z3;split at q
   . rename_i j hj;obtain⟨a,vs,h1,h2,h3,h4,h5⟩:=e.ow z1;refine h _ _ _ _ _ _ _ _ e z2 fun v G' H' x r=>⟨_,h1,hk _ _ _ _ _ _ _ _ (e.grow x) z3 fun w G2 H2 x2 r2=>?_⟩
     (have hh:=Rep.of_int r2;subst hh)
     have e':=(e.grow x).grow x2;exact⟨a,vs,k,j,rfl,rfl,(x.trans x2).hh _ _ h4,by rw[h5.length];exact hj,q G2 _ σ (x.trans x2).gg (e'.put z1 h1 ((h5.mono (x.trans x2).gg).set (r.mono x2.gg) j))⟩
   . exact q.elim
 . exact q.elim
end
def GOk(g:TG)(m:D->ed->Option ed):Prop:=∀G0 H0 G H σ ρ v d ρ' (Q:St->Hp->Prop),EnvOk G0 H0 G H σ ρ->Rep G v d->m d ρ=some ρ'->(∀σ',EnvOk G0 H0 G H σ' ρ'->Q σ' H)->g v σ H Q
def jeD(g:TGs)(m:List D->ed->Option ed):Prop:=∀G0 H0 G H σ ρ vs ds ρ' (Q:St->Hp->Prop),EnvOk G0 H0 G H σ ρ->Reps G vs ds->m ds ρ=some ρ'->(∀σ',EnvOk G0 H0 G H σ' ρ'->Q σ' H)->g vs σ H Q
def jw(i:Nat):D->ed->Option ed:=fun d ρ=>some (ρ.set i (.sh d))
def jcJ:List D->ed->Option ed
 | [],ρ=>some ρ
 | _,_=>none
def Jm(m:D->ed->Option ed)(ms:List D->ed->Option ed):List D->ed->Option ed
 | d::ds,ρ=>(m d ρ).bind fun ρ'=>ms ds ρ'
 | [],_=>none
def jck(n:Nat)(ms:List D->ed->Option ed):D->ed->Option ed
 | .tup ds,ρ=>if ds.length=n then ms ds ρ else none
 | _,_=>none
theorem jcN(i:Nat):GOk (J2 i) (jw i):=fun G0 H0 G H σ ρ v d ρ' Q e r q k=>by cases q;exact k _ (e.set r)
theorem jkR:jeD jjd jcJ:=fun G0 H0 G H σ ρ vs ds ρ' Q e r q k=>by
 cases r with
 | nil=>cases q;exact⟨rfl,k _ e⟩
 | cons _ _=>cases q
theorem jh7{g:TG}{gs:TGs}{m:D->ed->Option ed}{ms:List D->ed->Option ed}(h:GOk g m)(hs:jeD gs ms):jeD (jhx g gs) (Jm m ms):=fun G0 H0 G H σ ρ vs ds ρ' Q e r q k=>by
 cases r with
 | nil=>cases q
 | cons r t=>obtain⟨ρ1,q1,q2⟩:=bind_some q;exact⟨_,_,rfl,h _ _ _ _ _ _ _ _ _ _ e r q1 fun σ' e'=>hs _ _ _ _ _ _ _ _ _ _ e' t q2 k⟩
theorem jkJ{n:Nat}{gs:TGs}{ms:List D->ed->Option ed}(hs:jeD gs ms):GOk (jh8 Fr.K n gs) (jck n ms):=fun G0 H0 G H σ ρ v d ρ' Q e r q k=>by
 cases r with
 | tup h r=>
   simp only[jck]at q;split at q
   . rename_i hl;exact⟨_,_,rfl,.inl (.inl (e.same _ _ h)),by rw[r.length];exact hl,hs _ _ _ _ _ _ _ _ _ _ e r q k⟩
   . cases q
 | _=>cases q
def jjb(m:D->ed->Option ed)(fe:ed->Option D):FS:=fun ρ=>match (fe ρ).bind fun d=>m d ρ with
 | some ρ'=>.next ρ'
 | none=>.fail
theorem jkw{g:TG}{m:D->ed->Option ed}{te:TE}{fe:ed->Option D}(hg:GOk g m)(h:EOk te fe):Q8 (jaT te g) (jjb m fe):=fun G0 H0 G H σ ρ E e q=>by
 unfold jjb at q;split at q
 . rename_i ρ' z;obtain⟨d,z1,z2⟩:=bind_some z;exact h _ _ _ _ _ _ _ _ e z1 fun v G' H' x r=>hg _ _ _ _ _ _ _ _ _ _ (e.grow x) r z2 fun σ' e'=>q G' H' σ' x.gg e'
 . exact q.elim
def Iter(G1 H1:Hp)(J:It)(ds:List D):Prop:=∀(i:Nat) G H,Same G1 G->Same H1 H->Same G H->
 (∀d,ds[i]?=some d->J.go i H/\∀x H',J.yld i H x H'->∃G',Ext G H G' H'/\Rep G' x d)/\(ds[i]?=none->J.stop i H)
def jeq(wi:TI)(f:ed->Option (List D)):Prop:=∀G0 H0 G H σ ρ (R:It->Hp->Prop) ds,EnvOk G0 H0 G H σ ρ->f ρ=some ds->(∀J G' H',Ext G H G' H'->Iter G' H' J ds->R J H')->wi σ H R
def IOk(wi:TI)(f:ed->Option (List D)):Prop:=∀G0 H0 G H σ ρ (R:It->Hp->Prop) ds,EnvOk G0 H0 G H σ ρ->f ρ=some ds->(∀J G' H',Ext G H G' H'->Iter G' G' J ds->R J H')->wi σ H R
theorem Iter.weak{G H:Hp}{J:It}{ds:List D}(h:Iter G G J ds):Iter G H J ds:=fun i G' H' a b c=>h i G' H' a (a.trans c) c
theorem IOk.t{wi:TI}{f:ed->Option (List D)}(h:IOk wi f):jeq wi f:=fun G0 H0 G H σ ρ R ds e q k=>h _ _ _ _ _ _ _ _ e q fun J G' H' x j=>k J G' H' x j.weak
section
variable{te:TE}{fe:ed->Option D}{ta:TA}{fa:ed->Option (List D)}
def qv(fe:ed->Option D):ed->Option (List D):=fun ρ=>match fe ρ with
 | some (.lst l)=>some l
 | _=>none
def zb(fe:ed->Option D):ed->Option (List D):=fun ρ=>match fe ρ with
 | some (.tup l)=>some l
 | _=>none
end
end
section
variable[Fr]
section
variable{te:TE}{fe:ed->Option D}{ta:TA}{fa:ed->Option (List D)}
theorem Reps.none_of{G:Hp}{vs:List V}{ds:List D}{i:Nat}(r:Reps G vs ds)(h:ds[i]?=none):vs.length<=i:=by rw[r.length];exact YA.mp h
theorem jax{G1 H1:Hp}{a:Addr}{vs:List V}{ds:List D}(h:Rd H1 a (.lst vs))(r:Reps G1 vs ds):Iter G1 H1 (Itl Fr.K a) ds:=fun i G H s1 s2 s3=>by have hq:qW Fr.K H a vs:=.inl (h.same s2);refine⟨fun d hd=>?_,fun hd=>⟨vs,hq,r.none_of hd⟩⟩;obtain⟨v,h1,h2⟩:=r.get hd;refine⟨⟨vs,v,hq,h1⟩,fun x H' y=>?_⟩;obtain⟨e,y⟩:=y;subst e;have z:=y vs hq;rw[h1]at z;cases z;exact⟨G,.refl s3,h2.mono s1⟩
theorem jfc{G1 H1:Hp}{a:Addr}{vs:List V}{ds:List D}(h:H1 a=some (.tup vs))(r:Reps G1 vs ds):Iter G1 H1 (Itt Fr.K a) ds:=fun i G H s1 s2 s3=>by have hq:SqT Fr.K H a vs:=.inl (.inl (s2 _ _ h));refine⟨fun d hd=>?_,fun hd=>⟨vs,hq,r.none_of hd⟩⟩;obtain⟨v,h1,h2⟩:=r.get hd;refine⟨⟨vs,v,hq,h1⟩,fun x H' y=>?_⟩;obtain⟨e,y⟩:=y;subst e;have z:=y vs hq;rw[h1]at z;cases z;exact⟨G,.refl s3,h2.mono s1⟩
def rng(lo:Int)(n:Nat):List D:=(List.range n).map fun(i:Nat)=>D.int (lo+(i:Int))
theorem jfH{G1 H1:Hp}{lo:Int}{n:Nat}:Iter G1 H1 (Itr lo n) (rng lo n):=fun i G H s1 s2 s3=>by
 refine⟨fun d hd=>?_,fun hd=>?_⟩
 . unfold rng at hd;rw[Yt]at hd;cases e:(List.range n)[i]? with
   | none=>rw[e]at hd;cases hd
   | some j=>rw[e]at hd;cases hd;obtain⟨hi,hj⟩:=Yh.mp e;simp at hi hj;subst hj;refine⟨hi,fun x H' y=>?_⟩;obtain⟨e1,e2⟩:=y;subst e1 e2;exact⟨G,.refl s3,.int _⟩
 . have:=YA.mp hd;simp[rng]at this;exact this
theorem Ext.newT{G H:Hp}{t:Addr}{o:HO}(s:Same G H)(hn:H t=none):Ext G H (upd G t o) (upd H t o):=(Ext.new s hn).freeze hn (s.free hn) jm
def J7(l m:List D):List D:=(l.zip m).map fun p=>.tup [p.1,p.2]
theorem jfR{G1 H1:Hp}{a b:Addr}{vs us:List V}{ds es:List D}(h:Rd H1 a (.lst vs))(h':Rd H1 b (.lst us))(r:Reps G1 vs ds)(r':Reps G1 us es):Iter G1 H1 (Itz Fr.K a b) (J7 ds es):=fun i G H s1 s2 s3=>by
 have hq:qW Fr.K H a vs:=.inl (h.same s2);have hq':qW Fr.K H b us:=.inl (h'.same s2);refine⟨fun d hd=>?_,fun hd=>⟨vs,us,hq,hq',?_⟩⟩
 . unfold J7 at hd;rw[Yt]at hd;cases e:(ds.zip es)[i]? with
   | none=>rw[e]at hd;cases hd
   | some p=>rw[e]at hd;cases hd;obtain⟨g1,g2⟩:=yl.mp e;obtain⟨v,h1,h2⟩:=r.get g1;obtain⟨u,h3,h4⟩:=r'.get g2;refine⟨⟨vs,us,v,u,hq,hq',h1,h3⟩,fun x H' y=>?_⟩;obtain⟨t,x',y',hn,e1,e2,y1,y2⟩:=y;subst e1 e2;have z1:=y1 vs hq;have z2:=y2 us hq';rw[h1]at z1;rw[h3]at z2;cases z1;cases z2;have x:=Ext.newT (o:=.tup [v,u]) s3 hn;exact⟨_,x,.tup jm (.cons (h2.mono (s1.trans x.gg)) (.cons (h4.mono (s1.trans x.gg)) .nil))⟩
 . have:=YA.mp hd;simp[J7]at this;rw[r.length,r'.length];omega
theorem ZZ{ρ:ed}{ds:List D}(h:qv fe ρ=some ds):fe ρ=some (.lst ds):=by unfold qv at h;split at h <;> first | (cases h;assumption) | cases h
theorem jcR{ρ:ed}{ds:List D}(h:zb fe ρ=some ds):fe ρ=some (.tup ds):=by unfold zb at h;split at h <;> first | (cases h;assumption) | cases h
theorem ji5(h:EOk te fe):IOk (jcf Fr.K te) (qv fe):=fun G0 H0 G H σ ρ R ds e q k=>by refine h _ _ _ _ _ _ _ _ e (ZZ q) fun v G' H' x r=>?_;obtain⟨_,_,rfl,h,r⟩:=r.of_lst;exact⟨_,rfl,⟨_,.inl (h.same x.gh)⟩,k _ G' H' x (jax h r)⟩
theorem jgH(h:za te fe):jeq (jcf Fr.K te) (qv fe):=fun G0 H0 G H σ ρ R ds e q k=>by refine h _ _ _ _ _ _ _ _ e (ZZ q) fun v G' H' x r=>?_;obtain⟨_,_,rfl,h,r⟩:=r.of_lst;exact⟨_,rfl,⟨_,.inl h⟩,k _ G' H' x (jax h r)⟩
theorem jjR(h:EOk te fe):IOk (jhM Fr.K te) (zb fe):=fun G0 H0 G H σ ρ R ds e q k=>by refine h _ _ _ _ _ _ _ _ e (jcR q) fun v G' H' x r=>?_;obtain⟨_,_,rfl,h,r⟩:=r.of_tup;exact⟨_,rfl,⟨_,.inl (.inl (x.gh _ _ h))⟩,k _ G' H' x (jfc h r)⟩
def Q6(fa:ed->Option (List D)):ed->Option (List D):=fun ρ=>match fa ρ with
 | some [.int j]=>if -(2 ^ 62)<=j/\j<2 ^ 62 then some (rng 0 j.toNat)else none
 | _=>none
theorem jjg(h:Qg ta fa):IOk (jhw ta) (Q6 fa):=fun G0 H0 G H σ ρ R ds e q k=>by
 unfold Q6 at q;split at q
 . rename_i j z;split at q
   . rename_i hb;cases q;refine h _ _ _ _ _ _ _ _ e z fun vs G' H' x r=>?_;cases r with
     | cons r t=>(have hh:=RepT.of_int r;subst hh);cases t;exact⟨j,rfl,hb.1,hb.2,k _ G' H' x jfH⟩
   . cases q
 . cases q
def jbN(fa:ed->Option (List D)):ed->Option (List D):=fun ρ=>match fa ρ with
 | some [.lst l,.lst m]=>some (J7 l m)
 | _=>none
theorem ji3(h:Qg ta fa):jeq (jhP Fr.K ta) (jbN fa):=fun G0 H0 G H σ ρ R ds e q k=>by
 unfold jbN at q;split at q
 . rename_i l m z;cases q;refine h _ _ _ _ _ _ _ _ e z fun vs G' H' x r=>?_;cases r with
   | cons r t=>cases t with | cons r' t=>cases t;cases r with | lst h1 r1=>cases r' with | lst h2 r2=>exact⟨_,_,_,_,rfl,.inl h1,.inl h2,k _ G' H' x (jfR h1 h2 r1 r2)⟩
 . cases q
end
def zV(m:D->ed->Option ed)(B:FS):List D->FS
 | [],ρ=>.next ρ
 | d::ds,ρ=>match m d ρ with
   | none=>.fail
   | some ρ1=>match B ρ1 with
     | .next ρ2=>zV m B ds ρ2
     | .cnt ρ2=>zV m B ds ρ2
     | .brk ρ2=>.next ρ2
     | .ret d=>.ret d
     | .retO l=>.retO l
     | .retT d dss es=>.retT d dss es
     | .retOO dss=>.retOO dss
     | .fail=>.fail
def Q4(fi:ed->Option (List D))(m:D->ed->Option ed)(B:FS):FS:=fun ρ=>match fi ρ with
 | some ds=>zV m B ds ρ
 | none=>.fail
theorem jjz{wi:TI}{fi:ed->Option (List D)}{g:TG}{m:D->ed->Option ed}{tb:TS}{B:FS}(hi:IOk wi fi)(hg:GOk g m)(hb:Q8 tb B):Q8 (jiF wi g tb) (Q4 fi m B):=fun G0 H0 G H σ ρ E e q=>by
 unfold Q4 at q;split at q
 . rename_i ds z;refine hi _ _ _ _ _ _ _ _ e z fun J G1 H1 x1 it=>?_;refine⟨fun i n σ' H'=>n=ds.length-i/\i<=ds.length/\∃G' ρ',Same G1 G'/\EnvOk G0 H0 G' H' σ' ρ'/\ResOk G0 H0 G' (zV m B (ds.drop i) ρ') E,⟨_,rfl,yx _,G1,ρ,.refl _,e.grow x1,q.mono x1.gg⟩,?_⟩;rintro i n σ' H' ⟨rfl,hl,G',ρ',s1,e1,q1⟩;obtain⟨go,stop⟩:=it i G' H' s1 (s1.trans e1.same) e1.same;by_cases hlt:i<ds.length
   . have hd:ds[i]?=some ds[i]:=QC hlt;obtain⟨g1,g2⟩:=go _ hd;rw[List.drop_eq_getElem_cons hlt]at q1;simp only[zV]at q1;split at q1
     . exact q1.elim
     . rename_i ρ1 hm;refine .inr ⟨g1,fun σ2 H2=>∃G2 ρ2,Same G1 G2/\EnvOk G0 H0 G2 H2 σ2 ρ2/\ResOk G0 H0 G2 (zV m B (ds.drop (i+1)) ρ2) E,fun σ2 H2 ⟨G2,ρ2,a1,a2,a3⟩=>⟨_,by omega,rfl,hlt,G2,ρ2,a1,a2,a3⟩,fun x H2 y=>?_⟩;obtain⟨G2,x2,r2⟩:=g2 x H2 y;refine hg _ _ _ _ _ _ _ _ _ _ (e1.grow x2) r2 hm fun σ2 e2=>hb _ _ _ _ _ _ _ e2 ?_;have q2:=q1.mono x2.gg;have s2:=s1.trans x2.gg;cases hB:B ρ1 with
       | next ρ2=>rw[hB]at q2;exact fun G3 H3 σ3 s3 e3=>⟨G3,ρ2,s2.trans s3,e3,q2.mono s3⟩
       | cnt ρ2=>rw[hB]at q2;exact fun G3 H3 σ3 s3 e3=>⟨G3,ρ2,s2.trans s3,e3,q2.mono s3⟩
       | brk ρ2=>rw[hB]at q2;exact q2
       | ret d=>rw[hB]at q2;exact q2
       | retO d=>rw[hB]at q2;exact q2
       | retT d dss es=>rw[hB]at q2;exact q2
       | retOO dss=>rw[hB]at q2;exact q2
       | fail=>rw[hB]at q2;exact q2
   . have hd:ds[i]?=none:=YA.mpr (by omega);rw[yt (by omega)]at q1;exact .inl ⟨stop hd,q1 G' H' σ' (.refl _) e1⟩
 . exact q.elim
def wh(c:ed->Option Bool)(B:FS):Nat->ed->Option Res
 | 0,_=>none
 | n+1,ρ=>match c ρ with
   | none=>some .fail
   | some false=>some (.next ρ)
   | some true=>match B ρ with
     | .next ρ2=>wh c B n ρ2
     | .cnt ρ2=>wh c B n ρ2
     | .brk ρ2=>some (.next ρ2)
     | .ret d=>some (.ret d)
     | .retO l=>some (.retO l)
     | .retT d dss es=>some (.retT d dss es)
     | .retOO dss=>some (.retOO dss)
     | .fail=>some .fail
def Jl(n:Nat)(ix:List Nat)(ρ:ed):ed:=List.replicate n .un++ix.map fun k=>match ρ[k]? with
 | some (.sh d)=>.sh d
 | _=>.un
theorem jhN{G0 H0 G H:Hp}{σ:St}{ρ:ed}(n:Nat)(ix:List Nat)(e:EnvOk G0 H0 G H σ ρ):EnvOk G0 H0 G H (zH n σ ix) (Jl n ix ρ):=by
 have key:∀(i:Nat) s,(Jl n ix ρ)[i]?=some s->s=.un\/∃d k,s=.sh d/\n<=i/\ix[i-n]?=some k/\ρ[k]?=some (.sh d):=fun i s h=>by
  unfold Jl at h;rcases Y8 i n with hi | hi
  . rw[YE (by simpa using hi),Y0]at h;simp[hi]at h;exact .inl h.symm
  . rw[YI (by simpa using hi),yj,Yt]at h;cases e1:ix[i-n]? with
    | none=>rw[e1]at h;cases h
    | some k=>
      rw[e1]at h;simp only[yw,Option.some.injEq]at h;split at h
      . rename_i d hd;exact .inr ⟨d,k,h.symm,hi,rfl,hd⟩
      . exact .inl h.symm
 refine⟨e.ext,by simp[zH,Jl,capt],fun i o s h1 h2=>?_,fun i j o o' s s' b h1 h2 h3 h4 f f'=>?_⟩
 . rcases key i s h2 with rfl | ⟨d,k,rfl,hi,hk,hd⟩
   . exact .un _
   . obtain⟨v,hv,r⟩:=e.sh hd;unfold zH at h1;rw[YI (by simpa using hi),yj]at h1;unfold capt at h1;rw[Yt,hk]at h1;simp only[yw,Option.some.injEq]at h1;rw[hv]at h1;subst h1;exact .sh r
 . rcases key i _ h2 with z | ⟨d,k,z,_⟩
   . subst z;cases o with | none=>exact f.elim | some v=>cases v <;> exact f.elim
   . subst z;cases o with | none=>exact f.elim | some v=>cases v <;> exact f.elim
def ZS(m:D->ed->Option ed)(ft:ed->Option Bool)(fe:ed->Option D)(ρ:ed):List D->Option (List D)
 | []=>some []
 | d::ds=>(m d ρ).bind fun ρ1=>(ft ρ1).bind fun b=>if b then(fe ρ1).bind fun y=>(ZS m ft fe ρ ds).map (y::·)else ZS m ft fe ρ ds
def JO(fi:ed->Option (List D))(m:D->ed->Option ed)(ft:ed->Option Bool)(fe:ed->Option D)(n:Nat)(ix:List Nat):ed->Option (List D):=fun ρ=>(fi ρ).bind fun ds=>if Jn ds.length then ZS m ft fe (Jl n ix ρ) ds else none
theorem jkz{wi:TI}{fi:ed->Option (List D)}{g:TG}{m:D->ed->Option ed}{tt:TT}{ft:ed->Option Bool}{te:TE}{fe:ed->Option D}(n:Nat)(ix:List Nat)(hi:jeq wi fi)(hg:GOk g m)(ht:Z1 tt ft)(he:EOk te fe):
 EOkO (tLC wi g tt te n ix) (JO fi m ft fe n ix):=fun G0 H0 G H σ ρ Q es e q k=>by
 obtain⟨ds,q1,q2⟩:=bind_some q;split at q2
 . rename_i hz;refine hi _ _ _ _ _ _ _ _ e q1 fun J G1 H1 x1 it=>?_;refine⟨fun i n' ys H'=>n'=ds.length-i/\i<=ds.length/\ys.length<=i/\∃G' gs hs,Ext G1 H1 G' H'/\Reps G' ys gs/\ZS m ft fe (Jl n ix ρ) (ds.drop i)=some hs/\gs++hs=es,⟨_,rfl,yx _,Ym _,G1,[],es,.refl x1.gh,.nil,q2,rfl⟩,?_⟩;rintro i n' ys H' ⟨rfl,hl,hy,G',gs,hs,x2,r2,hlc,hes⟩;have hz':=Qz hz;obtain⟨go,stop⟩:=it i G' H' x2.gg x2.hh x2.gh;by_cases hlt:i<ds.length
   . have hd:ds[i]?=some ds[i]:=QC hlt;obtain⟨g1,g2⟩:=go _ hd;rw[List.drop_eq_getElem_cons hlt]at hlc;simp only[ZS]at hlc;obtain⟨ρ1,hm,hlc⟩:=bind_some hlc;obtain⟨b,hb,hlc⟩:=bind_some hlc;refine .inr ⟨g1,by omega,fun ys' H'=>ys'.length<=i+1/\∃G' gs hs,Ext G1 H1 G' H'/\Reps G' ys' gs/\ZS m ft fe (Jl n ix ρ) (ds.drop (i+1))=some hs/\gs++hs=es,fun ys' H' ⟨a0,a⟩=>⟨_,by omega,rfl,hlt,a0,a⟩,fun x H2 y=>?_⟩;obtain⟨G2,x3,r3⟩:=g2 x H2 y;have e3:EnvOk G0 H0 G2 H2 (zH n σ ix) (Jl n ix ρ):=(jhN n ix e).grow ((x1.trans x2).trans x3);refine hg _ _ _ _ _ _ _ _ _ _ e3 r3 hm fun σ2 e4=>ht _ _ _ _ _ _ _ _ e4 hb fun G4 H4 x4=>?_;have x24:=(x2.trans x3).trans x4;cases b with
     | false=>rw[YG Ya]at hlc ⊢;exact⟨by omega,G4,gs,hs,x24,r2.mono (x3.trans x4).gg,hlc,hes⟩
     | true=>rw[Yq rfl]at hlc ⊢;obtain⟨y',hy',hlc⟩:=bind_some hlc;obtain⟨hs',hh,hlc⟩:=map_some hlc;subst hlc;refine he _ _ _ _ _ _ _ _ (e4.grow x4) hy' fun v G5 H5 x5 r5=>⟨by simp;omega,G5,gs++[y'],hs',x24.trans x5,((r2.mono ((x3.trans x4).trans x5).gg).snoc r5),hh,by simpa using hes⟩
   . have hd:ds[i]?=none:=YA.mpr (by omega);rw[yt (by omega)]at hlc;cases hlc;rw[yo]at hes;subst hes;refine .inl ⟨stop hd,by omega,fun p hp=>?_⟩;exact k p ys G' _ ((x1.trans x2).trans (.new x2.gh hp)) ((x1.trans x2).hh.free hp) (x2.gh.free hp) jm r2
 . cases q2
def qR(n:Nat)(ds:List D):ed:=ds.map .sh++List.replicate (n-ds.length) .un
def jgj:Res->Option D
 | .ret d=>some d
 | .retO es=>some (.lst es)
 | .next _=>some .non
 | _=>none
def jgo:Res->Option (List D)
 | .retO es=>some es
 | _=>none
def zp(k n:Nat)(F:FS)(ds:List D):Option D:=if ds.length=k then jgj (F (qR n ds))else none
def ja0(k n:Nat)(F:FS)(ds:List D):Option (List D):=if ds.length=k then jgo (F (qR n ds))else none
theorem ja1{G H:Hp}{vs:List V}{ds:List D}{k n:Nat}(s:Same G H)(r:Reps G vs ds)(hk:k=n-vs.length):EnvOk G H G H (vs.map some++List.replicate k none) (qR n ds):=by
 have hl:=r.length;refine⟨.refl s,by simp[qR,hl,hk],fun i o s' h1 h2=>?_,fun i j o o' s s' b h1 h3 _ _ f _=>?_⟩
 . unfold qR at h2;rcases Y8 i ds.length with hi | hi
   . rw[YE (by simpa using hi),Yt]at h2;rw[YE (by simpa[hl]using hi),Yt]at h1;have hd:ds[i]?=some ds[i]:=QC hi;obtain⟨v,g1,g2⟩:=r.get hd;rw[g1]at h1;rw[hd]at h2;cases h1;cases h2;exact .sh g2
   . rw[YI (by simpa using hi),Y0]at h2;split at h2
     . cases h2;exact .un _
     . cases h2
 . exfalso;unfold qR at h3;rcases Y8 i ds.length with hi | hi
   . rw[YE (by simpa using hi),Yt]at h3;have hd:ds[i]?=some ds[i]:=QC hi;rw[hd]at h3;cases h3;cases o with | none=>exact f.elim | some v=>cases v <;> exact f.elim
   . rw[YI (by simpa using hi),Y0]at h3;split at h3
     . cases h3;cases o with | none=>exact f.elim | some v=>cases v <;> exact f.elim
     . cases h3
theorem jkK{k n:Nat}{F:FS}{vs:List V}{H:Hp}{Q:VK}{E:XK}(q:Z2 (zp k n F) vs H Q E):vs.length=k:=by
 obtain⟨G,ds,d,s,r,hf,fin⟩:=q;unfold zp at hf;split at hf
 . rename_i h;rw[r.length];exact h
 . cases hf
theorem jks{k n:Nat}{F:FS}{vs:List V}{H:Hp}{Q:VK}{E:XK}(q:spO (ja0 k n F) vs H Q E):vs.length=k:=by
 obtain⟨G,ds,d,s,r,hf,fin⟩:=q;unfold ja0 at hf;split at hf
 . rename_i h;rw[r.length];exact h
 . cases hf
theorem jhJ{t:TS}{F:FS}{a n k:Nat}{vs:List V}{H:Hp}{Q:VK}{E:XK}(h:Q8 t F)(hk:k=n-vs.length)(q:Z2 (zp a n F) vs H Q E):t { nx:=fun _ H'=>Q .non H',rt:=Q } (vs.map some++List.replicate k none) H:=by
 obtain⟨G,ds,d,s,r,hf,fin⟩:=q;refine h G H G H _ _ _ (ja1 s r hk) ?_;unfold zp at hf;split at hf
 . cases z:F (qR n ds)with
   | next ρ=>rw[z]at hf;cases hf;exact fun G' H' σ _ e=>fin _ G' H' e.ext .non
   | ret d=>rw[z]at hf;cases hf;exact fun G' H' v x r=>fin v G' H' x r
   | retO es=>rw[z]at hf;cases hf;exact fun G' H' a us x hn hg hh r=>fin _ _ H' (x.freeze hn hg hh) (.lst (.inl jm) (r.mono (.upd hg)))
   | retT _ _ _=>rw[z]at hf;cases hf
   | retOO _=>rw[z]at hf;cases hf
   | brk _=>rw[z]at hf;cases hf
   | cnt _=>rw[z]at hf;cases hf
   | fail=>rw[z]at hf;cases hf
 . cases hf
theorem jis{t:TS}{F:FS}{a n k:Nat}{vs:List V}{H:Hp}{Q:VK}{E:XK}(h:Q8 t F)(hk:k=n-vs.length)(q:spO (ja0 a n F) vs H Q E):t { nx:=fun _ H'=>Q .non H',rt:=Q } (vs.map some++List.replicate k none) H:=by
 obtain⟨G,ds,d,s,r,hf,fin⟩:=q;refine h G H G H _ _ _ (ja1 s r hk) ?_;unfold ja0 at hf;split at hf
 . cases z:F (qR n ds)with
   | retO es=>rw[z]at hf;cases hf;exact fun G' H' a us x hn hg hh r=>fin a us G' H' x hn hg hh r
   | _=>rw[z]at hf;cases hf
 . cases hf
end
def jjT:List D->Option (List Int)
 | []=>some []
 | .int i::l=>(jjT l).map (i::·)
 | _=>none
def jdO:List D->Option (List Bool)
 | []=>some []
 | .bl i::l=>(jdO l).map (i::·)
 | _=>none
theorem jbP:∀ns:List Bool,jdO (ns.map D.bl)=some ns
 | []=>rfl
 | n::ns=>by simp[jdO,jbP ns]
theorem jaJ:∀{l:List D} {ns:List Bool},jdO l=some ns->l=ns.map D.bl
 | [],_,h=>by cases h;rfl
 | .bl i::l,ns,h=>by obtain⟨ms,h1,h2⟩:=map_some h;subst h2;rw[jaJ h1];rfl
 | .int _::_,_,h=>by cases h
 | .non::_,_,h=>by cases h
 | .str _::_,_,h=>by cases h
 | .lst _::_,_,h=>by cases h
 | .tup _::_,_,h=>by cases h
 | .scr _::_,_,h=>by cases h
section
variable[Fr]
theorem RepTs.one{G H:Hp}{xs:List V}{d:D}(h:RepTs G H xs [d]):∃v,xs=[v]/\RepT G H v d:=by cases h with | cons r t=>cases t;exact⟨_,rfl,r⟩
theorem RepTs.two{G H:Hp}{xs:List V}{d e:D}(h:RepTs G H xs [d,e]):∃v u,xs=[v,u]/\RepT G H v d/\RepT G H u e:=by cases h with | cons r t=>cases t with | cons r' t=>cases t;exact⟨_,_,rfl,r,r'⟩
section
variable{As:TA}{fs:ed->Option (List D)}{ta:TE}{fa:ed->Option D}
def Jh:List D->Option D
 | [.lst l]=>some (.int l.length)
 | [.tup l]=>some (.int l.length)
 | [.scr l]=>some (.int l.length)
 | [.str z]=>if z.length<=sizeLine then some (.int z.length)else none
 | _=>none
theorem jfh{ds:List D}{d:D}(q:Jh ds=some d):(∃l,ds=[.lst l]/\D.int l.length=d)\/(∃l,ds=[.tup l]/\D.int l.length=d)\/(∃l,ds=[.scr l]/\D.int l.length=d)\/∃z,ds=[.str z]/\z.length<=sizeLine/\D.int z.length=d:=by
 cases ds with
 | nil=>exact j3 q
 | cons x t=>
   cases t with
   | cons y t=>cases x <;> exact j3 q
   | nil=>
     cases x with
     | lst l=>exact .inl ⟨l,rfl,Option.some.inj q⟩
     | tup l=>exact .inr (.inl ⟨l,rfl,Option.some.inj q⟩)
     | scr l=>exact .inr (.inr (.inl ⟨l,rfl,Option.some.inj q⟩))
     | str z=>
       by_cases c:z.length<=sizeLine
       . exact .inr (.inr (.inr ⟨z,rfl,c,Option.some.inj ((Yq c).symm.trans q)⟩))
       . exact j3 ((YG c).symm.trans q)
     | _=>exact j3 q
theorem jkl:Z6 (fun xs H Q=>(∃p ys,xs=[.ref p]/\(qW Fr.K H p ys\/SqT Fr.K H p ys)/\Q (.int ys.length) H)\/∃z,xs=[.str z]/\z.length<=sizeLine/\Q (.int z.length) H) Jh:=fun G H xs ds d Q s rr q k=>by
 rcases jfh q with⟨l,rfl,rfl⟩ | ⟨l,rfl,rfl⟩ | ⟨l,rfl,rfl⟩ | ⟨z,rfl,hz,rfl⟩
 . obtain⟨v,rfl,r⟩:=rr.one;cases r with | lst h r=>exact .inl ⟨_,_,rfl,.inl (.inl h),by rw[r.length];exact k _ G H (.refl s) (.int _)⟩
 . obtain⟨v,rfl,r⟩:=rr.one;cases r with | tup h r=>exact .inl ⟨_,_,rfl,.inr (.inl (.inl h)),by rw[r.length];exact k _ G H (.refl s) (.int _)⟩
 . obtain⟨v,rfl,r⟩:=rr.one;cases r with | scr h=>exact .inl ⟨_,_,rfl,.inl h,by rw[Ye];exact k _ G H (.refl s) (.int _)⟩
 . obtain⟨v,rfl,r⟩:=rr.one
   (have hh:=RepT.of_str r;subst hh)
   exact .inr ⟨_,rfl,hz,k _ G H (.refl s) (.int _)⟩
def jbx:List D->Option (List D)
 | [.lst l]=>some l
 | [.tup l]=>some l
 | _=>none
theorem jiq:jeP (fun xs H Q=>∃p ys,xs=[.ref p]/\(qW Fr.K H p ys\/SqT Fr.K H p ys)/\∀l,H l=none->Q (.ref l) (upd H l (.lst ys))) jbx:=fun G H xs ds d Q s rr q k=>by
 unfold jbx at q;split at q
 . cases q;obtain⟨v,rfl,r⟩:=rr.one;cases r with | lst h r=>exact⟨_,_,rfl,.inl (.inl h),fun l hl=>k l _ G _ (.new s hl) hl (s.free hl) jm r⟩
 . cases q;obtain⟨v,rfl,r⟩:=rr.one;cases r with | tup h r=>exact⟨_,_,rfl,.inr (.inl (.inl h)),fun l hl=>k l _ G _ (.new s hl) hl (s.free hl) jm r⟩
 . cases q
def jdl:List D->Option D
 | [.lst l]=>some (.tup l)
 | _=>none
theorem jhE:Z6 (fun xs H Q=>∃p ys,xs=[.ref p]/\((qW Fr.K H p ys/\∀l,H l=none->Q (.ref l) (upd H l (.tup ys)))\/(SqT Fr.K H p ys/\Q (.ref p) H))) jdl:=fun G H xs ds d Q s rr q k=>by
 unfold jdl at q;split at q
 . cases q;obtain⟨v,rfl,r⟩:=rr.one;cases r with
   | @lst a vs ds h r=>refine⟨_,_,rfl,.inl ⟨.inl h,fun l hl=>?_⟩⟩;have x:=Ext.newT (o:=.tup vs) s hl;exact k _ _ _ x (.tup jm (r.mono x.gg))
 . cases q
def jbr:List D->Option D
 | [.lst l]=>(jdO l).map fun ns=>.bl (ns.all id)
 | _=>none
theorem jkM:Z6 (fun xs H Q=>∃(p:Addr) (ns:List Bool),xs=[.ref p]/\qW Fr.K H p (ns.map V.bl)/\Q (.bl (ns.all id)) H) jbr:=fun G H xs ds d Q s rr q k=>by
 unfold jbr at q;split at q
 . obtain⟨ns,q1,q2⟩:=map_some q;subst q2;obtain⟨v,rfl,r⟩:=rr.one;obtain⟨_,_,rfl,h,r⟩:=r.of_lst;rw[jaJ q1]at r;rw[r.bls]at h;exact⟨_,ns,rfl,.inl h,k _ G H (.refl s) (.bl _)⟩
 . cases q
def jds:List D->Option D
 | [.int i,.int j]=>some (.int (if j<i then j else i))
 | _=>none
theorem jja:Z6 (fun xs H Q=>∃i j,xs=[.int i,.int j]/\Q (.int (if j<i then j else i)) H) jds:=fun G H xs ds d Q s rr q k=>by
 unfold jds at q;split at q
 . cases q;obtain⟨v,u,rfl,r,r'⟩:=rr.two
   (have hh:=RepT.of_int r;subst hh)
   (have hh:=RepT.of_int r';subst hh)
   exact⟨_,_,rfl,k _ G H (.refl s) (.int _)⟩
 . cases q
def jjh:List D->Option D
 | [.int i]=>some (.int i)
 | [.bl b]=>some (.int (if b then 1 else 0))
 | _=>none
theorem jkv:Z6 (fun xs H Q=>(∃i,xs=[.int i]/\Q (.int i) H)\/∃k,xs=[.bl k]/\Q (.int (if k then 1 else 0)) H) jjh:=fun G H xs ds d Q s rr q k=>by
 unfold jjh at q;split at q
 . cases q;obtain⟨v,rfl,r⟩:=rr.one
   (have hh:=RepT.of_int r;subst hh)
   exact .inl ⟨_,rfl,k _ G H (.refl s) (.int _)⟩
 . cases q;obtain⟨v,rfl,r⟩:=rr.one
   (have hh:=RepT.of_bl r;subst hh)
   exact .inr ⟨_,rfl,k _ G H (.refl s) (.int _)⟩
 . cases q
def Z3:D->V
 | .int i=>.int i
 | .bl b=>.bl b
 | .str z=>.str z
 | _=>.non
theorem RepT.v{G H:Hp}{v:V}{d:D}(r:RepT G H v d)(f:j9 d=true):v=Z3 d:=by cases r <;> first | rfl | cases f
theorem Rep.v{G:Hp}{v:V}{d:D}(r:Rep G v d)(f:j9 d=true):v=Z3 d:=by cases r <;> first | rfl | cases f
theorem zI{d:D}(f:j9 d=true):Jc (Z3 d)=true:=by cases d <;> first | rfl | cases f
theorem Reps.v{G:Hp}:∀{vs:List V} {ds:List D},Reps G vs ds->ds.all j9=true->vs=ds.map Z3
 | _,_,.nil,_=>rfl
 | _,_,.cons r t,h=>by simp only[yq,YQ]at h;rw[r.v h.1,Reps.v t h.2];rfl
def dIn(neg:Bool):D->D->Option D:=fun x y=>match y with
 | .lst l=>if j9 x && l.all j9 then some (.bl (if neg then !inV (Z3 x) (l.map Z3)else inV (Z3 x) (l.map Z3)))else none
 | .tup l=>if j9 x && l.all j9 then some (.bl (if neg then !inV (Z3 x) (l.map Z3)else inV (Z3 x) (l.map Z3)))else none
 | _=>none
theorem jbw{l:List D}(h:l.all j9=true):(l.map Z3).all Jc=true:=by
 induction l with
 | nil=>rfl
 | cons d l ih=>simp only[yq,YQ]at h;simp only[YM,yq,zI h.1,ih h.2,Bool.and_self]
theorem jlf{neg:Bool}:ZW (rIn Fr.K neg) (dIn neg):=fun G H x y dx dy d Q s rx ry q k=>by
 unfold dIn at q;split at q
 . split at q
   . rename_i hf;cases q;simp only[YQ]at hf;obtain⟨_,_,rfl,h,r⟩:=ry.of_lst;rw[r.v hf.2]at h;rw[rx.v hf.1];exact⟨_,_,rfl,.inl (.inl h),zI hf.1,jbw hf.2,k _ G H (.refl s) (.bl _)⟩
   . cases q
 . split at q
   . rename_i hf;cases q;simp only[YQ]at hf;obtain⟨_,_,rfl,h,r⟩:=ry.of_tup;rw[r.v hf.2]at h;rw[rx.v hf.1];exact⟨_,_,rfl,.inr (.inl (.inl h)),zI hf.1,jbw hf.2,k _ G H (.refl s) (.bl _)⟩
   . cases q
 . cases q
def jgv(xs:List D)(lo hi:Option Int):List D:=(xs.drop (HT.sIx xs.length 0 lo)).take (HT.sIx xs.length xs.length hi-HT.sIx xs.length 0 lo)
def POk(t:TO)(f:ed->Option (Option Int)):Prop:=∀G0 H0 G H σ ρ (Q:Option Int->Hp->Prop) b,EnvOk G0 H0 G H σ ρ->f ρ=some b->(∀G' H',Ext G H G' H'->Q b H')->t σ H Q
def pNo:ed->Option (Option Int):=fun _=>some none
def pSo(fa:ed->Option D):ed->Option (Option Int):=fun ρ=>match fa ρ with
 | some (.int i)=>some (some i)
 | _=>none
theorem jlp:POk jdE pNo:=fun G0 H0 G H σ ρ Q b e q k=>by cases q;exact k G H (.refl e.same)
theorem jlJ(h:za ta fa):POk (jhe ta) (pSo fa):=fun G0 H0 G H σ ρ Q b e q k=>by
 unfold pSo at q;split at q
 . rename_i i z;cases q;refine h _ _ _ _ _ _ _ _ e z fun v G' H' x r=>?_
   (have hh:=RepT.of_int r;subst hh)
   exact⟨_,rfl,k G' H' x⟩
 . cases q
def eSl(fa:ed->Option D)(fl fh:ed->Option (Option Int)):ed->Option (List D):=fun ρ=>match fa ρ,fl ρ,fh ρ with
 | some (.lst l),some lo,some hi=>some (jgv l lo hi)
 | some (.scr ns),some lo,some hi=>some (jgv (ns.map .int) lo hi)
 | _,_,_=>none
theorem jlq{tl th:TO}{fl fh:ed->Option (Option Int)}(h:za ta fa)(hl:POk tl fl)(hh:POk th fh):EOkO (tSl (jiC Fr.K) ta tl th) (eSl fa fl fh):=fun G0 H0 G H σ ρ Q ds e q k=>by
 unfold eSl at q;split at q
 . rename_i l lo hi z1 z2 z3;cases q;refine h _ _ _ _ _ _ _ _ e z1 fun v G1 H1 x1 r=>hl _ _ _ _ _ _ _ _ (e.grow x1) z2 fun G2 H2 x2=>hh _ _ _ _ _ _ _ _ ((e.grow x1).grow x2) z3 fun G3 H3 x3=>?_;obtain⟨_,_,rfl,h,r⟩:=r.of_lst;have x:=(x1.trans x2).trans x3;have r3:=r.mono (x2.trans x3).gg;refine⟨_,_,rfl,.inl (h.same (x2.trans x3).hh),fun p hp=>k p _ G3 _ (x.trans (.new x3.gh hp)) (x.hh.free hp) (x3.gh.free hp) jm ?_⟩;unfold jd2 jgv;rw[r.length];exact(r3.drop _).take _
 . rename_i ns lo hi z1 z2 z3;cases q;refine h _ _ _ _ _ _ _ _ e z1 fun v G1 H1 x1 r=>hl _ _ _ _ _ _ _ _ (e.grow x1) z2 fun G2 H2 x2=>hh _ _ _ _ _ _ _ _ ((e.grow x1).grow x2) z3 fun G3 H3 x3=>?_;obtain⟨_,rfl,h⟩:=r.of_scr;have x:=(x1.trans x2).trans x3;refine⟨_,_,rfl,(x2.trans x3).hh.seq h,fun p hp=>k p _ G3 _ (x.trans (.new x3.gh hp)) (x.hh.free hp) (x3.gh.free hp) jm ?_⟩;unfold jd2 jgv;rw[Ye,Ye];exact((Reps.of_ints ns).drop _).take _
 . cases q
def isD(T:String):D->Option Bool
 | .int _=>some (T == "int")
 | .bl _=>some (T == "bool" || T == "int")
 | .non=>some false
 | .str _=>some (T == "str")
 | .lst _=>some (T == "list")
 | .tup _=>some (T == "tuple")
 | .scr _=>none
 | .dic _ _=>none
 | .kst _=>none
 | .obj _=>none
def Jx(T:String)(fa:ed->Option D):ed->Option D:=fun ρ=>(fa ρ).bind fun d=>(isD T d).map .bl
def eLZ(fs:ed->Option (List D)):ed->Option (List D):=fun ρ=>match fs ρ with
 | some [.lst l,.lst m]=>if Jn l.length then some (J7 l m)else none
 | _=>none
theorem jk5(h:Qg As fs):EOkO (ZD Fr.K As) (eLZ fs):=fun G0 H0 G H σ ρ Q ds e q k=>by
 unfold eLZ at q;split at q
 . rename_i l m z;split at q
   . rename_i hz;cases q;refine h _ _ _ _ _ _ _ _ e z fun vs G1 H1 x1 rr=>?_;obtain⟨v,u,rfl,r1,r2⟩:=rr.two;cases r1 with
     | @lst a vs l h1 r1=>
       cases r2 with
       | @lst b us m h2 r2=>
         refine⟨a,b,vs,us,rfl,.inl h1,.inl h2,by rw[r1.length];exact Qz hz,fun c ts H' hc hts hcn hnd tI hoth hcl htup=>?_⟩;have G2:∃G2:Hp,G2=fun x=>if x∈ts then H' x else G1 x:=⟨_,rfl⟩
         obtain⟨G2,eG2⟩:=G2;have inT:∀x,x∈ts->G2 x=H' x:=fun x hx=>by rw[eG2];exact Yq hx
         have outT:∀x,x∉ts->G2 x=G1 x:=fun x hx=>by rw[eG2];exact YG hx
         have sG:Same G1 G2:=fun x o w=>by rw[outT x fun z=>by have:=hts x z;rw[x1.gh x o w]at this;cases this];exact w
         have sH:Same H1 H':=fun x o w=>by rw[hoth x (jk w hc) fun z=>by have:=hts x z;rw[w]at this;cases this];exact w
         have x2:Ext G1 H1 G2 H':=⟨sH,sG,fun x o w=>by
          by_cases hx:x∈ts
          . rw[inT x hx]at w;exact w
          . rw[outT x hx]at w;exact sH x o (x1.gh x o w),fun x o w=>by
          by_cases hx:x∈ts
          . exact .inr (hts x hx)
          . rw[outT x hx]at w;exact .inl w⟩
         have gc:G2 c=none:=by rw[outT c hcn];exact x1.gh.free hc
         refine k c _ G2 H' (x1.trans x2) (x1.hh.free hc) gc hcl ?_;have len:(ts.map V.ref).length=(J7 l m).length:=by simp[J7,tI,r1.length,r2.length]
         have build:∀(vs:List V) (ds:List D),vs.length=ds.length->(∀(i:Nat) v d,vs[i]?=some v->ds[i]?=some d->Rep G2 v d)->Reps G2 vs ds:=by
          intro vs;induction vs with
          | nil=>intro ds hl _;cases ds with | nil=>exact .nil | cons _ _=>simp at hl
          | cons v vs ih=>
            intro ds hl hh;cases ds with
            | nil=>simp at hl
            | cons d ds=>exact .cons (hh 0 v d rfl rfl) (ih ds (by simpa using hl) fun i v d h1 h2=>hh (i+1) v d (by simpa using h1) (by simpa using h2))
         refine build _ _ len fun i v d g1 g2=>?_;rw[Yt]at g1;cases et:ts[i]? with
         | none=>rw[et]at g1;cases g1
         | some t=>
           rw[et]at g1;cases g1;unfold J7 at g2;rw[Yt]at g2;cases ep:(l.zip m)[i]? with
           | none=>rw[ep]at g2;cases g2
           | some p=>rw[ep]at g2;cases g2;obtain⟨w1,w2⟩:=yl.mp ep;obtain⟨v1,y1,y2⟩:=r1.get w1;obtain⟨v2,y3,y4⟩:=r2.get w2;have ht:=htup i t v1 v2 et y1 y3;exact .tup (by rw[inT t (Y1 et)];exact ht) (.cons (y2.mono sG) (.cons (y4.mono sG) .nil))
   . cases q
 . cases q
end
def eqB(x y:D):Option Bool:=if j9 x=true then(if j9 y=true then some (eqV (Z3 x) (Z3 y))else none)else none
def Qh(f:D->D->Option Bool):List D->List D->Option Bool
 | x::l,y::m=>(f x y).bind fun b=>(Qh f l m).map (b && ·)
 | _,_=>some true
def QF:Nat->D->D->Option Bool
 | n+1,.lst l,.lst m=>if l.length=m.length then Qh (QF n) l m else some false
 | n+1,.tup l,.tup m=>(Qh (QF n) l m).map (· && l.length == m.length)
 | _,x,y=>eqB x y
def jaz(x y:D):Option Bool:=if j9 x && j9 y then(if jhD (Z3 x) (Z3 y)then some (decide (Z3 x=Z3 y))else none)else QF 40 x y
def jcv:R2:=fun x y H Q=>∃G dx dy b,Same G H/\RepT G H x dx/\RepT G H y dy/\jaz dx dy=some b/\Q (.bl b) H
def jcV:R2:=fun x y H Q=>∃G dx dy b,Same G H/\RepT G H x dx/\RepT G H y dy/\jaz dx dy=some b/\Q (.bl (!b)) H
def dEq:D->D->Option D:=fun x y=>(jaz x y).map .bl
def dNe:D->D->Option D:=fun x y=>(jaz x y).map fun b=>.bl (!b)
theorem jlb:ZW jcv dEq:=fun G H x y dx dy d Q s rx ry q k=>by obtain⟨b,q1,q2⟩:=map_some q;subst q2;exact⟨G,dx,dy,b,s,rx,ry,q1,k _ G H (.refl s) (.bl _)⟩
theorem jlF:ZW jcV dNe:=fun G H x y dx dy d Q s rx ry q k=>by obtain⟨b,q1,q2⟩:=map_some q;subst q2;exact⟨G,dx,dy,b,s,rx,ry,q1,k _ G H (.refl s) (.bl _)⟩
def jg8:R2:=fun x y H Q=>∃l b xs zs,x=.ref l/\y=.ref b/\Rd H l (.lst xs)/\Rd H b (.lst zs)/\xs.length+zs.length<=sizeLine/\∀p,H p=none->Q (.ref p) (upd H p (.lst (xs++zs)))
def jf2:D->D->Option (List D)
 | .lst l,.lst m=>if l.length+m.length<=sizeLine then some (l++m)else none
 | _,_=>none
theorem jjS:jkt jg8 jf2:=fun G H x y dx dy d Q s rx ry q k=>by
 unfold jf2 at q;split at q
 . split at q
   . rename_i hz;cases q;obtain⟨_,_,rfl,h,r⟩:=rx.of_lst;obtain⟨_,_,rfl,h',r'⟩:=ry.of_lst;exact⟨_,_,_,_,rfl,rfl,h,h',by rw[r.length,r'.length];exact hz,fun p hp=>k p _ G _ (.new s hp) hp (s.free hp) jm (r.append r')⟩
   . cases q
 . cases q
end
section
variable{X:Cx}
theorem jaB:CallR X (.builtin "len") (fun xs H Q=>(∃p ys,xs=[.ref p] ∧ (qW X.K H p ys ∨ SqT X.K H p ys) ∧ Q (.int ys.length) H) ∨ ∃z,xs=[.str z] ∧ z.length ≤ sizeLine ∧ Q (.int z.length) H):=call_len_seq.or jaS
theorem jgg:Qm X (binaryOp .Add) jg8:=by
 intro tf s σ H x y v u Q I rx ry h;obtain⟨l,b,xs,zs,rfl,rfl,hH,hB,hz,q⟩:=h;cases rx;cases ry;obtain⟨z,tm,n,r,e⟩:=hH.ok I.hok;obtain⟨z2,its2,n2,r2,e2⟩:=hB.ok I.hok;have hl:=r.length;have hl2:=r2.length;refine PySem.P.add_list e e2 ?_ (by rw[Yk,Yk];omega);have ea:tm.toArray++its2.toArray=(tm++its2).toArray:=by simp
 rw[ea];exact⟨.ref _,_,I.lnew (t':=s.toks) (r.append r2) (by rw[YB];omega),rfl,q _ I.fresh⟩
end
section
variable[Fr]
def okT(T:String):Bool:=T == "int" || T == "bool" || T == "str" || T == "list" || T == "tuple"
theorem jgq{G H:Hp}{x:V}{d:D}{T:String}{b:Bool}(r:RepT G H x d)(q:isD T d=some b)(hT:okT T=true):IsT Fr.K H x T b:=by
 have hT':T = "int" ∨ T="bool" ∨ T="str" ∨ T="list" ∨ T="tuple":=by simpa[okT,or_assoc]using hT
 cases r with
 | int i=>rcases hT' with rfl | rfl | rfl | rfl | rfl <;> (simp[isD]at q;subst q;exact⟨_,.int i,by rfl⟩)
 | bl i=>rcases hT' with rfl | rfl | rfl | rfl | rfl <;> (simp[isD]at q;subst q;exact⟨_,.bl i,by rfl⟩)
 | non=>rcases hT' with rfl | rfl | rfl | rfl | rfl <;> (simp[isD]at q;subst q;exact⟨_,.non,by rfl⟩)
 | str i=>rcases hT' with rfl | rfl | rfl | rfl | rfl <;> (simp[isD]at q;subst q;exact⟨_,.str i,by rfl⟩)
 | lst h r=>
   rcases h with h | ⟨o,h⟩
   . rcases hT' with rfl | rfl | rfl | rfl | rfl <;> (simp[isD]at q;subst q;exact⟨_,.lst h,by rfl⟩)
   . rcases hT' with rfl | rfl | rfl | rfl | rfl <;> (simp[isD]at q;subst q;exact⟨_,.frz h,by rfl⟩)
 | tup h r=>rcases hT' with rfl | rfl | rfl | rfl | rfl <;> (simp[isD]at q;subst q;exact⟨_,.tup h,by rfl⟩)
 | scr h=>cases q
 | dic h hl r=>cases q
 | kst h=>cases q
 | obj hc h r=>cases q
theorem jjX{T:String}{ta:TE}{fa:ed->Option D}(ha:za ta fa)(hT:okT T=true):EOk (tCB (fun xs H Q=>∃x T b,xs=[x,.ty T]/\IsT Fr.K H x T b/\Q (.bl b) H) (Jo ta (Jo (tC (.ty T)) Z8))) (Jx T fa):=fun G0 H0 G H σ ρ Q d e q k=>by obtain⟨dx,q1,q2⟩:=bind_some q;obtain⟨b,q4,q3⟩:=map_some q2;subst q3;exact ha _ _ _ _ _ _ _ _ e q1 fun v G' H' x r=>⟨v,T,b,rfl,jgq r q4 hT,k _ G' H' x (.bl _)⟩
end
section
variable[Fr]
theorem jbJ{v:V}(f:Jc v=true):eqV v v=true:=by cases v <;> first | rfl | exact absurd f Ya | simp[eqV]
theorem Jq{x y:D}{b:Bool}(h:eqB x y=some b):j9 x=true/\j9 y=true/\b=eqV (Z3 x) (Z3 y):=by
 unfold eqB at h;by_cases f1:j9 x=true
 . by_cases f2:j9 y=true
   . rw[Yq f1,Yq f2]at h;exact⟨f1,f2,(Option.some.inj h).symm⟩
   . rw[Yq f1,YG f2]at h;exact j3 h
 . rw[YG f1]at h;exact j3 h
theorem Zh{n:Nat}{dx dy:D}{b:Bool}(h:QF (n+1) dx dy=some b):(∃l m,dx=.lst l/\dy=.lst m/\(if l.length=m.length then Qh (QF n) l m else some false)=some b)\/(∃l m,dx=.tup l/\dy=.tup m/\(Qh (QF n) l m).map (· && l.length == m.length)=some b)\/eqB dx dy=some b:=by
 cases dx with
 | lst l=>
   cases dy with
   | lst m=>exact .inl ⟨l,m,rfl,rfl,h⟩
   | _=>exact j3 h
 | tup l=>
   cases dy with
   | tup m=>exact .inr (.inl ⟨l,m,rfl,rfl,h⟩)
   | _=>exact j3 h
 | _=>exact .inr (.inr h)
theorem Qu{f:D->D->Option Bool}:∀{l m:List D} {b:Bool},Qh f l m=some b->∃e:Nat->Bool,(∀(j:Nat) x y,l[j]?=some x->m[j]?=some y->f x y=some (e j))/\(List.range (min l.length m.length)).all e=b:=by
 intro l;induction l with
 | nil=>intro m b h;cases h;exact⟨fun _=>true,fun j x y h1 _=>(by rw[yz]at h1;cases h1),by rw[Ke,Nat.zero_min];rfl⟩
 | cons x l ih=>
   intro m b h;cases m with
   | nil=>cases h;exact⟨fun _=>true,fun j x y _ h2=>(by rw[yz]at h2;cases h2),by rw[Ke,Nat.min_zero];rfl⟩
   | cons y m=>
     obtain⟨c,h1,h2⟩:=bind_some h;obtain⟨c',h3,h4⟩:=map_some h2;obtain⟨e,he,hb⟩:=ih h3;refine⟨fun j=>Nat.casesOn j c e,fun j u v g1 g2=>?_,?_⟩
     . cases j with
       | zero=>cases g1;cases g2;exact h1
       | succ j=>exact he j u v g1 g2
     . rw[<-h4,<- hb];simp only[Yr,Nat.add_min_add_right,List.range_succ_eq_map,yq,List.all_map];rfl
end
section
variable{X:Cx}{tf:List (Addr×Obj)}{σ:St}{H G:Hp}{s:Shared}
theorem jdc[Fr](hK:Fr.K=X.K)(I:Inv X tf σ H s)(sg:Same G H):∀(n:Nat) {v:V} {dx dy:D} {b:Bool},Rep G v dx->Rep G v dy->QF n dx dy=some b->b=true:=by
 intro n;induction n with
 | zero=>intro v dx dy b rx ry h;obtain⟨f1,f2,rfl⟩:=Jq (show eqB dx dy=some b from h);rw[<-rx.v f1,<- ry.v f2];exact jbJ (by rw[rx.v f1];exact zI f1)
 | succ n ih=>
   have zz:∀{vs:List V} {l m:List D} {b:Bool},Reps G vs l->Reps G vs m->Qh (QF n) l m=some b->b=true:=by
    intro vs;induction vs with
    | nil=>intro l m b r1 r2 h;cases r1;cases r2;cases h;rfl
    | cons v vs ihv=>
      intro l m b r1 r2 h;cases r1 with
      | cons a1 t1=>
        cases r2 with
        | cons a2 t2=>obtain⟨c,h1,h2⟩:=bind_some h;obtain⟨c',h3,h4⟩:=map_some h2;rw[ih a1 a2 h1,ihv t1 t2 h3]at h4;exact h4.symm
   intro v dx dy b rx ry h;rcases Zh h with⟨l,m,rfl,rfl,q⟩ | ⟨l,m,rfl,rfl,q⟩ | q
   . obtain⟨_,_,rfl,h1,r1⟩:=rx.of_lst;obtain⟨_,_,e0,h2,r2⟩:=ry.of_lst;cases e0;have e:=I.list_inj (.inl (h1.same sg)) (.inl (h2.same sg));subst e;rw[Yq (show l.length=m.length by rw[<-r1.length,<- r2.length])]at q;exact zz r1 r2 q
   . obtain⟨_,_,rfl,h1,r1⟩:=rx.of_tup;obtain⟨_,_,e0,h2,r2⟩:=ry.of_tup;cases e0;rw[h1]at h2;cases h2;have hl:l.length=m.length:=by rw[<-r1.length,<- r2.length]
     obtain⟨c,h3,h4⟩:=map_some q;rw[zz r1 r2 h3,hl]at h4;simpa using h4.symm
   . obtain⟨f1,f2,rfl⟩:=Jq q;rw[<-rx.v f1,<- ry.v f2];exact jbJ (by rw[rx.v f1];exact zI f1)
theorem jdF[Fr]{x y:V}{dx dy:D}{b:Bool}{u v:Value}{A:Around}(rx:Rep G x dx)(ry:Rep G y dy)(h:eqB dx dy=some b)(ru:RelV x u)(rv:RelV y v):SeqAt.EqAt A s u v b:=by obtain⟨f1,f2,rfl⟩:=Jq h;rw[<-rx.v f1,<- ry.v f2];exact jcX ru rv (by rw[rx.v f1];exact zI f1) (by rw[ry.v f2];exact zI f2)
theorem QE[Fr]{vs us:List V}{l m:List D}{i1 i2:List Value}{e:Nat->Bool}{A:Around}{n:Nat}(r1:Reps G vs l)(r2:Reps G us m)(v1:Vals vs i1)(v2:Vals us i2)
 (he:∀(j:Nat) x y,l[j]?=some x->m[j]?=some y->QF n x y=some (e j))
 (ih:∀{x y:V} {dx dy:D} {b:Bool} {u v:Value},Rep G x dx->Rep G y dy->QF n dx dy=some b->RelV x u->RelV y v->SeqAt.EqAt A s u v b) :
 ∀j (h1:j<i1.toArray.size) (h2:j<i2.toArray.size),SeqAt.EqAt A s i1.toArray[j] i2.toArray[j] (e j):=fun j h1 h2=>by
 have l1:=v1.length;have l2:=v2.length;have hj1:j<vs.length:=by simp at h1;omega
 have hj2:j<us.length:=by simp at h2;omega
 obtain⟨u1,g1,g2⟩:=v1.get (QC hj1);obtain⟨u2,g3,g4⟩:=v2.get (QC hj2);obtain⟨d1,k1,k2⟩:=r1.getV (QC hj1);obtain⟨d2,k3,k4⟩:=r2.getV (QC hj2);have e1:i1.toArray[j]=u1:=by have:=Yh.mp g1;simpa using this.2
 have e2:i2.toArray[j]=u2:=by have:=Yh.mp g3;simpa using this.2
 rw[e1,e2];exact ih k2 k4 (he j _ _ k1 k3) g2 g4
theorem jb7[Fr](hK:Fr.K=X.K)(I:Inv X tf σ H s){a c:Addr}{vs us:List V}{l m:List D}{b:Bool}{n:Nat}{A:Around}(h1:Rd H a (.lst vs))(h2:Rd H c (.lst us))(r1:Reps G vs l)(r2:Reps G us m)(h:(if l.length=m.length then Qh (QF n) l m else some false)=some b)(hu:A.units<cLine)
 (ih:∀{x y:V} {dx dy:D} {b:Bool} {u v:Value},Rep G x dx->Rep G y dy->QF n dx dy=some b->RelV x u->RelV y v->SeqAt.EqAt A.in1 s u v b):SeqAt.RcAt A s (.ref a) (.ref c) b:=by
 obtain⟨i1,v1,p1,_⟩:=I.list (.inl h1);obtain⟨i2,v2,p2,_⟩:=I.list (.inl h2);have l1:=v1.length;have l2:=v2.length;have k1:=r1.length;have k2:=r2.length;split at h
 . rename_i hl;obtain⟨e,he,hb⟩:=Qu h;have hb':(List.range i1.toArray.size).all e=b:=by rw[<-hb,<- hl,Nat.min_self,Yk,<- l1,k1]
   rw[<-hb'];exact SeqAt.RcAt.lists p1.isList p2.isList (by simp;omega) hu (QE r1 r2 v1 v2 he ih)
 . rename_i hl;cases h;exact SeqAt.RcAt.lists_lengths p1.isList p2.isList (by simp;omega) hu
theorem jc8[Fr](hK:Fr.K=X.K)(I:Inv X tf σ H s){a c:Addr}{vs us:List V}{l m:List D}{b:Bool}{n:Nat}{A:Around}(h1:H a=some (.tup vs))(h2:H c=some (.tup us))(r1:Reps G vs l)(r2:Reps G us m)(h:(Qh (QF n) l m).map (· && l.length == m.length)=some b)(hu:A.units<cLine)
 (ih:∀{x y:V} {dx dy:D} {b:Bool} {u v:Value},Rep G x dx->Rep G y dy->QF n dx dy=some b->RelV x u->RelV y v->SeqAt.EqAt A.in1 s u v b):SeqAt.RcAt A s (.ref a) (.ref c) b:=by
 obtain⟨i1,v1,p1,_⟩:=I.tuple (SqT.of h1);obtain⟨i2,v2,p2,_⟩:=I.tuple (SqT.of h2);have l1:=v1.length;have l2:=v2.length;have k1:=r1.length;have k2:=r2.length;obtain⟨c,h3,h4⟩:=map_some h;obtain⟨e,he,hb⟩:=Qu h3;have q1:i1.toArray.size=l.length:=by simp;omega
 have q2:i2.toArray.size=m.length:=by simp;omega
 have hb':((List.range (min i1.toArray.size i2.toArray.size)).all e && i1.toArray.size == i2.toArray.size)=b:=by rw[q1,q2,hb];exact h4
 rw[<-hb'];exact SeqAt.RcAt.tuples (show s.heap.IsTuple a i1.toArray from p1) (show s.heap.IsTuple _ i2.toArray from p2) hu (QE r1 r2 v1 v2 he ih)
theorem jhi[Fr](hK:Fr.K=X.K)(I:Inv X tf σ H s)(sg:Same G H):∀(n:Nat) {x y:V} {dx dy:D} {b:Bool} {u v:Value} {A:Around},Rep G x dx->Rep G y dy->QF n dx dy=some b->RelV x u->RelV y v->A.units+n<cLine->SeqAt.EqAt A s u v b:=by
 intro n;induction n with
 | zero=>intro x y dx dy b u v A rx ry h ru rv _;exact jdF rx ry (show eqB dx dy=some b from h) ru rv
 | succ n ih=>
   intro x y dx dy b u v A rx ry h ru rv hu;have hu1:A.units<cLine:=by omega
   have ih':∀{x y:V} {dx dy:D} {b:Bool} {u v:Value},Rep G x dx->Rep G y dy->QF n dx dy=some b->RelV x u->RelV y v->SeqAt.EqAt A.in1 s u v b:=fun r1 r2 h ru rv=>ih r1 r2 h ru rv (by show A.units+1+n<cLine;omega);rcases Zh h with⟨l,m,rfl,rfl,q⟩ | ⟨l,m,rfl,rfl,q⟩ | q
   . cases rx with
     | @lst a vs _ h1 r1=>
       cases ry with
       | @lst c us _ h2 r2=>
         cases ru;cases rv;by_cases hac:a=c
         . subst hac;rw[jdc hK I sg (n+1) (.lst h1 r1) (.lst h2 r2) h];exact SeqAt.EqAt.same _
         . exact yu hac (jb7 hK I (h1.same sg) (h2.same sg) r1 r2 q hu1 ih')
   . cases rx with
     | @tup a vs _ h1 r1=>
       cases ry with
       | @tup c us _ h2 r2=>
         cases ru;cases rv;by_cases hac:a=c
         . subst hac;rw[jdc hK I sg (n+1) (.tup h1 r1) (.tup h2 r2) h];exact SeqAt.EqAt.same _
         . exact yu hac (jc8 hK I (sg _ _ h1) (sg _ _ h2) r1 r2 q hu1 ih')
   . exact jdF rx ry q ru rv
end
section
variable{X:Cx}
theorem jje[Fr](hK:Fr.K=X.K){tf:List (Addr×Obj)}{σ:St}{H G:Hp}{s:Shared}(hu:X.A.units+64<cLine)(I:Inv X tf σ H s)(sg:Same G H){x y:V}{dx dy:D}{b:Bool}{u v:Value}(rx:RepT G H x dx)(ry:RepT G H y dy)(h:QF 40 dx dy=some b)
 (hf:(j9 dx && j9 dy)=false) (ru:RelV x u) (rv:RelV y v):SeqAt.RcAt X.A s u v b:=by
 have ih:∀{x y:V} {dx dy:D} {b:Bool} {u v:Value},Rep G x dx->Rep G y dy->QF 39 dx dy=some b->RelV x u->RelV y v->SeqAt.EqAt X.A.in1 s u v b:=fun r1 r2 h ru rv=>jhi hK I sg 39 r1 r2 h ru rv (by show X.A.units+1+39<cLine;omega);rcases Zh (n:=39) h with⟨l,m,rfl,rfl,q⟩ | ⟨l,m,rfl,rfl,q⟩ | q
 . obtain⟨_,_,rfl,h1,r1⟩:=rx.of_lst;obtain⟨_,_,rfl,h2,r2⟩:=ry.of_lst;cases ru;cases rv;exact jb7 hK I h1 h2 r1 r2 q (by omega) ih
 . obtain⟨_,_,rfl,h1,r1⟩:=rx.of_tup;obtain⟨_,_,rfl,h2,r2⟩:=ry.of_tup;cases ru;cases rv;exact jc8 hK I h1 h2 r1 r2 q (by omega) ih
 . obtain⟨f1,f2,_⟩:=Jq q;rw[f1,f2]at hf;exact absurd hf Bool.noConfusion
theorem jeg[Fr](hK:Fr.K=X.K)(I:Inv X tf σ H s){a c:Addr}{vs us:List V}{l m:List D}{b:Bool}{n:Nat}{A:Around}(h1:Rd H a (.lst vs))(h2:Rd H c (.lst us))(r1:Reps G vs l)(r2:Reps G us m)(h:(if l.length=m.length then Qh (QF n) l m else some false)=some b)(hu:A.units<cLine)
 (ih:∀{x y:V} {dx dy:D} {b:Bool} {u v:Value},Rep G x dx->Rep G y dy->QF n dx dy=some b->RelV x u->RelV y v->SeqAt.EqAt A.in1 s u v b):SeqAt.RcNeAt A s (.ref a) (.ref c) (!b):=by
 obtain⟨i1,v1,p1,_⟩:=I.list (.inl h1);obtain⟨i2,v2,p2,_⟩:=I.list (.inl h2);have l1:=v1.length;have l2:=v2.length;have k1:=r1.length;have k2:=r2.length;split at h
 . rename_i hl;obtain⟨e,he,hb⟩:=Qu h;have hb':(List.range i1.toArray.size).all e=b:=by rw[<-hb,<- hl,Nat.min_self,Yk,<- l1,k1]
   rw[<-hb'];exact SeqAt.RcNeAt.lists p1.isList p2.isList (by simp;omega) hu (QE r1 r2 v1 v2 he ih)
 . rename_i hl;cases h;exact SeqAt.RcNeAt.lists_lengths p1.isList p2.isList (by simp;omega) hu
theorem jeZ[Fr](hK:Fr.K=X.K)(I:Inv X tf σ H s){a c:Addr}{vs us:List V}{l m:List D}{b:Bool}{n:Nat}{A:Around}(h1:H a=some (.tup vs))(h2:H c=some (.tup us))(r1:Reps G vs l)(r2:Reps G us m)(h:(Qh (QF n) l m).map (· && l.length == m.length)=some b)(hu:A.units<cLine)
 (ih:∀{x y:V} {dx dy:D} {b:Bool} {u v:Value},Rep G x dx->Rep G y dy->QF n dx dy=some b->RelV x u->RelV y v->SeqAt.EqAt A.in1 s u v b):SeqAt.RcNeAt A s (.ref a) (.ref c) (!b):=by
 obtain⟨i1,v1,p1,_⟩:=I.tuple (SqT.of h1);obtain⟨i2,v2,p2,_⟩:=I.tuple (SqT.of h2);have l1:=v1.length;have l2:=v2.length;have k1:=r1.length;have k2:=r2.length;obtain⟨c,h3,h4⟩:=map_some h;obtain⟨e,he,hb⟩:=Qu h3;have q1:i1.toArray.size=l.length:=by simp;omega
 have q2:i2.toArray.size=m.length:=by simp;omega
 have hb':((List.range (min i1.toArray.size i2.toArray.size)).all e && i1.toArray.size == i2.toArray.size)=b:=by rw[q1,q2,hb];exact h4
 rw[<-hb'];exact SeqAt.RcNeAt.tuples (show s.heap.IsTuple a i1.toArray from p1) (show s.heap.IsTuple _ i2.toArray from p2) hu (QE r1 r2 v1 v2 he ih)
theorem jgL[Fr](hK:Fr.K=X.K){tf:List (Addr×Obj)}{σ:St}{H G:Hp}{s:Shared}(hu:X.A.units+64<cLine)(I:Inv X tf σ H s)(sg:Same G H){x y:V}{dx dy:D}{b:Bool}{u v:Value}(rx:RepT G H x dx)(ry:RepT G H y dy)(h:QF 40 dx dy=some b)
 (hf:(j9 dx && j9 dy)=false) (ru:RelV x u) (rv:RelV y v):SeqAt.RcNeAt X.A s u v (!b):=by
 have ih:∀{x y:V} {dx dy:D} {b:Bool} {u v:Value},Rep G x dx->Rep G y dy->QF 39 dx dy=some b->RelV x u->RelV y v->SeqAt.EqAt X.A.in1 s u v b:=fun r1 r2 h ru rv=>jhi hK I sg 39 r1 r2 h ru rv (by show X.A.units+1+39<cLine;omega);rcases Zh (n:=39) h with⟨l,m,rfl,rfl,q⟩ | ⟨l,m,rfl,rfl,q⟩ | q
 . obtain⟨_,_,rfl,h1,r1⟩:=rx.of_lst;obtain⟨_,_,rfl,h2,r2⟩:=ry.of_lst;cases ru;cases rv;exact jeg hK I h1 h2 r1 r2 q (by omega) ih
 . obtain⟨_,_,rfl,h1,r1⟩:=rx.of_tup;obtain⟨_,_,rfl,h2,r2⟩:=ry.of_tup;cases ru;cases rv;exact jeZ hK I h1 h2 r1 r2 q (by omega) ih
 . obtain⟨f1,f2,_⟩:=Jq q;rw[f1,f2]at hf;exact absurd hf Bool.noConfusion
theorem jfP(hu:X.A.units+64<cLine):Qm X (compareOp .Eq) (@jcv ⟨X.K⟩):=by
 intro tf s σ H x y v u Q I rx ry h;obtain⟨G,dx,dy,b,sg,r1,r2,he,q⟩:=h;unfold jaz at he;split at he
 . rename_i hf;simp only[YQ]at hf;split at he
   . rename_i hs;cases he;have e1:=@RepT.v ⟨X.K⟩ _ _ _ _ r1 hf.1;have e2:=@RepT.v ⟨X.K⟩ _ _ _ _ r2 hf.2;rw[<-e1,<- e2]at q hs;exact jkg tf s σ H x y v u Q I rx ry ⟨hs,q⟩
   . cases he
 . rename_i hf;exact @jje X ⟨X.K⟩ rfl _ _ _ _ _ hu I sg _ _ _ _ _ _ _ r1 r2 he (by simpa using hf) rx ry X.prog X.w _ _ ⟨.bl b,H,I,rfl,q⟩
theorem jeR(hu:X.A.units+64<cLine):Qm X (compareOp .NotEq) (@jcV ⟨X.K⟩):=by
 intro tf s σ H x y v u Q I rx ry h;obtain⟨G,dx,dy,b,sg,r1,r2,he,q⟩:=h;unfold jaz at he;split at he
 . rename_i hf;simp only[YQ]at hf;split at he
   . rename_i hs;cases he;have e1:=@RepT.v ⟨X.K⟩ _ _ _ _ r1 hf.1;have e2:=@RepT.v ⟨X.K⟩ _ _ _ _ r2 hf.2;rw[<-e1,<- e2]at q hs;exact jj8 tf s σ H x y v u Q I rx ry ⟨hs,q⟩
   . cases he
 . rename_i hf;exact @jgL X ⟨X.K⟩ rfl _ _ _ _ _ hu I sg _ _ _ _ _ _ _ r1 r2 he (by simpa using hf) rx ry X.prog X.w _ _ ⟨.bl (!b),H,I,rfl,q⟩
end
def LcOk(sc:Scope)(N:List Str)(scope:Scope)(F:List Str)(ix:List Nat):Prop:=
 scope.kind=.function/\(∀x∈scope.names,x.2=.local->scope.names.lookup x.1=some .local)/\(∀y∈scope.names,y.2=.cell->scope.names.lookup y.1=some .cell) /\
 (∀y∈scope.names,y.2=.free->sc.names.lookup y.1=some .cell\/sc.names.lookup y.1=some .free)/\ix.length=F.length /\
 (∀p∈F.zip ix,N[p.2]?=some p.1/\(sc.names.lookup p.1=some .cell\/sc.names.lookup p.1=some .free)/\scope.names.lookup p.1=some .free)
instance (sc:Scope) (N:List Str) (scope:Scope) (F:List Str) (ix:List Nat):Decidable (LcOk sc N scope F ix):=by unfold LcOk;infer_instance
section
variable{X:Cx}{tg iter elt:Expr}{ifs:List Expr}{scope:Scope}{pos:Pos}{wi:TI}{g:TG}{tt:TT}{te:TE}{Lc F N:List Str}{ix:List Nat}{sc:Scope}
theorem LcOk.free(ok:LcOk sc N scope F ix)(hsc:X.env.scope=sc):∀n,(n,NameKind.free)∈scope.names->X.env.scope.names.lookup n=some .cell\/X.env.scope.names.lookup n=some .free:=fun n hn=>by rw[hsc];exact ok.2.2.2.1 (n,.free) hn rfl
theorem LcOk.capt(ok:LcOk sc N scope F ix)(hsc:X.env.scope=sc)(hN:X.N=N):∀(j:Nat) (x:Str) (k:Nat),F[j]?=some x->ix[j]?=some k->X.N[k]?=some x/\(X.env.scope.names.lookup x=some .cell\/X.env.scope.names.lookup x=some .free)/\scope.names.lookup x=some .free:=fun j x k h1 h2=>by rw[hsc,hN];exact ok.2.2.2.2.2 (x,k) (Y1 (i:=j) (yl.mpr ⟨h1,h2⟩))
theorem jiR(hsc:X.env.scope=sc)(hN:X.N=N)(hc:X.calm=true)(ok:LcOk sc N scope F ix)
 (hi:PI X tg iter wi) (hg:∀C s H fp,PG (X.blk (Lc++F) scope C s H fp) tg g) (hloc:jcr Lc.length g) (ht:∀C s H fp,PTs (X.blk (Lc++F) scope C s H fp) ifs tt) (he:∀C s H fp,PE (X.blk (Lc++F) scope C s H fp) elt te)
 (hs:∀x,foldedSetIterable iter X.env x=pure x:=by intro _;rfl):PE X (.ListComp elt [⟨tg,iter,ifs,0⟩] scope pos) (tLC wi g tt te Lc.length ix):=
 jjB hc ok.1 ok.2.1 ok.2.2.1 (ok.free hsc) ok.2.2.2.2.1 (ok.capt hsc hN) hi hg hloc ht he hs
theorem jcx{i:Nat}{y:Str}{py spos:Pos}(hNd:X.N.Nodup)(hy:X.N[i]?=some y)(hyl:X.env.scope.names.lookup y=some .local)(hsc:X.env.scope=sc)(hN:X.N=N)(hc:X.calm=true)(ok:LcOk sc N scope F ix)
 (hi:PI X tg iter wi) (hg:∀C s H fp,PG (X.blk (Lc++F) scope C s H fp) tg g) (hloc:jcr Lc.length g) (ht:∀C s H fp,PTs (X.blk (Lc++F) scope C s H fp) ifs tt) (he:∀C s H fp,PE (X.blk (Lc++F) scope C s H fp) elt te)
 (hsw:swapsWith (.ListComp elt [⟨tg,iter,ifs,0⟩] scope pos) (some (.Name y py)) spos.line X.env=pure true)
 (hs:∀x,foldedSetIterable iter X.env x=pure x:=by intro _;rfl):PS X (.Assign [.Name y py] (.ListComp elt [⟨tg,iter,ifs,0⟩] scope pos) spos) (jaT (tLC wi g tt te Lc.length ix) (J2 i)):=
 jer hNd hy hyl hc ok.1 ok.2.1 ok.2.2.1 (ok.free hsc) ok.2.2.2.2.1 (ok.capt hsc hN) hi hg hloc ht he hsw hs
end
section
variable{i j:Int}{F F':FS}{ρ ρ':ed}{r:Res}
theorem jP:zj (.int i) (.int j)=some (.int (i+j)):=rfl
theorem JS:ZE (.int i) (.int j)=some (.int (i-j)):=rfl
theorem J8(h1:-18446744073709551616<i)(h2:i<18446744073709551616):zo (.int i) (.int j)=some (.int (i*j)):=by unfold zo dI;simp only;rw[Yq];exact .inl (.inl ⟨by omega,by omega⟩)
theorem Qj(h1:-18446744073709551616<j)(h2:j<18446744073709551616):zo (.int i) (.int j)=some (.int (i*j)):=by unfold zo dI;simp only;rw[Yq];exact .inl (.inr ⟨by omega,by omega⟩)
theorem qm(h1:0<j)(h2:j<1606938044258990275541962092341162602522202993782792835301376):Ji (.int i) (.int j)=some (.int (i/j)):=by unfold Ji dI;simp only;rw[Yq];exact⟨h1,by show j<2 ^ 200;omega⟩
theorem jC(h1:0<j):ql (.int i) (.int j)=some (.int (i%j)):=by unfold ql dI;simp only;rw[Yq];exact h1
theorem jbs(h:jbO i j):Ju (.int i) (.int j)=some (.int (i ^ j.toNat)):=by unfold Ju dI;simp only;rw[Yq h]
theorem jho:Ju (.int 10) (.int 5)=some (.int 100000):=by rw[jbs (by unfold jbO;omega)];rfl
theorem jkP:Ju (.int 10) (.int 9)=some (.int 1000000000):=by rw[jbs (by unfold jbO;omega)];rfl
theorem ja7:Ju (.int 10) (.int 15)=some (.int 1000000000000000):=by rw[jbs (by unfold jbO;omega)];rfl
theorem jhT:dLt (.int i) (.int j)=some (.bl (decide (i<j))):=rfl
theorem jcu:dLe (.int i) (.int j)=some (.bl (decide (i<=j))):=rfl
theorem dGt_ok:dGt (.int i) (.int j)=some (.bl (decide (j<i))):=rfl
theorem jh2:dGe (.int i) (.int j)=some (.bl (decide (j<=i))):=rfl
theorem jeW:decide (V.int i=V.int j)=decide (i=j):=by
 by_cases q:i=j
 . subst q;simp
 . have:¬V.int i=V.int j:=fun z=>q (by injection z);simp[q,this]
theorem jiw:dEq (.int i) (.int j)=some (.bl (decide (i=j))):=by show some (D.bl (decide (V.int i=V.int j)))=_;rw[jeW]
theorem jle:dNe (.int i) (.int j)=some (.bl (!decide (i=j))):=by show some (D.bl (!decide (V.int i=V.int j)))=_;rw[jeW]
theorem jkN{ds:List D}{i:Int}(h0:0<=i)(h1:i<ds.length):∃m,m∈ds/\zG (.lst ds) (.int i)=some m:=by
 have hi:i.toNat<ds.length:=by omega
 refine⟨ds[i.toNat],List.getElem_mem hi,?_⟩;show atI ds i=_;unfold atI ixN;rw[Yq h0,Yq h1];simp[hi]
theorem jfb{ds:List D}{i:Int}{d:D}(h0:0<=i)(h:ds[i.toNat]?=some d):zG (.lst ds) (.int i)=some d:=by have hi:i.toNat<ds.length:=(Yh.mp h).1;show atI ds i=_;unfold atI ixN;rw[Yq h0,Yq (by omega)];simpa using h
theorem Jw{n:Nat}(h:n<16777216):Jn n=true:=Yw h
theorem je7{a:D}{l:List D}:zG (.tup (a::l)) (.int 0)=some a:=by show atI (a::l) 0=_;unfold atI ixN;rw[Yq (by decide),Yq (by simp only[Yr];omega)];rfl
theorem jcE{a b:D}{l:List D}:zG (.tup (a::b::l)) (.int 1)=some b:=by show atI (a::b::l) 1=_;unfold atI ixN;rw[Yq (by decide),Yq (by simp only[Yr];omega)];rfl
theorem jhO{a b c:D}{l:List D}:zG (.tup (a::b::c::l)) (.int 2)=some c:=by show atI (a::b::c::l) 2=_;unfold atI ixN;rw[Yq (by decide),Yq (by simp only[Yr];omega)];rfl
theorem jfV{a b c d:D}{l:List D}:zG (.tup (a::b::c::d::l)) (.int 3)=some d:=by show atI (a::b::c::d::l) 3=_;unfold atI ixN;rw[Yq (by decide),Yq (by simp only[Yr];omega)];rfl
theorem jiX{a:D}{l:List D}:zG (.lst (a::l)) (.int 0)=some a:=by show atI (a::l) 0=_;unfold atI ixN;rw[Yq (by decide),Yq (by simp only[Yr];omega)];rfl
theorem jhK{a b:D}{l:List D}:zG (.lst (a::b::l)) (.int 1)=some b:=by show atI (a::b::l) 1=_;unfold atI ixN;rw[Yq (by decide),Yq (by simp only[Yr];omega)];rfl
end
structure Fm where
 ι:Type
 X:ι->Cx
 K:PySem.W.Frag
 N:List Str
 hK:∀i,(X i).K=K
 hN:∀i,(X i).N=N
 calm:∀i,(X i).calm=true
abbrev Fm.fr(M:Fm):Fr:=⟨M.K⟩
structure WE(M:Fm)(e:Expr)(f:ed->Option D):Prop where
 h:∃t,(∀i,PE (M.X i) e t)/\@EOk M.fr t f
structure WT(M:Fm)(e:Expr)(f:ed->Option D):Prop where
 h:∃t,(∀i,PE (M.X i) e t)/\@za M.fr t f
structure WO(M:Fm)(e:Expr)(f:ed->Option (List D)):Prop where
 h:∃t,(∀i,PE (M.X i) e t)/\@EOkO M.fr t f
structure WC(M:Fm)(e:Expr)(f:ed->Option Bool):Prop where
 h:∃t,(∀i,PT (M.X i) e t)/\@Z1 M.fr t f
structure WW(M:Fm)(e:Expr)(f:ed->Option Bool):Prop where
 h:∃t,(∀i,PW (M.X i) e t)/\@Z1 M.fr t f
structure WTs(M:Fm)(e:List Expr)(f:ed->Option Bool):Prop where
 h:∃t,(∀i,PTs (M.X i) e t)/\@Z1 M.fr t f
structure WA(M:Fm)(e:List Expr)(f:ed->Option (List D)):Prop where
 h:∃t,(∀i,PA (M.X i) e t)/\@AOk M.fr t f
structure WAT(M:Fm)(e:List Expr)(f:ed->Option (List D)):Prop where
 h:∃t,(∀i,PA (M.X i) e t)/\@Qg M.fr t f
structure WP(M:Fm)(e:Option Expr)(f:ed->Option (Option Int)):Prop where
 h:∃t,(∀i,PO (M.X i) e t)/\@POk M.fr t f
structure WI(M:Fm)(tg e:Expr)(f:ed->Option (List D)):Prop where
 h:∃t,(∀i,PI (M.X i) tg e t)/\@IOk M.fr t f
structure WIT(M:Fm)(tg e:Expr)(f:ed->Option (List D)):Prop where
 h:∃t,(∀i,PI (M.X i) tg e t)/\@jeq M.fr t f
structure WG(M:Fm)(tg:Expr)(m:D->ed->Option ed):Prop where
 h:∃t,(∀i,PG (M.X i) tg t)/\@GOk M.fr t m
structure WL(M:Fm)(n:Nat)(tg:Expr)(m:D->ed->Option ed):Prop where
 h:∃t,(∀i,PG (M.X i) tg t)/\@GOk M.fr t m/\jcr n t
structure WS(M:Fm)(st:Stmt)(F:FS):Prop where
 h:∃t,(∀i,PS (M.X i) st t)/\@Q8 M.fr t F
structure WSs(M:Fm)(st:List Stmt)(F:FS):Prop where
 h:∃t,(∀i,PSs (M.X i) st t)/\@Q8 M.fr t F
def ju:Expr->Bool
 | .Starred _ _=>true
 | _=>false
theorem jD{e:Expr}{es:List Expr}{env:PySem.Env}(h:ju e=false):starEach (e::es) env=(false,eval e env)::starEach es env:=by cases e <;> first | rfl | cases h
theorem qH{pos:Pos}{env:PySem.Env}:∀{es:List Expr},(es.all fun e=>!ju e)=true->(backTo pos (starEach es env)).any (·.1)=false
 | [],_=>rfl
 | e::es,h=>by simp only[yq,YQ,Bool.not_eq_true']at h;rw[jD h.1];show(false || (backTo pos (starEach es env)).any (·.1))=false;rw[qH h.2];rfl
section
variable{M:Fm}{a b c e o:Expr}{es:List Expr}{fa fb fc fe:ed->Option D}{fo:ed->Option (List D)}{fs:ed->Option (List D)}{ga gb:ed->Option Bool}{pos p apos cpos:Pos}{x:Str}
theorem WO.toE(h:WO M e fo):WE M e (jW fo):=let ⟨t,h1,h2⟩:=h.h;⟨t,h1,@EOkO.e M.fr _ _ h2⟩
theorem WE.toT(h:WE M e fe):WT M e fe:=let ⟨t,h1,h2⟩:=h.h;⟨t,h1,@EOk.t M.fr _ _ h2⟩
abbrev ee:=@WE.toT
theorem jL(i:Nat)(hN:M.N[i]?=some x:=by rfl)(hv:autoParam (∀j,Vis (M.X j).env.scope x) QA.a6._auto_1)(hd:(x == ("__debug__":Str))=false:=by decide)
 (hcd:(x == ("__classdict__":Str))=false:=by decide):WE M (.Name x pos) (jz i):=⟨_,fun j=>Qe (by rw[M.hN j];exact hN) (hv j) hd hcd,@jjW M.fr i⟩
theorem jb(i:Nat)(hN:M.N[i]?=some x:=by rfl)(hv:autoParam (∀j,Vis (M.X j).env.scope x) QA.a6._auto_1)(hd:(x == ("__debug__":Str))=false:=by decide)
 (hcd:(x == ("__classdict__":Str))=false:=by decide):WT M (.Name x pos) (ja i):=⟨_,fun j=>Qe (by rw[M.hN j];exact hN) (hv j) hd hcd,@jil M.fr i⟩
theorem ZI{i:Int}{t:Tok}(hg:∀j,Gl (M.X j) x)(hm:∀j,(M.X j).mg x=some (.int i t))(hd:(x == ("__debug__":Str))=false:=by decide):WE M (.Name x pos) (eC (.int i)):=⟨_,fun j=>jg3 (hg j) (hm j) hd,@jha M.fr i⟩
theorem jf{i:Int}{k:Nat}:WE M (.Constant (.int i) k pos) (eC (.int i)):=⟨_,fun _=>jcA,@jha M.fr i⟩
theorem jcB{i:Bool}{k:Nat}:WE M (.Constant (.bool i) k pos) (eC (.bl i)):=⟨_,fun _=>jke,@jk9 M.fr i⟩
theorem qL{i:Str}{k:Nat}:WE M (.Constant (.str i) k pos) (eC (.str i)):=⟨_,fun _=>jfG,@jg7 M.fr i⟩
theorem ZT{op:Operator}{r:R2}{f:D->D->Option D}(ho:∀j,Qm (M.X j) (binaryOp op) r)(hr:@ZW M.fr r f)(ha:WT M a fa)(hb:WT M b fb):WE M (.BinOp a op b pos) (jo f fa fb):=let ⟨_,h1,h2⟩:=ha.h;let ⟨_,k1,k2⟩:=hb.h;⟨_,fun j=>jhg (ho j) (h1 j) (k1 j),@jgT M.fr _ _ _ _ _ _ hr h2 k2⟩
theorem zL(ha:WT M a fa)(hb:WT M b fb):WE M (.BinOp a .Add b pos) (jo zj fa fb):=ZT (fun _=>jiy) (@jj9 M.fr) ha hb
theorem jbv(ha:WT M a fa)(hb:WT M b fb):WE M (.BinOp a .Sub b pos) (jo ZE fa fb):=ZT (fun _=>jiv) (@jkj M.fr) ha hb
theorem zP(ha:WT M a fa)(hb:WT M b fb):WE M (.BinOp a .Mult b pos) (jo zo fa fb):=ZT (fun _=>jgf) (@jkk M.fr) ha hb
theorem JJ(ha:WT M a fa)(hb:WT M b fb):WE M (.BinOp a .FloorDiv b pos) (jo Ji fa fb):=ZT (fun _=>jeX) (@jkD M.fr) ha hb
theorem qu(ha:WT M a fa)(hb:WT M b fb):WE M (.BinOp a .Mod b pos) (jo ql fa fb):=ZT (fun _=>jit) (@jjn M.fr) ha hb
theorem Zk(ha:WT M a fa)(hb:WT M b fb):WE M (.BinOp a .Pow b pos) (jo Ju fa fb):=ZT (fun _=>ji8) (@jkC M.fr) ha hb
theorem jkp(ha:WT M a fa)(hb:WT M b fb):WO M (.BinOp a .Add b pos) (jo jf2 fa fb):=let ⟨_,h1,h2⟩:=ha.h;let ⟨_,k1,k2⟩:=hb.h;⟨_,fun j=>jhg jgg (h1 j) (k1 j),@jkI M.fr _ _ _ _ _ _ (@jjS M.fr) h2 k2⟩
theorem jhy(ha:WT M a fa):WE M (.UnaryOp .USub a pos) (jcq fa):=let ⟨_,h1,h2⟩:=ha.h;⟨_,fun j=>jkf jiD (h1 j),@jjF M.fr _ _ h2⟩
theorem w_not(ha:WT M a fa):WE M (.UnaryOp .Not a pos) (jb4 fa):=let ⟨_,h1,h2⟩:=ha.h;⟨_,fun j=>ji0 (h1 j),@jkF M.fr _ _ h2⟩
theorem zr(ha:WT M a fa)(hb:WT M b fb)(hs:jdM b:=by exact fun _ _=>rfl):WE M (.Subscript a b pos) (jo zG fa fb):=let ⟨_,h1,h2⟩:=ha.h;let ⟨_,k1,k2⟩:=hb.h;⟨_,fun j=>jfW (r:=rIx M.K) (by rw[<-M.hK j];exact jcy) (h1 j) (k1 j) hs,@jgT M.fr _ _ _ _ _ _ (@jlA M.fr) h2 k2⟩
structure WCmp(M:Fm)(op:CmpOp)(f:D->D->Option D):Prop where
 h:∃r,(∀j,Qm (M.X j) (compareOp op) r)/\@ZW M.fr r f
theorem jlt:WCmp M .Lt dLt:=⟨_,fun _=>jkO,@jlw M.fr⟩
theorem jaj:WCmp M .LtE dLe:=⟨_,fun _=>jkr,@jlc M.fr⟩
theorem jhI:WCmp M .Gt dGt:=⟨_,fun _=>jjU,@jk8 M.fr⟩
theorem jjr:WCmp M .GtE dGe:=⟨_,fun _=>jkb,@jlh M.fr⟩
theorem ja8(hu:∀j,(M.X j).A.units+64<cLine):WCmp M .Eq dEq:=⟨@jcv M.fr,fun j=>by have:=jfP (hu j);rw[M.hK j]at this;exact this,@jlb M.fr⟩
theorem jcg(hu:∀j,(M.X j).A.units+64<cLine):WCmp M .NotEq dNe:=⟨@jcV M.fr,fun j=>by have:=jeR (hu j);rw[M.hK j]at this;exact this,@jlF M.fr⟩
theorem jlg:WCmp M .In (dIn false):=⟨rIn M.K false,fun j=>by have:=jes (X:=M.X j);rw[M.hK j]at this;exact this,@jlf M.fr false⟩
variable{op op':CmpOp}{f f':D->D->Option D}
theorem Zp(ho:WCmp M op f)(ha:WT M a fa)(hb:WT M b fb)(hm:autoParam (behindInMarks op b=false) QA.a8._auto_1):WE M (.Compare a [op] [b] pos) (jo f fa fb):=let ⟨_,r1,r2⟩:=ho.h;let ⟨_,h1,h2⟩:=ha.h;let ⟨_,k1,k2⟩:=hb.h;⟨_,fun j=>jgS (r1 j) (h1 j) (k1 j) hm,@jgT M.fr _ _ _ _ _ _ r2 h2 k2⟩
theorem qP(ho:WCmp M op f)(ha:WT M a fa)(hb:WT M b fb)(hm:autoParam (behindInMarks op b=false) QA.a8._auto_1):WC M (.Compare a [op] [b] pos) (qF (jo f fa fb)):=let ⟨_,r1,r2⟩:=ho.h;let ⟨_,h1,h2⟩:=ha.h;let ⟨_,k1,k2⟩:=hb.h;⟨_,fun j=>jgD (r1 j) (h1 j) (k1 j) hm,@jfa M.fr _ _ (@EOk.t M.fr _ _ (@jgT M.fr _ _ _ _ _ _ r2 h2 k2))⟩
theorem Zg(ho:WCmp M op f)(ho':WCmp M op' f')(ha:WT M a fa)(hb:WT M b fb)(hc:WT M c fc)(hm:autoParam (lastMarks [op,op'] [b,c]=false) QA.a5._auto_1):WE M (.Compare a [op,op'] [b,c] pos) (qT f f' fa fb fc):=let ⟨_,r1,r2⟩:=ho.h;let ⟨_,r3,r4⟩:=ho'.h;let ⟨_,h1,h2⟩:=ha.h;let ⟨_,k1,k2⟩:=hb.h;let ⟨_,l1,l2⟩:=hc.h;⟨_,fun j=>jfv (r1 j) (r3 j) (h1 j) (k1 j) (l1 j) hm,@jdA M.fr _ _ _ _ _ _ _ _ _ _ r2 r4 h2 k2 l2⟩
theorem jgV(ho:WCmp M op f)(ho':WCmp M op' f')(ha:WT M a fa)(hb:WT M b fb)(hc:WT M c fc)(hm:autoParam (lastMarks [op,op'] [b,c]=false) QA.a5._auto_1):WC M (.Compare a [op,op'] [b,c] pos) (qF (qT f f' fa fb fc)):=let ⟨_,r1,r2⟩:=ho.h;let ⟨_,r3,r4⟩:=ho'.h;let ⟨_,h1,h2⟩:=ha.h;let ⟨_,k1,k2⟩:=hb.h;let ⟨_,l1,l2⟩:=hc.h;⟨_,fun j=>jfS (r1 j) (r3 j) (h1 j) (k1 j) (l1 j) hm,@jfa M.fr _ _ (@EOk.t M.fr _ _ (@jdA M.fr _ _ _ _ _ _ _ _ _ _ r2 r4 h2 k2 l2))⟩
theorem ZM{bo:BoolOp}(h:WE M a fa):WE M (.BoolOp bo [a] pos) fa:=let ⟨_,h1,h2⟩:=h.h;⟨_,fun j=>jib (h1 j),h2⟩
theorem Zw(ha:WT M a fa)(hb:WE M (.BoolOp .And (b::es) pos) fb):WE M (.BoolOp .And (a::b::es) pos) (Q7 fa fb):=let ⟨_,h1,h2⟩:=ha.h;let ⟨_,k1,k2⟩:=hb.h;⟨_,fun j=>jia (h1 j) (k1 j),@jjY M.fr _ _ _ _ h2 k2⟩
theorem jlI(ha:WT M a fa)(hb:WE M (.BoolOp .Or (b::es) pos) fb):WE M (.BoolOp .Or (a::b::es) pos) (eOr fa fb):=let ⟨_,h1,h2⟩:=ha.h;let ⟨_,k1,k2⟩:=hb.h;⟨_,fun j=>jkx (h1 j) (k1 j),@jlo M.fr _ _ _ _ h2 k2⟩
theorem jk4(hc:WC M c ga)(ha:WE M a fa)(hb:WE M b fb):WE M (.IfExp c a b pos) (eIf ga fa fb):=let ⟨_,l1,l2⟩:=hc.h;let ⟨_,h1,h2⟩:=ha.h;let ⟨_,k1,k2⟩:=hb.h;⟨_,fun j=>jfJ (l1 j) (h1 j) (k1 j),@jlD M.fr _ _ _ _ _ _ l2 h2 k2⟩
theorem Ja(h:WT M a fa)(he:∀j whole,isTrue a (M.X j).env whole=(do let v <- whole;standAt a.pos;holding [v] (truthy v)):=by intro _ _;rfl):WC M a (qF fa):=let ⟨_,h1,h2⟩:=h.h;⟨_,fun j=>jiI (h1 j) (he j),@t_B M.fr _ _ h2⟩
theorem WW.toC(h:WW M a ga):WC M a ga:=let ⟨_,h1,h2⟩:=h.h;⟨_,fun j=>(h1 j).pt,h2⟩
theorem jhV(h:WC M a ga):WW M (.BoolOp .And [a] pos) ga:=let ⟨_,h1,h2⟩:=h.h;⟨_,fun j=>jgs (h1 j),h2⟩
theorem ZO(h:WC M a ga):WW M (.BoolOp .Or [a] pos) ga:=let ⟨_,h1,h2⟩:=h.h;⟨_,fun j=>jjc (h1 j),h2⟩
theorem jkG(ha:WC M a ga)(hb:WW M (.BoolOp .And (b::es) pos) gb):WW M (.BoolOp .And (a::b::es) pos) (jcp ga gb):=let ⟨_,h1,h2⟩:=ha.h;let ⟨_,k1,k2⟩:=hb.h;⟨_,fun j=>jiQ (h1 j) (k1 j),@jfo M.fr _ _ _ _ h2 k2⟩
theorem jb9(ha:WC M a ga)(hb:WW M (.BoolOp .Or (b::es) pos) gb):WW M (.BoolOp .Or (a::b::es) pos) (bOr ga gb):=let ⟨_,h1,h2⟩:=ha.h;let ⟨_,k1,k2⟩:=hb.h;⟨_,fun j=>jjN (h1 j) (k1 j),@jlG M.fr _ _ _ _ h2 k2⟩
theorem zY(ha:WC M a ga):WC M (.UnaryOp .Not a pos) (zm ga):=let ⟨_,h1,h2⟩:=ha.h;⟨_,fun j=>jh9 (h1 j),@zN M.fr _ _ h2⟩
theorem jy:WA M [] jl:=⟨_,fun _=>zT,@a_nil M.fr⟩
theorem je(ha:WE M e fe)(hs:WA M es fs)(h:ju e=false:=by rfl):WA M (e::es) (jd fe fs):=let ⟨_,h1,h2⟩:=ha.h;let ⟨_,k1,k2⟩:=hs.h;⟨_,fun j=>qC (h1 j) (k1 j) (jD h),@jif M.fr _ _ _ _ h2 k2⟩
theorem jA:WAT M [] jl:=⟨_,fun _=>zT,@jaR M.fr⟩
theorem js(ha:WT M e fe)(hs:WAT M es fs)(h:ju e=false:=by rfl):WAT M (e::es) (jd fe fs):=let ⟨_,h1,h2⟩:=ha.h;let ⟨_,k1,k2⟩:=hs.h;⟨_,fun j=>qC (h1 j) (k1 j) (jD h),@Zd M.fr _ _ _ _ h2 k2⟩
theorem jhk{k:Nat}(h:WA M es fs):WE M (.Tuple es k pos) (jc0 fs):=let ⟨_,h1,h2⟩:=h.h;⟨_,fun j=>jfL (h1 j),@jki M.fr _ _ h2⟩
theorem J1(h:WA M es fs):WO M (.List es pos) (Jt fs):=let ⟨_,h1,h2⟩:=h.h;⟨_,fun j=>jio (h1 j),@jj4 M.fr _ _ h2⟩
theorem jeO:WP M none pNo:=⟨_,fun _=>jgr,@jlp M.fr⟩
theorem jfe(h:WT M e fe):WP M (some e) (pSo fe):=let ⟨_,h1,h2⟩:=h.h;⟨_,fun j=>jgi (h1 j),@jlJ M.fr _ _ h2⟩
theorem jkH{lo hi:Option Expr}{fl fh:ed->Option (Option Int)}{p2:Pos}(h:WT M e fe)(hl:WP M lo fl)(hh:WP M hi fh):WO M (.Subscript e (.Slice lo hi none p2) pos) (eSl fe fl fh):=let ⟨_,h1,h2⟩:=h.h;let ⟨_,k1,k2⟩:=hl.h;let ⟨_,l1,l2⟩:=hh.h;⟨_,fun j=>jca (r:=jiC M.K) (by rw[<-M.hK j];exact jgE) (h1 j) (k1 j) (l1 j),@jlq M.fr _ _ _ _ _ _ h2 k2 l2⟩
structure WB(M:Fm)(g:Value)(f:List D->Option D):Prop where
 h:∃r,(∀j,CallR (M.X j) g r)/\@Z6 M.fr r f
structure WBO(M:Fm)(g:Value)(f:List D->Option (List D)):Prop where
 h:∃r,(∀j,CallR (M.X j) g r)/\@jeP M.fr r f
theorem tF:WB M (.builtin "len") Jh:=⟨_,fun j=>by have:=jaB (X:=M.X j);rw[M.hK j]at this;exact this,@jkl M.fr⟩
theorem tW:WBO M (.type "list") jbx:=⟨_,fun j=>by have:=ja2 (X:=M.X j);rw[M.hK j]at this;exact this,@jiq M.fr⟩
theorem ji4:WB M (.type "tuple") jdl:=⟨_,fun j=>by have:=jak (X:=M.X j);rw[M.hK j]at this;exact this,@jhE M.fr⟩
theorem tJ:WB M (.builtin "all") jbr:=⟨_,fun j=>by have:=jfq (M.calm j);rw[M.hK j]at this;exact this,@jkM M.fr⟩
theorem jiS:WB M (.builtin "min") jds:=⟨_,fun j=>jef (M.calm j),@jja M.fr⟩
theorem u3:WB M (.type "int") jjh:=⟨_,fun _=>jet,@jkv M.fr⟩
variable{id T:String}{f1:List D->Option D}{f2:List D->Option (List D)}
theorem JF(hc:WB M (.builtin id) f1)(hg:∀j,Gl (M.X j) x)(hm:∀j,(M.X j).mg x=none)(hv:bootBuiltins x=some (.builtin id))(ha:WAT M (e::es) fs)(hn:x ≠ "__name__":=by decide)(hdb:(x == ("__debug__":Str))=false:=by decide)
 (h:ju e=false:=by rfl) (h':(es.all fun e=>!ju e)=true:=by rfl):WE M (.Call (.Name x p) (e::es) [] pos) (jj f1 fs):=
 let ⟨_,r1,r2⟩:=hc.h;let ⟨_,h1,h2⟩:=ha.h;⟨_,fun j=>Zx (r1 j) (hg j) (hm j) hv (h1 j) hn hdb (jD h) (qH h'),@jkm M.fr _ _ _ _ r2 h2⟩
theorem je8(hc:WB M (.type T) f1)(hg:∀j,Gl (M.X j) x)(hm:∀j,(M.X j).mg x=none)(hv:bootBuiltins x=some (.type T))(ha:WAT M (e::es) fs)(hn:x ≠ "__name__":=by decide)(hdb:(x == ("__debug__":Str))=false:=by decide)
 (h:ju e=false:=by rfl) (h':(es.all fun e=>!ju e)=true:=by rfl):WE M (.Call (.Name x p) (e::es) [] pos) (jj f1 fs):=
 let ⟨_,r1,r2⟩:=hc.h;let ⟨_,h1,h2⟩:=ha.h;⟨_,fun j=>QH (r1 j) (hg j) (hm j) hv (h1 j) hn hdb (jD h) (qH h'),@jkm M.fr _ _ _ _ r2 h2⟩
theorem jhd(hc:WBO M (.type T) f2)(hg:∀j,Gl (M.X j) x)(hm:∀j,(M.X j).mg x=none)(hv:bootBuiltins x=some (.type T))(ha:WAT M (e::es) fs)(hn:x ≠ "__name__":=by decide)(hdb:(x == ("__debug__":Str))=false:=by decide)
 (h:ju e=false:=by rfl) (h':(es.all fun e=>!ju e)=true:=by rfl):WO M (.Call (.Name x p) (e::es) [] pos) (jj f2 fs):=
 let ⟨_,r1,r2⟩:=hc.h;let ⟨_,h1,h2⟩:=ha.h;⟨_,fun j=>QH (r1 j) (hg j) (hm j) hv (h1 j) hn hdb (jD h) (qH h'),@jjQ M.fr _ _ _ _ r2 h2⟩
theorem JD{y:Str}{p':Pos}(hg:∀j,Gl (M.X j) "isinstance")(hm:∀j,(M.X j).mg "isinstance"=none)(hg':∀j,Gl (M.X j) y)(hm':∀j,(M.X j).mg y=none)(hv':bootBuiltins y=some (.type T))(hT:okT T=true)(ha:WT M a fa)
 (hn:y ≠ "__name__":=by decide) (hdb:(y == ("__debug__":Str))=false:=by decide) (h:ju a=false:=by rfl):WE M (.Call (.Name "isinstance" p) [a,.Name y p'] [] pos) (Jx T fa):=
 let ⟨_,h1,h2⟩:=ha.h
 ⟨_,fun j=>Zx (r:=fun xs H Q=>∃x T b,xs=[x,.ty T]/\IsT M.K H x T b/\Q (.bl b) H) (by have:=jbR (X:=M.X j);rw[M.hK j]at this;exact this) (hg j) (hm j) boot_isinstance (qC (h1 j) (qC (jj3 (hg' j) (hm' j) hv' hn hdb) zT (jD rfl)) (jD h)) (by decide) (by decide) (jD h) (qH rfl),@jjX M.fr T _ _ h2 hT⟩
theorem jlT{p1 p2 pos1 pos2:Pos}(hg1:∀j,Gl (M.X j) "list")(hm1:∀j,(M.X j).mg "list"=none)(hg2:∀j,Gl (M.X j) "zip")(hm2:∀j,(M.X j).mg "zip"=none)(ha:WAT M [a,b] fs)(h:ju a=false:=by rfl)(h':ju b=false:=by rfl):
 WO M (.Call (.Name "list" p1) [.Call (.Name "zip" p2) [a,b] [] pos2] [] pos1) (eLZ fs):=
 let ⟨_,h1,h2⟩:=ha.h
 ⟨ZD M.K _,fun j=>by have:=jcQ (p1:=p1) (p2:=p2) (pos1:=pos1) (pos2:=pos2) (M.calm j) (hg1 j) (hm1 j) (hg2 j) (hm2 j) (h1 j) (by rw[jD h,jD h'];rfl) (by rw[jD h'];rfl) (by rw[jD rfl];rfl);rw[M.hK j]at this;exact this,@jk5 M.fr _ _ h2⟩
theorem jh3{k:Nat}{g:Addr}{fd:FuncData}{ps:List Str}(F:∀j,FnOk (M.X j).prog (M.X j).w (M.X j).K (M.X j).mg (M.X j).base Jp k g fd ps (@Z2 M.fr f1))(hr:∀j,Room k (M.X j).A)(hg:∀j,Gl (M.X j) x)(hm:∀j,(M.X j).mg x=some (.ref g))(hk:∀j,PySem.W.keepIn (M.X j).K (.ref g)=true)
 (hb:∀j,Binds (M.X j).K fd ps []) (ha:WA M (e::es) fs) (hdb:(x == ("__debug__":Str))=false:=by decide) (h:ju e=false:=by rfl) (h':(es.all fun e=>!ju e)=true:=by rfl):WE M (.Call (.Name x p) (e::es) [] pos) (jj f1 fs):=
 let ⟨_,h1,h2⟩:=ha.h;⟨_,fun j=>jbd (F j) (hr j) (hg j) (hm j) (hk j) (hb j) .nil je5 (h1 j) hdb (jD h) (qH h'),@jh6 M.fr _ _ f1 E0 h2⟩
theorem jga{k:Nat}{g:Addr}{fd:FuncData}{ps:List Str}(F:∀j,FnOk (M.X j).prog (M.X j).w (M.X j).K (M.X j).mg (M.X j).base Jp k g fd ps (@spO M.fr f2))(hr:∀j,Room k (M.X j).A)(hg:∀j,Gl (M.X j) x)(hm:∀j,(M.X j).mg x=some (.ref g))(hk:∀j,PySem.W.keepIn (M.X j).K (.ref g)=true)
 (hb:∀j,Binds (M.X j).K fd ps []) (ha:WA M (e::es) fs) (hdb:(x == ("__debug__":Str))=false:=by decide) (h:ju e=false:=by rfl) (h':(es.all fun e=>!ju e)=true:=by rfl):WO M (.Call (.Name x p) (e::es) [] pos) (jj f2 fs):=
 let ⟨_,h1,h2⟩:=ha.h;⟨_,fun j=>jbd (F j) (hr j) (hg j) (hm j) (hk j) (hb j) .nil je5 (h1 j) hdb (jD h) (qH h'),@jf9 M.fr _ _ f2 E0 h2⟩
variable{m:D->ed->Option ed}{ms:List D->ed->Option ed}{tg iter:Expr}
theorem JV{i:Nat}(hN:∀j,(M.X j).N.Nodup)(hi:M.N[i]?=some x)(hx:∀j,Loc (M.X j).env.scope x)(hf:∀j,(M.X j).fn x=true\/(M.X j).env.scope.names.lookup x=some .local):WG M (.Name x pos) (jw i):=⟨_,fun j=>Zi (hN j) (by rw[M.hN j];exact hi) (hx j) (hf j),@jcN M.fr i⟩
theorem WI.toT{f:ed->Option (List D)}(h:WI M tg e f):WIT M tg e f:=let ⟨_,h1,h2⟩:=h.h;⟨_,h1,@IOk.t M.fr _ _ h2⟩
theorem jgU(h:WE M e fe):WI M tg e (qv fe):=let ⟨_,h1,h2⟩:=h.h;⟨jcf M.K _,fun j=>by have:=jdL (tg:=tg) (h1 j);rw[M.hK j]at this;exact this,@ji5 M.fr _ _ h2⟩
theorem zU(h:WT M e fe):WIT M tg e (qv fe):=let ⟨_,h1,h2⟩:=h.h;⟨jcf M.K _,fun j=>by have:=jdL (tg:=tg) (h1 j);rw[M.hK j]at this;exact this,@jgH M.fr _ _ h2⟩
theorem jaQ(h:WE M e fe):WI M tg e (zb fe):=let ⟨_,h1,h2⟩:=h.h;⟨jhM M.K _,fun j=>by have:=jiu (tg:=tg) (h1 j);rw[M.hK j]at this;exact this,@jjR M.fr _ _ h2⟩
theorem JX(hg:∀j,Gl (M.X j) "range")(hm:∀j,(M.X j).mg "range"=none)(ha:WAT M [a] fs)(h:ju a=false:=by rfl):WI M tg (.Call (.Name "range" p) [a] [] pos) (Q6 fs):=let ⟨_,h1,h2⟩:=ha.h;⟨_,fun j=>jd9 (hg j) (hm j) (h1 j) (by rw[jD h];rfl),@jjg M.fr _ _ h2⟩
theorem jgm{ts:List Expr}{k:Nat}{tp:Pos}(hg:∀j,Gl (M.X j) "zip")(hm:∀j,(M.X j).mg "zip"=none)(ha:WAT M [a,b] fs)(h:ju a=false:=by rfl)(h':ju b=false:=by rfl):WIT M (.Tuple ts k tp) (.Call (.Name "zip" p) [a,b] [] pos) (jbN fs):=let ⟨_,h1,h2⟩:=ha.h;⟨jhP M.K _,fun j=>by have:=jhZ (elts:=ts) (x1:=k) (tpos:=tp) (p:=p) (pos:=pos) (hg j) (hm j) (h1 j) (by rw[jD h,jD h'];rfl) (by rw[jD h'];rfl);rw[M.hK j]at this;exact this,@ji3 M.fr _ _ h2⟩
variable{st:Stmt}{sts body:List Stmt}{F F' B:FS}
theorem jV:WSs M [] j6:=⟨_,fun _=>JZ,@jih M.fr⟩
theorem jn(h:WS M st F):WSs M [st] F:=let ⟨_,h1,h2⟩:=h.h;⟨_,fun j=>Zf (h1 j),h2⟩
theorem jg(h:WS M st F)(h':WSs M sts F'):WSs M (st::sts) (jI F F'):=let ⟨_,h1,h2⟩:=h.h;let ⟨_,k1,k2⟩:=h'.h;⟨_,fun j=>qV (h1 j) (k1 j),@jkB M.fr _ _ _ _ h2 k2⟩
theorem jgP(h:WT M e fe)(hs:∀j,swapsWith e none pos.line (M.X j).env=pure false:=by intro _;rfl):WS M (.Expr e pos) (jaw fe):=let ⟨_,h1,h2⟩:=h.h;⟨_,fun j=>Ze (h1 j) (hs j),@jjf M.fr _ _ h2⟩
theorem jO(h:WE M e fe):WS M (.Return (some e) pos) (qx fe):=let ⟨_,h1,h2⟩:=h.h;⟨_,fun j=>jaZ (h1 j),@jjE M.fr _ _ h2⟩
theorem jdH(h:WO M e fo):WS M (.Return (some e) pos) (ZN fo):=let ⟨_,h1,h2⟩:=h.h;⟨_,fun j=>jaZ (h1 j),@jhY M.fr _ _ h2⟩
theorem jgd(i:Nat)(hN:M.N[i]?=some x:=by rfl)(hv:autoParam (∀j,Vis (M.X j).env.scope x) QA.a6._auto_1)(hd:(x == ("__debug__":Str))=false:=by decide)
 (hcd:(x == ("__classdict__":Str))=false:=by decide):WS M (.Return (some (.Name x p)) pos) (jdq i):=⟨_,fun j=>jaZ (Qe (by rw[M.hN j];exact hN) (hv j) hd hcd),@jhL M.fr i⟩
theorem zd(hc:WC M c ga)(h:WSs M sts F)(h':WSs M body F'):WS M (.If c sts body pos) (J0 ga F F'):=let ⟨_,l1,l2⟩:=hc.h;let ⟨_,h1,h2⟩:=h.h;let ⟨_,k1,k2⟩:=h'.h;⟨_,fun j=>jaD (l1 j) (h1 j) (k1 j),@jll M.fr _ _ _ _ _ _ l2 h2 k2⟩
theorem jK{i:Nat}{pos':Pos}(h:WE M e fe)(hN:∀j,(M.X j).N.Nodup)(hi:M.N[i]?=some x)(hx:∀j,Loc (M.X j).env.scope x)(hf:∀j,(M.X j).fn x=true\/(M.X j).env.scope.names.lookup x=some .local)(hs:∀j,swapsWith e (some (.Name x pos')) pos.line (M.X j).env=pure false:=by intro _;rfl):
 WS M (.Assign [.Name x pos'] e pos) (jU i fe):=let ⟨_,h1,h2⟩:=h.h;⟨_,fun j=>jcM (hN j) (by rw[M.hN j];exact hi) (hx j) (h1 j) (hs j) (hf j),@jhq M.fr _ _ i h2⟩
theorem jgQ{i:Nat}{pos':Pos}(h:WO M e fo)(hN:∀j,(M.X j).N.Nodup)(hi:M.N[i]?=some x)(hx:∀j,Loc (M.X j).env.scope x)(hf:∀j,(M.X j).fn x=true\/(M.X j).env.scope.names.lookup x=some .local)(hs:∀j,swapsWith e (some (.Name x pos')) pos.line (M.X j).env=pure false:=by intro _;rfl):
 WS M (.Assign [.Name x pos'] e pos) (jda i fo):=let ⟨_,h1,h2⟩:=h.h;⟨_,fun j=>jcM (hN j) (by rw[M.hN j];exact hi) (hx j) (h1 j) (hs j) (hf j),@jij M.fr _ _ i h2⟩
theorem jlu(h:WE M e fe)(hg:WG M tg m)(hs:∀j,swapsWithSole [tg] e pos.line (M.X j).env=pure false:=by intro _;rfl)(hw:∀j,swappedStores [tg] e (M.X j).env=pure none:=by intro _;rfl)(h1:∀j,(assignEach [tg] (M.X j).env).map (·.2)=[assign tg (M.X j).env]:=by intro _;rfl):
 WS M (.Assign [tg] e pos) (jjb m fe):=let ⟨_,a1,a2⟩:=h.h;let ⟨_,b1,b2⟩:=hg.h;⟨_,fun j=>jfy (a1 j) (b1 j) (hs j) (hw j) (h1 j),@jkw M.fr _ _ _ _ b2 a2⟩
theorem jiE{i:Nat}{pos':Pos}{y:Str}{py:Pos}(hN:M.N[i]?=some y)(hv:∀j,Vis (M.X j).env.scope y)(hk:WE M b fb)(h:WE M e fe)(hd:(y == ("__debug__":Str))=false:=by decide)(hcd:(y == ("__classdict__":Str))=false:=by decide)
 (ha:autoParam (∀j v,assign (.Subscript (.Name y py) b pos') (M.X j).env v=(do
  let ov <- holding [v] (eval (.Name y py) (M.X j).env)
  let iv <- holding [v,ov] (eval b (M.X j).env)
  standAt pos'
  holding [v,ov,iv] (setItem ov iv v)
  release [v,ov,iv] [])) QA.a9._auto_1)
 (hs:∀j,swapsWithSole [.Subscript (.Name y py) b pos'] e pos.line (M.X j).env=pure false:=by intro _;rfl) (hw:∀j,swappedStores [.Subscript (.Name y py) b pos'] e (M.X j).env=pure none:=by intro _;rfl)
 (h1:∀j,(assignEach [.Subscript (.Name y py) b pos'] (M.X j).env).map (·.2)=[assign (.Subscript (.Name y py) b pos') (M.X j).env]:=by intro _;rfl):WS M (.Assign [.Subscript (.Name y py) b pos'] e pos) (jfN i fb fe):=
 let ⟨_,a1,a2⟩:=h.h;let ⟨_,b1,b2⟩:=hk.h;⟨_,fun j=>jfy (a1 j) (jhC (Qe (by rw[M.hN j];exact hN) (hv j) hd hcd) (b1 j) jeH (ha j)) (hs j) (hw j) (h1 j),@jjL M.fr _ _ _ _ i b2 a2⟩
theorem QM(hi:WI M tg iter fo)(hg:WG M tg m)(hb:WSs M body B)(hp:autoParam (∀j,PassesOwn (model (M.X j).prog (M.X j).w) (M.X j).A (M.X j).env (M.X j).xe) QA.a10._auto_1)(hs:∀j x,foldedSetIterable iter (M.X j).env x=pure x:=by intro _ _;rfl):WS M (.For tg iter body [] pos) (Q4 fo m B):=let ⟨_,i1,i2⟩:=hi.h;let ⟨_,g1,g2⟩:=hg.h;let ⟨_,b1,b2⟩:=hb.h;⟨_,fun j=>jf3 (hp j) (M.calm j) (i1 j) (g1 j) (b1 j) (hs j),@jjz M.fr _ _ _ _ _ _ i2 g2 b2⟩
theorem jhz{i:Nat}{y:Str}{py:Pos}(hN:M.N[i]?=some y)(hv:∀j,Vis (M.X j).env.scope y)(h:WE M e fe)(hd:(y == ("__debug__":Str))=false:=by decide)(hcd:(y == ("__classdict__":Str))=false:=by decide)
 (hbase:∀j,attributeBase (.Name y py) "append" (M.X j).env (eval (.Name y py) (M.X j).env)=eval (.Name y py) (M.X j).env:=by intro _;rfl) (hline:(apos.endLine == cpos.line)=true:=by rfl) (h':ju e=false:=by rfl)
 (hs:∀j,swapsWith (.Call (.Attribute (.Name y py) "append" apos) [e] [] cpos) none pos.line (M.X j).env=pure false:=by intro _;rfl):WS M (.Expr (.Call (.Attribute (.Name y py) "append" apos) [e] [] cpos) pos) (jee i fe):=
 let ⟨_,a1,a2⟩:=h.h
 ⟨_,fun j=>Ze (te:=tBM M.K "list" Qo _ _) (by have:=jbD (X:=M.X j) (apos:=apos) (cpos:=cpos) yN PySem.F.slot_list_append PySem.F.type_list_append jay (Qe (i:=i) (pos:=py) (by rw[M.hN j];exact hN) (hv j) hd hcd) (qC (a1 j) zT (jD h')) (hbase j) (by rw[jD h'];rfl) hline (jD h') (qH rfl);rw[M.hK j]at this;exact this) (hs j),@jj2 M.fr _ _ i a2⟩
def Fm.blk(M:Fm)(N:List Str)(scope:Scope):Fm:=⟨M.ι×Addr×Shared×Hp×List Addr,fun i=>(M.X i.1).blk N scope i.2.1 i.2.2.1 i.2.2.2.1 i.2.2.2.2,M.K,N,fun i=>M.hK i.1,fun _=>rfl,fun i=>M.calm i.1⟩
variable{ifs:List Expr}{scope sc:Scope}{Lc Fn:List Str}{ix:List Nat}
theorem qB{i n:Nat}(hN:∀j,(M.X j).N.Nodup)(hi:M.N[i]?=some x)(hn:i<n)(hx:∀j,Loc (M.X j).env.scope x)(hf:∀j,(M.X j).fn x=true\/(M.X j).env.scope.names.lookup x=some .local):WL M n (.Name x pos) (jw i):=⟨_,fun j=>Zi (hN j) (by rw[M.hN j];exact hi) (hx j) (hf j),@jcN M.fr i,jeh hn⟩
def jjy(n:Nat)(t:TGs):Prop:=(∀xs σ H Q,t xs σ H Q->t xs σ H fun σ2 H2=>Q σ2 H2/\σ2.length=σ.length/\∀j,n<=j->σ2[j]?=σ[j]?)/\∀xs σ H (Q Q':St->Hp->Prop),(∀σ H,Q σ H->Q' σ H)->t xs σ H Q->t xs σ H Q'
structure WLs(M:Fm)(n:Nat)(tg:List Expr)(m:List D->ed->Option ed):Prop where
 h:∃t:TGs,(∀i,PGs (M.X i) tg t)/\@jeD M.fr t m/\jjy n t
theorem jeE{n:Nat}:WLs M n [] jcJ:=⟨jjd,fun _=>jf7,@jkR M.fr,fun xs σ H Q h=>⟨h.1,h.2,rfl,fun _ _=>rfl⟩,fun xs σ H Q Q' hq h=>⟨h.1,hq _ _ h.2⟩⟩
theorem Zc{i n:Nat}(hN:∀j,(M.X j).N.Nodup)(hi:M.N[i]?=some x)(hn:i<n)(hx:∀j,Loc (M.X j).env.scope x)(hf:∀j,(M.X j).fn x=true\/(M.X j).env.scope.names.lookup x=some .local)(h:WLs M n es ms)
 (hs:∀j,(assignEach (.Name x pos::es) (M.X j).env).map (·.2)=assign (.Name x pos) (M.X j).env::(assignEach es (M.X j).env).map (·.2):=by intro _;rfl):WLs M n (.Name x pos::es) (Jm (jw i) ms):=
 let ⟨_,b1,b2,b3,b4⟩:=h.h
 ⟨_,fun j=>jf1 (Zi (hN j) (by rw[M.hN j];exact hi) (hx j) (hf j)) (b1 j) (hs j),@jh7 M.fr _ _ _ _ (@jcN M.fr i) b2,fun xs σ H Q ⟨v,r,e,q⟩=>⟨v,r,e,b4 _ _ _ _ _ (fun σ2 H2 ⟨q1,q2,q3⟩=>⟨q1,by rw[q2];simp,fun k hk=>by rw[q3 k hk,Yz (by omega)]⟩) (b3 _ _ _ _ q)⟩,
  fun xs σ H Q Q' hq ⟨v,r,e,q⟩=>⟨v,r,e,b4 _ _ _ _ _ hq q⟩⟩
theorem jfj{k n l:Nat}(h:WLs M n es ms)(hn:∀j,(assignEach es (M.X j).env).length=l:=by intro _;rfl)(hst:∀j,(assignEach es (M.X j).env).findIdx? (·.1)=none:=by intro _;rfl):WL M n (.Tuple es k pos) (jck l ms):=let ⟨_,a1,a2,a3,_⟩:=h.h;⟨jh8 M.K l _,fun j=>by have:=jh4 (k:=k) (pos:=pos) (M.calm j) (a1 j) (hn j) (hst j);rw[M.hK j]at this;exact this,@jkJ M.fr l _ _ a2,fun x σ H Q ⟨a,xs,e,hq,hl,q⟩=>⟨a,xs,e,hq,hl,a3 _ _ _ _ q⟩⟩
theorem qq:WTs M [] (fun _=>some true):=⟨_,fun _=>jgC,@jiN M.fr⟩
theorem jg0(h:WC M e ga):WTs M [e] ga:=let ⟨_,h1,h2⟩:=h.h;⟨_,fun j=>jgI (h1 j),h2⟩
theorem QI(hsc:∀j,(M.X j).env.scope=sc)(ok:LcOk sc M.N scope Fn ix)(hi:WIT M tg iter fo)(hg:WL (M.blk (Lc++Fn) scope) Lc.length tg m)(ht:WTs (M.blk (Lc++Fn) scope) ifs ga)(he:WE (M.blk (Lc++Fn) scope) e fe)
 (hs:∀j x,foldedSetIterable iter (M.X j).env x=pure x:=by intro _ _;rfl):WO M (.ListComp e [⟨tg,iter,ifs,0⟩] scope pos) (JO fo m ga fe Lc.length ix):=
 let ⟨_,i1,i2⟩:=hi.h;let ⟨_,g1,g2,g3⟩:=hg.h;let ⟨_,t1,t2⟩:=ht.h;let ⟨_,e1,e2⟩:=he.h
 ⟨_,fun j=>jiR (hsc j) (M.hN j) (M.calm j) ok (i1 j) (fun C s H fp=>g1 (j,C,s,H,fp)) g3 (fun C s H fp=>t1 (j,C,s,H,fp)) (fun C s H fp=>e1 (j,C,s,H,fp)) (hs j),@jkz M.fr _ _ _ _ _ _ _ _ _ _ i2 g2 t2 e2⟩
theorem jjV{i:Nat}{y:Str}{py spos:Pos}(hNd:∀j,(M.X j).N.Nodup)(hy:M.N[i]?=some y)(hyl:∀j,(M.X j).env.scope.names.lookup y=some .local)(hsc:∀j,(M.X j).env.scope=sc)(ok:LcOk sc M.N scope Fn ix)(hi:WIT M tg iter fo)(hg:WL (M.blk (Lc++Fn) scope) Lc.length tg m)(ht:WTs (M.blk (Lc++Fn) scope) ifs ga)(he:WE (M.blk (Lc++Fn) scope) e fe)
 (hsw:∀j,swapsWith (.ListComp e [⟨tg,iter,ifs,0⟩] scope pos) (some (.Name y py)) spos.line (M.X j).env=pure true:=by intro _;rfl) (hs:∀j x,foldedSetIterable iter (M.X j).env x=pure x:=by intro _ _;rfl):WS M (.Assign [.Name y py] (.ListComp e [⟨tg,iter,ifs,0⟩] scope pos) spos) (jU i (jW (JO fo m ga fe Lc.length ix))):=
 let ⟨_,i1,i2⟩:=hi.h;let ⟨_,g1,g2,g3⟩:=hg.h;let ⟨_,t1,t2⟩:=ht.h;let ⟨_,e1,e2⟩:=he.h
 ⟨_,fun j=>jcx (hNd j) (by rw[M.hN j];exact hy) (hyl j) (hsc j) (M.hN j) (M.calm j) ok (i1 j) (fun C s H fp=>g1 (j,C,s,H,fp)) g3 (fun C s H fp=>t1 (j,C,s,H,fp)) (fun C s H fp=>e1 (j,C,s,H,fp)) (hsw j) (hs j),@jhq M.fr _ _ i (@EOkO.e M.fr _ _ (@jkz M.fr _ _ _ _ _ _ _ _ _ _ i2 g2 t2 e2))⟩
end
section
variable{P:Program}{w:World}{K:PySem.W.Frag}{mg:Str->Option Value}{base:Heap}{y qual:Str}{st:Stmt}{f:Addr}{fd:FuncData}{N ps:List Str}{k a n:Nat}{m:FS}
abbrev jfi(P:Program)(w:World)(K:PySem.W.Frag)(mg:Str->Option Value)(base:Heap)(N:List Str)(qual:Str)(scope:Scope)(f:Addr)(cdv:Value)(A:Around)(outer:List PySem.Env)(s:Shared)(H:Hp)(E:XK):Fm:=⟨Unit,fun _=>(jct Jp P w K mg base N qual scope f cdv A outer s H E).nox,K,N,fun _=>rfl,fun _=>rfl,fun _=>rfl⟩
theorem zq(F:Fun K y qual st f fd)(S:FnScope N ps (jc st))(ha:a=ps.length)(hn:N.length=n)
 (h:∀(cdv:Value) (A:Around) (outer:List PySem.Env) (s:Shared) (H:Hp) (E:XK),Room k (A.deeper (envOfC qual (jc st) s.heap.objs.size f cdv))->WSs (jfi P w K mg base N qual (jc st) f cdv A outer s H E) (jx st) m) :
 FnOk P w K mg base Jp (k+1) f fd ps (@Z2 ⟨K⟩ (zp a n m)):=by
 letI:Fr:=⟨K⟩
 refine F.ok S (fun vs H Q E h=>(jkK h).trans ha) (fun cdv A outer s H vs Q E hr q=>?_);obtain⟨t,h1,h2⟩:=(h cdv A outer s H E hr).h;exact⟨t,h1 (),jhJ h2 (by rw[<-hn]) q⟩
theorem jft(F:Fun K y qual st f fd)(S:FnScope N ps (jc st))(ha:a=ps.length)(hn:N.length=n)
 (h:∀(cdv:Value) (A:Around) (outer:List PySem.Env) (s:Shared) (H:Hp) (E:XK),Room k (A.deeper (envOfC qual (jc st) s.heap.objs.size f cdv))->WSs (jfi P w K mg base N qual (jc st) f cdv A outer s H E) (jx st) m) :
 FnOk P w K mg base Jp (k+1) f fd ps (@spO ⟨K⟩ (ja0 a n m)):=by
 letI:Fr:=⟨K⟩
 refine F.ok S (fun vs H Q E h=>(jks h).trans ha) (fun cdv A outer s H vs Q E hr q=>?_);obtain⟨t,h1,h2⟩:=(h cdv A outer s H E hr).h;exact⟨t,h1 (),jis h2 (by rw[<-hn]) q⟩
end
section
variable[Fr]{G H:Hp}
def EOkD(t:TE)(f:ed->Option (List Int×List D)):Prop:=∀G0 H0 G H σ ρ (Q:VK) p,EnvOk G0 H0 G H σ ρ->f ρ=some p->
 (∀a vs G' H',Ext G H G' H'->H a=none->G' a=none->H' a=some (.dK (jd8 p.1 vs))->p.1.length=vs.length->Reps G' vs p.2->Q (.ref a) H')->t σ H Q
def tFz(t:TE):TE:=fun σ H Q=>t σ H fun v H1=>∃a kvs,v=.ref a/\H1 a=some (.dK kvs)/\∀o,Q v (upd H1 a (.frz o (.dK kvs)))
def jku(f:ed->Option (List Int×List D)):ed->Option D:=fun ρ=>(f ρ).map fun p=>.dic p.1 p.2
theorem EOkD.e{t:TE}{f:ed->Option (List Int×List D)}(h:EOkD t f):EOk (tFz t) (jku f):=fun G0 H0 G H σ ρ Q d e q k=>by
 unfold jku at q;cases z:f ρ with
 | none=>rw[z]at q;cases q
 | some ds=>rw[z]at q;cases q;refine h G0 H0 G H σ ρ _ ds e z fun a vs G' H' x hn hg ha hl r=>⟨a,_,rfl,ha,fun o=>?_⟩;have x':Ext G H G' (upd H' a (.frz o (.dK (jd8 ds.1 vs)))):=⟨fun b u w=>by rw[ji (jk w hn)];exact x.hh b u w,x.gg,fun b u w=>by rw[ji (jk w hg)];exact x.gh b u w,x.nw⟩;exact k _ _ _ (x'.freeze hn hg jm) (.dic jm hl (r.mono (.upd hg)))
end
section
variable{X:Cx}
def epO(o:Obj):Nat:=match o.data with
 | .dict _ ep=>ep
 | _=>0
def szO(o:Obj):Nat:=match o.data with
 | .dict es _=>es.size
 | _=>0
theorem jhl{tf:List (Addr×Obj)}{σ:St}{H:Hp}{s:Shared}{a:Addr}{o:Obj}{kvs:List (QK×V)}(I:Inv X tf σ H s)(h:H a=some (.frz o (.dK kvs))):
 ∃vs,KV kvs vs/\s.heap.DictAt (jaO X.prog X.w) a vs (epO o)/\vs.length=szO o/\(a == sysModules)=false/\kvs.length<=sizeLine:=by
 obtain⟨ho,z,hd,vs,r,o',es,ep,h1,h2,h3,h4,h5,h6⟩:=(show ObjOk X.prog X.w H s.heap a (.frz o (.dK kvs))from I.hok a _ h);rw[ho]at h1;cases h1;have e1:epO o=ep:=by unfold epO;rw[h3]
 have e2:szO o=es.size:=by unfold szO;rw[h3]
 refine⟨vs,r,⟨o,es,ho,h2,by rw[e1];exact h3,h4,h5,h6⟩,?_,hd,z⟩;rw[e2,<- h5.length];simp
end
section
variable[Fr]
def EOkOO(t:TE)(f:ed->Option (List (List D))):Prop:=∀G0 H0 G H σ ρ (Q:VK) dss,EnvOk G0 H0 G H σ ρ->f ρ=some dss->
 (∀a bs G' H',Ext G H G' H'->(∀b∈a::bs,H b=none/\G' b=none)->(a::bs).Nodup->H' a=some (.lst (bs.map V.ref))->Rows G' H' bs dss->Q (.ref a) H')->t σ H Q
theorem Rows.snoc{G H:Hp}{bs:List Addr}{dss:List (List D)}{b:Addr}{us:List V}{ds:List D}(h:Rows G H bs dss)(hb:H b=some (.lst us))(r:Reps G us ds):Rows G H (bs++[b]) (dss++[ds]):=by
 induction h with
 | nil=>exact .cons hb r .nil
 | cons h q t ih=>exact .cons h q ih
def asI:D->Option Int
 | .int i=>some i
 | _=>none
theorem jhH{t:TS}:Q8 t fun _=>.fail:=fun G0 H0 G H σ ρ E e q=>q.elim
end
section
variable{M:Fm}{a b c e o:Expr}{es:List Expr}{fa fb fc fe:ed->Option D}{fo:ed->Option (List D)}{fs:ed->Option (List D)}{fd:ed->Option (List Int×List D)}{ga gb:ed->Option Bool}{pos p apos cpos:Pos}{x:Str}
variable{m:D->ed->Option ed}{tg iter:Expr}{st:Stmt}{sts body:List Stmt}{F F' B:FS}
theorem ZP:WS M st (fun _=>.fail):=⟨fun _ _ _=>False,fun _ _ _ _ _ _ _ h=>h.elim,@jhH M.fr _⟩
variable{ifs:List Expr}{scope sc:Scope}{Lc Fn:List Str}{ix:List Nat}
end
abbrev TLk:=V->TT
section
variable[Fr]
def eBM(f:D->List D->Option D)(fa:ed->Option D)(fs:ed->Option (List D)):ed->Option D:=fun ρ=>(fa ρ).bind fun x=>(fs ρ).bind fun xs=>f x xs
end
end L2
namespace QS
open PySem.W PyProof.Rows
structure PA(n:Nat)(p:Array Nat):Prop where
 size:p.size=n
 perm:p.toList.Perm (List.range n)
def key(K:Nat->Int)(p:Array Nat)(i:Nat):Int:=K (p.getD i 0)
section
variable{n:Nat}{K:Nat->Int}{p:Array Nat}
theorem PA.at(h:PA n p){i:Nat}(hi:i<n):p[i]?=some (p.getD i 0):=by rw[Array.getD_eq_getD_getElem?,YF (by rw[h.size];exact hi)];rfl
theorem PA.lt(h:PA n p){i:Nat}(hi:i<n):p.getD i 0<n:=by have e:=h.at hi;have m:p.getD i 0∈p.toList:=Array.mem_toList_iff.mpr (Array.mem_of_getElem? e);exact List.mem_range.mp (h.perm.mem_iff.mp m)
theorem PA.inj(h:PA n p){i j:Nat}(hi:i<n)(hj:j<n)(e:p.getD i 0=p.getD j 0):i=j:=by
 have nd:p.toList.Nodup:=h.perm.nodup_iff.mpr List.nodup_range;have hi':i<p.toList.length:=by rw[yg,h.size];exact hi
 have hj':j<p.toList.length:=by rw[yg,h.size];exact hj
 refine(List.getElem_inj (h₀:=hi') (h₁:=hj') nd).mp ?_;have a:=h.at hi;have b:=h.at hj;rw[<-yk,QC hi']at a;rw[<-yk,QC hj']at b;rw[Option.some.inj a,Option.some.inj b,e]
def Ris(K:Nat->Int)(p:Array Nat)(m:Nat):Prop:=∀i,i+1<m->key K p i<key K p (i+1)
theorem Ris.all{m:Nat}(h:Ris K p m):∀{d i:Nat},i+d+1<m->key K p i<key K p (i+d+1)
 | 0,i,hi=>h i hi
 | d+1,i,hi=>Int.lt_trans (h.all (d:=d) (by omega)) (h (i+d+1) (by omega))
theorem Ris.lt{m i j:Nat}(h:Ris K p m)(hij:i<j)(hj:j<m):key K p i<key K p j:=by obtain⟨d,rfl⟩:∃d,j=i+d+1:=⟨j-i-1,by omega⟩;exact h.all hj
variable(hK:∀i j,i<n->j<n->i≠j->K i≠K j)
include hK
end
end QS
namespace QS
open PySem PySem.W PySem.Calls PyProof.Rows
abbrev Tr:=Value×Int×Int
def t0:Tr:=(.none,0,0)
end QS
namespace QS
open PySem PySem.W PySem.Calls PyProof.Rows PyProof.V PySem.Spec
section
variable{prog:Program}{w:World}{A:Around}{R:Result->Shared->Prop}{I S:Addr}{fp wr:List Addr}{n:Nat}{P:Nat->Value->Prop}{St:Nat->Heap->Prop}{val:Nat->Int}{d:Value}
theorem gt_int{a b:Int}{t u:Tok}{s:Shared}{Q:Value->Shared->Prop}{E:Value->Shared->Prop}(h:Q (.bool (decide (a>b))) s):wpAny (model prog w) A (richCompare .Gt (.int a t) (.int b u)) Q E s:=CmpOf.ints_gt (P:=fun i v=>v=.int (if i=0 then a else b) (if i=0 then t else u)) (fun i=>if i=0 then a else b) (fun i v hv=>⟨_,hv⟩) 0 1 _ _ s Q E rfl rfl h
end
end QS
namespace L2
open PySem PySem.Spec PyProof.Rows
section
variable[Fr]
def ooO(f:ed->Option (List (List D))):ed->Option D:=fun ρ=>(f ρ).map fun dss=>.lst (dss.map .lst)
theorem EOkOO.e{t:TE}{f:ed->Option (List (List D))}(h:EOkOO t f):EOk t (ooO f):=fun G0 H0 G H σ ρ Q d e q k=>by
 obtain⟨dss,q1,q2⟩:=map_some q;subst q2;refine h _ _ _ _ _ _ _ _ e q1 fun a bs G' H' x hn nd ha r=>?_;have ss:=zX (bs:=bs) x.gh;have nd':=ye.mp nd;have rr:=r.frozen ss.1 fun b hb=>JL hb;have x1:Ext G H (more G' H' bs) H':=⟨x.hh,x.gg.trans ss.1,ss.2,fun b u z=>by
  by_cases hb:b∈bs
  . exact .inr (hn b (Yg _ hb)).1
  . rw[qA hb]at z;exact x.nw b u z⟩
 have ga:more G' H' bs a=none:=by rw[qA nd'.1];exact(hn a Yd).2
 exact k _ _ H' (x1.freeze (hn a Yd).1 ga ha) (.lst (.inl jm) (rr.mono (.upd ga)))
variable{As:TA}{fs:ed->Option (List D)}
end
structure FX(K:PySem.W.Frag)(mg:Str->Option Value)(x:Str)(st:Stmt)(a:Addr)(d:FuncData)(ps:List Str):Prop where
 f:Fun K x x st a d
 b:Binds K d ps []
 m:mg x=some (.ref a)
section
variable{M:Fm}{e:Expr}{es:List Expr}{fs:ed->Option (List D)}{pos p:Pos}{x:Str}{st:Stmt}{f1:List D->Option D}{f2:List D->Option (List D)}{f3:List D->Option (List (List D))}{k:Nat}{g:Addr}{fd:FuncData}{ps:List Str}
theorem jQ(F:∀j,FnOk (M.X j).prog (M.X j).w (M.X j).K (M.X j).mg (M.X j).base Jp k g fd ps (@Z2 M.fr f1))(hr:∀j,Room k (M.X j).A)(hg:∀j,Gl (M.X j) x)(hx:∀j,FX (M.X j).K (M.X j).mg x st g fd ps)
 (ha:WA M (e::es) fs) (hdb:(x == ("__debug__":Str))=false:=by decide) (h:ju e=false:=by rfl) (h':(es.all fun e=>!ju e)=true:=by rfl):WE M (.Call (.Name x p) (e::es) [] pos) (jj f1 fs):=jh3 F hr hg (fun j=>(hx j).m) (fun j=>(hx j).f.kp) (fun j=>(hx j).b) ha hdb h h'
theorem ZA(F:∀j,FnOk (M.X j).prog (M.X j).w (M.X j).K (M.X j).mg (M.X j).base Jp k g fd ps (@spO M.fr f2))(hr:∀j,Room k (M.X j).A)(hg:∀j,Gl (M.X j) x)(hx:∀j,FX (M.X j).K (M.X j).mg x st g fd ps)
 (ha:WA M (e::es) fs) (hdb:(x == ("__debug__":Str))=false:=by decide) (h:ju e=false:=by rfl) (h':(es.all fun e=>!ju e)=true:=by rfl):WO M (.Call (.Name x p) (e::es) [] pos) (jj f2 fs):=jga F hr hg (fun j=>(hx j).m) (fun j=>(hx j).f.kp) (fun j=>(hx j).b) ha hdb h h'
end
section
variable[Fr]
abbrev T3:=D×List (List D)×List D
structure Own3(H G' H':Hp)(t:Addr)(q:T3):Prop where
 ex:∃a c bs v us,H' t=some (.tup [v,.ref a,.ref c])/\H' a=some (.lst (bs.map V.ref))/\H' c=some (.lst us)/\(t::c::a::bs).Nodup/\(∀b∈t::c::a::bs,H b=none/\G' b=none)/\Rep G' v q.1/\Rows G' H' bs q.2.1/\Reps G' us q.2.2
theorem Own3.mono{H Hb G' H':Hp}{t:Addr}{q:T3}(h:Own3 H G' H' t q)(f:∀b,H b=none->Hb b=none):Own3 Hb G' H' t q:=by obtain⟨a,c,bs,v,us,h1,h2,h3,h4,h5,h6⟩:=h.ex;exact⟨a,c,bs,v,us,h1,h2,h3,h4,fun b hb=>⟨f b (h5 b hb).1,(h5 b hb).2⟩,h6⟩
end
section
variable[Fr]
abbrev Q2:=Option (List (List D))
abbrev Q1:=Option (List D)
structure OwnQ(H G' H':Hp)(v:V)(q:Q2):Prop where
 so:∀dss,q=some dss->∃a bs,v=.ref a/\(∀b∈a::bs,H b=none/\G' b=none)/\(a::bs).Nodup/\H' a=some (.lst (bs.map V.ref))/\Rows G' H' bs dss
 no:q=none->v=.non
structure OwnP(H G' H':Hp)(v:V)(q:Q1):Prop where
 so:∀ds,q=some ds->∃a us,v=.ref a/\H a=none/\G' a=none/\H' a=some (.lst us)/\Reps G' us ds
 no:q=none->v=.non
theorem OwnQ.mono{H Hb G' H':Hp}{v:V}{q:Q2}(h:OwnQ H G' H' v q)(f:∀b,H b=none->Hb b=none):OwnQ Hb G' H' v q:=⟨fun dss e=>let ⟨a,bs,h1,h2,h3⟩:=h.so dss e;⟨a,bs,h1,fun b hb=>⟨f b (h2 b hb).1,(h2 b hb).2⟩,h3⟩,h.no⟩
theorem OwnP.mono{H Hb G' H':Hp}{v:V}{q:Q1}(h:OwnP H G' H' v q)(f:∀b,H b=none->Hb b=none):OwnP Hb G' H' v q:=⟨fun ds e=>let ⟨a,us,h1,h2,h3⟩:=h.so ds e;⟨a,us,h1,f a h2,h3⟩,h.no⟩
def EOkQ(t:TE)(f:ed->Option Q2):Prop:=∀G0 H0 G H σ ρ (Q:VK) q,EnvOk G0 H0 G H σ ρ->f ρ=some q->(∀v G' H',Ext G H G' H'->OwnQ H G' H' v q->Q v H')->t σ H Q
def EOkP(t:TE)(f:ed->Option Q1):Prop:=∀G0 H0 G H σ ρ (Q:VK) q,EnvOk G0 H0 G H σ ρ->f ρ=some q->(∀v G' H',Ext G H G' H'->OwnP H G' H' v q->Q v H')->t σ H Q
def qD:Q2->D
 | some dss=>.lst (dss.map .lst)
 | none=>.non
def pD:Q1->D
 | some ds=>.lst ds
 | none=>.non
def qE(f:ed->Option Q2):ed->Option D:=fun ρ=>(f ρ).map qD
def pE(f:ed->Option Q1):ed->Option D:=fun ρ=>(f ρ).map pD
theorem EOkQ.e{t:TE}{f:ed->Option Q2}(h:EOkQ t f):EOk t (qE f):=fun G0 H0 G H σ ρ Q d e q k=>by
 obtain⟨q2,q1,q⟩:=map_some q;subst q;refine h _ _ _ _ _ _ _ _ e q1 fun v G' H' x o=>?_;cases q2 with
 | none=>rw[o.no rfl];exact k _ G' H' x .non
 | some dss=>
   obtain⟨a,bs,rfl,hn,nd,ha,r⟩:=o.so dss rfl;have ss:=zX (bs:=bs) x.gh;have nd':=ye.mp nd;have rr:=r.frozen ss.1 fun b hb=>JL hb;have x1:Ext G H (more G' H' bs) H':=⟨x.hh,x.gg.trans ss.1,ss.2,fun b u z=>by
    by_cases hb:b∈bs
    . exact .inr (hn b (Yg _ hb)).1
    . rw[qA hb]at z;exact x.nw b u z⟩
   have ga:more G' H' bs a=none:=by rw[qA nd'.1];exact(hn a Yd).2
   exact k _ _ H' (x1.freeze (hn a Yd).1 ga ha) (.lst (.inl jm) (rr.mono (.upd ga)))
theorem EOkP.e{t:TE}{f:ed->Option Q1}(h:EOkP t f):EOk t (pE f):=fun G0 H0 G H σ ρ Q d e q k=>by
 obtain⟨q2,q1,q⟩:=map_some q;subst q;refine h _ _ _ _ _ _ _ _ e q1 fun v G' H' x o=>?_;cases q2 with
 | none=>rw[o.no rfl];exact k _ G' H' x .non
 | some ds=>obtain⟨a,us,rfl,hn,hg,ha,r⟩:=o.so ds rfl;exact k _ _ H' (x.freeze hn hg ha) (.lst (.inl jm) (r.mono (.upd hg)))
end
section
variable[Fr]
theorem EnvOk.drop{G0 H0 G H:Hp}{σ:St}{ρ:ed}{i:Nat}(e:EnvOk G0 H0 G H σ ρ):EnvOk G0 H0 G H σ (ρ.set i .un):=by
 have at_m:∀(m:Nat) o s,σ[m]?=some o->(ρ.set i .un)[m]?=some s->s=.un\/(m≠i/\ρ[m]?=some s):=fun m o s _ g=>by
  by_cases h:i=m
  . subst h;rw[List.getElem?_set]at g;simp at g;exact .inl g.2.symm
  . rw[Yz h]at g;exact .inr ⟨Ne.symm h,g⟩
 refine⟨e.ext,by simp[e.len],fun m o s g1 g2=>?_,fun m n o o' s s' b g1 g2 g3 g4 f f'=>?_⟩
 . rcases at_m m o s g1 g2 with rfl | ⟨_,g⟩
   . exact .un _
   . exact e.slot m o s g1 g
 . rcases at_m m o s g1 g2 with rfl | ⟨_,g⟩
   . cases o with | none=>exact f.elim | some w=>cases w <;> exact f.elim
   . rcases at_m n o' s' g3 g4 with rfl | ⟨_,g'⟩
     . cases o' with | none=>exact f'.elim | some w=>cases w <;> exact f'.elim
     . exact e.dist m n o o' s s' b g1 g g3 g' f f'
end
structure Fly(P:Program)(w:World)(l:List PySem.Env)(H H':Hp)(B h0 h:Heap):Prop where
 un:Un (frs l) [] H H' h0 h
 hok:HOk P w H' h
 stay:B.StaysIn h
 fr:h.FunFrames B l
 old:∀b o,h0.get? b=some o->b∉frs l->∃o',B.get? b=some o'
 trk:∀b u,H' b=some u->∃o,B.get? b=some o
section
variable{P:Program}{w:World}{l:List PySem.Env}{H H':Hp}{B h0 h h':Heap}{X:Cx}{tf:List (Addr×Obj)}{σ:St}{s:Shared}
theorem Fly.hok'(F:Fly P w l H H' B h0 h)(st:B.StaysIn h'):HOk P w H' h':=fun b u e=>by
 refine(F.hok b u e).stay (fun c v hc q=>?_) (fun _ q=>q) fun _ _ q=>q;have:∃u',H' c=some u':=by
  rcases hc with z | z
  . exact⟨u,z ▸ e⟩
  . exact⟨_,z⟩
 obtain⟨u',e'⟩:=this;obtain⟨o,eo⟩:=F.trk c u' e';have q2:=F.stay c o eo;rw[q]at q2;cases q2;exact st c _ eo
theorem Fly.step(F:Fly P w l H H' B h0 h)(st:B.StaysIn h')(fr:h'.FunFrames B l)(up:h.UpToSlots h'):Fly P w l H H' B h0 h':=by
 refine⟨⟨fun b o q n nf nx=>?_,fun b o q n hf nx=>?_,F.un.free,fun b o q nx=>?_,F.un.tups,F.un.frzs,F.un.tbls⟩,F.hok' st,st,fr,F.old,F.trk⟩
 . obtain⟨o',e⟩:=F.old b o q nf;have e1:=F.un.keep b o q n nf nx;have e2:=F.stay b o' e;rw[e1]at e2;cases e2;exact st b _ e
 . obtain⟨sl,e⟩:=F.un.slot b o q n hf nx;obtain⟨_,o',e',d⟩:=F.fr.mem hf;rw[e]at e';cases e';obtain⟨sl',e2⟩:=up b _ e d;exact⟨sl',e2⟩
 . by_cases hf:b∈frs l
   . obtain⟨_,o',e',_⟩:=fr.mem hf;exact⟨o',e'⟩
   . obtain⟨o',e⟩:=F.old b o q hf;exact⟨o',st b o' e⟩
end
abbrev Cx.fr(X:Cx):Fr:=⟨X.K⟩
def Its(z:Str):It:=⟨fun i _=>i<z.cps.size,fun i H x H'=>H'=H/\∃c,z.cps[i]?=some c/\x=.str ⟨#[c]⟩,fun i _=>z.cps.size<=i⟩
theorem jdR{P:Program}{w:World}{K:PySem.W.Frag}{tg:Expr}(z:Str)(t:Tok)(it:Addr):Turn P w K tg (Its z) [it] it (fun i h=>h.IsStrIter it "str_ascii_iterator" z t i) where
 mem:=by simp
 obj:=fun i h st b hb=>by
  have e:b=it:=by simpa using hb
  subst e;obtain⟨o,e,c,d⟩:=st;exact⟨o,e,fun v q=>by rw[d]at q;cases q⟩
 keep:=fun i h h' st k=>by obtain⟨o,e,c,d⟩:=st;exact⟨o,k it (by simp) o e,c,d⟩
 item:=by intro X hP hw hK hc i tf s σ H E I hf st hg;subst hP hw hK;obtain⟨f0,f1,f2,f3,f4,f5⟩:=hf it (by simp);obtain⟨c,hx⟩:∃c,z.cps[i]?=some c:=⟨_,YF (show i<z.cps.size from hg)⟩;refine wpAny_pyNext_ascii_item st hx fun h' st' sb=>?_;have I1:Inv X tf σ H { s with heap:=h',toks:=s.toks+1 }:=I.turned (fun b o hb e=>(sb.2 b hb).trans e) f0 f1 f3 f4 f5;obtain⟨o,e,c',d⟩:=id st';exact⟨_,rfl,jce (s:={ s with heap:=h',toks:=s.toks+1 }) e c' d (by decide) ⟨.str ⟨#[c]⟩,H,I1,⟨_,rfl⟩,⟨rfl,c,hx,rfl⟩,st',fun b hb=>(hf b hb).1⟩⟩
 done:=by intro X hP hw hK hc i tf s σ H E I hf st hg;subst hP hw hK;obtain⟨f0,f1,f2,f3,f4,f5⟩:=hf it (by simp);exact wpAny_pyNext_ascii_end (I.ok.hd hc) st (YU (show z.cps.size<=i from hg)) fun h' eb=>⟨rfl,I.turned (t':=s.toks) (fun b o hb e=>eb b o hb e) f0 f1 f3 f4 f5⟩
 self:=fun _ _ _ _ _ st h=>wpAny_pyIter_striter_ascii st h
theorem jeb{P:Program}{w:World}{K:PySem.W.Frag}{tg:Expr}(z:Str)(t:Tok)(it:Addr):Turn P w K tg (Its z) [it] it (fun i h=>h.IsStrIter it "str_iterator" z t i) where
 mem:=by simp
 obj:=fun i h st b hb=>by
  have e:b=it:=by simpa using hb
  subst e;obtain⟨o,e,c,d⟩:=st;exact⟨o,e,fun v q=>by rw[d]at q;cases q⟩
 keep:=fun i h h' st k=>by obtain⟨o,e,c,d⟩:=st;exact⟨o,k it (by simp) o e,c,d⟩
 item:=by intro X hP hw hK hc i tf s σ H E I hf st hg;subst hP hw hK;obtain⟨f0,f1,f2,f3,f4,f5⟩:=hf it (by simp);obtain⟨c,hx⟩:∃c,z.cps[i]?=some c:=⟨_,YF (show i<z.cps.size from hg)⟩;refine wpAny_pyNext_wide_item st hx fun h' st' sb=>?_;have I1:Inv X tf σ H { s with heap:=h',toks:=s.toks+1 }:=I.turned (fun b o hb e=>(sb.2 b hb).trans e) f0 f1 f3 f4 f5;obtain⟨o,e,c',d⟩:=id st';exact⟨_,rfl,jce (s:={ s with heap:=h',toks:=s.toks+1 }) e c' d (by decide) ⟨.str ⟨#[c]⟩,H,I1,⟨_,rfl⟩,⟨rfl,c,hx,rfl⟩,st',fun b hb=>(hf b hb).1⟩⟩
 done:=by intro X hP hw hK hc i tf s σ H E I hf st hg;subst hP hw hK;obtain⟨f0,f1,f2,f3,f4,f5⟩:=hf it (by simp);exact wpAny_pyNext_wide_end (I.ok.hd hc) st (YU (show z.cps.size<=i from hg)) fun h' eb=>⟨rfl,I.turned (t':=s.toks) (fun b o hb e=>eb b o hb e) f0 f1 f3 f4 f5⟩
 self:=fun _ _ _ _ _ st h=>wpAny_pyIter_striter_wide st h
section
variable{X:Cx}{tg:Expr}
def jjq(tl:TE):TI:=fun σ H R=>tl σ H fun x H1=>∃z,x=.str z/\R (Its z) H1
theorem jiO{l:Expr}{tl:TE}(hl:PE X l tl):PI X tg l (jjq tl):=by
 intro tf s σ H R I h;refine qe (hl tf s σ H _ I h) fun v s1 zz=>?_;obtain⟨x,H1,I1,r1,q1⟩:=zz;obtain⟨z,e,q⟩:=q1;subst e;obtain⟨t,rfl⟩:=r1;have fp:∀b∈[s1.heap.objs.size],QZ X tf H1 b:=fun b hb=>by
  have e:b=s1.heap.objs.size:=by simpa using hb
  subst e;exact I1.fpOk (Ym _) (I1.hok.fresh (Ym _))
 cases ha:z.cps.all (· < 128)
 . exact wpAny_pyIter_wide ha ⟨s1.heap.objs.size,[s1.heap.objs.size],_,_,H1,rfl,I1.kept (t':=s1.toks) fun b o e=>Yb _ e,jeb z t _,⟨_,Yl _ rfl,rfl,rfl⟩,fp,q⟩
 . exact wpAny_pyIter_ascii ha ⟨s1.heap.objs.size,[s1.heap.objs.size],_,_,H1,rfl,I1.kept (t':=s1.toks) fun b o e=>Yb _ e,jdR z t _,⟨_,Yl _ rfl,rfl,rfl⟩,fp,q⟩
def jjx:V->Option Int->Option Int->Hp->VK->Prop:=fun x lo hi H Q=>∃z,x=.str z/\z.length<=sizeLine/\Q (.str (Txt.slice z lo hi)) H
def je3(K:PySem.W.Frag):V->List V->Hp->VK->Prop:=fun x vs H Q=>∃(z:Str) (l:Addr) (ys:List Str),x=.str z/\vs=[.ref l]/\qW K H l (ys.map V.str)/\(ys.map (·.length)).sum+ys.length*z.length<=16777216/\Q (.str (Txt.join z ys)) H
theorem QQ:∀{ys:List Str} {tm:List Value},Vals (ys.map V.str) tm->StrsAre tm ys
 | [],_,h=>by cases h;exact .nil
 | b::bs,_,h=>by
   cases h with
   | cons r t=>obtain⟨u,rfl⟩:=r;exact .cons _ u (QQ t)
theorem jgw:MtR X "str.join" (je3 X.K):=by intro tf s σ H x vs v us Q I rx rv h;obtain⟨z,l,ys,rfl,rfl,hH,hz,q⟩:=h;obtain⟨t,rfl⟩:=rx;obtain⟨u,rfl,ru⟩:=rv.one;cases ru;obtain⟨tm,r,p,_⟩:=I.list hH;exact join_list p.isList (QQ r) hz fun t' k=>⟨.str _,H,I.tok _,⟨_,rfl⟩,q⟩
def jaV:V->List V->Hp->VK->Prop:=fun x vs H Q=>∃(z y:Str),x=.str z/\vs=[.str y]/\Q (.bl (Txt.startswith z y)) H
theorem jea:MtR X "str.startswith" jaV:=by intro tf s σ H x vs v us Q I rx rv h;obtain⟨z,y,rfl,rfl,q⟩:=h;obtain⟨t,rfl⟩:=rx;obtain⟨u,rfl,ru⟩:=rv.one;obtain⟨t',rfl⟩:=ru;exact call_gives F.slot_str_startswith (Ka _ _ _) F.entry_str_startswith (F.args_str_startswith_2 _ _) (gives_str_startswith z y t t') ⟨.bl _,H,I,rfl,q⟩
theorem jir:SlR X jjx:=by
 intro tf s σ H x v vl vu lo hi sl Q I rx hs pl pu h;obtain⟨z,rfl,hz,q⟩:=h;obtain⟨t,rfl⟩:=rx;have fin:∀l u:Option (Int×Tok),lo=l.map (·.1)->hi=u.map (·.1)->s.heap.IsSlice sl l u none->wpAny (model X.prog X.w) X.A (getItem (.str z t) (.ref sl)) (EP X tf σ Q) X.xe s:=fun l u h1 h2 h3=>by subst h1 h2;refine wpAny_getItem_str_slice h3 rfl ?_;exact post_val_or_str ⟨Yx (Txt.slice_le z _ _) hz,fun t' k=>⟨.str _,H,I.tok _,⟨_,rfl⟩,q⟩⟩
 refine⟨"str",_,F.slot_str_getitem.lookup,Ka _ _ _,?_⟩;cases pl with
 | none=>
   cases pu with
   | none=>exact fin none none rfl rfl hs
   | int j tj=>exact fin none (some (j,tj)) rfl rfl hs
 | int i ti=>
   cases pu with
   | none=>exact fin (some (i,ti)) none rfl rfl hs
   | int j tj=>exact fin (some (i,ti)) (some (j,tj)) rfl rfl hs
def jc2:V->List V->Hp->VK->Prop:=fun x vs H Q=>∃(z y:Str),x=.str z/\vs=[.str y]/\(y.length == 0)=false/\z.length<=sizeLine/\(Txt.split z y).length<=sizeLine/\∀l,H l=none->Q (.ref l) (upd H l (.lst ((Txt.split z y).map V.str)))
theorem jaC:∀(ys:List Str) (k:Nat),Vals (ys.map V.str) (strsFrom k ys)
 | [],_=>.nil
 | y::ys,k=>.cons ⟨k,rfl⟩ (jaC ys (k+1))
theorem jfY:MtR X "str.split" jc2:=by
 intro tf s σ H x vs v us Q I rx rv h;obtain⟨z,y,rfl,rfl,hy,hz,hn,q⟩:=h;obtain⟨t,rfl⟩:=rx;obtain⟨u,rfl,ru⟩:=rv.one;obtain⟨t',rfl⟩:=ru;have fin:∀(tm:List Value) (k:Nat),Vals ((Txt.split z y).map V.str) tm → EP X tf σ Q (.ref s.heap.objs.size) { s with heap:=s.heap.push { cls:=.type "list",data:=.seq tm.toArray },toks:=k }:=fun tm k r=>⟨.ref s.heap.objs.size,_,I.laid (t':=k) (o:=.lst ((Txt.split z y).map V.str)) (fun b ob q=>Yb _ q) (Ym _) ⟨by rw[Ye];exact hn,_,0,r,Yl _ rfl⟩,rfl,q _ (I.hok.fresh (Ym _))⟩
 cases h1:(decide (z.length<y.length) || decide (Builtin.Str.strKind z<Builtin.Str.strKind y))
 . cases hf:(Builtin.Str.occurrences z y 0 z.length (z.length+1)).isEmpty
   . have e:Txt.split z y=Builtin.Str.partsBetween z (Builtin.Str.occurrences z y 0 z.length (z.length+1)) y.length:=by unfold Txt.split;rw[YG (by rw[h1];exact Ya),YG (by rw[hf];exact Ya)]
     refine Kj F.slot_str_split (Ka _ _ _) F.entry_str_split (F.args_str_split_2 _ _) (meets_str_split_sep z y t t' h1 hy hf hz (by rw[<-e];exact hn)) ?_;rw[<-e];exact fin _ _ (jaC _ _)
   . have e:Txt.split z y=[z]:=by unfold Txt.split;rw[YG (by rw[h1];exact Ya),Yq hf]
     refine Kj F.slot_str_split (Ka _ _ _) F.entry_str_split (F.args_str_split_2 _ _) (meets_str_split_not_found z y t t' h1 hy hf) ?_;exact fin [.str z t] s.toks (by rw[e];exact .cons ⟨t,rfl⟩ .nil)
 . have e:Txt.split z y=[z]:=by unfold Txt.split;rw[Yq h1]
   refine Kj F.slot_str_split (Ka _ _ _) F.entry_str_split (F.args_str_split_2 _ _) (meets_str_split_cannot_occur z y t t' h1) ?_;exact fin [.str z t] s.toks (by rw[e];exact .cons ⟨t,rfl⟩ .nil)
theorem jbp:CallR X (.type "int") (fun xs H Q=>∃x n,xs=[.str x] ∧ PySem.intText? x=some n ∧ x.length ≤ 640 ∧ Q (.int n) H):=by intro tf s σ H xs us Q I r h;obtain⟨x,n,rfl,hn,hl,q⟩:=h;obtain⟨u,rfl,t,rfl⟩:=Qs r;exact PySem.W.KIN.call_text hn hl ⟨.int n,H,I.tok _,⟨_,rfl⟩,q⟩
end
section
variable{prog:Program}{w:World}{A:Around}{E:Value->Shared->Prop}{s:Shared}
theorem jfu{it t:Addr}{i:Nat}{items:Array Value}{x:Value}{Q:Value->Shared->Prop}(hit:s.heap.IsTupleIter it t i)(ht:s.heap.IsTuple t items)(hx:items[i]?=some x)
 (hQ:∀h',h'.IsTupleIter it t (i+1)->Heap.SameBut it s.heap h'->Q x { s with heap:=h' }):wpAny (model prog w) A (Builtin.SmallTypes.nextOf (.ref it)) Q E s:=by
 have ty:=hit.typeIs;obtain⟨o,e1,e2,e3⟩:=hit;obtain⟨u,d1,_,n,d2⟩:=ht;unfold Builtin.SmallTypes.nextOf;refine QB (Y4 (name:=Str.ofString "__next__") ty F.slot_tuple_iterator_next (yG F.slot_tuple_iterator_next ty F.entry_tuple_iterator_next ?_ (F.args_tuple_iterator_next_1 _)));refine QB (m:=field (.ref it) 0) (YY e1 e3 (x:=.ref t) rfl ?_);show wpAny _ _ (if (Value.ref t == Value.none)=true then _ else field (.ref it) 1 >>= _) _ _ s;have z:¬(Value.ref t == Value.none)=true:=Ya;rw[YG z];refine QB (YY e1 e3 (x:=.int i 0) rfl (QB (m:=seqItems? (.ref t)) (Y6 d1 d2 ?_)));simp only[Int.toNat_natCast,hx];refine QB (wpAny_setField e1 e3 (by simp) (Yn ⟨x,rfl,Yn (hQ _ ⟨_,YZ _ e1 (Obj.isFreed_of_fields (Obj.data_mapFields e3 _)),(Obj.cls_mapFields ..).trans e2,?_⟩ (Heap.SameBut.update ..))⟩));rw[Obj.data_mapFields e3];simp[rawInt]
theorem Zv{h h':Heap}{it t b:Addr}{i:Nat}(y:h.IsTupleIter it t i)(k:Heap.ExtBut b h h')(n:it≠b):h'.IsTupleIter it t i:=let ⟨o,e,r⟩:=y;⟨o,k it o n e,r⟩
theorem jcs{h h':Heap}{t b:Addr}{xs:Array Value}(y:h.IsTuple t xs)(k:Heap.ExtBut b h h')(n:t≠b):h'.IsTuple t xs:=let ⟨o,e,r⟩:=y;⟨o,k t o n e,r⟩
variable{z TI TO i1 i2 l1 l2:Addr}{k1 k2:Nat}{xs ys:Array Value}{x y a b:Value}
theorem jeM{Q:Value->Shared->Prop}(D:ZipApart z TI TO i1 i2 l1 l2)(hz:IsZip s.heap z TI TO .none)(hTI:IsPair s.heap TI (.ref i1) (.ref i2))(hTO:IsPair s.heap TO a b)
 (h1:s.heap.IsListIter i1 l1 k1) (h2:s.heap.IsTupleIter i2 l2 k2) (p1:s.heap.IsList l1 xs) (p2:s.heap.IsTuple l2 ys) (hx:xs[k1]?=some x) (hy:ys[k2]?=some y)
 (hQ:∀h',IsZip h' z TI TO (rawInt s.heap.objs.size)->IsPair h' TO x y->h'.IsListIter i1 l1 (k1+1)->h'.IsTupleIter i2 l2 (k2+1)->IsPair h' s.heap.objs.size x y->
  (∀c o,c≠z->c≠TO->c≠i1->c≠i2->s.heap.get? c=some o->h'.get? c=some o)->Q (.ref s.heap.objs.size) { s with heap:=h' }):wpAny (model prog w) A (Builtin.«zip.__next__» ⟨[.ref z],[]⟩) (fun fin s'=>∃v,fin=.done (.ret v)/\Q v s') E s:=by
 refine QB (m:=field (.ref z) 2) (YY hz rfl (x:=.bool false) rfl ?_);refine QB (m:=field (.ref z) 3) (YY hz rfl (x:=.ref TI) rfl (QB (Y6 hTI rfl ?_)));refine QB (m:=Builtin.SmallTypes.ownedTupleIsFree (.ref z)) ?_;unfold Builtin.SmallTypes.ownedTupleIsFree;refine QB (YY hz rfl (x:=.none) rfl (Yn ?_));simp only[yU];refine QB (wpAny_rule (QB (YY hz rfl (x:=.ref TO) rfl (QB (yh hz (by simp) fun g1 z1 s1=>?_)))));have z1:IsZip g1 z TI TO .ellipsis:=z1;refine QB ?_;simp only[List.zipIdx_cons,List.zipIdx_nil,yQ,yZ];refine QB (QB (wpAny_onRaise (QB (m:=Builtin.SmallTypes.nextOf (.ref i1)) ?_)));refine yr (h1.extBut s1.extBut D.i1z) (p1.extBut s1.extBut D.l1z) hx fun g2 q1 s2=>Yn ?_;have t2:IsPair g2 TO a b:=s2.extBut _ _ D.TOi1 (s1.extBut _ _ D.TOz hTO);refine QB (Y6 t2 rfl (QB (wpAny_updateSeq_pair t2 fun g3 t3 s3=>QB (wpAny_letGo (Yn ?_)))));have t3:IsPair g3 TO x b:=t3;refine QB (QB (wpAny_onRaise (QB (m:=Builtin.SmallTypes.nextOf (.ref i2)) ?_)));refine jfu (Zv (Zv (Zv h2 s1.extBut D.i2z) s2.extBut D.i12.symm) s3.extBut D.TOi2.symm) (jcs (jcs (jcs p2 s1.extBut D.l2z) s2.extBut D.l2i1) s3.extBut D.l2TO) hy fun g4 q2 s4=>Yn ?_;have t4:IsPair g4 TO x b:=s4.extBut _ _ D.TOi2 t3;refine QB (Y6 t4 rfl (QB (wpAny_updateSeq_pair t4 fun g5 t5 s5=>QB (wpAny_letGo (Yn (Yn ?_))))));have t5:IsPair g5 TO x y:=t5;refine QB (Y6 t5 rfl (QB (wpAny_newTuple (QB (m:=Builtin.SmallTypes.ownedTupleHandOut (.ref z) (.ref g5.objs.size)) ?_))));have sz:g5.objs.size=s.heap.objs.size:=by rw[s5.1,s4.1,s3.1,s2.1,s1.1]
 have z5:IsZip g5 z TI TO .ellipsis:=s5.extBut _ _ D.TOz.symm (s4.extBut _ _ D.i2z.symm (s3.extBut _ _ D.TOz.symm (s2.extBut _ _ D.i1z.symm z1)));have u1:g5.IsListIter i1 l1 (k1+1):=((q1.extBut s3.extBut D.TOi1.symm).extBut s4.extBut D.i12).extBut s5.extBut D.TOi1.symm;have u2:g5.IsTupleIter i2 l2 (k2+1):=Zv q2 s5.extBut D.TOi2.symm;have lz:z<g5.objs.size:=Yp z5;unfold Builtin.SmallTypes.ownedTupleHandOut;refine QB (yh (Yb _ z5) (by simp) fun g7 z7 s7=>yh z7 (by simp) fun g8 z8 s8=>Yn ⟨_,rfl,?_⟩);have up:∀c o,c≠z->g5.get? c=some o->g8.get? c=some o:=fun c o c1 e=>s8.extBut _ _ c1 (s7.extBut _ _ c1 (Yb _ e));have t8:IsPair g8 g5.objs.size x y:=s8.extBut _ _ (YS lz) (s7.extBut _ _ (YS lz) (Yl _ rfl));have z8:IsZip g8 z TI TO (rawInt g5.objs.size):=z8;rw[sz]at z8 t8;show Q (.ref g5.objs.size) _;rw[sz];refine hQ g8 z8 (up _ _ D.TOz t5) (u1.at fun o e=>up _ o D.i1z e) (let ⟨o,e,r⟩:=u2;⟨o,up _ o D.i2z e,r⟩) t8 fun c o c1 c2 c3 c4 e=>up c o c1 ?_;exact s5.extBut _ _ c2 (s4.extBut _ _ c4 (s3.extBut _ _ c2 (s2.extBut _ _ c3 (s1.extBut _ _ c1 e))))
theorem jev{Q:Option Value->Shared->Prop}(D:ZipApart z TI TO i1 i2 l1 l2)(hz:IsZip s.heap z TI TO .none)(hTI:IsPair s.heap TI (.ref i1) (.ref i2))(hTO:IsPair s.heap TO a b)
 (h1:s.heap.IsListIter i1 l1 k1) (h2:s.heap.IsTupleIter i2 l2 k2) (p1:s.heap.IsList l1 xs) (p2:s.heap.IsTuple l2 ys) (hx:xs[k1]?=some x) (hy:ys[k2]?=some y)
 (hQ:∀h',IsZip h' z TI TO (rawInt s.heap.objs.size)->IsPair h' TO x y->h'.IsListIter i1 l1 (k1+1)->h'.IsTupleIter i2 l2 (k2+1)->IsPair h' s.heap.objs.size x y->
  (∀c o,c≠z->c≠TO->c≠i1->c≠i2->s.heap.get? c=some o->h'.get? c=some o)->Q (some (.ref s.heap.objs.size)) { s with heap:=h' }):wpAny (model prog w) A (pyNext (.ref z)) Q E s:=by
 have ty:s.TypeIs (.ref z) "zip":=⟨_,hz,rfl⟩;unfold pyNext;exact QB (wpAny_attempt (Y4 (name:=Str.ofString "__next__") ty yf (yG yf ty y9 (jeM D hz hTI hTO h1 h2 p1 p2 hx hy fun h' a1 a2 a3 a4 a5 a6=>Yn (hQ h' a1 a2 a3 a4 a5 a6)) (yY _))))
theorem jel{Q:Fin->Shared->Prop}(hh:A.handled=none)(D:ZipApart z TI TO i1 i2 l1 l2)(hz:IsZip s.heap z TI TO .none)(hTI:IsPair s.heap TI (.ref i1) (.ref i2))
 (h1:s.heap.IsListIter i1 l1 k1) (p1:s.heap.IsList l1 xs) (hx:xs[k1]?=none)
 (hE:∀h' e,(∀c o,c≠z → c≠i1 → s.heap.get? c=some o → h'.get? c=some o) → (∃o,h'.get? e=some o ∧ o.cls=.type "StopIteration") → E (.ref e) { s with heap:=h' }) (hTO:IsPair s.heap TO a b):wpAny (model prog w) A (Builtin.«zip.__next__» ⟨[.ref z],[]⟩) Q E s:=by
 refine QB (m:=field (.ref z) 2) (YY hz rfl (x:=.bool false) rfl ?_);refine QB (m:=field (.ref z) 3) (YY hz rfl (x:=.ref TI) rfl (QB (Y6 hTI rfl ?_)));refine QB (m:=Builtin.SmallTypes.ownedTupleIsFree (.ref z)) ?_;unfold Builtin.SmallTypes.ownedTupleIsFree;refine QB (YY hz rfl (x:=.none) rfl (Yn ?_));simp only[yU];refine QB (wpAny_rule (QB (YY hz rfl (x:=.ref TO) rfl (QB (yh hz (by simp) fun g1 z1 s1=>?_)))));have z1:IsZip g1 z TI TO .ellipsis:=z1;refine QB ?_;simp only[List.zipIdx_cons,List.zipIdx_nil,yQ,yZ];refine QB (QB (wpAny_onRaise (QB (m:=Builtin.SmallTypes.nextOf (.ref i1)) ?_)));refine y0 hh (h1.extBut s1.extBut D.i1z) (p1.extBut s1.extBut D.l1z) hx fun g2 e s2 he=>?_;obtain⟨oe,w1,w2⟩:=he;have z2:IsZip g2 z TI TO .ellipsis:=s2 _ _ D.i1z.symm z1;have ne:e≠z:=fun q=>by subst q;rw[z2]at w1;cases w1;simp at w2
 exact yh z2 (by simp) fun g3 _ s3=>hE g3 e (fun c o c1 c3 q=>s3.extBut _ _ c1 (s2 _ _ c3 (s1.extBut _ _ c1 q))) ⟨oe,s3.extBut _ _ ne w1,w2⟩
theorem jfr{Q:Option Value->Shared->Prop}(hh:A.handled=none)(D:ZipApart z TI TO i1 i2 l1 l2)(hz:IsZip s.heap z TI TO .none)(hTI:IsPair s.heap TI (.ref i1) (.ref i2))(hTO:IsPair s.heap TO a b)
 (h1:s.heap.IsListIter i1 l1 k1) (p1:s.heap.IsList l1 xs) (hx:xs[k1]?=none) (hQ:∀h',(∀c o,c≠z->c≠i1->s.heap.get? c=some o->h'.get? c=some o)->Q none { s with heap:=h' }):wpAny (model prog w) A (pyNext (.ref z)) Q E s:=by
 have ty:s.TypeIs (.ref z) "zip":=⟨_,hz,rfl⟩;unfold pyNext;refine QB (wpAny_attempt (Y4 (name:=Str.ofString "__next__") ty yf (yG yf ty y9 (jel hh D hz hTI h1 p1 hx (fun h' e hk he=>?_) hTO) (yY _))));obtain⟨o,w1,w2⟩:=he;exact QB (wpAny_isInstance (T := "StopIteration") (b:=true) ⟨o,w1,w2⟩ isSubtype_stop (Yn (hQ _ hk)))
end
abbrev zt2(h:Heap)(l1 l2:Addr):Heap:=(zipH1 h l1).push { cls:=.type "tuple_iterator",data:=.fields #[.ref l2,.int 0 0] }
abbrev zt3(h:Heap)(l1 l2:Addr):Heap:=(zt2 h l1 l2).push { cls:=.type "tuple",data:=.seq #[.ref h.objs.size,.ref (zipH1 h l1).objs.size] }
abbrev zt4(h:Heap)(l1 l2:Addr):Heap:=(zt3 h l1 l2).push { cls:=.type "tuple",data:=.seq #[.none,.none] }
abbrev zt5(h:Heap)(l1 l2:Addr):Heap:=(zt4 h l1 l2).push { cls:=.type "zip",data:=.fields #[.none,.bool false,.bool false,.ref (zt2 h l1 l2).objs.size,.ref (zt3 h l1 l2).objs.size] }
theorem jc4(l1 l2:Addr)(xs ys:Array Value):Meets (Builtin.«zip.__new__» ⟨[.type "zip",.ref l1,.ref l2],[]⟩) (fun _ R s=>s.heap.IsList l1 xs ∧ s.heap.IsTuple l2 ys ∧ R (.ok (.ret (.ref (zt4 s.heap l1 l2).objs.size))) { s with heap:=zt5 s.heap l1 l2 }):=
 .of_wp fun prog w A R s h=>by
  obtain⟨hp,g,d,tk,os⟩:=s;obtain⟨q1,q2,h⟩:=h;have hsub:=sub_zip;have a1:Heap.IsList (Shared.heap ⟨hp,g,d,tk,os⟩) l1 xs:=q1;have a2:Heap.IsTuple (Shared.heap ⟨hp.push { cls:=.type "list_iterator",data:=.fields #[.ref l1,.int 0 0] },g,d,tk,os⟩) l2 ys:=let ⟨o,e,r⟩:=q2;⟨o,Yb _ e,r⟩
  wp_walk using wpAny_pyIter_list a1,wpAny_pyIter_tuple a2
  exact⟨_,rfl,h⟩
section
variable{prog:Program}{w:World}{A:Around}{E:Value->Shared->Prop}{s:Shared}
theorem jdS{l1 l2:Addr}{xs ys:Array Value}{Q:Value->Shared->Prop}(q1:s.heap.IsList l1 xs)(q2:s.heap.IsTuple l2 ys)
 (h:∀h',IsZip h' (s.heap.objs.size+4) (s.heap.objs.size+2) (s.heap.objs.size+3) .none->IsPair h' (s.heap.objs.size+2) (.ref s.heap.objs.size) (.ref (s.heap.objs.size+1))->IsPair h' (s.heap.objs.size+3) .none .none->
  h'.IsListIter s.heap.objs.size l1 0 → h'.IsTupleIter (s.heap.objs.size+1) l2 0 → (∀c o,s.heap.get? c=some o → h'.get? c=some o) → Q (.ref (s.heap.objs.size+4)) { s with heap:=h' }):wpAny (model prog w) A (call (.type "zip") [.ref l1,.ref l2]) Q E s:=by
 refine callType_new F.called_zip (by decide) (F.typeCall_zip_2 _ _) (F.newCall_zip_2 _ _) (fun obj=>F.args_object_init_3 obj _ _) F.entry_zip_new (jc4 l1 l2 xs ys) ⟨q1,q2,?_⟩;have z1:(zipH1 s.heap l1).objs.size=s.heap.objs.size+1:=YO ..
 have z2:(zt2 s.heap l1 l2).objs.size=s.heap.objs.size+2:=by rw[YO,z1]
 have z3:(zt3 s.heap l1 l2).objs.size=s.heap.objs.size+3:=by rw[YO,z2]
 have z4:(zt4 s.heap l1 l2).objs.size=s.heap.objs.size+4:=by rw[YO,z3]
 have up:∀{h:Heap} {o:Obj} {c:Addr} {u:Obj},h.get? c=some u->(h.push o).get? c=some u:=fun e=>Yb _ e;have g5:(zt5 s.heap l1 l2).get? (zt4 s.heap l1 l2).objs.size=some _:=Yl _ rfl;have g4:(zt5 s.heap l1 l2).get? (zt3 s.heap l1 l2).objs.size=some _:=up (Yl _ rfl);have g3:(zt5 s.heap l1 l2).get? (zt2 s.heap l1 l2).objs.size=some _:=up (up (Yl _ rfl));have g2:(zt5 s.heap l1 l2).get? (zipH1 s.heap l1).objs.size=some _:=up (up (up (Yl _ rfl)));have g1:(zt5 s.heap l1 l2).get? s.heap.objs.size=some _:=up (up (up (up (Yl _ rfl))));show _/\_;rw[z2,z3,z4]at g5;rw[z1,z2]at g3;rw[z3]at g4;rw[z1]at g2;rw[z4];exact⟨⟨_,g5,rfl⟩,h _ g5 g3 g4 ⟨_,g1,rfl,rfl⟩ ⟨_,g2,rfl,rfl⟩ fun c o q=>up (up (up (up (up q))))⟩
end
def jim(K:PySem.W.Frag)(p:Addr)(ys:List Str):It:=
 ⟨fun i H=>∃xs x y,qW K H p xs/\xs[i]?=some x/\ys[i]?=some y,
  fun i H v H'=>∃t x y,H t=none/\v=.ref t/\H'=upd H t (.tup [x,.str y])/\ys[i]?=some y/\∀xs,qW K H p xs->xs[i]?=some x,
  fun i H=>∃xs,qW K H p xs/\xs.length<=i⟩
theorem jdP{P:Program}{w:World}{K:PySem.W.Frag}{elts:List Expr}{x1:Nat}{tpos:Pos}{z TI TO i1 i2 p q:Addr}{ks:List Str}(D:ZipApart z TI TO i1 i2 p q)(hq:SqT K (fun _=>none) q (ks.map V.str)):
 Turn P w K (.Tuple elts x1 tpos) (jim K p ks) [z,TI,TO,i1,i2] z (fun i h=>IsZip h z TI TO .none/\IsPair h TI (.ref i1) (.ref i2)/\(∃a b,IsPair h TO a b)/\h.IsListIter i1 p i/\h.IsTupleIter i2 q i) where
 mem:=by simp
 obj:=fun i h st b hb=>by
  obtain⟨hz,hTI,⟨a,c,hTO⟩,⟨o1,e1,_,d1⟩,⟨o2,e2,_,d2⟩⟩:=st;simp only[Yj,Yu,Y5]at hb;rcases hb with rfl | rfl | rfl | rfl | rfl
  . exact⟨_,hz,fun v y=>nomatch y⟩
  . exact⟨_,hTI,fun v y=>nomatch y⟩
  . exact⟨_,hTO,fun v y=>nomatch y⟩
  . exact⟨o1,e1,fun v y=>by rw[d1]at y;cases y⟩
  . exact⟨o2,e2,fun v y=>by rw[d2]at y;cases y⟩
 keep:=fun i h h' st k=>by obtain⟨hz,hTI,⟨a,c,hTO⟩,h1,⟨o2,e2,r2⟩⟩:=st;exact⟨k _ (by simp) _ hz,k _ (by simp) _ hTI,⟨a,c,k _ (by simp) _ hTO⟩,h1.at fun o e=>k _ (by simp) o e,⟨o2,k _ (by simp) o2 e2,r2⟩⟩
 item:=by
  intro X hP hw hK hc i tf s σ H E I hf st hg;subst hP hw hK;obtain⟨xs,x,y,hp,hx,hy⟩:=hg;obtain⟨tm,rv,pl,_⟩:=I.list hp;have hq':SqT X.K H q (ks.map V.str):=by
   rcases hq with(r | ⟨_,r⟩) | r
   . cases r
   . cases r
   . exact .inr r
  obtain⟨its2,rv2,pl2,_⟩:=I.tuple hq';obtain⟨u,hu,ru⟩:=rv.get hx;obtain⟨u2,hu2,ru2⟩:=rv2.get (i:=i) (x:=V.str y) (by rw[Yt,hy];rfl);obtain⟨hz,hTI,⟨a,c,hTO⟩,h1,h2⟩:=st;refine jev D hz hTI hTO h1 h2 pl.isList (show s.heap.IsTuple q its2.toArray from pl2) (x:=u) (y:=u2) (by simpa using hu) (by simpa using hu2) fun h' r1 r2 r3 r4 r5 r7=>?_;have kk:∀b o,b∉[z,TI,TO,i1,i2]->s.heap.get? b=some o->h'.get? b=some o:=fun b o hb e=>by simp only[Yj,Yu,Y5,not_or]at hb;exact r7 b o hb.1 hb.2.2.1 hb.2.2.2.1 hb.2.2.2.2 e
  have I1:Inv X tf σ (upd H s.heap.objs.size (.tup [x,.str y])) { s with heap:=h',toks:=s.toks }:=I.turnNew hf kk (Ym _) ⟨by show 2<=sizeLine;decide,[u,u2],.cons ru (.cons ru2 .nil),Qc r5⟩;have hTI':IsPair h' TI (.ref i1) (.ref i2):=r7 _ _ D.TIz D.TITO D.TIi1 D.TIi2 hTI;have nt:∀b∈[z,TI,TO,i1,i2],b≠s.heap.objs.size:=fun b hb=>by
   simp only[Yj,Yu,Y5]at hb;rcases hb with rfl | rfl | rfl | rfl | rfl
   . exact Yo (QJ hz)
   . exact Yo (QJ hTI)
   . exact Yo (QJ hTO)
   . obtain⟨_,e,_⟩:=h1;exact Yo (QJ e)
   . obtain⟨_,e,_⟩:=h2;exact Yo (QJ e)
  refine⟨_,rfl,wpAny_letOwnedTupleGo_zip (s:={ s with heap:=h' }) r1 fun h'' z' sb=>?_⟩;obtain⟨f0,f1,f2,f3,f4,f5⟩:=hf z (by simp);have hn:H s.heap.objs.size=none:=I.hok.fresh (Ym _);have I2:Inv X tf σ (upd H s.heap.objs.size (.tup [x,.str y])) { s with heap:=h'',toks:=s.toks }:=Inv.turned (s:={ s with heap:=h',toks:=s.toks }) (h':=h'') I1 (t':=s.toks) (it:=z) (fun b o hb e=>(sb.2 b hb).trans e) (by rw[ji (nt z (by simp))];exact f0) f1 f3 f4 f5;refine⟨.ref s.heap.objs.size,_,I2,rfl,⟨_,x,y,hn,rfl,rfl,hy,fun xs' h'=>by rw[I.list_inj h' hp];exact hx⟩,⟨z',sb.extBut _ _ D.TIz hTI',⟨_,_,sb.extBut _ _ D.TOz r2⟩,r3.extBut sb.extBut D.i1z,Zv r4 sb.extBut D.i2z⟩,fun b hb=>?_⟩;rw[ji (nt b hb)];exact(hf b hb).1
 done:=by
  intro X hP hw hK hc i tf s σ H E I hf st hg;subst hP hw hK;obtain⟨xs,hp,he⟩:=hg;obtain⟨tm,rv,pl,_⟩:=I.list hp;obtain⟨hz,hTI,⟨a,c,hTO⟩,h1,h2⟩:=st;have lv:=rv.length;refine jfr (I.ok.hd hc) D hz hTI hTO h1 pl.isList (by simp;omega) fun h' kk=>⟨rfl,?_⟩;have J:∀b o,b∉[z,TI,TO,i1,i2]->s.heap.get? b=some o->h'.get? b=some o:=fun b o hb e=>by simp only[Yj,Yu,Y5,not_or]at hb;exact kk b o hb.1 hb.2.2.2.1 e
  have nch:∀b u,H b=some u->b∉[z,TI,TO,i1,i2]:=fun b u e y=>by rw[(hf b y).1]at e;cases e
  refine I.step (g':=s.gens) (d':=s.drawn) (t':=s.toks) (ch:=[z,TI,TO,i1,i2]) (fun b hb=>⟨(hf b hb).2.2.2.1,(hf b hb).2.1,(hf b hb).2.2.2.2.1,(hf b hb).2.2.2.2.2⟩) (fun b u _ _ hc e _=>J b u hc e) (fun b u _ _ hc e _=>⟨u.slots,J b u hc e⟩)
   (fun _ _ _ _ n=>n) (fun b u hc e=>⟨u,J b u hc e⟩) (fun _ _ e=>e) (fun _ _ _ e=>e) (fun b ps e=>⟨#[],by rw[e];simp⟩) (fun m hm=>?_) (fun b u e=>?_) I.bare
  . obtain⟨ol,es,ep,ho,r⟩:=hm;exact⟨ol,es,ep,J _ ol (fun y=>(hf _ y).2.1 rfl) ho,r⟩
  . refine(I.hok b u e).stay (fun c v hc q=>J c v ?_ q) (fun _ q=>q) fun _ _ q=>q;rcases hc with y | y
    . rw[y];exact nch b u e
    . exact nch c _ y
 self:=fun _ _ _ _ _ st h=>yF st.1 h
section
variable{X:Cx}
def jfM(K:PySem.W.Frag)(ta:TA):TI:=fun σ H R=>ta σ H fun vs H1=>∃p q xs ks,vs=[.ref p,.ref q]/\qW K H1 p xs/\SqT K (fun _=>none) q (ks.map V.str)/\R (jim K p ks) H1
theorem jgX{a b:Expr}{ta:TA}{p pos:Pos}{elts:List Expr}{x1:Nat}{tpos:Pos}(hg:Gl X "zip")(hm:X.mg "zip"=none)(ha:PA X [a,b] ta)(hs:starEach [a,b] X.env=[(false,eval a X.env),(false,eval b X.env)]:=by rfl)(hs2:starEach [b] X.env=[(false,eval b X.env)]:=by rfl):
 PI X (.Tuple elts x1 tpos) (.Call (.Name "zip" p) [a,b] [] pos) (jfM X.K ta):=by
 intro tf s σ H R I h;refine Call_ (JE I hg hm boot_zip (YN (qe (ha pos tf s σ H _ I h) fun us s1 zz=>?_) (by rw[hs,hs2]) (by rw[hs2];rfl)));obtain⟨vs,H1,I1,r1,q1⟩:=zz;obtain⟨pa,pb,xs,ks,e,hp,hq,q⟩:=q1;subst e;obtain⟨u,v,rfl,ru,rv⟩:=Vals.two r1;cases ru;cases rv;have hq':SqT X.K H1 pb (ks.map V.str):=by
  rcases hq with(r | ⟨_,r⟩) | r
  . cases r
  . cases r
  . exact .inr r
 obtain⟨tm,rx,pl,_⟩:=I1.list hp;obtain⟨its2,ry,pl2,_⟩:=I1.tuple hq';have lta:@LT.lt Nat instLTNat pa s1.heap.objs.size:=by obtain⟨_,e,_⟩:=pl.isList;exact QJ e
 have ltb:@LT.lt Nat instLTNat pb s1.heap.objs.size:=by obtain⟨_,e,_⟩:=pl2;exact QJ e
 refine jdS pl.isList (show s1.heap.IsTuple pb its2.toArray from pl2) fun h' r1 r2 r3 r4 r5 r7=>yF (s:={ s1 with heap:=h' }) r1 ?_;have I2:Inv X tf σ H1 { s1 with heap:=h',toks:=s1.toks }:=I1.kept (t':=s1.toks) r7;refine⟨_,[s1.heap.objs.size+4,s1.heap.objs.size+2,s1.heap.objs.size+3,s1.heap.objs.size,s1.heap.objs.size+1],_,_,H1,rfl,I2,jdP (zipApart_new lta ltb) hq,⟨r1,r2,⟨_,_,r3⟩,r4,r5⟩,fun b hb=>?_,q⟩;have ge:s1.heap.objs.size<=b:=by
  simp only[Yj,Yu,Y5]at hb;rcases hb with rfl | rfl | rfl | rfl | rfl
  . exact YK _ 4
  . exact YK _ 2
  . exact YK _ 3
  . exact Ym _
  . exact YK _ 1
 exact I1.fpOk ge (I1.hok.fresh ge)
end
section
variable[Fr]
def asS:D->Option Str
 | .str x=>some x
 | _=>none
theorem JI{d:D}{x:Str}(h:asS d=some x):d=.str x:=by cases d <;> cases h;rfl
def J5:List D->Option (List Str)
 | []=>some []
 | d::l=>(asS d).bind fun x=>(J5 l).map (x::·)
theorem Qf:∀{l:List D} {ys:List Str},J5 l=some ys->l=ys.map D.str
 | [],ys,h=>by cases h;rfl
 | d::l,ys,h=>by obtain⟨x,h1,h2⟩:=bind_some h;obtain⟨zs,h3,h4⟩:=map_some h2;subst h4;rw[JI h1,Qf h3];rfl
theorem jew:∀ys:List Str,J5 (ys.map D.str)=some ys
 | []=>rfl
 | y::ys=>by show(some y).bind (fun x=>(J5 (ys.map D.str)).map (x::·))=_;rw[jew ys];rfl
theorem Reps.strs{G:Hp}{ys:List Str}{vs:List V}(h:Reps G vs (ys.map D.str)):vs=ys.map V.str:=by
 induction ys generalizing vs with
 | nil=>cases h;rfl
 | cons y ys ih=>obtain⟨v,us,rfl,r1,r2⟩:=h.one_inv;have e:=r1.of_str;subst e;rw[ih r2];rfl
theorem Reps.of_strs{G:Hp}:∀ys:List Str,Reps G (ys.map V.str) (ys.map D.str)
 | []=>.nil
 | y::ys=>.cons (.str y) (Reps.of_strs ys)
def qY(x y:D):Option D:=(asS x).bind fun i=>(asS y).bind fun j=>if i.length+j.length<=sizeLine then some (.str (i++j))else none
theorem jiA:ZW (fun x y H Q=>∃i j,x=.str i/\y=.str j/\i.length+j.length<=sizeLine/\Q (.str (i++j)) H) qY:=fun G H x y dx dy d Q s rx ry q k=>by
 obtain⟨i,q1,q⟩:=bind_some q;obtain⟨j,q2,q⟩:=bind_some q;rw[JI q1]at rx;rw[JI q2]at ry;have e1:=rx.of_str;have e2:=ry.of_str;subst e1 e2;by_cases h:i.length+j.length<=sizeLine
 . rw[Yq h]at q;cases q;exact⟨i,j,rfl,rfl,h,k _ G H (.refl s) (.str _)⟩
 . rw[YG h]at q;cases q
def jjJ(j i:Str):Bool:=!(Builtin.Str.occurrences j i 0 j.length 1).isEmpty
def jfd(neg:Bool)(x y:D):Option D:=(asS x).bind fun i=>(asS y).map fun j=>.bl (if neg then !(jjJ j i)else jjJ j i)
theorem jkd:ZW (fun x y H Q=>∃i j,x=.str i/\y=.str j/\Q (.bl (!(Builtin.Str.occurrences j i 0 j.length 1).isEmpty)) H) (jfd false):=fun G H x y dx dy d Q s rx ry q k=>by obtain⟨i,q1,q⟩:=bind_some q;obtain⟨j,q2,q⟩:=map_some q;subst q;rw[JI q1]at rx;rw[JI q2]at ry;have e1:=rx.of_str;have e2:=ry.of_str;subst e1 e2;exact⟨i,j,rfl,rfl,k _ G H (.refl s) (.bl _)⟩
def one(f:D->Option D):List D->Option D
 | [d]=>f d
 | _=>none
theorem jdr{f:D->Option D}{ds:List D}{d:D}(h:one f ds=some d):∃x,ds=[x]/\f x=some d:=by
 rcases ds with _ | ⟨x,_ | ⟨y,l⟩⟩
 . cases h
 . exact⟨x,rfl,h⟩
 . cases h
def jbC:List D->Option D:=one fun d=>(asI d).bind fun i=>if i.natAbs.log2<1920 then some (.str (toString i))else none
theorem jkE:Z6 (fun xs H Q=>∃i,xs=[.int i]/\i.natAbs.log2<1920/\Q (.str (toString i)) H) jbC:=fun G H xs ds d Q s rr q k=>by
 obtain⟨x,rfl,q0⟩:=jdr q;obtain⟨i,q1,q2⟩:=bind_some q0;obtain⟨v,rfl,r⟩:=rr.one;have hx:x=.int i:=by cases x <;> cases q1;rfl
 rw[hx]at r;have e:=r.of_int;subst e;by_cases h:i.natAbs.log2<1920
 . rw[Yq h]at q2;cases q2;exact⟨i,rfl,h,k _ G H (.refl s) (.str _)⟩
 . rw[YG h]at q2;cases q2
def jdC:List D->Option D:=one fun d=>(asS d).bind fun x=>if x.length<=640 then(PySem.intText? x).map .int else none
theorem jiB:Z6 (fun xs H Q=>∃x n,xs=[.str x]/\PySem.intText? x=some n/\x.length<=640/\Q (.int n) H) jdC:=fun G H xs ds d Q s rr q k=>by
 obtain⟨x,rfl,q⟩:=jdr q;obtain⟨z,q1,q⟩:=bind_some q;obtain⟨v,rfl,r⟩:=rr.one;rw[JI q1]at r;have e:=r.of_str;subst e;by_cases h:z.length<=640
 . rw[Yq h]at q;obtain⟨n,q2,q3⟩:=map_some q;subst q3;exact⟨z,n,rfl,q2,h,k _ G H (.refl s) (.int _)⟩
 . rw[YG h]at q;cases q
theorem SqT.none{K:PySem.W.Frag}{H:Hp}{a:Addr}{xs:List V}(h:SqT K (fun _=>none) a xs):SqT K H a xs:=by
 rcases h with(r | ⟨_,r⟩) | r
 . cases r
 . cases r
 . exact .inr r
def asK:D->Option (List Str)
 | .kst xs=>some xs
 | _=>none
theorem jjo{d:D}{x:List Str}(h:asK d=some x):d=.kst x:=by cases d <;> cases h;rfl
def jc9:List D->Option D:=one fun d=>(asK d).map fun xs=>.int xs.length
theorem jiK:Z6 (fun xs H Q=>(∃p ys,xs=[.ref p]/\(qW Fr.K H p ys\/SqT Fr.K H p ys)/\Q (.int ys.length) H)\/∃z,xs=[.str z]/\z.length<=sizeLine/\Q (.int z.length) H) jc9:=fun G H xs ds d Q s rr q k=>by obtain⟨x,rfl,q⟩:=jdr q;obtain⟨ks,q1,q⟩:=map_some q;subst q;obtain⟨v,rfl,r⟩:=rr.one;rw[jjo q1]at r;obtain⟨a,rfl,h⟩:=r.of_kst;exact .inl ⟨a,_,rfl,.inr h.none,by rw[Ye];exact k _ G H (.refl s) (.int _)⟩
def jbl(z:Str):List D:=z.cps.toList.map fun c=>.str ⟨#[c]⟩
theorem jeQ{G1 H1:Hp}{z:Str}:Iter G1 H1 (Its z) (jbl z):=fun i G H s1 s2 s3=>by
 refine⟨fun d hd=>?_,fun hd=>?_⟩
 . unfold jbl at hd;rw[Yt]at hd;obtain⟨c,h1,h2⟩:=map_some hd;subst h2;have h1':z.cps[i]?=some c:=by simpa using h1
   have hi:i<z.cps.size:=(Array.getElem?_eq_some_iff.mp h1').1;refine⟨hi,fun x H' y=>?_⟩;obtain⟨e,c',y1,y2⟩:=y;rw[h1']at y1;cases y1;subst e y2;exact⟨G,.refl s3,.str _⟩
 . unfold jbl at hd;rw[Yt]at hd;show z.cps.size<=i;rcases Y8 i z.cps.size with h | h
   . have:z.cps.toList[i]?=some z.cps[i]:=by simp[h]
     rw[this]at hd;cases hd
   . exact h
def jaE(fe:ed->Option D):ed->Option (List D):=fun ρ=>((fe ρ).bind asS).map jbl
theorem jjt{te:TE}{fe:ed->Option D}(h:EOk te fe):IOk (jjq te) (jaE fe):=fun G0 H0 G H σ ρ R ds e q k=>by obtain⟨z,q1,q2⟩:=map_some q;subst q2;obtain⟨d,q3,q4⟩:=bind_some q1;refine h _ _ _ _ _ _ _ _ e q3 fun v G' H' x r=>?_;rw[JI q4]at r;have e1:=r.of_str;subst e1;exact⟨z,rfl,k _ G' H' x jeQ⟩
theorem jem{G1 H1:Hp}{p:Addr}{vs:List V}{ds:List D}{ks:List Str}(h:Rd H1 p (.lst vs))(r:Reps G1 vs ds)(hl:ds.length<=ks.length):Iter G1 H1 (jim Fr.K p ks) (J7 ds (ks.map D.str)):=fun i G H s1 s2 s3=>by
 have hq:qW Fr.K H p vs:=.inl (h.same s2);have hvl:=r.length;refine⟨fun d hd=>?_,fun hd=>⟨vs,hq,?_⟩⟩
 . unfold J7 at hd;rw[Yt]at hd;obtain⟨w,h1,h2⟩:=map_some hd;subst h2;rw[yl]at h1;obtain⟨g1,g2⟩:=h1;rw[Yt]at g2;obtain⟨y,g3,g4⟩:=map_some g2;obtain⟨v,w1,w2⟩:=r.get g1;refine⟨⟨vs,v,y,hq,w1,g3⟩,fun x H' t=>?_⟩;obtain⟨a,x',y',hn,e1,e2,e3,e4⟩:=t;have e5:=e4 vs hq;rw[w1]at e5;cases e5;rw[g3]at e3;cases e3;subst e1 e2;refine⟨upd G a (.tup [v,.str y]),(Ext.new s3 hn).freeze hn (s3.free hn) jm,.tup jm (.cons ((w2.mono s1).mono (.upd (s3.free hn))) (.cons ?_ .nil))⟩;rw[<-g4];exact .str y
 . unfold J7 at hd;rw[Yt,Option.map_eq_none_iff,YA,List.length_zip,Ye]at hd;omega
def ZU(fa:ed->Option (List D)):ed->Option (List D):=fun ρ=>match fa ρ with
 | some [.lst l,.kst ks]=>if l.length<=ks.length then some (J7 l (ks.map D.str))else none
 | _=>none
theorem jhU{ta:TA}{fa:ed->Option (List D)}(h:Qg ta fa):jeq (jfM Fr.K ta) (ZU fa):=fun G0 H0 G H σ ρ R ds e q k=>by
 unfold ZU at q;split at q
 . rename_i l ks z;split at q
   . rename_i hl;cases q;refine h _ _ _ _ _ _ _ _ e z fun vs G' H' x r=>?_;cases r with
     | cons r t=>
       cases t with
       | cons r' t=>cases t;obtain⟨a,vs,rfl,h1,r1⟩:=r.of_lst;obtain⟨b,rfl,h2⟩:=r'.of_kst;exact⟨a,b,vs,ks,rfl,.inl h1,h2,k _ G' H' x (jem h1 r1 hl)⟩
   . cases q
 . cases q
def jgn(fa:ed->Option D)(fl fh:ed->Option (Option Int)):ed->Option D:=fun ρ=>((fa ρ).bind asS).bind fun z=>(fl ρ).bind fun lo=>(fh ρ).bind fun hi=>if z.length<=sizeLine then some (.str (Txt.slice z lo hi))else none
theorem jjZ{ta:TE}{fa:ed->Option D}{tl th:TO}{fl fh:ed->Option (Option Int)}(h:za ta fa)(hl:POk tl fl)(hh:POk th fh):EOk (tSl jjx ta tl th) (jgn fa fl fh):=fun G0 H0 G H σ ρ Q ds e q k=>by
 obtain⟨z,q1,q2⟩:=bind_some q;obtain⟨d,q3,q4⟩:=bind_some q1;obtain⟨lo,q5,q6⟩:=bind_some q2;obtain⟨hi,q7,q8⟩:=bind_some q6;refine h _ _ _ _ _ _ _ _ e q3 fun v G1 H1 x1 r=>hl _ _ _ _ _ _ _ _ (e.grow x1) q5 fun G2 H2 x2=>hh _ _ _ _ _ _ _ _ ((e.grow x1).grow x2) q7 fun G3 H3 x3=>?_;rw[JI q4]at r;have e1:=r.of_str;subst e1;by_cases hz:z.length<=sizeLine
 . rw[Yq hz]at q8;cases q8;exact⟨z,rfl,hz,k _ G3 H3 ((x1.trans x2).trans x3) (.str _)⟩
 . rw[YG hz]at q8;cases q8
def jaM(x:D)(xs:List D):Option D:=(asS x).bind fun z=>match xs with
 | [.lst l]=>(J5 l).bind fun ys=>if (ys.map (·.length)).sum+ys.length*z.length<=16777216 then some (.str (Txt.join z ys))else none
 | _=>none
theorem jgl{x d:D}{xs:List D}(h:jaM x xs=some d):∃z ys,x=.str z/\xs=[.lst (ys.map D.str)]/\(ys.map (·.length)).sum+ys.length*z.length<=16777216/\d=.str (Txt.join z ys):=by
 obtain⟨z,h1,h2⟩:=bind_some h;split at h2
 . obtain⟨ys,h3,h4⟩:=bind_some h2;split at h4
   . cases h4;rename_i hz;exact⟨z,ys,JI h1,by rw[Qf h3],hz,rfl⟩
   . cases h4
 . cases h2
theorem jiU{to:TE}{t:TA}{fa:ed → Option D}{fs:ed → Option (List D)}(ha:za to fa)(hs:Qg t fs):EOk (tBM Fr.K "str" (je3 Fr.K) to t) (eBM jaM fa fs):=fun G0 H0 G H σ ρ Q d e q k=>by
 obtain⟨x,qa,q⟩:=bind_some q;obtain⟨xs,qs,q⟩:=bind_some q;obtain⟨z,ys,rfl,rfl,hz,rfl⟩:=jgl q;refine ha G0 H0 G H σ ρ _ _ e qa fun u G1 H1 x1 r1=>?_;have e1:=r1.of_str;subst e1;refine⟨rfl,hs G0 H0 G1 H1 σ ρ _ _ (e.grow x1) qs fun vs G2 H2 x2 r2=>?_⟩;cases r2 with
 | cons r2 t2=>cases t2;obtain⟨a,us,rfl,h,r⟩:=r2.of_lst;have hv:=r.strs;subst hv;exact⟨z,a,ys,rfl,rfl,.inl h,hz,k _ G2 H2 (x1.trans x2) (.str _)⟩
def JT(x:D)(xs:List D):Option D:=(asS x).bind fun z=>((one some xs).bind asS).map fun y=>.bl (Txt.startswith z y)
theorem jhv{x d:D}{xs:List D}{β:Type}{g:Str->Str->β}{r:β}(h:(asS x).bind (fun z=>((one some xs).bind asS).map fun y=>g z y)=some r):∃z y,x=.str z/\xs=[.str y]/\r=g z y:=by obtain⟨z,h1,h2⟩:=bind_some h;obtain⟨y,h3,h4⟩:=map_some h2;obtain⟨w,h5,h6⟩:=bind_some h3;obtain⟨v,h7,h8⟩:=jdr h5;cases h8;exact⟨z,y,JI h1,by rw[h7,JI h6],h4.symm⟩
theorem jfp{to:TE}{t:TA}{fa:ed → Option D}{fs:ed → Option (List D)}(ha:za to fa)(hs:Qg t fs):EOk (tBM Fr.K "str" jaV to t) (eBM JT fa fs):=fun G0 H0 G H σ ρ Q d e q k=>by
 obtain⟨x,qa,q⟩:=bind_some q;obtain⟨xs,qs,q⟩:=bind_some q;obtain⟨z,y,rfl,rfl,rfl⟩:=jhv (d:=d) q;refine ha G0 H0 G H σ ρ _ _ e qa fun u G1 H1 x1 r1=>?_;have e1:=r1.of_str;subst e1;refine⟨rfl,hs G0 H0 G1 H1 σ ρ _ _ (e.grow x1) qs fun vs G2 H2 x2 r2=>?_⟩;cases r2 with
 | cons r2 t2=>cases t2;have e2:=r2.of_str;subst e2;exact⟨z,y,rfl,rfl,k _ G2 H2 (x1.trans x2) (.bl _)⟩
def Qi(x:D)(xs:List D):Option (List D):=((asS x).bind fun z=>((one some xs).bind asS).map fun y=>(z,y)).bind fun p=>if (p.2.length == 0)=false/\p.1.length<=sizeLine/\(Txt.split p.1 p.2).length<=sizeLine then some ((Txt.split p.1 p.2).map D.str)else none
def jbW(f:D->List D->Option (List D))(fa:ed->Option D)(fs:ed->Option (List D)):ed->Option (List D):=fun ρ=>(fa ρ).bind fun x=>(fs ρ).bind fun xs=>f x xs
theorem jgh{to:TE}{t:TA}{fa:ed → Option D}{fs:ed → Option (List D)}(ha:za to fa)(hs:Qg t fs):EOkO (tBM Fr.K "str" jc2 to t) (jbW Qi fa fs):=fun G0 H0 G H σ ρ Q ds e q k=>by
 obtain⟨x,qa,q⟩:=bind_some q;obtain⟨xs,qs,q⟩:=bind_some q;obtain⟨p,qp,q⟩:=bind_some q;obtain⟨z,y,rfl,rfl,rfl⟩:=jhv (d:=.non) qp;refine ha G0 H0 G H σ ρ _ _ e qa fun u G1 H1 x1 r1=>?_;have e1:=r1.of_str;subst e1;refine⟨rfl,hs G0 H0 G1 H1 σ ρ _ _ (e.grow x1) qs fun vs G2 H2 x2 r2=>?_⟩;cases r2 with
 | cons r2 t2=>
   cases t2;have e2:=r2.of_str;subst e2;split at q
   . rename_i hz;cases q;have x:=x1.trans x2;exact⟨z,y,rfl,rfl,hz.1,hz.2.1,hz.2.2,fun l hl=>k l _ G2 _ (x.trans (.new x2.gh hl)) (x.hh.free hl) (x2.gh.free hl) jm (Reps.of_strs _)⟩
   . cases q
theorem jjM{a:Addr}{xs:List Str}(h:SqT Fr.K (fun _=>none) a (xs.map V.str)):EOk (tC (.ref a)) (eC (.kst xs)):=fun G0 H0 G H σ ρ Q d e q k=>by cases q;exact k _ G H (.refl e.same) (.kst h)
end
section
variable{M:Fm}{a b c e o:Expr}{es:List Expr}{fa fb fc fe:ed->Option D}{fs:ed->Option (List D)}{pos p apos cpos:Pos}{x:Str}{tg:Expr}
theorem JC(ha:WT M a fa)(hb:WT M b fb):WE M (.BinOp a .Add b pos) (jo qY fa fb):=ZT (fun _=>jcW) (@jiA M.fr) ha hb
theorem jg4:WCmp M .In (jfd false):=⟨_,fun _=>jdU,@jkd M.fr⟩
theorem uO:WB M (.type "str") jbC:=⟨_,fun _=>jbo,@jkE M.fr⟩
theorem jeS:WB M (.type "int") jdC:=⟨_,fun _=>jbp,@jiB M.fr⟩
theorem jiJ:WB M (.builtin "len") jc9:=⟨_,fun j=>by have:=jaB (X:=M.X j);rw[M.hK j]at this;exact this,@jiK M.fr⟩
theorem JU:bootBuiltins "str"=some (.type "str"):=by decide +kernel
theorem jfs(h:WE M e fe):WI M tg e (jaE fe):=let ⟨_,h1,h2⟩:=h.h;⟨_,fun j=>jiO (h1 j),@jjt M.fr _ _ h2⟩
theorem jge{ts:List Expr}{k:Nat}{tp:Pos}(hg:∀j,Gl (M.X j) "zip")(hm:∀j,(M.X j).mg "zip"=none)(ha:WAT M [a,b] fs)(h:ju a=false:=by rfl)(h':ju b=false:=by rfl):WIT M (.Tuple ts k tp) (.Call (.Name "zip" p) [a,b] [] pos) (ZU fs):=let ⟨_,h1,h2⟩:=ha.h;⟨jfM M.K _,fun j=>by have:=jgX (X:=M.X j) (elts:=ts) (x1:=k) (tpos:=tp) (p:=p) (pos:=pos) (hg j) (hm j) (h1 j) (by rw[jD h,jD h'];rfl) (by rw[jD h'];rfl);rw[M.hK j]at this;exact this,@jhU M.fr _ _ h2⟩
theorem jkL{lo hi:Option Expr}{fl fh:ed->Option (Option Int)}{p2:Pos}(h:WT M e fe)(hl:WP M lo fl)(hh:WP M hi fh):WE M (.Subscript e (.Slice lo hi none p2) pos) (jgn fe fl fh):=let ⟨_,h1,h2⟩:=h.h;let ⟨_,k1,k2⟩:=hl.h;let ⟨_,l1,l2⟩:=hh.h;⟨_,fun j=>jca jir (h1 j) (k1 j) (l1 j),@jjZ M.fr _ _ _ _ _ _ h2 k2 l2⟩
theorem jfg(ha:WT M o fa)(hb:WT M e fe)(h':ju e=false:=by rfl)(hbase:∀j,attributeBase o "join" (M.X j).env (eval o (M.X j).env)=eval o (M.X j).env:=by intro _;rfl)(hline:(apos.endLine == cpos.line)=true:=by rfl):WE M (.Call (.Attribute o "join" apos) [e] [] cpos) (eBM jaM fa (jd fe jl)):=
 let ⟨_,h1,h2⟩:=ha.h;let ⟨_,k1,k2⟩:=hb.h
 ⟨tBM M.K "str" (je3 M.K) _ _,fun j=>by have:=jbD (X:=M.X j) (apos:=apos) (cpos:=cpos) yS PySem.F.slot_str_join PySem.F.type_str_join jgw (h1 j) (qC (k1 j) zT (jD h')) (hbase j) (by rw[jD h'];rfl) hline (jD h') (qH rfl);rw[M.hK j]at this;exact this,@jiU M.fr _ _ _ _ h2 (@Zd M.fr _ _ _ _ k2 (@jaR M.fr))⟩
theorem jbz(ha:WT M o fa)(hb:WT M e fe)(h':ju e=false:=by rfl)(hbase:∀j,attributeBase o "startswith" (M.X j).env (eval o (M.X j).env)=eval o (M.X j).env:=by intro _;rfl)(hline:(apos.endLine == cpos.line)=true:=by rfl):WE M (.Call (.Attribute o "startswith" apos) [e] [] cpos) (eBM JT fa (jd fe jl)):=
 let ⟨_,h1,h2⟩:=ha.h;let ⟨_,k1,k2⟩:=hb.h
 ⟨tBM M.K "str" jaV _ _,fun j=>by have:=jbD (X:=M.X j) (apos:=apos) (cpos:=cpos) yS PySem.F.slot_str_startswith PySem.F.type_str_startswith jea (h1 j) (qC (k1 j) zT (jD h')) (hbase j) (by rw[jD h'];rfl) hline (jD h') (qH rfl);rw[M.hK j]at this;exact this,@jfp M.fr _ _ _ _ h2 (@Zd M.fr _ _ _ _ k2 (@jaR M.fr))⟩
theorem jdd(ha:WT M o fa)(hb:WT M e fe)(h':ju e=false:=by rfl)(hbase:∀j,attributeBase o "split" (M.X j).env (eval o (M.X j).env)=eval o (M.X j).env:=by intro _;rfl)(hline:(apos.endLine == cpos.line)=true:=by rfl):WO M (.Call (.Attribute o "split" apos) [e] [] cpos) (jbW Qi fa (jd fe jl)):=
 let ⟨_,h1,h2⟩:=ha.h;let ⟨_,k1,k2⟩:=hb.h
 ⟨tBM M.K "str" jc2 _ _,fun j=>by have:=jbD (X:=M.X j) (apos:=apos) (cpos:=cpos) yS PySem.F.slot_str_split PySem.F.type_str_split jfY (h1 j) (qC (k1 j) zT (jD h')) (hbase j) (by rw[jD h'];rfl) hline (jD h') (qH rfl);rw[M.hK j]at this;exact this,@jgh M.fr _ _ _ _ h2 (@Zd M.fr _ _ _ _ k2 (@jaR M.fr))⟩
theorem jeJ{z:Str}{t:Tok}(hg:∀j,Gl (M.X j) x)(hm:∀j,(M.X j).mg x=some (.str z t))(hd:(x == ("__debug__":Str))=false:=by decide):WE M (.Name x pos) (eC (.str z)):=⟨_,fun j=>jbi (v:=.str z) (hg j) (hm j) ⟨t,rfl⟩ hd,@jg7 M.fr z⟩
theorem jhW{g:Addr}{xs:List Str}(hk:SqT M.K (fun _=>none) g (xs.map V.str))(hg:∀j,Gl (M.X j) x)(hm:∀j,(M.X j).mg x=some (.ref g))(hd:(x == ("__debug__":Str))=false:=by decide):WE M (.Name x pos) (eC (.kst xs)):=⟨_,fun j=>jbi (v:=.ref g) (hg j) (hm j) rfl hd,@jjM M.fr _ _ hk⟩
end
end L2
namespace L2S
open PySem PySem.Spec PyProof.Rows
def Jr(l:List Str)(v:Str):List Str:=if l.any (· == v)then l else l++[v]
def dds(ys:List Str):List Str:=ys.foldl Jr []
theorem jb1(ys:List Str)(v:Str):dds (ys++[v])=Jr (dds ys) v:=by unfold dds;rw[List.foldl_append];rfl
theorem jd7(l:List Str)(v k:Str):(Jr l v).any (· == k)=(l.any (· == k) || decide (k=v)):=by
 unfold Jr;by_cases h:l.any (· == v)=true
 . rw[Yq h];by_cases e:k=v
   . subst e;rw[h];simp
   . simp[e]
 . rw[YG h,List.any_append];by_cases e:k=v
   . subst e;simp
   . have hb:(v == k)=false:=by simpa[beq_iff_eq]using(fun q:v=k=>e q.symm)
     simp[hb,e]
theorem jav(l:List Str)(v:Str):(Jr l v).length=if l.any (· == v)then l.length else l.length+1:=by unfold Jr;split <;> simp
theorem jip(ys:List Str):(dds ys).length<=ys.length:=by
 have key:∀(ys l:List Str),(ys.foldl Jr l).length<=l.length+ys.length:=fun ys=>by
  induction ys with
  | nil=>intro l;exact Ym _
  | cons y ys ih=>intro l;have h1:=ih (Jr l y);have h2:=jav l y;rw[List.foldl_cons,Yr];split at h2 <;> omega
 have:=key ys [];simpa[dds]using this
abbrev Zm(prog:Program)(w:World)(h:Heap)(a:Addr)(ys:List Str):Prop:=h.SetOf (PySem.strKind prog w) a (fun k=>(dds ys).any (· == k)) (dds ys).length
theorem jde:∀{vs:List Value} {ns:List Str},StrsAre vs ns->∀(i:Nat) (v:Value),vs[i]?=some v->∃t,v=.str (ns.getD i Str.empty) t
 | _,_,.nil,i,v,h=>by simp at h
 | _,_,.cons n t hr,0,v,h=>by simp at h;exact⟨t,by rw[<-h];rfl⟩
 | _,_,.cons n t hr,i+1,v,h=>by simp only[yP]at h;obtain⟨u,e⟩:=jde hr i v h;exact⟨u,by rw[e];rfl⟩
theorem jbK:∀{vs:List Value} {ns:List Str},StrsAre vs ns->vs.length=ns.length
 | _,_,.nil=>rfl
 | _,_,.cons n t hr=>by rw[Yr,Yr,jbK hr]
section
variable{prog:Program}{w:World}{A:Around}{E:Value->Shared->Prop}{s:Shared}
theorem jac{R:Result->Shared->Prop}{S l I:Addr}{items:Array Value}{ns:List Str}(hh:A.handled=none)(hi:StrsAre items.toList ns)(hlI:l≠I)(hSl:S≠l)(hSI:S≠I)(hb:ns.length+1<scanBound):
 ∀(k i:Nat) (s:Shared),ns.length-i=k->i<=ns.length->s.heap.IsListIter I l i->s.heap.IsList l items->Zm prog w s.heap S (ns.take i)->
   (∀h' tk,(∀b o,b≠S->b≠I->s.heap.get? b=some o->h'.get? b=some o)->Zm prog w h' S ns->R (.ok (.ret .none)) { s with heap:=h',toks:=tk })->
   codeAny (model prog w) A (.builtin "set.update.loop" ⟨[.ref S,.ref I],[]⟩) R s:=by
 have tI:items.size=ns.length:=by have:=jbK hi;simpa using this
 have moveS:∀{h h':Heap} {m:List Str},Zm prog w h S m->(∀o,h.get? S=some o->h'.get? S=some o)->Zm prog w h' S m:=by rintro h h' m ⟨o,es,ep,t,ho,r⟩ hk;exact⟨o,es,ep,t,hk o ho,r⟩
 intro k;induction k with
 | zero=>
   intro i s hk hi' st hl hS hR;have e:i=ns.length:=by omega
   subst e;refine yM yE ?_;rw[yD Y7 _];show wpAny _ A.in1 (pyNext (.ref I) >>= _) _ _ s;refine QB (wpAny_pyNext_list_end hh st hl (YU (by omega)) fun h' he=>?_);show wpAny _ A.in1 (ret Value.none) _ _ _;refine Yn (hR h' s.toks (fun b o _ b2 q=>he b o b2 q) (moveS (by rw[List.take_length]at hS;exact hS) fun o q=>he S o hSI q))
 | succ k ih=>
   intro i s hk hi' st hl hS hR;have hlt:i<ns.length:=by omega
   have hlt':i<items.size:=by omega
   obtain⟨tk,hv⟩:=jde hi i items[i] (by rw[yk];exact YF hlt');refine yM yE ?_;rw[yD Y7 _];show wpAny _ A.in1 (pyNext (.ref I) >>= _) _ _ s;refine QB (wpAny_pyNext_list_item st hl (x:=items[i]) (YF hlt') fun h1 st1 sb1=>?_);rw[hv];generalize hval:ns.getD i Str.empty=v;show wpAny _ A.in1 (holding [Value.str v tk] (setAdd S (.str v tk)) >>= _) _ _ _;refine QB (Y3 ?_);unfold setAdd;have his:(PySem.strKind prog w).is v (.str v tk)=true:=by show Value.isStrOf v (.str v tk)=true;simp[Value.isStrOf]
   refine Y3 (QB ((PySem.strKind prog w).pyHash (k:=v) his ?_));have hS1:Zm prog w h1 S (ns.take i):=moveS hS fun o q=>sb1.extBut S o hSI q;have hroom:(dds (ns.take i)).length+1<scanBound:=by have:=jip (ns.take i);rw[List.length_take]at this;omega
   refine wpAny_setAddHashed_of (knd:=PySem.strKind prog w) (s:={ s with heap:=h1,toks:=s.toks+1 }) his rfl hS1 hroom fun h2 sb2 hS2=>?_;have e2:ns.take i++[v]=ns.take (i+1):=by rw[List.take_succ,QC hlt,<- hval,yB,QC hlt];rfl
   have hS2:Zm prog w h2 S (ns.take (i+1)):=by rw[<-e2];exact SetOf_congr hS2 (fun k=>by rw[jb1,jd7]) (by rw[jb1,jav])
   refine Yn ⟨plainId_quiet Y7 _,ih (i+1) _ (by omega) hlt (st1.extBut sb2.extBut (Ne.symm hSI)) ((hl.extBut sb1.extBut hlI).extBut sb2.extBut (Ne.symm hSl)) hS2 fun h' tk' kk hS'=>?_⟩;exact hR h' tk' (fun b o b1 b2 q=>kk b o b1 b2 (sb2.extBut b o b1 (sb1.extBut b o b2 q))) hS'
set_option maxHeartbeats 4000000 in
theorem jcD{l:Addr}{items:Array Value}{ns:List Str}{Q:Value->Shared->Prop}(hh:A.handled=none)(hl:s.heap.IsList l items)(hi:StrsAre items.toList ns)(hb:ns.length+1<scanBound)
 (h:∀(h':Heap) (tk:Nat),Zm prog w h' s.heap.objs.size ns->(∀b o,s.heap.get? b=some o->h'.get? b=some o)->Q (.ref s.heap.objs.size) { s with heap:=h',toks:=tk }) :
 wpAny (model prog w) A (call (.type "set") [.ref l]) Q E s:=by
 obtain⟨c,tl,hmro⟩:=PySem.F.called_set.mro;have hmade:=PySem.F.called_set.made;have hsub:=PySem.F.called_set.sub;refine wpAny_call (codeAny_of_tree ?_);show wpAny _ _ (callAny (.type "set") _) _ _ _;refine Yn ⟨Code.quiet_builtin _ (by decide +kernel),yM PySem.F.entry_type_call ?_⟩;rw[Around.under_plain (weight_type_call_type "set" [.ref l] []) rfl];have h1:=PySem.F.called_set.notType;have h2:=PySem.F.called_set.canCreate;have hct:=PySem.F.typeCall_set_1 (.ref l)
 repeat (any_goals (first | assumption | wp_step))
 refine Ki (jdV (.ref l) (E:=E) (Q₁:=fun obj s₁=>∃led:Bool,led=(!w.params.followText "set-order") ∧ obj=.ref s.heap.objs.size ∧ s₁={ s with heap:=s.heap.push { cls:=.type "set",dict:=none,data:=.set #[] 0 (.fresh 0 0 led) } }) fun led e=>⟨led,e,rfl,rfl⟩) fun r s₁ hr=>?_;cases r with
 | error e=>exact hr
 | ok fl=>
   cases fl with
   | ret obj=>
     obtain⟨led,hled,rfl,rfl⟩:=hr;generalize hSd:s.heap.objs.size=S at *
     have hS:(s.heap.push { cls:=.type "set",dict:=none,data:=.set #[] 0 (.fresh 0 0 led) }).get? S=some { cls:=.type "set",dict:=none,data:=.set #[] 0 (.fresh 0 0 led) }:=by rw[← hSd];exact Yl _ rfl
     have hGs:(s.heap.push { cls:=.type "set",dict:=none,data:=.set #[] 0 (.fresh 0 0 led) }).objs.size=S+1:=by rw[← hSd,YO]
     have up:∀b o,s.heap.get? b=some o → (s.heap.push { cls:=.type "set",dict:=none,data:=.set #[] 0 (.fresh 0 0 led) }).get? b=some o:=fun b o e=>Yb _ e;generalize s.heap.push { cls:=.type "set",dict:=none,data:=.set #[] 0 (.fresh 0 0 led) }=G at *
     have hT:Shared.TypeIs { s with heap:=G } (.ref S) "set":=⟨_,hS,rfl⟩;have hli:=PySem.F.called_set.init.lookup;have hbi:=PySem.F.called_set.init.bind (.ref S)
     repeat (any_goals (first | assumption | wp_step))
     refine Ki (codeAny_call_builtin (R:=wants (fun r s₂=>r=.none/\∃h' tk,s₂={ s with heap:=h',toks:=tk }/\Zm prog w h' S ns/\(∀b o,s.heap.get? b=some o->h'.get? b=some o)) E) PySem.F.called_set.init.plain PySem.F.entry_set_init (check_set_init_1 hT ?_)) fun r₂ s₂ hr₂=>?_
     . obtain⟨ol,hol,hcl,nl,hdl⟩:=hl;obtain⟨ocls,odict,odata,oslots⟩:=ol;simp only at hcl hdl;subst hcl;subst hdl;have hol':=up _ _ hol;have hsls:=PySem.F.sub_list_set;have hslf:=PySem.F.sub_list_frozenset;have hne:(Value.type "list" == Value.type "dict")=false:=by decide
       have hl1:G.IsList l items:=⟨_,hol',rfl,nl,rfl⟩;unfold Builtin.«set.__init__» noKeywords Builtin.Frozenset.updateFrom;generalize hPI:pyIter=PI
       wp_walk
       subst hPI;refine wpAny_pyIter_list hl1 ?_;refine QB (wpAny_runValue ?_);have hlS:@LT.lt Nat instLTNat l S:=by have q:=L2.QJ hol;rwa [hSd]at q
       have hh3:A.in1.in1.in1.handled=none:=by simp[hh]
       refine jac (A:=A.in1.in1) (S:=S) (l:=l) (items:=items) (ns:=ns) hh3 hi (I:=G.objs.size) ?_ (YS hlS) ?_ hb (ns.length-0) 0 _ rfl (yx _) ⟨_,Yl _ rfl,rfl,rfl⟩ (hl1.push _) ?_ ?_
       . rw[hGs];exact Yo (yW hlS)
       . rw[hGs];exact Yo (Nat.lt_succ_self _)
       . exact SetOf_congr ((setObjOf_fresh (knd:=PySem.strKind prog w) led).setOf (Yb _ hS) (by unfold scanBound;omega)) (fun _=>rfl) rfl
       . intro h' tk kk hS';show wpAny _ _ _ _ _ _;refine Yn ?_;show wpAny _ _ (ret Value.none) _ _ _;refine Yn ⟨rfl,h',tk,rfl,hS',fun b o e=>kk b o ?_ ?_ (Yb _ (up b o e))⟩
         . have q:=L2.QJ e;rw[hSd]at q;exact Yo q
         . have q:=L2.QJ e;rw[hSd]at q;rw[hGs];exact Yo (yW q)
     . cases r₂ with
       | error e=>exact hr₂
       | ok fl₂=>
         cases fl₂ with
         | ret r=>
           obtain⟨rfl,h',tk,rfl,hS',hk'⟩:=hr₂
           repeat (any_goals (first | assumption | wp_step))
           exact h _ _ hS' hk'
         | _=>exact hr₂.elim
   | _=>exact hr.elim
end
end L2S
namespace L2
open PySem PySem.Spec PyProof.Rows
section
variable{X:Cx}
def Zu(X:Cx)(a:Addr)(ys:List Str):HO:=.ext fun h=>L2S.Zm X.prog X.w h a ys
theorem jeu{P:Program}{w:World}{a:Addr}{ys:List Str}{h1 h2:Heap}(r:L2S.Zm P w h1 a ys)(k:∀o,h1.get? a=some o->h2.get? a=some o):L2S.Zm P w h2 a ys:=by obtain⟨o,es,ep,t,ho,q⟩:=r;exact⟨o,es,ep,t,k o ho,q⟩
def jdb(X:Cx)(K:PySem.W.Frag):List V->Hp->VK->Prop:=fun xs H Q=>∃(p:Addr) (ys:List Str),xs=[.ref p]/\qW K H p (ys.map V.str)/\ys.length<64/\∀a,H a=none->Q (.ref a) (upd H a (Zu X a ys))
theorem jex(hc:X.calm=true):CallR X (.type "set") (jdb X X.K):=by intro tf s σ H xs us Q I r h;obtain⟨p,ys,rfl,hq,hl,q⟩:=h;obtain⟨u,rfl,rx⟩:=Vals.one r;cases rx;obtain⟨tm,rv,pl,hz⟩:=I.list hq;refine L2S.jcD (I.ok.hd hc) pl.isList (by simpa using QQ rv) (by show ys.length+1<4096;omega) fun h' tk hS hk=>?_;refine⟨.ref s.heap.objs.size,upd H s.heap.objs.size (Zu X s.heap.objs.size ys),?_,rfl,q _ (I.hok.fresh (Ym _))⟩;refine I.laid hk (Ym _) ⟨hS,?_,fun h1 h2 r k=>jeu r k⟩;obtain⟨o,es,ep,t,ho,_⟩:=hS;exact⟨o,ho⟩
def jdB(X:Cx):List V->Hp->VK->Prop:=fun xs H Q=>∃(a:Addr) (ys:List Str),xs=[.ref a]/\H a=some (Zu X a ys)/\Q (.int ((L2S.dds ys).length:Nat)) H
theorem jec:CallR X (.builtin "len") (jdB X):=by intro tf s σ H xs us Q I r h;obtain⟨a,ys,rfl,ha,q⟩:=h;obtain⟨u,rfl,rx⟩:=Vals.one r;cases rx;obtain⟨⟨o,es,ep,t,h1,h2,h3,_,_,h4,h5,h6⟩,_,_⟩:=I.hok a _ ha;rw[<-h6]at q;exact call_len_set h1 h2 h3 h5 (by have:es.size<4096:=h4;omega) ⟨.int _,H,I.tok _,⟨_,rfl⟩,q⟩
end
section
variable[Fr]
def QD(fs:ed->Option (List D)):ed->Option D:=fun ρ=>(fs ρ).bind fun xs=>match xs with
 | [.lst l]=>(J5 l).bind fun ys=>if ys.length<64 then some (.int ((L2S.dds ys).length:Nat))else none
 | _=>none
theorem jfx{X:Cx}{As:TA}{fs:ed->Option (List D)}(ha:Qg As fs):EOk (tCB (jdB X) (Jo (tCB (jdb X Fr.K) As) Z8)) (QD fs):=fun G0 H0 G H σ ρ Q d e q k=>by
 obtain⟨xs,q1,q2⟩:=bind_some q;split at q2
 . obtain⟨ys,q3,q4⟩:=bind_some q2;split at q4
   . rename_i hz;cases q4;refine ha _ _ _ _ _ _ _ _ e q1 fun vs G1 H1 x1 rr=>?_;obtain⟨v,rfl,r⟩:=rr.one;obtain⟨_,_,rfl,h,r⟩:=r.of_lst;rw[Qf q3]at r;rw[r.strs]at h;refine⟨_,ys,rfl,.inl h,hz,fun a ha'=>?_⟩;have x2:Ext G1 H1 G1 (upd H1 a (Zu X a ys)):=.new x1.gh ha';exact⟨a,ys,rfl,jm,k _ G1 _ (x1.trans x2) (.int _)⟩
   . cases q4
 . cases q2
end
section
variable{M:Fm}{e:Expr}{fs:ed->Option (List D)}{pos p:Pos}
theorem je6{p' pos':Pos}(hg:∀j,Gl (M.X j) "len")(hm:∀j,(M.X j).mg "len"=none)(hg':∀j,Gl (M.X j) "set")(hm':∀j,(M.X j).mg "set"=none)(ha:WAT M [e] fs)(h:ju e=false:=by rfl)(sub:∀i j,(M.X i).prog=(M.X j).prog ∧ (M.X i).w=(M.X j).w)(j0:M.ι):
 WE M (.Call (.Name "len" p) [.Call (.Name "set" p') [e] [] pos'] [] pos) (QD fs):=
 let ⟨ta,h1,h2⟩:=ha.h
 ⟨tCB (jdB (M.X j0)) (Jo (tCB (jdb (M.X j0) M.K) ta) Z8),fun j=>by
  have r1:=jex (X:=M.X j) (M.calm j);have r2:=jec (X:=M.X j);have eS:∀a ys,Zu (M.X j) a ys=Zu (M.X j0) a ys:=fun a ys=>by unfold Zu;rw[(sub j j0).1,(sub j j0).2]
  rw[M.hK j]at r1;unfold jdb at r1;unfold jdB at r2;simp only[eS]at r1 r2;exact Zx r2 (hg j) (hm j) YV (qC (QH r1 (hg' j) (hm' j) boot_set (h1 j) (by decide) (by decide) (jD h) (qH rfl)) zT (jD rfl)) (by decide) (by decide) (jD rfl) (qH rfl),@jfx M.fr _ _ _ h2⟩
end
section
variable[Fr]
abbrev T2:=List D×List D
structure Own2(H G' H':Hp)(x:Addr)(q:T2):Prop where
 ex:∃a c us ws,H' x=some (.tup [.ref a,.ref c])/\H' a=some (.lst us)/\H' c=some (.lst ws)/\a≠c/\a≠x/\c≠x/\(H a=none/\G' a=none)/\(H c=none/\G' c=none)/\(H x=none/\G' x=none)/\Reps G' us q.1/\Reps G' ws q.2
theorem Own2.mono{H Hb G' H':Hp}{x:Addr}{q:T2}(h:Own2 H G' H' x q)(f:∀b,H b=none->Hb b=none):Own2 Hb G' H' x q:=by obtain⟨a,c,us,ws,h1,h2,h3,n1,n2,n3,⟨a1,a2⟩,⟨b1,b2⟩,⟨d1,d2⟩,r1,r2⟩:=h.ex;exact⟨a,c,us,ws,h1,h2,h3,n1,n2,n3,⟨f _ a1,a2⟩,⟨f _ b1,b2⟩,⟨f _ d1,d2⟩,r1,r2⟩
def jfX(t:TE)(f:ed->Option T2):Prop:=∀G0 H0 G H σ ρ (Q:VK) q,EnvOk G0 H0 G H σ ρ->f ρ=some q->(∀x G' H',Ext G H G' H'->Own2 H G' H' x q->Q (.ref x) H')->t σ H Q
def jbQ(fa fb:ed->Option (List D)):ed->Option T2:=fun ρ=>(fa ρ).bind fun ds=>(fb ρ).map fun es=>(ds,es)
theorem jhX{ta tb:TE}{fa fb:ed->Option (List D)}(ha:EOkO ta fa)(hb:EOkO tb fb):jfX (ji9 (Jo ta (Jo tb Z8))) (jbQ fa fb):=fun G0 H0 G H σ ρ Q q e z k=>by obtain⟨ds,z1,z⟩:=bind_some z;obtain⟨es,z2,z⟩:=map_some z;subst z;refine ha _ _ _ _ _ _ _ _ e z1 fun a us G1 H1 x1 n1 g1 h1 r1=>hb _ _ _ _ _ _ _ _ (e.grow x1) z2 fun c ws G2 H2 x2 n2 g2 h2 r2=>⟨(show 2<=sizeLine from by rw[PySem.sizeLine_eq];decide),fun p hp=>?_⟩;have x12:=x1.trans x2;have ca:a≠c:=jk h1 n2;have ga:G2 a=none:=x2.gone g1 h1;have pa:a≠p:=jk (x2.hh _ _ h1) hp;have pc:c≠p:=jk h2 hp;exact k p G2 _ (x12.trans (.new x2.gh hp)) ⟨a,c,us,ws,jm,by rw[ji pa];exact x2.hh _ _ h1,by rw[ji pc];exact h2,ca,pa,pc,⟨n1,ga⟩,⟨x1.hh.free n2,g2⟩,⟨x12.hh.free hp,x2.gh.free hp⟩,r1.mono x2.gg,r2⟩
def jcd(t:TS)(f:ed->Option T2):Prop:=∀G0 H0 G H σ ρ E q,EnvOk G0 H0 G H σ ρ->f ρ=some q->(∀x G' H',Ext G0 H0 G' H'->Own2 H0 G' H' x q->E.rt (.ref x) H')->t E σ H
theorem jhS{te:TE}{f:ed->Option T2}(h:jfX te f):jcd (jfC te) f:=fun G0 H0 G H σ ρ E q e z k=>h _ _ _ _ _ _ _ _ e z fun x G' H' xt o=>k x G' H' (e.ext.trans xt) (o.mono fun _ hb=>e.ext.hh.free hb)
def QU(F:FS)(f:ed->Option T2):ed->Option T2:=fun ρ=>match F ρ with
 | .next ρ'=>f ρ'
 | _=>none
theorem jh5{t u:TS}{F:FS}{f:ed->Option T2}(h:Q8 t F)(h':jcd u f):jcd (jaa t u) (QU F f):=fun G0 H0 G H σ ρ E q e z k=>by
 unfold QU at z;split at z
 . rename_i ρ' y;refine h G0 H0 G H σ ρ _ e ?_;rw[y];exact fun G' H' σ' s' e'=>h' G0 H0 G' H' σ' ρ' E q e' z k
 . cases z
def jfk(c:ed->Option Bool)(f g:ed->Option T2):ed->Option T2:=fun ρ=>match c ρ with
 | some true=>f ρ
 | some false=>g ρ
 | none=>none
theorem jjH{tc:TT}{t u:TS}{c:ed->Option Bool}{f g:ed->Option T2}(hc:Z1 tc c)(h:jcd t f)(h':jcd u g):jcd (jaa (jaW tc t Qt) u) (jfk c f g):=fun G0 H0 G H σ ρ E q e z k=>by
 unfold jfk at z;split at z
 . rename_i y;exact hc _ _ _ _ _ _ _ _ e y fun G' H' x=>by rw[Yq rfl];exact h _ _ _ _ _ _ _ _ (e.grow x) z k
 . rename_i y;exact hc _ _ _ _ _ _ _ _ e y fun G' H' x=>by rw[YG Ya];exact h' _ _ _ _ _ _ _ _ (e.grow x) z k
 . cases z
def jcz(k n:Nat)(f:ed->Option T2)(ds:List D):Option T2:=if ds.length=k then f (qR n ds)else none
def sp2(f:List D->Option T2):Sp:=fun vs H Q _=>∃G ds q,Same G H/\Reps G vs ds/\f ds=some q/\∀x G' H',Ext G H G' H'->Own2 H G' H' x q->Q (.ref x) H'
theorem jko{k n:Nat}{f:ed->Option T2}{vs:List V}{H:Hp}{Q:VK}{E:XK}(q:sp2 (jcz k n f) vs H Q E):vs.length=k:=by
 obtain⟨G,ds,d,s,r,hf,fin⟩:=q;unfold jcz at hf;split at hf
 . rename_i h;rw[r.length];exact h
 . cases hf
theorem jie{t:TS}{f:ed->Option T2}{a n k:Nat}{vs:List V}{H:Hp}{Q:VK}{E:XK}(h:jcd t f)(hk:k=n-vs.length)(q:sp2 (jcz a n f) vs H Q E):t { nx:=fun _ H'=>Q .non H',rt:=Q } (vs.map some++List.replicate k none) H:=by
 obtain⟨G,ds,d,s,r,hf,fin⟩:=q;unfold jcz at hf;split at hf
 . exact h G H G H _ _ _ _ (ja1 s r hk) hf fin
 . cases hf
theorem jgp{As:TA}{fs:ed->Option (List D)}{f:List D->Option T2}{E:XK}(ha:AOk As fs):jfX (jdt (sp2 f) [] E As) (jj f fs):=fun G0 H0 G H σ ρ Q d e q k=>by obtain⟨ds,q1,q2⟩:=bind_some q;exact ha _ _ _ _ _ _ _ _ e q1 fun vs G1 H1 x1 r1=>⟨G1,ds,d,x1.gh,by rw[yo];exact r1,q2,fun x G2 H2 x2 o=>k x G2 H2 (x1.trans x2) (o.mono fun b hb=>x1.hh.free hb)⟩
def jep(c:ed->Option Bool)(ρ:ed)(j:Nat):List D->Bool
 | []=>true
 | d::l=>(match c (ρ.set j (.sh d))with | some false=>true | _=>false) && jep c ρ j l
def isF(o:Option Bool):Bool:=match o with
 | some false=>true
 | _=>false
theorem jdv{o:Option Bool}(h:isF o=true):o=some false:=by
 match o,h with
 | some false,_=>rfl
theorem jdw{c:ed->Option Bool}{ρ:ed}{j:Nat}:∀{l:List D} {k:Nat} {d:D},jep c ρ j l=true->l[k]?=some d->c (ρ.set j (.sh d))=some false
 | [],k,d,_,h=>by cases h
 | x::l,0,d,h,e=>by cases e;exact jdv (YL.mp h).1
 | x::l,k+1,d,h,e=>jdw (YL.mp h).2 e
def jbn(i j:Nat)(c1 c2 c3:ed->Option Bool)(fi:ed->Option (List D))(c:ed->Option Bool)(ρ:ed)(q:T2):Bool:=
 let ρ1:=ρ.set i (.sh (.tup [.lst q.1,.lst q.2]))
 isF (c1 ρ1) && (isF (c2 ρ1) && (isF (c3 ρ1) && (decide (i<ρ.length) && (Jn q.1.length && match fi ρ1 with | some l=>jep c ρ1 j l | none=>false))))
def jb3(i j:Nat)(f:ed->Option T2)(c1 c2 c3:ed->Option Bool)(fi:ed->Option (List D))(c:ed->Option Bool):FS:=fun ρ=>match f ρ with
 | none=>.fail
 | some q=>if jbn i j c1 c2 c3 fi c ρ q=true then .next ((ρ.set i .un).set j .un)else .fail
theorem jbE{H:Hp}{o:Option V}{b:Addr}(h:zM H o .un b):False:=by
 cases o with
 | none=>exact h
 | some v=>cases v <;> exact h
theorem jiH{te:TE}{t1 t2 t3 tc:TT}{wi:TI}{f:ed->Option T2}{c1 c2 c3 c:ed->Option Bool}{fi:ed->Option (List D)}{i j:Nat}{z:Str}(hij:i≠j)(h:jfX te f)(h1:Z1 t1 c1)(h2:Z1 t2 c2)(h3:Z1 t3 c3)(hi:IOk wi fi)(hc:Z1 tc c):
 Q8 (jaa (jaT te (J2 i)) (jaa (jaW t1 Qb Qt) (jaa (jaW t2 Qb Qt) (jaa (jaW t3 Qb Qt) (jaa (jiF wi (J2 j) (jaW tc Qb Qt)) (jaa (jbF (tBM Fr.K "list" Qo (tOp (rIx Fr.K) (Z5 i) (tC (.int 0))) (Jo (tC (.str z)) Z8))) (jbF (jhF Fr.K "list" jcZ (tOp (rIx Fr.K) (Z5 i) (tC (.int 1))))))))))) (jb3 i j f c1 c2 c3 fi c):=fun G0 H0 G H σ ρ E e q=>by
 unfold jb3 at q;cases zf:f ρ with
 | none=>rw[zf]at q;exact q.elim
 | some p=>
 rw[zf]at q;by_cases hok:jbn i j c1 c2 c3 fi c ρ p=true
 case neg=>simp only[hok]at q;exact q.elim
 simp only[hok]at q;unfold jbn at hok;obtain⟨k1,hok⟩:=YL.mp hok;obtain⟨k2,hok⟩:=YL.mp hok;obtain⟨k3,hok⟩:=YL.mp hok;obtain⟨k4,hok⟩:=YL.mp hok;obtain⟨k5,hok⟩:=YL.mp hok;have k4:=yy k4;cases zi:fi (ρ.set i (.sh (.tup [.lst p.1,.lst p.2])))with
 | none=>rw[zi]at hok;cases hok
 | some l=>
 rw[zi]at hok;refine h _ _ _ _ _ _ _ _ e zf fun x G1 H1 x1 o=>?_;obtain⟨a,cc,us,ws,hx,ha,hcc,n1,n2,n3,⟨a1,a2⟩,⟨b1,b2⟩,⟨d1,d2⟩,r1,r2⟩:=o.ex;have y1:=x1.freeze a1 a2 ha;have y2:=y1.freeze (a:=cc) b1 (by rw[ji (Ne.symm n1)];exact b2) hcc;have y3:=y2.freeze (a:=x) d1 (by rw[ji (Ne.symm n3),ji (Ne.symm n2)];exact d2) hx;generalize hGf:upd (upd (upd G1 a (.lst us)) cc (.lst ws)) x (.tup [.ref a,.ref cc])=Gf at y3;have s1:Same G1 Gf:=by rw[<-hGf];exact(Same.upd a2).trans ((Same.upd (by rw[ji (Ne.symm n1)];exact b2)).trans (.upd (by rw[ji (Ne.symm n3),ji (Ne.symm n2)];exact d2)))
 have rx:Rep Gf (.ref x) (.tup [.lst p.1,.lst p.2]):=by
  refine .tup (by rw[<-hGf];exact jm) (.cons (.lst (.inl ?_) (r1.mono s1)) (.cons (.lst (.inl ?_) (r2.mono s1)) .nil))
  . rw[<-hGf,ji n2,ji n1];exact jm
  . rw[<-hGf,ji n3];exact jm
 have e1:EnvOk G0 H0 Gf H1 (σ.set i (some (.ref x))) (ρ.set i (.sh (.tup [.lst p.1,.lst p.2]))):=(e.grow y3).set rx;show jaW t1 Qb Qt _ (σ.set i (some (.ref x))) H1;refine h1 _ _ _ _ _ _ _ _ e1 (jdv k1) fun G2 H2 x2=>?_;rw[YG Ya];refine h2 _ _ _ _ _ _ _ _ (e1.grow x2) (jdv k2) fun G3 H3 x3=>?_;rw[YG Ya];refine h3 _ _ _ _ _ _ _ _ ((e1.grow x2).grow x3) (jdv k3) fun G4 H4 x4=>?_;rw[YG Ya];have x24:=(x2.trans x3).trans x4;refine hi _ _ _ _ _ _ _ _ (e1.grow x24) zi fun J G5 H5 x5 it=>?_;have x25:=x24.trans x5;refine⟨fun k m σ' H'=>m=l.length-k/\k<=l.length/\∃G',Ext Gf H1 G' H'/\Same G5 G'/\(σ'=σ.set i (some (.ref x))\/∃v,σ'=(σ.set i (some (.ref x))).set j (some v)),⟨_,rfl,yx _,G5,x25,.refl _,.inl rfl⟩,?_⟩;rintro k m σ' H' ⟨rfl,hl,G',xx,s5,hσ⟩;obtain⟨go,stop⟩:=it k G' H' s5 (s5.trans xx.gh) xx.gh;by_cases hlt:k<l.length
 . have hd:l[k]?=some l[k]:=QC hlt;obtain⟨g1,g2⟩:=go _ hd;refine .inr ⟨g1,fun σ' H'=>∃G',Ext Gf H1 G' H'/\Same G5 G'/\∃v,σ'=(σ.set i (some (.ref x))).set j (some v),fun σ' H' ⟨G',w1,w2,w3⟩=>⟨_,by omega,rfl,hlt,G',w1,w2,.inr w3⟩,fun v H2 y=>?_⟩;obtain⟨G6,x6,r6⟩:=g2 v H2 y;have es:σ'.set j (some v)=(σ.set i (some (.ref x))).set j (some v):=by
    rcases hσ with rfl | ⟨u,rfl⟩
    . rfl
    . rw[List.set_set]
   show jaW tc Qb Qt _ (σ'.set j (some v)) H2;rw[es];have e6:=(e1.grow (xx.trans x6)).set (i:=j) r6;refine hc _ _ _ _ _ _ _ _ e6 (jdw hok hd) fun G7 H7 x7=>?_;rw[YG Ya];exact⟨G7,(xx.trans x6).trans x7,s5.trans (x6.gg.trans x7.gg),v,rfl⟩
 . have hd:l[k]?=none:=YA.mpr (by omega);refine .inl ⟨stop hd,?_⟩;have hσi:σ'[i]?=some (some (.ref x)):=by
    have:i<σ.length:=by rw[e.len];exact k4
    rcases hσ with rfl | ⟨u,rfl⟩
    . exact YT this
    . rw[Yz (Ne.symm hij)];exact YT this
   have hx':=xx.hh _ _ hx;have ha':=xx.hh _ _ ha;have hc':=xx.hh _ _ hcc;refine⟨_,hσi,.inr (.inl ⟨x,[.ref a,.ref cc],0,.ref a,rfl,rfl,.inl (.inl hx'),rfl,.inl ⟨rfl,us,.inl (.inl ha')⟩,⟨a,us,.str z,rfl,rfl,ha',by rw[r1.length];exact Qz k5,?_⟩⟩)⟩;have hx2:upd H' a (.lst (us++[.str z])) x=some (.tup [.ref a,.ref cc]):=by rw[ji (Ne.symm n2)];exact hx'
   have hc2:upd H' a (.lst (us++[.str z])) cc=some (.lst ws):=by rw[ji (Ne.symm n1)];exact hc'
   refine⟨_,hσi,.inr (.inl ⟨x,[.ref a,.ref cc],1,.ref cc,rfl,rfl,.inl (.inl hx2),rfl,.inl ⟨rfl,ws,.inl (.inl hc2)⟩,⟨cc,ws,rfl,rfl,hc2,?_⟩⟩)⟩;have xf:Ext G H G1 (upd (upd H' a (.lst (us++[.str z]))) cc (.lst [])):=by
    refine⟨fun b u hb=>?_,x1.gg,fun b u hb=>?_,x1.nw⟩
    . rw[ji (jk hb b1),ji (jk hb a1)];exact xx.hh _ _ (x1.hh _ _ hb)
    . rw[ji (jk hb b2),ji (jk hb a2)];exact xx.hh _ _ (x1.gh _ _ hb)
   have e9:=(e.grow xf).fresh (i:=i) (.refl (e.grow xf).same) (o':=some (.ref x)) (.un _) fun b f=>(jbE f).elim;refine q G1 _ σ' x1.gg ?_;rcases hσ with rfl | ⟨u,rfl⟩
   . exact e9.drop
   . exact e9.fresh (.refl e9.same) (.un _) fun b f=>(jbE f).elim
end
structure W2(M:Fm)(e:Expr)(f:ed->Option T2):Prop where
 h:∃t,(∀i,PE (M.X i) e t)/\@jfX M.fr t f
structure WP2(M:Fm)(st:List Stmt)(f:ed->Option T2):Prop where
 h:∃t,(∀i,PSs (M.X i) st t)/\@jcd M.fr t f
section
variable{M:Fm}{a b c e:Expr}{es:List Expr}{fa fb fs fi:ed->Option (List D)}{f g:ed->Option T2}{pos p:Pos}{x:Str}{st:Stmt}{sts sts':List Stmt}{F:FS}{fc:ed->Option Bool}{f1:List D->Option T2}{k:Nat}
theorem jeC{n:Nat}(ha:WO M a fa)(hb:WO M b fb)(h1:ju a=false:=by rfl)(h2:ju b=false:=by rfl):W2 M (.Tuple [a,b] n pos) (jbQ fa fb):=let ⟨_,a1,a2⟩:=ha.h;let ⟨_,b1,b2⟩:=hb.h;⟨_,fun j=>jfL (qC (a1 j) (qC (b1 j) zT (jD h2)) (jD h1)),@jhX M.fr _ _ _ _ a2 b2⟩
theorem jdI(h:W2 M e f):WP2 M [.Return (some e) pos] f:=let ⟨_,h1,h2⟩:=h.h;⟨_,fun j=>Zf (jaZ (h1 j)),@jhS M.fr _ _ h2⟩
theorem jbu(h:WS M st F)(h':WP2 M sts f):WP2 M (st::sts) (QU F f):=let ⟨_,a,b⟩:=h.h;let ⟨_,a1,b1⟩:=h'.h;⟨_,fun j=>qV (a j) (a1 j),@jh5 M.fr _ _ _ _ b b1⟩
theorem jiV(h:WC M c fc)(h1:WP2 M sts f)(h2:WP2 M sts' g):WP2 M (.If c sts [] pos::sts') (jfk fc f g):=let ⟨_,a,b⟩:=h.h;let ⟨_,a1,b1⟩:=h1.h;let ⟨_,a2,b2⟩:=h2.h;⟨_,fun j=>qV (jaD (a j) (a1 j) JZ) (a2 j),@jjH M.fr _ _ _ _ _ _ b b1 b2⟩
theorem jgZ{gA:Addr}{fd:FuncData}{ps:List Str}(F:∀j,FnOk (M.X j).prog (M.X j).w (M.X j).K (M.X j).mg (M.X j).base Jp k gA fd ps (@sp2 M.fr f1))(hr:∀j,Room k (M.X j).A)(hg:∀j,Gl (M.X j) x)(hx:∀j,FX (M.X j).K (M.X j).mg x st gA fd ps)
 (ha:WA M (e::es) fs) (hdb:(x == ("__debug__":Str))=false:=by decide) (h:ju e=false:=by rfl) (h':(es.all fun e=>!ju e)=true:=by rfl):W2 M (.Call (.Name x p) (e::es) [] pos) (jj f1 fs):=
 let ⟨_,h1,h2⟩:=ha.h;⟨_,fun j=>jbd (F j) (hr j) (hg j) (hx j).m (hx j).f.kp (hx j).b .nil je5 (h1 j) hdb (jD h) (qH h'),@jgp M.fr _ _ f1 E0 h2⟩
theorem jfQ{i j:Nat}{y z:Str}{c1 c2 c3 it:Expr}{b1 b2 b3 b4:List Stmt}{g1 g2 g3:ed->Option Bool}{p1 p2 p3 p4 p5 p6 p7 p8 p9 q1 q2 q3 q4 q5 q6 q7 q8 q9 q0:Pos}{k1 k2 k3:Nat}(hij:i≠j)(hN:∀q,(M.X q).N.Nodup)(hi:M.N[i]?=some x)(hj:M.N[j]?=some y)(lx:∀q,Loc (M.X q).env.scope x)(ly:∀q,Loc (M.X q).env.scope y)(fx:∀q,(M.X q).fn x=true\/(M.X q).env.scope.names.lookup x=some .local)(fy:∀q,(M.X q).fn y=true\/(M.X q).env.scope.names.lookup y=some .local)(hv:∀q,Vis (M.X q).env.scope x)
 (h:W2 M e f) (h1:WC M c1 g1) (h2:WC M c2 g2) (h3:WC M c3 g3) (ht:WI M (.Name y p5) it fi) (hc:WC M c fc) (hd:(x == ("__debug__":Str))=false:=by decide) (hcd:(x == ("__classdict__":Str))=false:=by decide)
 (hs:∀q,swapsWith e (some (.Name x p1)) p2.line (M.X q).env=pure false:=by intro _;rfl) (hp:autoParam (∀j,PassesOwn (model (M.X j).prog (M.X j).w) (M.X j).A (M.X j).env (M.X j).xe) QA.a10._auto_1) (hfs:∀j x,foldedSetIterable it (M.X j).env x=pure x:=by intro _ _;rfl)
 (ha1:∀j,attributeBase (.Subscript (.Name x p6) (.Constant (.int 0) k1 p7) p8) "append" (M.X j).env (eval (.Subscript (.Name x p6) (.Constant (.int 0) k1 p7) p8) (M.X j).env)=eval (.Subscript (.Name x p6) (.Constant (.int 0) k1 p7) p8) (M.X j).env:=by intro _;rfl) (hl1:(p9.endLine == q2.line)=true:=by rfl)
 (hs1:∀j,swapsWith (.Call (.Attribute (.Subscript (.Name x p6) (.Constant (.int 0) k1 p7) p8) "append" p9) [.Constant (.str z) k2 q1] [] q2) none q3.line (M.X j).env=pure false:=by intro _;rfl)
 (ha2:∀j,attributeBase (.Subscript (.Name x q4) (.Constant (.int 1) k3 q5) q6) "clear" (M.X j).env (eval (.Subscript (.Name x q4) (.Constant (.int 1) k3 q5) q6) (M.X j).env)=eval (.Subscript (.Name x q4) (.Constant (.int 1) k3 q5) q6) (M.X j).env:=by intro _;rfl) (hl2:(q7.endLine == q8.line)=true:=by rfl)
 (hs2:∀j,swapsWith (.Call (.Attribute (.Subscript (.Name x q4) (.Constant (.int 1) k3 q5) q6) "clear" q7) [] [] q8) none q9.line (M.X j).env=pure false:=by intro _;rfl) :
 WSs M [.Assign [.Name x p1] e p2,.If c1 b1 [] p3,.If c2 b2 [] p4,.If c3 b3 [] pos,.For (.Name y p5) it [.If c b4 [] p] [] q0,.Expr (.Call (.Attribute (.Subscript (.Name x p6) (.Constant (.int 0) k1 p7) p8) "append" p9) [.Constant (.str z) k2 q1] [] q2) q3,.Expr (.Call (.Attribute (.Subscript (.Name x q4) (.Constant (.int 1) k3 q5) q6) "clear" q7) [] [] q8) q9] (jb3 i j f g1 g2 g3 fi fc):=
 let ⟨_,e1,e2⟩:=h.h;let ⟨_,a1,a2⟩:=h1.h;let ⟨_,b1,b2⟩:=h2.h;let ⟨_,d1,d2⟩:=h3.h;let ⟨_,i1,i2⟩:=ht.h;let ⟨_,c1,c2⟩:=hc.h
 ⟨_,fun q=>qV (jcM (hN q) (by rw[M.hN q];exact hi) (lx q) (e1 q) (hs q) (fx q)) (qV (jaD (a1 q) JR JZ) (qV (jaD (b1 q) JR JZ) (qV (jaD (d1 q) JR JZ) (qV (jf3 (hp q) (M.calm q) (i1 q) (Zi (hN q) (by rw[M.hN q];exact hj) (ly q) (fy q)) (Zf (jaD (c1 q) JR JZ)) (hfs q))
  (qV (Ze (te:=tBM M.K "list" Qo (tOp (rIx M.K) (Z5 i) (tC (.int 0))) (Jo (tC (.str z)) Z8)) (by have hz:ju (Expr.Constant (.str z) k2 q1)=false:=rfl;have:=jbD (X:=M.X q) (apos:=p9) (cpos:=q2) yN PySem.F.slot_list_append PySem.F.type_list_append jay (jfW (r:=rIx M.K) (pos:=p8) (by rw[<-M.hK q];exact jcy) (Qe (i:=i) (pos:=p6) (by rw[M.hN q];exact hi) (hv q) hd hcd) (jcA (i:=0) (j:=k1) (pos:=p7)) (fun _ _=>rfl)) (qC (jfG (X:=M.X q) (pos:=q1) (j:=k2):PE (M.X q) (.Constant (.str z) k2 q1) (tC (.str z))) zT (jD hz)) (ha1 q) (by rw[jD hz];rfl) hl1 (jD hz) (qH rfl);rw[M.hK q]at this;exact this) (hs1 q))
  (Zf (Ze (te:=jhF M.K "list" jcZ (tOp (rIx M.K) (Z5 i) (tC (.int 1)))) (by have:=jhA (X:=M.X q) (apos:=q7) (cpos:=q8) yN PySem.F.slot_list_clear PySem.F.type_list_clear jeI (jfW (r:=rIx M.K) (pos:=q6) (by rw[<-M.hK q];exact jcy) (Qe (i:=i) (pos:=q4) (by rw[M.hN q];exact hi) (hv q) hd hcd) (jcA (i:=1) (j:=k3) (pos:=q5)) (fun _ _=>rfl)) (ha2 q) hl2;rw[M.hK q]at this;exact this) (hs2 q)))))))),@jiH M.fr _ _ _ _ _ _ _ _ _ _ _ _ _ _ _ hij e2 a2 b2 d2 i2 c2⟩
end
section
variable{P:Program}{w:World}{K:PySem.W.Frag}{mg:Str->Option Value}{base:Heap}{y qual:Str}{st:Stmt}{f:Addr}{fd:FuncData}{N ps:List Str}{k a n:Nat}{m:ed->Option T2}
theorem jjG(F:Fun K y qual st f fd)(S:FnScope N ps (jc st))(ha:a=ps.length)(hn:N.length=n)
 (h:∀(cdv:Value) (A:Around) (outer:List PySem.Env) (s:Shared) (H:Hp) (E:XK),Room k (A.deeper (envOfC qual (jc st) s.heap.objs.size f cdv))->WP2 (jfi P w K mg base N qual (jc st) f cdv A outer s H E) (jx st) m) :
 FnOk P w K mg base Jp (k+1) f fd ps (@sp2 ⟨K⟩ (jcz a n m)):=by
 letI:Fr:=⟨K⟩
 refine F.ok S (fun vs H Q E h=>(jko h).trans ha) (fun cdv A outer s H vs Q E hr q=>?_);obtain⟨t,h1,h2⟩:=(h cdv A outer s H E hr).h;exact⟨t,h1 (),jie h2 (by rw[<-hn]) q⟩
end
end L2
namespace Q
open PySem PySem.Spec PyProof.Rows L2
def zK:FS:=(jI (J0 (qF (jo dLt (ja 1) (jj Jh (jd (ja 0) jl))))
 (qx (jo zG (ja 0) (ja 1))) j6)
 (qx (eC (.int 0))))
def jR:List D->Option D:=zp 2 2 zK
def JG:FS:=(jI (jU 3 (jo ZE (jo ql (ja 0) (eC (.int 6))) (eC (.int 2))))
 (jI (jU 4 (jo zj (jo zj (ja 3) (eC (.int 1))) (jo ql (jo Ji (ja 0) (eC (.int 6))) (eC (.int 5)))))
 (jI (J0 (qF (jo dEq (ja 2) (eC (.int 1))))
 (jI (jU 3 (jo ZE (jo ql (ja 0) (eC (.int 50))) (eC (.int 25))))
 (jU 4 (jo zj (jo zj (ja 3) (eC (.int 1))) (jo ql (jo Ji (ja 0) (eC (.int 50))) (eC (.int 40)))))) j6)
 (jI (J0 (qF (jo dEq (ja 2) (eC (.int 2))))
 (jI (jU 3 (jo zo (jo ZE (jo ql (jo zo (ja 0) (eC (.int 1103515245))) (eC (.int 2147483647))) (jo Ju (eC (.int 10)) (eC (.int 9)))) (jo Ju (eC (.int 10)) (eC (.int 5)))))
 (jU 4 (jo zj (jo zj (ja 3) (eC (.int 1))) (jo zo (jo ql (jo zo (ja 0) (eC (.int 1664525013))) (eC (.int 2147483629))) (jo Ju (eC (.int 10)) (eC (.int 5))))))) j6)
 (jI (jU 5 (jo zG (jW (Jt (jd (eC (.int 2)) (jd (eC (.int 1)) (jd (eC (.int 3)) (jd (eC (.int 5)) (jd (jo Ju (eC (.int 10)) (eC (.int 15))) (jd (jo zj (eC (.int 1)) (jo ql (jo Ji (ja 1) (eC (.int 8))) (eC (.int 50)))) (jd (eC (.int 0)) (jd (eC (.int 4)) jl)))))))))) (jo ql (ja 1) (eC (.int 8)))))
 (jI (jU 6 (jo ql (jo zo (ja 1) (eC (.int 1103515245))) (eC (.int 2147483647))))
 (jI (jU 7 (jo zo (ja 5) (jo ZE (ja 4) (ja 3))))
 (jI (jU 8 (jo zG (jW (Jt (jd (jo Ji (jo zo (ja 7) (jo ql (ja 6) (eC (.int 17)))) (eC (.int 16))) (jd (jo ql (ja 6) (jo zj (ja 7) (eC (.int 1)))) (jd (jj jds (jd (ja 7) (jd (jo ql (ja 6) (eC (.int 9))) jl))) (jd (jz 7) jl)))))) (jo ql (jo Ji (ja 6) (eC (.int 17))) (eC (.int 4)))))
 (qx (jc0 (jd (jz 3) (jd (jz 4) (jd (jz 8) (jd (jz 5) jl))))))))))))))
def zc:List D->Option D:=zp 3 9 JG
def zA:FS:=(jI (jU 2 (jj jR (jd (jz 0) (jd (jz 1) jl))))
 (jI (jda 3 (Jt jl))
 (jI (Q4 (Q6 (jd (jo zG (jW (Jt (jd (eC (.int 3)) (jd (eC (.int 4)) (jd (eC (.int 2)) (jd (eC (.int 4)) (jd (eC (.int 1)) (jd (eC (.int 3)) (jd (eC (.int 0)) (jd (eC (.int 4)) jl)))))))))) (jo ql (ja 2) (eC (.int 8)))) jl)) (jw 4)
 (jI (jU 5 (jj jR (jd (jz 0) (jd (jo zj (jo zj (ja 1) (eC (.int 1))) (jo zo (eC (.int 2)) (ja 4))) jl))))
 (jee 3 (jj zc (jd (jz 5) (jd (jj jR (jd (jz 0) (jd (jo zj (jo zj (ja 1) (eC (.int 2))) (jo zo (eC (.int 2)) (ja 4))) jl))) (jd (jo ql (jo Ji (ja 2) (eC (.int 8))) (eC (.int 3))) jl)))))))
 (jI (J0 (jcp (qF (jo dGt (jj Jh (jd (ja 3) jl)) (eC (.int 1)))) (qF (jo dEq (jo ql (jo Ji (ja 2) (eC (.int 24))) (eC (.int 4))) (eC (.int 1)))))
 (jfN 3 (jcq (eC (.int 1))) (jo zG (ja 3) (eC (.int 0)))) j6)
 (jdq 3)))))
def Jk:List D->Option (List D):=ja0 2 6 zA
def zx:FS:=(jI (jU 2 (eC (.str "abcdefghijklmnopqrstuvwxyz")))
 (jI (jU 3 (jo ql (jo zo (ja 0) (eC (.int 1664525013))) (eC (.int 2147483629))))
 (jI (jU 4 (eC (.str "")))
 (jI (Q4 (Q6 (jd (jo ql (ja 0) (eC (.int 4))) jl)) (jw 5)
 (jU 4 (jo qY (ja 4) (jo zG (ja 2) (jo ql (jo Ji (ja 3) (jo zj (eC (.int 1)) (jo zo (eC (.int 26)) (ja 5)))) (eC (.int 26)))))))
 (jI (jU 6 (eC (.str "")))
 (jI (Q4 (Q6 (jd (jo ql (jo Ji (ja 0) (eC (.int 4))) (eC (.int 5))) jl)) (jw 5)
 (jU 6 (jo qY (ja 6) (jo zG (ja 2) (jo ql (jo Ji (ja 3) (jo zj (eC (.int 3)) (jo zo (eC (.int 31)) (ja 5)))) (eC (.int 26)))))))
 (ZN (JO (Q6 (jd (ja 1) jl)) (jw 0) (fun _=>some true) (jo qY (jo qY (ja 2) (jo zG (ja 3) (jo ql (jo zj (jo Ji (ja 4) (eC (.int 20))) (jo zo (eC (.int 7)) (ja 0))) (eC (.int 26))))) (ja 1)) 1 [6,4,2,0]))))))))
def Jf:List D->Option (List D):=ja0 2 7 zx
def JB:FS:=(jI (jU 2 (eC (.str "")))
 (jI (Q4 (Q6 (jd (jj Jh (jd (ja 1) jl)) jl)) (jw 3)
 (jI (J0 (qF (jo dGt (ja 3) (eC (.int 0))))
 (jU 2 (jo qY (ja 2) (eC (.str "; ")))) j6)
 (jI (jU 2 (jo qY (ja 2) (jo zG (ja 0) (ja 3))))
 (Q4 (zb (jo zG (ja 1) (ja 3))) (jw 4)
 (jU 2 (jo qY (jo qY (ja 2) (eC (.str " "))) (jj jbC (jd (ja 4) jl))))))))
 (qx (jz 2))))
def zQ:List D->Option D:=zp 2 5 JB
def Jz:FS:=(qx (eBM jaM (eC (.str " ")) (jd (jW (jo jf2 (jW (Jt (jd (jz 0) jl))) (jW (JO (zb (jz 1)) (jw 0) (fun _=>some true) (jj jbC (jd (ja 0) jl)) 1 [])))) jl)))
def qg:List D->Option D:=zp 2 2 Jz
def Jd:FS:=(qx (eBM jaM (eC (.str "; ")) (jd (jW (JO (jbN (jd (ja 0) (jd (ja 1) jl))) (jck 2 (Jm (jw 0) (Jm (jw 1) jcJ))) (fun _=>some true) (jj qg (jd (jz 0) (jd (jz 1) jl))) 2 [])) jl)))
def zC:List D->Option D:=zp 2 2 Jd
def QN:FS:=(qx (Q7 (qT dLe dLe (eC (.int 1)) (jj Jh (jd (ja 0) jl)) (eC (.int 8))) (jj jbr (jd (jW (JO (jaE (jz 0)) (jw 0) (fun _=>some true) (jo (jfd false) (ja 0) (eC (.str "abcdefghijklmnopqrstuvwxyz"))) 1 [])) jl))))
def JY:List D->Option D:=zp 1 1 QN
def Js:FS:=(jI (jU 1 (eIf (qF (eBM JT (ja 0) (jd (eC (.str "-")) jl))) (jgn (ja 0) (pSo (eC (.int 1))) pNo) (jz 0)))
 (jI (J0 (bOr (zm (qF (qT dLe dLe (eC (.int 1)) (jj Jh (jd (ja 1) jl)) (eC (.int 31))))) (zm (qF (jj jbr (jd (jW (JO (jaE (jz 1)) (jw 0) (fun _=>some true) (jo (jfd false) (ja 0) (eC (.str "0123456789"))) 1 [])) jl)))))
 (qx (eC (.bl false))) j6)
 (qx (eOr (jo dEq (ja 0) (eC (.str "0"))) (jb4 (eBM JT (ja 1) (jd (eC (.str "0")) jl)))))))
def zO:List D->Option D:=zp 1 2 Js
def zy:FS:=(jI (J0 (qF (jo dEq (ja 1) (eC (.str "NAME"))))
 (qx (jj JY (jd (jz 0) jl))) j6)
 (jI (J0 (zm (qF (jj zO (jd (jz 0) jl))))
 (qx (eC (.bl false))) j6)
 (jI (jU 2 (jj jdC (jd (ja 0) jl)))
 (jI (J0 (qF (jo dEq (ja 1) (eC (.str "K"))))
 (qx (jo dGe (ja 2) (eC (.int 0)))) j6)
 (jI (J0 (qF (jo dEq (ja 1) (eC (.str "MOST"))))
 (qx (qT dLe dLe (eC (.int 0)) (ja 2) (jo Ju (eC (.int 10)) (eC (.int 15))))) j6)
 (jI (J0 (qF (jo (dIn false) (ja 1) (jc0 (jd (eC (.str "BEGIN")) (jd (eC (.str "END")) (jd (eC (.str "H")) jl))))))
 (qx (qT dLe dLe (jcq (jo Ju (eC (.int 10)) (eC (.int 15)))) (ja 2) (jo Ju (eC (.int 10)) (eC (.int 15))))) j6)
 (qx (eC (.bl true)))))))))
def qf:List D->Option D:=zp 2 3 zy
def zJ:FS:=(qx (Q7 (jo dEq (jj Jh (jd (ja 0) jl)) (jj jc9 (jd (ja 1) jl))) (jj jbr (jd (jW (JO (ZU (jd (ja 0) (jd (ja 1) jl))) (jck 2 (Jm (jw 0) (Jm (jw 1) jcJ))) (fun _=>some true) (jj qf (jd (jz 0) (jd (jz 1) jl))) 2 [])) jl))))
def qO:List D->Option D:=zp 2 2 zJ
def Zs:FS:=(qx (Q7 (Jx "int" (ja 0)) (jb4 (Jx "bool" (ja 0)))))
def Ql:List D->Option D:=zp 1 1 Zs
def QG:FS:=(jI (J0 (bOr (zm (qF (Jx "tuple" (ja 0)))) (qF (jo dNe (jj Jh (jd (ja 0) jl)) (eC (.int 4)))))
 (qx (eC (.bl false))) j6)
 (jI (J0 (zm (qF (jj jbr (jd (jW (JO (zb (jz 0)) (jw 0) (fun _=>some true) (jj Ql (jd (jz 0) jl)) 1 [])) jl))))
 (qx (eC (.bl false))) j6)
 (jI (jU 1 (jo ZE (jo zG (ja 0) (eC (.int 1))) (jo zG (ja 0) (eC (.int 0)))))
 (qx (Q7 (jo dGt (ja 1) (eC (.int 0))) (Q7 (jo dGe (jo zG (ja 0) (eC (.int 3))) (eC (.int 0))) (qT dLe dLe (eC (.int 0)) (jo zG (ja 0) (eC (.int 2))) (jo zo (jo zG (ja 0) (eC (.int 3))) (ja 1)))))))))
def JM:List D->Option D:=zp 1 2 QG
def zu:FS:=(ZN (JO (qv (ja 0)) (jw 0) (fun _=>some true) (jj jdC (jd (ja 0) jl)) 1 []))
def zt:List D->Option (List D):=ja0 1 1 zu
def QR:FS:=(qx (jj jdl (jd (jW (jj zt (jd (jz 0) jl))) jl)))
def zD:List D->Option D:=zp 1 1 QR
def Jj:FS:=(qx (Q7 (jj qO (jd (jz 0) (jd (eC (.kst ["NAME","BEGIN","END","NEED","MOST"])) jl))) (jj JM (jd (jj zD (jd (jW (eSl (ja 0) (pSo (eC (.int 1))) pNo)) jl)) jl))))
def qU:List D->Option D:=zp 1 1 Jj
def qS:FS:=(jI (J0 (zm (qF (jj jbr (jd (jW (JO (qv (ja 0)) (jw 0) (fun _=>some true) (jj qU (jd (jz 0) jl)) 1 [])) jl))))
 (fun _=>.fail) j6)
 (J0 (qF (jo dNe (QD (jd (jW (JO (qv (ja 0)) (jw 0) (fun _=>some true) (jo zG (ja 0) (eC (.int 0))) 1 [])) jl)) (jj Jh (jd (ja 0) jl))))
 (fun _=>.fail) j6))
def qh:List D->Option D:=zp 1 1 qS
def zv:ed → Option T2:=(QU (J0 (zm (qF (Jx "str" (ja 0))))
 (fun _=>.fail) j6)
 (jfk (qF (jo dEq (ja 0) (eC (.str ""))))
 (jbQ (Jt jl) (Jt jl))
 (QU (jU 1 (jW (JO (qv (jW (jbW Qi (ja 0) (jd (eC (.str "; ")) jl)))) (jw 0) (fun _=>some true) (jW (jbW Qi (ja 0) (jd (eC (.str " ")) jl))) 1 [])))
 (QU (jaw (jj qh (jd (jz 1) jl)))
 (jbQ (JO (qv (ja 1)) (jw 0) (fun _=>some true) (jo zG (ja 0) (eC (.int 0))) 1 []) (JO (qv (ja 1)) (jw 0) (fun _=>some true) (jj zD (jd (jW (eSl (ja 0) (pSo (eC (.int 1))) pNo)) jl)) 1 []))))))
def zB:List D->Option T2:=jcz 1 2 zv
def Qp:FS:=(qx (Q7 (Jx "int" (ja 0)) (jb4 (Jx "bool" (ja 0)))))
def qj:List D->Option D:=zp 1 1 Qp
def jfF:FS:=(jI (jU 1 (jW (jj Jk (jd (jz 0) (jd (eC (.int 1)) jl)))))
 (jI (jU 2 (jW (jj Jf (jd (jj jR (jd (jz 0) (jd (eC (.int 0)) jl))) (jd (jj Jh (jd (ja 1) jl)) jl)))))
 (jI (jU 3 (jj zQ (jd (jz 2) (jd (jz 1) jl))))
 (jI (jU 4 (jW (Jt (jd (jW (jj jbx (jd (ja 2) jl))) (jd (jW (jj jbx (jd (ja 1) jl))) jl)))))
 (jI (jU 5 (jj zC (jd (jo zG (ja 4) (eC (.int 0))) (jd (jo zG (ja 4) (eC (.int 1))) jl))))
 (jI (J0 (bOr (zm (qF (Jx "str" (ja 5)))) (bOr (qF (jo dNe (ja 5) (ja 3))) (qF (jo dNe (ja 4) (jW (Jt (jd (jz 2) (jd (jz 1) jl))))))))
 (qx (eC (.bl false))) j6)
 (jI (Q4 (Q6 (jd (eC (.int 2)) jl)) (jw 6)
 (jb3 7 8 (jj zB (jd (jz 3) jl)) (bOr (zm (qF (Jx "tuple" (ja 7)))) (qF (jo dNe (jj Jh (jd (ja 7) jl)) (eC (.int 2))))) (bOr (zm (qF (Jx "list" (jo zG (ja 7) (eC (.int 0)))))) (zm (qF (Jx "list" (jo zG (ja 7) (eC (.int 1))))))) (bOr (qF (jo dNe (jo zG (ja 7) (eC (.int 0))) (ja 2))) (qF (jo dNe (jo zG (ja 7) (eC (.int 1))) (ja 1)))) (qv (jo zG (ja 7) (eC (.int 1)))) (bOr (zm (qF (Jx "tuple" (ja 8)))) (qF (jo dNe (jW (JO (zb (jz 8)) (jw 0) (zm (qF (jj qj (jd (jz 0) jl)))) (jz 0) 1 [])) (jW (Jt jl)))))))
 (qx (eC (.bl true))))))))))
def je9:List D->Option D:=zp 1 9 jfF
def cell(ns:List Int)(k:Int):Int:=ns.getD k.toNat 0
theorem ja9{l:List D}:Jh [.lst l]=some (.int (l.length:Int)):=rfl
theorem jiW{l:List Int}:Jh [.scr l]=some (.int (l.length:Int)):=rfl
theorem jbb(ns:List Int)(k:Int)(h:0<=k):jR [.scr ns,.int k]=some (.int (cell ns k)):=by
 unfold jR zK;simp(disch:=omega) only[zp,Yr,Ke,Nat.zero_add,Nat.reduceAdd,jgj,jI,J0,qF,jo,ja,qR,YM,List.map_nil,Nat.sub_self,List.replicate_zero,List.cons_append,List.nil_append,yP,yO,jj,jd,jl,yw,YX,jiW,jhT,qx,j6,eC,yU];by_cases hk:k<ns.length
 . have e:zG (.scr ns) (.int k)=some (.int (cell ns k)):=by
    show(atI ns k).map D.int=_;unfold atI ixN;rw[Yq h,Yq hk];have hi:k.toNat<ns.length:=by omega
    simp[cell,hi,yB]
   simp only[hk,decide_true,e]
 . have e:cell ns k=0:=by unfold cell;rw[yB,List.getElem?_eq_none (by omega)];rfl
   simp only[hk,decide_false,e]
def jt(s:Ship):D:=.tup [.int s.b,.int s.e,.int s.n,.int s.m]
theorem jfl{ns:List Int}{i:Int}(h0:0<=i)(h1:i<ns.length):∃m,m∈ns/\zG (.lst (ns.map D.int)) (.int i)=some (.int m):=by obtain⟨d,hd,e⟩:=jkN (ds:=ns.map D.int) h0 (by rw[Ye];exact h1);obtain⟨m,hm,rfl⟩:=yi.mp hd;exact⟨m,hm,e⟩
theorem jh1{f x:Int}(h0:0<=f)(h1:0<=x)(h2:x<=16):0<=f*x/16/\f*x/16<=f:=by have a:0<=f*x:=Int.mul_nonneg h0 h1;have b:f*x<=f*16:=Int.mul_le_mul_of_nonneg_left h2 h0;omega
section
variable{β:Type}{ρ:ed}
theorem jr{f:List D->Option β}{fa:ed->Option (List D)}{ds:List D}{x:β}(ha:fa ρ=some ds)(h:f ds=some x):jj f fa ρ=some x:=by unfold jj;rw[ha];exact h
theorem jh{g:D->D->Option β}{fa fb:ed->Option D}{x y:D}{z:β}(h1:fa ρ=some x)(h2:fb ρ=some y)(h3:g x y=some z):jo g fa fb ρ=some z:=by unfold jo;rw[h1,h2];exact h3
theorem jT{fe:ed->Option D}{i:Nat}{d:D}(h:fe ρ=some d):jU i fe ρ=.next (ρ.set i (.sh d)):=by unfold jU;rw[h]
theorem j7{fo:ed->Option (List D)}{l:List D}(h:fo ρ=some l):jW fo ρ=some (.lst l):=by unfold jW;rw[h];rfl
theorem jq{fa:ed->Option D}{fs:ed->Option (List D)}{d:D}{ds:List D}(h1:fa ρ=some d)(h2:fs ρ=some ds):jd fa fs ρ=some (d::ds):=by unfold jd;rw[h1,h2];rfl
theorem jF{fa:ed->Option D}{b:Bool}(h:fa ρ=some (.bl b)):qF fa ρ=some b:=by unfold qF;rw[h]
theorem ze{fc:ed->Option Bool}{F:FS}(h:fc ρ=some false):J0 fc F j6 ρ=.next ρ:=by unfold J0;rw[h];rfl
theorem jeN{fc:ed->Option Bool}{F F':FS}(h:fc ρ=some true):J0 fc F F' ρ=F ρ:=by unfold J0;rw[h]
theorem QT{ga gb:ed->Option Bool}{b:Bool}(h:ga ρ=some false)(h2:gb ρ=some b):bOr ga gb ρ=some b:=by unfold bOr;rw[h];exact h2
theorem zN{ga:ed->Option Bool}{b:Bool}(h:ga ρ=some b):zm ga ρ=some (!b):=by unfold zm;rw[h];rfl
theorem zZ{fe:ed->Option D}{d:D}(h:fe ρ=some d):qx fe ρ=.ret d:=by unfold qx;rw[h]
theorem ZF{fa fb:ed->Option D}{d:D}(h:fa ρ=some (.bl true))(h2:fb ρ=some d):Q7 fa fb ρ=some d:=by unfold Q7;rw[jF h];exact h2
theorem jiz{i j:Int}(h:i=j):dEq (.int i) (.int j)=some (.bl true):=by rw[jiw,Yw h]
theorem jhG{i j:Int}(h:i=j):dNe (.int i) (.int j)=some (.bl false):=by rw[jle,Yw h];rfl
theorem jjp{i j:Int}(h:i<=j):dGt (.int i) (.int j)=some (.bl false):=by rw[dGt_ok,YJ (by omega)]
theorem zW{C:Res->Prop}{F:FS}{r:Res}(h:F ρ=r)(k:C r):C (F ρ):=by rw[h];exact k
theorem qX{F F':FS}{ρ':ed}(h:F ρ=.next ρ'):jI F F' ρ=F' ρ':=by unfold jI;rw[h]
theorem jfo{ga gb:ed->Option Bool}{b c:Bool}(h:ga ρ=some b)(h2:gb ρ=some c):jcp ga gb ρ=some (b && c):=by unfold jcp;rw[h];cases b <;> simp[h2]
theorem jjv{fc:ed->Option Bool}{F F':FS}{b:Bool}(h:fc ρ=some b):J0 fc F F' ρ=if b=true then F ρ else F' ρ:=by unfold J0;rw[h];cases b <;> rfl
theorem jdJ{i j:Int}(h:¬i=j):dEq (.int i) (.int j)=some (.bl false):=by rw[jiw,YJ h]
theorem ZX{fs:ed->Option (List D)}{l:List D}(h:fs ρ=some l)(h2:l.length<16777216):Jt fs ρ=some l:=by unfold Jt;rw[h];show(if Jn l.length=true then _ else _)=_;rw[Yq (Jw h2)]
theorem jhu{fs:ed->Option (List D)}{l:List D}(h:fs ρ=some l)(h2:l.length<16777216):jc0 fs ρ=some (.tup l):=by unfold jc0;rw[h];show(if Jn l.length=true then _ else _)=_;rw[Yq (Jw h2)]
end
theorem jjC{ρ:ed}{i:Nat}{fa:ed->Option D}{ds:List D}{d:D}(h:ρ[i]?=some (.ow ds))(hf:fa ρ=some d)(hs:ds.length<16777216):jee i fa ρ=.next (ρ.set i (.ow (ds++[d]))):=by unfold jee;rw[h,hf];show(if Jn ds.length=true then _ else _)=_;rw[Yq (Jw hs)]
theorem qt{a n:Nat}{m:FS}{ds:List D}{ρ:ed}{d:D}(h1:ds.length=a)(h2:qR n ds=ρ)(h:∀C:Res->Prop,C (.ret d)->C (m ρ)):zp a n m ds=some d:=by unfold zp;rw[Yq h1,h2];exact h (fun r=>jgj r=some d) rfl
theorem jS{C:Res->Prop}{F F':FS}{ρ:ed}(ρ':ed)(h:F ρ=.next ρ')(k:C (F' ρ')):C (jI F F' ρ):=by unfold jI;rw[h];exact k
structure Ok0(s:Ship):Prop where
 ok:s.Ok
 long:s.e-s.b<=214748362800001
 lo:-100000000000000<=s.b
 hi:s.b<=114748364600000
theorem j2(x:Int){k:Int}(h:0<k):0<=x%k/\x%k<k:=⟨Int.emod_nonneg _ (Int.ne_of_gt h),Int.emod_lt_of_pos _ h⟩
theorem jgR(one two kind:Int):∃s:Ship,Ok0 s/\zc [.int one,.int two,.int kind]=some (jt s):=by
 have key:∃b e:Int,b<e/\e-b<=214748362800001 /\ -100000000000000<=b/\b<=114748364600000/\∀R:FS,
  (jI (jU 3 (jo ZE (jo ql (ja 0) (eC (.int 6))) (eC (.int 2)))) (jI (jU 4 (jo zj (jo zj (ja 3) (eC (.int 1))) (jo ql (jo Ji (ja 0) (eC (.int 6))) (eC (.int 5))))) (jI (J0 (qF (jo dEq (ja 2) (eC (.int 1))))
  (jI (jU 3 (jo ZE (jo ql (ja 0) (eC (.int 50))) (eC (.int 25))))
  (jU 4 (jo zj (jo zj (ja 3) (eC (.int 1))) (jo ql (jo Ji (ja 0) (eC (.int 50))) (eC (.int 40)))))) j6)
  (jI (J0 (qF (jo dEq (ja 2) (eC (.int 2))))
  (jI (jU 3 (jo zo (jo ZE (jo ql (jo zo (ja 0) (eC (.int 1103515245))) (eC (.int 2147483647))) (jo Ju (eC (.int 10)) (eC (.int 9)))) (jo Ju (eC (.int 10)) (eC (.int 5)))))
  (jU 4 (jo zj (jo zj (ja 3) (eC (.int 1))) (jo zo (jo ql (jo zo (ja 0) (eC (.int 1664525013))) (eC (.int 2147483629))) (jo Ju (eC (.int 10)) (eC (.int 5))))))) j6) R))))
    [.sh (.int one),.sh (.int two),.sh (.int kind),.un,.un,.un,.un,.un,.un]=R [.sh (.int one),.sh (.int two),.sh (.int kind),.sh (.int b),.sh (.int e),.un,.un,.un,.un]:=by
  have b50:=j2 one (show(0:Int)<50 by decide);have b40:=j2 (one/50) (show(0:Int)<40 by decide);have b6:=j2 one (show(0:Int)<6 by decide);have b5:=j2 (one/6) (show(0:Int)<5 by decide);have bx:=j2 (one*1103515245) (show(0:Int)<2147483647 by decide);have by':=j2 (one*1664525013) (show(0:Int)<2147483629 by decide)
  by_cases h1:kind=1
  . clear b6 b5 bx by'
    refine⟨one%50-25,one%50-25+1+one/50%40,?_,?_,?_,?_,fun R=>
      (qX (jT (jh (jh rfl rfl (jC (by decide))) rfl JS))).trans ((qX (jT (jh (jh rfl rfl jP) (jh (jh rfl rfl (qm (by decide) (by decide))) rfl (jC (by decide))) jP))).trans
      ((qX ((jeN (jF (jh rfl rfl (jiz h1)))).trans ((qX (jT (jh (jh rfl rfl (jC (by decide))) rfl JS))).trans (jT (jh (jh rfl rfl jP) (jh (jh rfl rfl (qm (by decide) (by decide))) rfl (jC (by decide))) jP))))).trans
      (qX (ze (jF (jh rfl rfl (jdJ (by omega))))))))⟩
    all_goals (generalize one%50=u at *;generalize one/50%40=v at *;omega)
  . by_cases h2:kind=2
    . clear b6 b5 b50 b40;refine⟨(one*1103515245%2147483647-1000000000)*100000,(one*1103515245%2147483647-1000000000)*100000+1+one*1664525013%2147483629*100000,?_,?_,?_,?_,fun R=>
       (qX (jT (jh (jh rfl rfl (jC (by decide))) rfl JS))).trans ((qX (jT (jh (jh rfl rfl jP) (jh (jh rfl rfl (qm (by decide) (by decide))) rfl (jC (by decide))) jP))).trans
       ((qX (ze (jF (jh rfl rfl (jdJ h1))))).trans
       (qX ((jeN (jF (jh rfl rfl (jiz h2)))).trans ((qX (jT (jh (jh (jh (jh rfl rfl (Qj (by decide) (by decide))) rfl (jC (by decide))) (jh rfl rfl jkP) JS) (jh rfl rfl jho) (Qj (by decide) (by decide))))).trans (jT (jh (jh rfl rfl jP) (jh (jh (jh rfl rfl (Qj (by decide) (by decide))) rfl (jC (by decide))) (jh rfl rfl jho) (Qj (by decide) (by decide))) jP)))))))⟩
      all_goals (generalize one*1103515245%2147483647=u at *;generalize one*1664525013%2147483629=v at *;omega)
    . clear bx by' b50 b40
      refine⟨one%6-2,one%6-2+1+one/6%5,?_,?_,?_,?_,fun R=>
       (qX (jT (jh (jh rfl rfl (jC (by decide))) rfl JS))).trans ((qX (jT (jh (jh rfl rfl jP) (jh (jh rfl rfl (qm (by decide) (by decide))) rfl (jC (by decide))) jP))).trans
       ((qX (ze (jF (jh rfl rfl (jdJ h1))))).trans (qX (ze (jF (jh rfl rfl (jdJ h2)))))))⟩
      all_goals (generalize one%6=u at *;generalize one/6%5=v at *;omega)
 obtain⟨b,e,h1,h2,h3,h4,hk⟩:=key;obtain⟨m,hm,em⟩:=jfl (ns:=[2,1,3,5,1000000000000000,1+two/8%50,0,4]) (i:=two%8) (j2 two (show(0:Int)<8 by decide)).1 (j2 two (show(0:Int)<8 by decide)).2;have m01:0<=m/\m<=1000000000000000:=by
  have:=j2 (two/8) (show(0:Int)<50 by decide);simp only[Yj,Yu,Y5]at hm;generalize two/8%50=u at *
  clear hk h1 h2 h3 h4 em;rcases hm with rfl | rfl | rfl | rfl | rfl | rfl | rfl | rfl
  . exact⟨by decide,by decide⟩
  . exact⟨by decide,by decide⟩
  . exact⟨by decide,by decide⟩
  . exact⟨by decide,by decide⟩
  . exact⟨by decide,by decide⟩
  . omega
  . exact⟨by decide,by decide⟩
  . exact⟨by decide,by decide⟩
 clear hm;obtain⟨m0,m1⟩:=m01;have full0:0<=m*(e-b):=Int.mul_nonneg m0 (by omega);obtain⟨x,hx,hx0⟩:∃x,two*1103515245%2147483647=x/\0<=x:=⟨_,rfl,(j2 _ (by decide)).1⟩;obtain⟨f,hf⟩:∃f,m*(e-b)=f:=⟨_,rfl⟩;rw[hf]at full0;obtain⟨n,hn,en⟩:=jfl (ns:=[f*(x%17)/16,x%(f+1),if x%9<f then x%9 else f,f]) (i:=x/17%4) (j2 (x/17) (show(0:Int)<4 by decide)).1 (j2 (x/17) (show(0:Int)<4 by decide)).2;have n01:0<=n/\n<=f:=by
  have a1:=jh1 full0 (x:=x%17) (j2 x (by decide)).1 (Int.le_of_lt_add_one (j2 x (show(0:Int)<17 by decide)).2);have a2:0<=x%(f+1):=Int.emod_nonneg _ (by omega);have a3:x%(f+1)<f+1:=Int.emod_lt_of_pos _ (by omega);simp only[Yj,Yu,Y5]at hn;rcases hn with rfl | rfl | rfl | rfl
  . exact a1
  . omega
  . split <;> omega
  . omega
 clear hn;refine⟨⟨b,e,n,m⟩,⟨⟨h1,by show e-b<=_;omega,by show _<=b;omega,by show b<=_;omega,m0,m1,n01.1,by show n<=m*(e-b);rw[hf];exact n01.2⟩,h2,h3,h4⟩,?_⟩;unfold zc;refine qt (ρ:=[.sh (.int one),.sh (.int two),.sh (.int kind),.un,.un,.un,.un,.un,.un]) rfl rfl fun C fin=>?_;unfold JG;rw[hk];refine jS [.sh (.int one),.sh (.int two),.sh (.int kind),.sh (.int b),.sh (.int e),.sh (.int m),.un,.un,.un] (jT (jh (j7 (ZX (jq rfl (jq rfl (jq rfl (jq rfl (jq (jh rfl rfl ja7) (jq (jh rfl (jh (jh rfl rfl (qm (by decide) (by decide))) rfl (jC (by decide))) jP) (jq rfl (jq rfl rfl)))))))) (show 8<16777216 by decide))) (jh rfl rfl (jC (by decide))) em)) ?_;refine jS [.sh (.int one),.sh (.int two),.sh (.int kind),.sh (.int b),.sh (.int e),.sh (.int m),.sh (.int x),.un,.un] (hx ▸ jT (jh (jh rfl rfl (Qj (by decide) (by decide))) rfl (jC (by decide)))) ?_;refine jS [.sh (.int one),.sh (.int two),.sh (.int kind),.sh (.int b),.sh (.int e),.sh (.int m),.sh (.int x),.sh (.int f),.un] (hf ▸ jT (jh rfl (jh rfl rfl JS) (J8 (by omega) (by omega)))) ?_;refine jS [.sh (.int one),.sh (.int two),.sh (.int kind),.sh (.int b),.sh (.int e),.sh (.int m),.sh (.int x),.sh (.int f),.sh (.int n)] (jT (jh (j7 (ZX (jq (jh (jh rfl (jh rfl rfl (jC (by decide))) (Qj (Int.lt_of_lt_of_le (by decide) (j2 x (show(0:Int)<17 by decide)).1) (Int.lt_trans (j2 x (show(0:Int)<17 by decide)).2 (by decide)))) rfl (qm (by decide) (by decide))) (jq (jh rfl (jh rfl rfl jP) (jC (by omega))) (jq (jr (jq rfl (jq (jh rfl rfl (jC (by decide))) rfl)) rfl) (jq rfl rfl)))) (show 4<16777216 by decide))) (jh (jh rfl rfl (qm (by decide) (by decide))) rfl (jC (by decide))) en)) ?_;exact zW (zZ (jhu (l:=[.int b,.int e,.int n,.int m]) (jq rfl (jq rfl (jq rfl (jq rfl rfl)))) (show 4<16777216 by decide))) fin
theorem jdf{m:D->ed->Option ed}{B:FS}(P:List D->ed->Prop)(hs:∀d ds ρ,P (d::ds) ρ->∃ρ1 ρ2,m d ρ=some ρ1/\B ρ1=.next ρ2/\P ds ρ2):∀(ds:List D) (ρ:ed),P ds ρ->∃ρ',zV m B ds ρ=.next ρ'/\P [] ρ'
 | [],ρ,h=>⟨ρ,rfl,h⟩
 | d::ds,ρ,h=>by obtain⟨ρ1,ρ2,h1,h2,h3⟩:=hs d ds ρ h;obtain⟨ρ',h4,h5⟩:=jdf P hs ds ρ2 h3;exact⟨ρ',by simp only[zV,h1,h2];exact h4,h5⟩
theorem jch{C:Res->Prop}{fi:ed->Option (List D)}{m:D->ed->Option ed}{B F':FS}{ρ:ed}(ds:List D)(P:List D->ed->Prop)(hi:fi ρ=some ds)(h0:P ds ρ)
 (hs:∀d ds ρ,P (d::ds) ρ->∃ρ1 ρ2,m d ρ=some ρ1/\B ρ1=.next ρ2/\P ds ρ2) (k:∀ρ',P [] ρ'->C (F' ρ')):C (jI (Q4 fi m B) F' ρ):=by
 obtain⟨ρ',h1,h2⟩:=jdf P hs ds ρ h0;exact jS ρ' (by unfold Q4;rw[hi];exact h1) (k ρ' h2)
theorem Jb(lo:Int)(n:Nat):rng lo (n+1)=.int lo::rng (lo+1) n:=by unfold rng;rw[List.range_succ_eq_map,YM,Y9];simp only[Int.natCast_zero,Int.add_zero,List.cons.injEq,true_and];refine List.map_congr_left fun i _=>?_;simp only[Function.comp,Nat.succ_eq_add_one,Int.natCast_add,Int.natCast_one,D.int.injEq];omega
theorem JW{fa:ed->Option (List D)}{ρ:ed}{j:Int}(h:fa ρ=some [.int j])(h0:0<=j)(h1:j<4611686018427387904):Q6 fa ρ=some (rng 0 j.toNat):=by unfold Q6;rw[h];simp only;rw[Yq ⟨by omega,by omega⟩]
theorem jff{Pr:Ship->Prop}(hP:∀one two kind:Int,∃s:Ship,Pr s/\zc [.int one,.int two,.int kind]=some (jt s))(ns:List Int)(st:Int)(h0:0<=st):∃fl:List Ship,(∀s∈fl,Pr s)/\fl.length<=4/\Jk [.scr ns,.int st]=some (fl.map jt):=by
 suffices main:∀C:Res->Prop,(∀fl:List Ship,(∀s∈fl,Pr s)->fl.length<=4->C (.retO (fl.map jt)))->C (zA [.sh (.scr ns),.sh (.int st),.un,.un,.un,.un]) by exact main (fun r=>∃fl:List Ship,(∀s∈fl,Pr s)/\fl.length<=4/\jgo r=some (fl.map jt)) fun fl h1 h2=>⟨fl,h1,h2,rfl⟩
 intro C fin;unfold zA;have ec:=jbb ns st h0;generalize cell ns st=c at ec;refine jS [.sh (.scr ns),.sh (.int st),.sh (.int c),.un,.un,.un] (jT (jr rfl ec)) ?_;refine jS [.sh (.scr ns),.sh (.int st),.sh (.int c),.ow [],.un,.un] rfl ?_;obtain⟨n,hn,en⟩:=jfl (ns:=[3,4,2,4,1,3,0,4]) (i:=c%8) (by omega) (by show c%8<8;omega);have n01:0<=n/\n<=4:=by simp only[Yj,Yu,Y5]at hn;omega
 clear hn;refine jch (rng 0 n.toNat) (fun ds ρ=>∃(fl:List Ship) (k:Nat) (lo:Int) (x y:Slot),ds=rng lo k/\0<=lo/\fl.length+k<=4/\(∀s∈fl,Pr s)/\ρ=[.sh (.scr ns),.sh (.int st),.sh (.int c),.ow (fl.map jt),x,y])
  (JW (jq (jh (j7 (ZX (l:=[3,4,2,4,1,3,0,4].map D.int) rfl (show 8<16777216 by decide))) (jh rfl rfl (jC (by decide))) en) rfl) n01.1 (by omega)) ⟨[],n.toNat,0,.un,.un,rfl,by omega,by simp;omega,by simp,rfl⟩ ?_ ?_
 . rintro d ds ρ ⟨fl,k,lo,x,y,hd,hlo,hl,hok,rfl⟩;cases k with
   | zero=>cases hd
   | succ k=>
     rw[Jb]at hd;cases hd;obtain⟨s,hs,es⟩:=hP (cell ns (st+1+2*lo)) (cell ns (st+2+2*lo)) (c/8%3);refine⟨_,[.sh (.scr ns),.sh (.int st),.sh (.int c),.ow ((fl++[s]).map jt),.sh (.int lo),.sh (.int (cell ns (st+1+2*lo)))],rfl,?_,⟨fl++[s],k,lo+1,_,_,rfl,by omega,by simp;omega,fun s' h'=>?_,rfl⟩⟩
     . rw[Kd];exact(qX (jT (jr (jq rfl (jq (jh (jh rfl rfl jP) (jh rfl rfl (J8 (by decide) (by decide))) jP) rfl)) (jbb ns (st+1+2*lo) (by omega))))).trans (jjC (ds:=fl.map jt) rfl (jr (jq rfl (jq (jr (jq rfl (jq (jh (jh rfl rfl jP) (jh rfl rfl (J8 (by decide) (by decide))) jP) rfl)) (jbb ns (st+2+2*lo) (by omega))) (jq (jh (jh rfl rfl (qm (by decide) (by decide))) rfl (jC (by decide))) rfl))) es) (by rw[Ye];omega))
     . rcases yn.mp h' with h' | h'
       . exact hok s' h'
       . rw[yv.mp h'];exact hs
 . rintro ρ ⟨fl,k,lo,x,y,hd,hlo,hl,hok,rfl⟩;have hk:k=0:=by
    cases k with
    | zero=>rfl
    | succ k=>rw[Jb]at hd;cases hd
   subst hk;have el:Jh [.lst (fl.map jt)]=some (.int (fl.length:Int)):=by show some (D.int ((fl.map jt).length:Int))=_;rw[Ye]
   have hif:∀(ρ:ed) (F:FS),ρ=[.sh (.scr ns),.sh (.int st),.sh (.int c),.ow (fl.map jt),x,y]->J0 (jcp (qF (jo dGt (jj Jh (jd (ja 3) jl)) (eC (.int 1)))) (qF (jo dEq (jo ql (jo Ji (ja 2) (eC (.int 24))) (eC (.int 4))) (eC (.int 1))))) F j6 ρ=if (decide (1<(fl.length:Int)) && decide (c/24%4=1))=true then F ρ else j6 ρ:=fun ρ F hρ=>by subst hρ;exact jjv (jfo (jF (jh (jr rfl el) rfl dGt_ok)) (jF (jh (jh (jh rfl rfl (qm (by decide) (by decide))) rfl (jC (by decide))) rfl jiw)))
   by_cases hb:1<(fl.length:Int)/\c/24%4=1
   . cases fl with
     | nil=>simp at hb
     | cons s fl=>
       rw[Yr]at hb;refine jS [.sh (.scr ns),.sh (.int st),.sh (.int c),.ow (((s::fl).set fl.length s).map jt),x,y] ?_ ?_
       . have e0:zG (.lst (jt s::fl.map jt)) (.int 0)=some (jt s):=jfb (by decide) rfl;have e1:ixN (fl.length+1) (-1)=some fl.length:=by unfold ixN;rw[YG (by decide),Yq (by omega)];congr 1;omega
         rw[hif _ _ rfl,Yq (by rw[Yw (by rw[Yr];exact hb.1),Yw hb.2];rfl)];simp(disch:=omega) only[jo,ja,YM,yP,yO,YX,Yr,eC,jfN,jcq,Int.reduceNeg,List.set_cons_succ,List.set_cons_zero];simp only[Yr,Ye,e0,e1,List.map_set,YM]
       . refine fin ((s::fl).set fl.length s) (fun s' h'=>?_) (by simpa using hl);rcases List.mem_or_eq_of_mem_set h' with h' | h'
         . exact hok s' h'
         . rw[h'];exact hok s Yd
   . refine jS [.sh (.scr ns),.sh (.int st),.sh (.int c),.ow (fl.map jt),x,y] ?_ (fin fl hok (by omega));rw[hif _ _ rfl,YG (fun q=>hb ⟨yy (YL.mp q).1,yy (YL.mp q).2⟩)];rfl
theorem jfE{m:D->ed->Option ed}{ft:ed->Option Bool}{fe:ed->Option D}{ρ:ed}(g:D->D):∀(ds:List D),(∀d∈ds,∃ρ1,m d ρ=some ρ1/\ft ρ1=some true/\fe ρ1=some (g d))->ZS m ft fe ρ ds=some (ds.map g)
 | [],_=>rfl
 | d::ds,h=>by obtain⟨ρ1,h1,h2,h3⟩:=h d Yd;simp only[ZS,h1,h2,h3,YX,yU,jfE g ds fun x hx=>h x (Yg _ hx),yw,YM]
theorem zg{fi:ed->Option (List D)}{m:D->ed->Option ed}{ft:ed->Option Bool}{fe:ed->Option D}{n:Nat}{ix:List Nat}{ρ:ed}{ds es:List D}(h1:fi ρ=some ds)(h2:ds.length<16777216)(h3:ZS m ft fe (Jl n ix ρ) ds=some es):JO fi m ft fe n ix ρ=some es:=by unfold JO;rw[h1,YX,Yq (Jw h2),h3]
theorem Qn(bs:List Bool):jbr [.lst (bs.map D.bl)]=some (.bl (bs.all id)):=by show((jdO (bs.map D.bl)).map fun ns=>D.bl (ns.all id))=_;rw[jbP];rfl
theorem Qr{fe:ed->Option D}{ρ:ed}{l:List D}(h:fe ρ=some (.tup l)):zb fe ρ=some l:=by unfold zb;rw[h]
theorem jbU{fe:ed->Option D}{ρ:ed}{l:List D}(h:fe ρ=some (.lst l)):qv fe ρ=some l:=by unfold qv;rw[h]
def plain:Nat->D->Prop
 | n+1,.lst l=>∀d∈l,plain n d
 | n+1,.tup l=>∀d∈l,plain n d
 | _,.lst _=>False
 | _,.tup _=>False
 | _,.scr _=>False
 | _,.dic _ _=>False
 | _,.kst _=>False
 | _,.obj _=>False
 | _,_=>True
theorem QL{f:D->D->Option Bool}:∀(l:List D),(∀d∈l,f d d=some true)->Qh f l l=some true
 | [],_=>rfl
 | d::l,h=>by simp only[Qh,h d Yd,YX,QL l fun x hx=>h x (Yg _ hx),yw,Bool.and_self]
theorem Jy{d:D}(f:j9 d=true):eqB d d=some true:=by unfold eqB;rw[Yq f,Yq f];cases d <;> first | exact absurd (show false=true from f) Ya | rfl | simp[Z3,eqV]
theorem Z0:∀(n:Nat) (d:D),plain n d->QF n d d=some true
 | 0,d,h=>by cases d <;> first | exact h.elim | exact Jy rfl
 | n+1,d,h=>by
   cases d with
   | lst l=>show(if l.length=l.length then Qh (QF n) l l else some false)=_;rw[Yq rfl];exact QL l fun d hd=>Z0 n d (h d hd)
   | tup l=>show(Qh (QF n) l l).map (· && l.length == l.length)=_;rw[QL l fun d hd=>Z0 n d (h d hd)];simp
   | scr l=>exact h.elim
   | dic l m=>exact h.elim
   | kst l=>exact h.elim
   | obj l=>exact h.elim
   | int i=>exact Jy rfl
   | bl i=>exact Jy rfl
   | non=>exact Jy rfl
   | str i=>exact Jy rfl
theorem ZG:∀(n:Nat) (d:D),plain n d->plain (n+1) d
 | 0,d,h=>by cases d <;> first | exact h.elim | trivial
 | n+1,d,h=>by
   cases d with
   | lst l=>exact fun x hx=>ZG n x (h x hx)
   | tup l=>exact fun x hx=>ZG n x (h x hx)
   | scr l=>exact h.elim
   | dic l m=>exact h.elim
   | kst l=>exact h.elim
   | obj l=>exact h.elim
   | _=>trivial
theorem jb2{n:Nat}(k:Nat){d:D}(h:plain n d):plain (n+k) d:=by
 induction k with
 | zero=>exact h
 | succ k ih=>exact ZG _ _ ih
theorem Zq{l:List D}(h:plain 40 (.lst l)):dNe (.lst l) (.lst l)=some (.bl false):=by show(QF 40 (.lst l) (.lst l)).map (fun b=>D.bl (!b))=_;rw[Z0 40 _ h];rfl
theorem jdm{α:Type}{f:α->D}{l:List α}{k:Int}{a:α}(h0:0<=k)(h:l[k.toNat]?=some a):zG (.lst (l.map f)) (.int k)=some (f a):=jfb h0 (by rw[Yt,h];rfl)
theorem JH{α:Type}{m:D->ed->Option ed}{ft:ed->Option Bool}{fe:ed->Option D}{ρ:ed}(src g:α->D):∀(l:List α),(∀a∈l,∃ρ1,m (src a) ρ=some ρ1/\ft ρ1=some true/\fe ρ1=some (g a))->ZS m ft fe ρ (l.map src)=some (l.map g)
 | [],_=>rfl
 | d::ds,h=>by obtain⟨ρ1,h1,h2,h3⟩:=h d Yd;simp only[YM,ZS,h1,h2,h3,YX,yU,JH src g ds fun x hx=>h x (Yg _ hx),yw]
theorem ji2{ρ:ed}{x y:Int}{fb fc:ed->Option D}(h1:fb ρ=some (.int x))(h2:fc ρ=some (.int y))(h3:0<=x)(h4:x<=y):qT dLe dLe (eC (.int 0)) fb fc ρ=some (.bl true):=by unfold qT eC;simp only[h1,h2,YX,jcu,Yw h3,Yw h4]
theorem jb8{s:Ship}(hs:s.Ok):JM [jt s]=some (.bl true):=by
 have h1:=hs.lt;have h2:=hs.n0;have h3:=hs.m0;have h4:=hs.n1;have h5:=hs.m1;unfold JM;refine qt (ρ:=[.sh (jt s),.un]) rfl rfl fun C fin=>?_;unfold QG;refine jS [.sh (jt s),.un] (ze (QT (zN (b:=true) (jF rfl)) (jF (jh (jr rfl rfl) rfl (jhG rfl))))) ?_;have lc:JO (zb (jz 0)) (jw 0) (fun _=>some true) (jj Ql (jd (jz 0) jl)) 1 [] [.sh (jt s),.un]=some ([true,true,true,true].map D.bl):=by refine zg (Qr rfl) (by show 4<16777216;decide) ?_;exact JH D.int (fun _=>D.bl true) [s.b,s.e,s.n,s.m] fun i _=>⟨[.sh (.int i)],rfl,rfl,rfl⟩
 refine jS [.sh (jt s),.un] (ze (zN (b:=true) (jF (jr (jq (j7 lc) rfl) (Qn _))))) ?_;refine jS [.sh (jt s),.sh (.int (s.e-s.b))] (jT (jh (jh rfl rfl jcE) (jh rfl rfl je7) rfl)) ?_;refine zW (zZ (ZF ((jh rfl rfl dGt_ok).trans (by rw[Yw (by omega)])) (ZF ((jh (jh rfl rfl jfV) rfl jh2).trans (by rw[Yw (by omega)])) (d:=.bl true) ?_))) fin;exact ji2 (jh rfl rfl jhO) (jh (jh rfl rfl jfV) rfl (J8 (by omega) (by omega))) (by omega) (by omega)
theorem jB(x:Str):x.cps.toList.length=x.length:=yg
theorem je1{x y:Str}{c:Nat}{ys:List Nat}(hy:y.cps.toList=c::ys){k:Nat}(h:StrLaws.At x y x.length k):x.cps.toList[k]?=some c:=by have h2:=h.2;rw[StrLaws.subAt_eq,hy]at h2;have e:=eq_of_beq h2;have:=congrArg (fun l:List Nat=>l[0]?) e;simp only[yO]at this;rw[List.getElem?_take_of_lt (by rw[<-jB,hy];simp),List.getElem?_drop]at this;simpa using this
theorem jhl{x y:Str}{k c:Nat}{ys r:List Nat}(hy:y.cps.toList=c::ys)(h:x.cps.toList.drop k=y.cps.toList++r):StrLaws.At x y x.length k:=by
 have hl:=jB y;have hx:=jB x;have h1:=congrArg List.length h;rw[y8,YB,hl,hx]at h1;have hp:0<y.length:=by rw[<-hl,hy];simp
 refine⟨by omega,?_⟩;rw[StrLaws.subAt_eq,h];exact beq_iff_eq.mpr (by rw[List.take_append_of_le_length (by omega),yT (by omega)])
theorem ZH{y p:Str}{q:Str}{r:List Str}:(Str.join y (p::q::r)).cps.toList=p.cps.toList++(y.cps.toList++(Str.join y (q::r)).cps.toList):=by show(p++y++Str.join y (q::r)).cps.toList=_;simp only[Str.cps_append,Array.toList_append,yA]
theorem jci{x p:Str}{a:Nat}{r:List Nat}(h:x.cps.toList.drop a=p.cps.toList++r):Builtin.Str.strSub x a (a+p.length)=p:=by apply Str.ext';apply Array.toList_inj.mp;rw[StrLaws.strSub_toList,h,show a+p.length-a=p.length from by omega,List.take_append_of_le_length (by rw[jB];omega),yT (by rw[jB];omega)]
theorem Zj{x y:Str}{c:Nat}{ys:List Nat}(hy:y.cps.toList=c::ys){f:Nat}(hf:∀k,f<=k->¬StrLaws.At x y x.length k):∀(parts:List Str) (cuts:List Nat) (a:Nat),parts≠[]->(∀p∈parts,c∉p.cps.toList)->StrLaws.ChainG x y x.length a cuts f->x.cps.toList.drop a=(Str.join y parts).cps.toList->a<=x.length->StrLaws.partsFrom x y.length a cuts=parts
 | [],_,_,h,_,_,_,_=>absurd rfl h
 | [p],cuts,a,_,hc,g,e,ha=>by
   have e':x.cps.toList.drop a=p.cps.toList:=e;have hl:x.length=a+p.length:=by have:=congrArg List.length e';rw[y8,jB,jB]at this;omega
   cases cuts with
   | nil=>show[Builtin.Str.strSub x a x.length]=[p];rw[hl,jci (r:=[]) (by rw[e',yo])]
   | cons b r=>
     exfalso;have hb:=je1 hy g.2.1;have:p.cps.toList[b-a]?=some c:=by rw[<-e',List.getElem?_drop,show a+(b-a)=b from by have:=g.1;omega];exact hb
     exact hc p (yv.mpr rfl) (Y1 this)
 | p::q::r,cuts,a,_,hc,g,e,ha=>by
   rw[ZH]at e;have tI:a+p.length+y.length<=x.length:=by
     have:=congrArg List.length e;rw[y8,YB,YB,jB,jB,jB]at this;have hp:0<y.length:=by rw[<-jB,hy];simp
     omega
   have e1:x.cps.toList.drop (a+p.length)=y.cps.toList++(Str.join y (q::r)).cps.toList:=by rw[<-List.drop_drop,e,List.drop_append_of_le_length (by rw[jB];omega),yt (by rw[jB];omega),List.nil_append]
   have e2:x.cps.toList.drop (a+p.length+y.length)=(Str.join y (q::r)).cps.toList:=by rw[<-List.drop_drop,e1,List.drop_append_of_le_length (by rw[jB];omega),yt (by rw[jB];omega),List.nil_append]
   have hat:=jhl hy e1;have hno:∀k,a<=k->k<a+p.length->¬StrLaws.At x y x.length k:=fun k h1 h2 hA=>by
     have hb:=je1 hy hA;have:p.cps.toList[k-a]?=some c:=by
       have w:(x.cps.toList.drop a)[k-a]?=some c:=by rw[List.getElem?_drop,show a+(k-a)=k from by omega];exact hb
       rw[e,YE (by rw[jB];omega)]at w;exact w
     exact hc p (Yd ..) (Y1 this)
   cases cuts with
   | nil=>exfalso;have:f=a:=g;exact hf _ (by omega) hat
   | cons b s=>
     have hb:b=a+p.length:=by
       rcases Nat.lt_trichotomy b (a+p.length)with z | z | z
       . exact absurd g.2.1 (hno b g.1 z)
       . exact z
       . exact absurd hat (g.2.2.1 _ (by omega) z)
     subst hb;show Builtin.Str.strSub x a (a+p.length)::StrLaws.partsFrom x y.length (a+p.length+y.length) s=_;rw[jci e,Zj hy hf (q::r) s _ (by simp) (fun p hp=>hc p (Yg _ hp)) g.2.2.2 e2 tI]
theorem ZV{y:Str}{c:Nat}{ys:List Nat}(hy:y.cps.toList=c::ys)(hk:Builtin.Str.strKind y=1){parts:List Str}(hn:parts≠[])(hc:∀p∈parts,c∉p.cps.toList):Txt.split (Txt.join y parts) y=parts:=by
 show Txt.split (Builtin.Str.glued y parts) y=parts;rw[StrLaws.glued_eq_join];obtain⟨f,h1,h2⟩:=StrLaws.occ_tight (Str.join y parts) y (by rw[<-jB,hy];simp);have key:=Zj hy h2 parts _ 0 hn hc h1 rfl (yx _);unfold Txt.split;split
 . rename_i z;rw[Bool.or_eq_true,yV,yV]at z;have hz:(Str.join y parts).length<y.length:=by
    rcases z with z | z
    . exact z
    . exfalso;rw[hk]at z;unfold Builtin.Str.strKind at z;split at z
      . omega
      . split at z <;> omega
   match parts,hn with
   | [p],_=>rfl
   | p::q::r,_=>exfalso;rw[<-jB,ZH,YB,YB,jB,jB]at hz;omega
 . split
   . rename_i z;rw[List.isEmpty_iff]at z;rw[z]at key;have k2:[Builtin.Str.strSub (Str.join y parts) 0 (Str.join y parts).length]=parts:=key;rw[StrLaws.sub_whole]at k2;exact k2
   . rw[StrLaws.partsBetween_eq];exact key
def dg(m:Nat):List Nat:=(Nat.toDigits 10 m).map Char.toNat
theorem dgc:∀d:Nat,d<10->(Nat.digitChar d).toNat=48+d:=by decide
theorem jb6{m:Nat}(h:m<10):dg m=[48+m]:=by unfold dg;rw[Nat.toDigits_of_lt_base h,List.map_singleton,dgc m h]
theorem jdy{m:Nat}(h:10<=m):dg m=dg (m/10)++[48+m%10]:=by unfold dg;rw[Nat.toDigits_of_base_le (by decide) h,Kd,List.map_singleton,dgc (m%10) (Nat.mod_lt _ (by decide))]
theorem Qa(m:Nat):∀c∈dg m,48<=c/\c<=57:=by
 induction m using Nat.strongRecOn with
 | _ m ih=>
   intro c hc;by_cases h:m<10
   . rw[jb6 h,yv]at hc;omega
   . rw[jdy (by omega),yn,yv]at hc;rcases hc with hc | hc
     . exact ih (m/10) (by omega) c hc
     . omega
theorem Qd:∀(k m:Nat),m<10 ^ (k+1)->(dg m).length<=k+1
 | 0,m,h=>by rw[jb6 (by omega)];exact Ym 1
 | k+1,m,h=>by
   by_cases h':m<10
   . rw[jb6 h'];exact y7 (yx _)
   . rw[jdy (by omega),YB];exact y7 (Qd k (m/10) (by rw[Nat.pow_succ]at h;omega))
theorem jdG{m:Nat}(h:m≠0):∃c l,dg m=c::l/\c≠48:=by
 induction m using Nat.strongRecOn with
 | _ m ih=>
   by_cases h':m<10
   . exact⟨48+m,[],jb6 h',by omega⟩
   . obtain⟨c,l,e,hc⟩:=ih (m/10) (by omega) (by omega);exact⟨c,l++[48+m%10],by rw[jdy (by omega),e];rfl,hc⟩
theorem jf0(m:Nat):dg m≠[]:=by
 by_cases h:m<10
 . rw[jb6 h];simp
 . rw[jdy (by omega)];simp
def num(n:Int):Str:=Str.ofString (toString n)
theorem Je(m:Nat):(num (m:Int)).cps.toList=dg m:=PySem.W.KIN.signs_num m
theorem Qw(m:Nat):(num (Int.negSucc m)).cps.toList=45::dg (m+1):=by unfold num;rw[signs_ofString];show(("-"++Nat.repr (m+1)):String).toList.map Char.toNat=_;rw[String.toList_append,Kd,Nat.toList_repr];rfl
theorem jeL(x:Str)(c:Nat):Txt.startswith x ⟨#[c]⟩=decide (x.cps.toList[0]?=some c):=by have:=StrLaws.subAt_one x c 0;unfold Txt.startswith;rw[yR,YQ,yV,yV];exact this
theorem jgc{x:Str}{a:Nat}{l:List Nat}(h:x.cps.toList=a::l):Txt.slice x (some 1) none=⟨l.toArray⟩:=by have:=StrLaws.sliceText_from (x:=x) (i:=1) ⟨by decide,by rw[h,Yr];omega⟩;refine(show Txt.slice x (some 1) none=StrLaws.sliceText x (some 1) none from rfl).trans (this.trans ?_);rw[h];congr 1;congr 1;show(List.drop 1 (a::l)).take _=l;rw[List.drop_one,List.tail_cons];exact yT (by rw[Yr];omega)
theorem jdz(n:Int)(h:n.natAbs<10 ^ 31):PySem.intText? (num n)=some n:=by
 cases n with
 | ofNat m=>
   have hd:NumText.AllDigits (num (m:Int)).cps.toList:=by rw[Je];exact Qa m
   have e:=intText_digits hd (by rw[Je];exact jf0 m) (by rw[<-jB,Je];exact Yx (Qd 30 m h) (by decide));rw[Je]at e;exact e.trans (by rw[show NumText.digitsVal (dg m)=m from PySem.W.KIN.val_back m];rfl)
 | negSucc m=>have e:=intText_neg (Qw m) (Qa (m+1)) (jf0 (m+1)) (by rw[<-jB,Qw,Yr];exact y7 (Yx (Qd 30 (m+1) h) (by decide)));rw[show NumText.digitsVal (dg (m+1))=m+1 from PySem.W.KIN.val_back (m+1)]at e;exact e
theorem qQ(n:Int)(h:n.natAbs<10 ^ 31):(num n).length<=32:=by
 rw[<-jB];cases n with
 | ofNat m=>rw[show(num (Int.ofNat m)).cps.toList=dg m from Je m];exact Yx (Qd 30 m h) (by decide)
 | negSucc m=>rw[Qw,Yr];exact y7 (Qd 30 (m+1) h)
theorem JQ(n:Int):∀c∈(num n).cps.toList,c=45\/(48<=c/\c<=57):=by
 cases n with
 | ofNat m=>rw[show(num (Int.ofNat m)).cps.toList=dg m from Je m];exact fun c hc=>.inr (Qa m c hc)
 | negSucc m=>
   rw[Qw];intro c hc;rcases Yj.mp hc with h | h
   . exact .inl h
   . exact .inr (Qa _ c h)
theorem qI{n:Nat}(h:n<=16777216):n<=sizeLine:=by rw[PySem.sizeLine_eq];exact h
section
variable{ρ:ed}{fe fa fb fc:ed->Option D}{w A:Str}{b c:Bool}
theorem jfO(hw:fe ρ=some (.str w))(hl:w.length<16777216)(h:∀c∈w.cps.toList,c∈A.cps.toList):JO (L2.jaE fe) (jw 0) (fun _=>some true) (jo (jfd false) (ja 0) (eC (.str A))) 1 [] ρ=some ((w.cps.toList.map fun _=>true).map D.bl):=by
 refine zg (ds:=w.cps.toList.map fun c=>D.str ⟨#[c]⟩) ?_ (by rw[Ye,jB];exact hl) ?_
 . unfold L2.jaE;rw[hw];rfl
 . rw[Y9];refine JH (fun c=>D.str ⟨#[c]⟩) (fun _=>D.bl true) _ fun c hc=>⟨[.sh (.str ⟨#[c]⟩)],rfl,rfl,?_⟩;show some (D.bl (!(Builtin.Str.occurrences A ⟨#[c]⟩ 0 A.length 1).isEmpty))=_;rw[StrLaws.found_one,Yw (h c hc)]
theorem jjK(l:List Nat):(l.map fun _=>true).all id=true:=by
 induction l with
 | nil=>rfl
 | cons x l ih=>rw[YM,yq,ih];rfl
theorem jfZ{i j:Int}(hw:fe ρ=some (.str w))(h1:i<=w.length)(h2:(w.length:Int)<=j)(h3:w.length<=16777216):qT dLe dLe (eC (.int i)) (jj Jh (jd fe jl)) (eC (.int j)) ρ=some (.bl true):=by have e:jj Jh (jd fe jl) ρ=some (.int w.length):=jr (jq hw rfl) (by show(if w.length<=sizeLine then _ else _)=_;rw[Yq (qI h3)]);unfold qT;rw[e];simp only[eC,YX,jcu,Yw h1,Yw h2]
theorem jj0(h:fa ρ=some (.bl b))(h2:fb ρ=some (.bl c)):eOr fa fb ρ=some (.bl (b || c)):=by unfold eOr;rw[jF h];cases b <;> simp[h2]
theorem jhQ(h:fa ρ=some (.bl b)):jb4 fa ρ=some (.bl (!b)):=by unfold jb4;rw[jF h];rfl
theorem jaI{d:Nat}(h:fa ρ=some (.str w)):eBM JT fa (jd (eC (.str ⟨#[d]⟩)) jl) ρ=some (.bl (decide (w.cps.toList[0]?=some d))):=by unfold eBM;rw[h];show some (D.bl (Txt.startswith w ⟨#[d]⟩))=_;rw[jeL]
theorem eqS{x y:Str}:dEq (.str x) (.str y)=some (.bl (decide (x=y))):=by show some (D.bl (decide (V.str x=V.str y)))=_;congr 2;exact decide_eq_decide.mpr ⟨fun h=>V.str.inj h,fun h=>h ▸ rfl⟩
end
theorem jgA:("0123456789":Str).cps.toList=[48,49,50,51,52,53,54,55,56,57]:=by decide +kernel
theorem jdi:("abcdefghijklmnopqrstuvwxyz":Str).cps.toList=[97,98,99,100,101,102,103,104,105,106,107,108,109,110,111,112,113,114,115,116,117,118,119,120,121,122]:=by decide +kernel
theorem jgY{c:Nat}(h:48 ≤ c ∧ c ≤ 57):c∈("0123456789":Str).cps.toList:=by rw[jgA];simp only[Yj,Yu,Y5];omega
theorem jgk{c:Nat}(h:97 ≤ c ∧ c ≤ 122):c∈("abcdefghijklmnopqrstuvwxyz":Str).cps.toList:=by rw[jdi];simp only[Yj,Yu,Y5];omega
structure NameW(w:Str):Prop where
 lo:1<=w.length
 hi:w.length<=8
 az:∀c∈w.cps.toList,97<=c/\c<=122
theorem jek{w:Str}(h:NameW w):JY [.str w]=some (.bl true):=by unfold JY;refine qt (ρ:=[.sh (.str w)]) rfl rfl fun C fin=>?_;have h1:=h.lo;have h2:=h.hi;unfold QN;exact zW (zZ (ZF (jfZ rfl (by omega) (by omega) (by omega)) (jr (jq (j7 (jfO rfl (by omega) fun c hc=>jgk (h.az c hc))) rfl) ((Qn _).trans (by rw[jjK]))))) fin
theorem jeF(n:Int)(h:n.natAbs<10 ^ 31):zO [.str (num n)]=some (.bl true):=by
 have key:∃fg:Str,eIf (qF (eBM JT (ja 0) (jd (eC (.str "-")) jl))) (jgn (ja 0) (pSo (eC (.int 1))) pNo) (jz 0) [.sh (.str (num n)),.un]=some (.str fg) ∧ (∀c∈fg.cps.toList,48 ≤ c ∧ c ≤ 57) ∧ 1 ≤ fg.length ∧ fg.length ≤ 31 ∧ (num n="0" ∨ fg.cps.toList[0]?≠some 48):=by
  have e0:=jaI (ρ:=[.sh (.str (num n)),.un]) (fa:=ja 0) (w:=num n) (d:=45) rfl;have em:("-":Str)=⟨#[45]⟩:=by decide +kernel
  cases n with
  | ofNat m=>
    have ec:(num (Int.ofNat m)).cps.toList=dg m:=Je m;refine⟨num (Int.ofNat m),?_,by rw[ec];exact Qa m,?_,by rw[<-jB,ec];exact Qd 30 m h,?_⟩
    . unfold eIf;rw[em,jF e0,YJ]
      . rfl
      . rw[ec];intro z;have:=Qa m 45 (Y1 z);omega
    . rw[<-jB,ec];have:=jf0 m;cases hd:dg m with
      | nil=>exact absurd hd this
      | cons _ _=>simp
    . by_cases hm:m=0
      . subst hm;exact .inl (by decide +kernel)
      . obtain⟨c,l,e,hc⟩:=jdG hm;rw[ec,e];exact .inr (by simpa using hc)
  | negSucc m=>
    have ec:=Qw m;obtain⟨c,l,e,hc⟩:=jdG (Nat.succ_ne_zero m);refine⟨⟨(dg (m+1)).toArray⟩,?_,?_,?_,?_,.inr ?_⟩
    . unfold eIf;rw[em,jF e0,Yw (by rw[ec];rfl)];show(if (num (Int.negSucc m)).length<=sizeLine then some (D.str (Txt.slice (num (Int.negSucc m)) (some 1) none))else none)=_;rw[Yq (qI (Yx (qQ _ h) (by decide))),jgc ec]
    . exact Qa (m+1)
    . show 1<=(dg (m+1)).toArray.size;rw[Yk,e];simp
    . show(dg (m+1)).toArray.size<=31;rw[Yk];exact Qd 30 (m+1) h
    . show(dg (m+1)).toArray.toList[0]?≠_;rw[List.toList_toArray,e];simpa using hc
 obtain⟨fg,k1,k2,k3,k4,k5⟩:=key;unfold zO;refine qt (ρ:=[.sh (.str (num n)),.un]) rfl rfl fun C fin=>?_;unfold Js;refine jS [.sh (.str (num n)),.sh (.str fg)] (jT k1) ?_;refine jS [.sh (.str (num n)),.sh (.str fg)] (ze (QT (zN (b:=true) (jF (jfZ (w:=fg) rfl (by omega) (by omega) (by omega)))) (zN (b:=true) (jF (jr (jq (j7 (jfO (w:=fg) rfl (by omega) fun c hc=>jgY (k2 c hc))) rfl) ((Qn _).trans (by rw[jjK]))))))) ?_;have ez:("0":Str)=⟨#[48]⟩:=by decide +kernel
 have e2:=jaI (ρ:=[.sh (.str (num n)),.sh (.str fg)]) (fa:=ja 1) (w:=fg) (d:=48) rfl;rw[<-ez]at e2;refine zW ((zZ (jj0 (jh rfl rfl eqS) (jhQ e2))).trans ?_) fin;rcases k5 with k5 | k5
 . rw[Yw k5];rfl
 . rw[YJ (p:=fg.cps.toList[0]?=some 48) k5];show Res.ret (.bl (_ || true))=_;rw[Bool.or_true]
theorem jbt{C:Res->Prop}{fc:ed->Option Bool}{fe:ed->Option D}{F':FS}{ρ:ed}{d:D}(h:fc ρ=some true)(he:fe ρ=some d)(k:C (.ret d)):C (jI (J0 fc (qx fe) j6) F' ρ):=by unfold jI J0;rw[h];show C (match qx fe ρ with | .next ρ'=>F' ρ' | r=>r);rw[zZ he];exact k
theorem jeA{ρ:ed}{fa fb fc:ed->Option D}{x y z:Int}(h1:fa ρ=some (.int x))(h2:fb ρ=some (.int y))(h3:fc ρ=some (.int z))(h4:x<=y)(h5:y<=z):qT dLe dLe fa fb fc ρ=some (.bl true):=by unfold qT;simp only[h1,h2,h3,YX,jcu,Yw h4,Yw h5]
theorem jiY{x y:Str}(h:x≠y):dEq (.str x) (.str y)=some (.bl false):=eqS.trans (by rw[YJ h])
theorem jj6{x:Str}:dEq (.str x) (.str x)=some (.bl true):=eqS.trans (by rw[Yw rfl])
theorem jcS{w:Str}(h:NameW w):qf [.str w,.str "NAME"]=some (.bl true):=by unfold qf;refine qt (ρ:=[.sh (.str w),.sh (.str "NAME"),.un]) rfl rfl fun C fin=>?_;unfold zy;exact jbt (jF (jh rfl rfl jj6)) (jr rfl (jek h)) fin
theorem jla{k:Str}:dIn false (.str k) (.tup [.str "BEGIN",.str "END",.str "H"])=some (.bl (inV (.str k) [.str "BEGIN",.str "END",.str "H"])):=rfl
theorem JP{n:Int}{k:Str}(h:n.natAbs<10 ^ 31)(k1:k ≠ "NAME")(k2:k≠"K")(k3:k="MOST" → 0 ≤ n ∧ n ≤ 1000000000000000)(k4:inV (.str k) [.str "BEGIN",.str "END",.str "H"]=true → -1000000000000000 ≤ n ∧ n ≤ 1000000000000000):qf [.str (num n),.str k]=some (.bl true):=by
 unfold qf;refine qt (ρ:=[.sh (.str (num n)),.sh (.str k),.un]) rfl rfl fun C fin=>?_;unfold zy;refine jS [.sh (.str (num n)),.sh (.str k),.un] (ze (jF (jh rfl rfl (jiY k1)))) ?_;refine jS [.sh (.str (num n)),.sh (.str k),.un] (ze (zN (b:=true) (jF (jr rfl (jeF n h))))) ?_;refine jS [.sh (.str (num n)),.sh (.str k),.sh (.int n)] (jT (jr rfl ?_)) ?_
 . show(if (num n).length<=640 then(PySem.intText? (num n)).map D.int else none)=_;rw[Yq (Yx (qQ n h) (by decide)),jdz n h];rfl
 refine jS [.sh (.str (num n)),.sh (.str k),.sh (.int n)] (ze (jF (jh rfl rfl (jiY k2)))) ?_;by_cases hm:k = "MOST"
 . subst hm;obtain⟨a,b⟩:=k3 rfl;exact jbt (jF (jh rfl rfl jj6)) (jeA rfl rfl (jh rfl rfl ja7) a b) fin
 refine jS [.sh (.str (num n)),.sh (.str k),.sh (.int n)] (ze (jF (jh rfl rfl (jiY hm)))) ?_;have e3:jo (dIn false) (ja 1) (jc0 (jd (eC (.str "BEGIN")) (jd (eC (.str "END")) (jd (eC (.str "H")) jl)))) [.sh (.str (num n)),.sh (.str k),.sh (.int n)]=some (.bl (inV (.str k) [.str "BEGIN",.str "END",.str "H"])):=jh rfl (jhu rfl (show 3<16777216 by decide)) jla;cases hi:inV (.str k) [.str "BEGIN",.str "END",.str "H"]with
 | true=>rw[hi]at e3;obtain⟨a,b⟩:=k4 hi;refine jbt (jF e3) (jeA (x := -1000000000000000) ?_ rfl (jh rfl rfl ja7) a b) fin;unfold jcq;rw[jh (ρ:=[.sh (.str (num n)),.sh (.str k),.sh (.int n)]) (fa:=eC (.int 10)) (fb:=eC (.int 15)) rfl rfl ja7]
 | false=>rw[hi]at e3;exact jS [.sh (.str (num n)),.sh (.str k),.sh (.int n)] (ze (jF e3)) (zW (zZ rfl) fin)
structure Fit(s:Ship):Prop where
 ok:s.Ok
 b0:-1000000000000000<=s.b/\s.b<=1000000000000000
 e0:-1000000000000000<=s.e/\s.e<=1000000000000000
 m0:0<=s.m/\s.m<=1000000000000000
 n0:0<=s.n/\s.n<10 ^ 31
def qy(p:Str×Ship):List Str:=[p.1,num p.2.b,num p.2.e,num p.2.n,num p.2.m]
def jM(p:Str×Ship):D:=.lst ((qy p).map D.str)
structure Told(p:Str×Ship):Prop where
 nm:NameW p.1
 fit:Fit p.2
theorem Told.num{p:Str×Ship}(h:Told p):∀n∈[p.2.b,p.2.e,p.2.n,p.2.m],n.natAbs<10 ^ 31:=by obtain⟨⟨b1,b2⟩,⟨e1,e2⟩,⟨m1,m2⟩,⟨n1,n2⟩⟩:=(⟨h.fit.b0,h.fit.e0,h.fit.m0,h.fit.n0⟩:_/\_/\_/\_);intro n hn;simp only[Yj,Yu,Y5]at hn;rcases hn with rfl | rfl | rfl | rfl <;> omega
theorem jcP{p:Str×Ship}(h:Told p):qO [jM p,.kst ["NAME","BEGIN","END","NEED","MOST"]]=some (.bl true):=by
 have hn:=h.num;unfold qO;refine qt (ρ:=[.sh (jM p),.sh (.kst ["NAME","BEGIN","END","NEED","MOST"])]) rfl rfl fun C fin=>?_;unfold zJ;have lc:JO (ZU (jd (ja 0) (jd (ja 1) jl))) (jck 2 (Jm (jw 0) (Jm (jw 1) jcJ))) (fun _=>some true) (jj qf (jd (jz 0) (jd (jz 1) jl))) 2 [] [.sh (jM p),.sh (.kst ["NAME","BEGIN","END","NEED","MOST"])]=some ([true,true,true,true,true].map D.bl):=by
  refine zg (ds:=[D.tup [.str p.1,.str "NAME"],.tup [.str (num p.2.b),.str "BEGIN"],.tup [.str (num p.2.e),.str "END"],.tup [.str (num p.2.n),.str "NEED"],.tup [.str (num p.2.m),.str "MOST"]]) rfl (show 5<16777216 by decide) ?_;refine jfE (fun _=>D.bl true) _ fun d hd=>?_;simp only[Yj,Yu,Y5]at hd;rcases hd with rfl | rfl | rfl | rfl | rfl
  . exact⟨_,rfl,rfl,jr rfl (jcS h.nm)⟩
  . exact⟨_,rfl,rfl,jr rfl (JP (hn _ (by simp)) (by decide +kernel) (by decide +kernel) (fun z=>absurd z (by decide +kernel)) fun _=>h.fit.b0)⟩
  . exact⟨_,rfl,rfl,jr rfl (JP (hn _ (by simp)) (by decide +kernel) (by decide +kernel) (fun z=>absurd z (by decide +kernel)) fun _=>h.fit.e0)⟩
  . exact⟨_,rfl,rfl,jr rfl (JP (hn _ (by simp)) (by decide +kernel) (by decide +kernel) (fun z=>absurd z (by decide +kernel)) fun z=>absurd z (by decide +kernel))⟩
  . exact⟨_,rfl,rfl,jr rfl (JP (hn _ (by simp)) (by decide +kernel) (by decide +kernel) (fun _=>h.fit.m0) fun z=>absurd z (by decide +kernel))⟩
 exact zW (zZ (ZF (jh (jr rfl (ja9 (l:=(qy p).map D.str))) (jr rfl (show jc9 [.kst ["NAME","BEGIN","END","NEED","MOST"]]=some (.int 5)from rfl)) (jiz rfl)) (jr (jq (j7 lc) rfl) (Qn _)))) fin
theorem jbq{ns:List Int}(h:∀n∈ns,n.natAbs<10 ^ 31)(hl:ns.length<1000):zt [.lst (ns.map fun n=>.str (num n))]=some (ns.map D.int):=by
 unfold zt ja0;rw[Yq (show[D.lst (ns.map fun n=>.str (num n))].length=1 from rfl)];show jgo (zu [.sh (.lst (ns.map fun n=>.str (num n)))])=_;unfold zu ZN;rw[zg (ds:=ns.map fun n=>.str (num n)) (es:=ns.map D.int) rfl (by rw[Ye];omega) (JH (fun n=>D.str (num n)) D.int ns fun n hn=>⟨[.sh (.str (num n))],rfl,rfl,jr rfl ?_⟩)]
 . rfl
 . show(if (num n).length<=640 then(PySem.intText? (num n)).map D.int else none)=_;rw[Yq (Yx (qQ n (h n hn)) (by decide)),jdz n (h n hn)];rfl
theorem QV{p:Str×Ship}(h:Told p):zD [.lst ([p.2.b,p.2.e,p.2.n,p.2.m].map fun n=>.str (num n))]=some (jt p.2):=by unfold zD;refine qt (ρ:=[.sh (.lst ([p.2.b,p.2.e,p.2.n,p.2.m].map fun n=>.str (num n)))]) rfl rfl fun C fin=>?_;unfold QR;exact zW (zZ (jr (jq (j7 (jr rfl (jbq h.num (show 4<1000 by decide)))) rfl) rfl)) fin
theorem jjs(p:Str×Ship){ρ:ed}{fa:ed->Option D}(h:fa ρ=some (jM p)):jW (eSl fa (pSo (eC (.int 1))) pNo) ρ=some (.lst ([p.2.b,p.2.e,p.2.n,p.2.m].map fun n=>.str (num n))):=by refine j7 ?_;unfold eSl;rw[h];rfl
theorem jcL{p:Str×Ship}(h:Told p):qU [jM p]=some (.bl true):=by unfold qU;refine qt (ρ:=[.sh (jM p)]) rfl rfl fun C fin=>?_;unfold Jj;exact zW (zZ (ZF (jr rfl (jcP h)) (jr (jq (jr (jq (jjs p rfl) rfl) (QV h)) rfl) (jb8 h.fit.ok)))) fin
theorem QO:∀ys:List Str,J5 (ys.map D.str)=some ys
 | []=>rfl
 | y::ys=>by show(some y).bind (fun x=>(J5 (ys.map D.str)).map (x::·))=_;rw[QO ys];rfl
theorem jcb{α:Type}:∀l:List α,l.zip l=l.map fun p=>(p,p)
 | []=>rfl
 | a::l=>by rw[List.zip_cons_cons,jcb l,YM]
theorem jen{ys:List Str}(h:ys.Nodup):L2S.dds ys=ys:=by
 have key:∀(ys l:List Str),(l++ys).Nodup->ys.foldl L2S.Jr l=l++ys:=fun ys=>by
  induction ys with
  | nil=>intro l _;simp
  | cons y ys ih=>
    intro l hl;have hy:¬(l.any (· == y))=true:=fun q=>by obtain⟨z,hz,e⟩:=List.any_eq_true.mp q;have e':z=y:=eq_of_beq e;subst e';exact(List.nodup_append.mp hl).2.2 z hz z (Yd ..) rfl
    have e1:L2S.Jr l y=l++[y]:=by unfold L2S.Jr;rw[YG hy]
    rw[List.foldl_cons,e1,ih (l++[y]) (by rw[yA];exact hl),yA];rfl
 exact(key ys [] (by simpa using h)).trans rfl
theorem jcj(L:List (Str×Ship)){ρ:ed}{fi:ed->Option (List D)}(h:fi ρ=some (L.map jM))(hl:L.length<1000):JO fi (jw 0) (fun _=>some true) (jo zG (ja 0) (eC (.int 0))) 1 [] ρ=some (L.map fun p=>D.str p.1):=zg h (by rw[Ye];omega) (JH jM (fun p=>D.str p.1) L fun p _=>⟨[.sh (jM p)],rfl,rfl,jh rfl rfl rfl⟩)
theorem jdY{L:List (Str×Ship)}(h:∀p∈L,Told p)(hn:(L.map (·.1)).Nodup)(hl:L.length<60):qh [.lst (L.map jM)]=some .non:=by
 unfold qh zp;rw[Yq (show[D.lst (L.map jM)].length=1 from rfl)];show jgj (qS [.sh (.lst (L.map jM))])=_;unfold qS;have lc:JO (qv (ja 0)) (jw 0) (fun _=>some true) (jj qU (jd (jz 0) jl)) 1 [] [.sh (.lst (L.map jM))]=some ((L.map fun _=>true).map D.bl):=by rw[Y9];exact zg rfl (by rw[Ye];omega) (JH jM (fun _=>D.bl true) L fun p hp=>⟨[.sh (jM p)],rfl,rfl,jr rfl (jcL (h p hp))⟩)
 have ha:(L.map fun _=>true).all id=true:=by rw[List.all_eq_true];intro x hx;obtain⟨_,_,rfl⟩:=yi.mp hx;rfl
 rw[qX (ρ':=[.sh (.lst (L.map jM))]) (ze (zN (b:=true) (jF (jr (jq (j7 lc) rfl) ((Qn _).trans (by rw[ha]))))))];have hs:QD (jd (jW (JO (qv (ja 0)) (jw 0) (fun _=>some true) (jo zG (ja 0) (eC (.int 0))) 1 [])) jl) [.sh (.lst (L.map jM))]=some (.int (L.length:Int)):=by
  unfold QD;rw[jq (j7 (jcj L (fi:=qv (ja 0)) rfl (by omega))) rfl];show((J5 (L.map fun p=>D.str p.1)).bind fun ys=>if ys.length<64 then some (D.int ((L2S.dds ys).length:Nat))else none)=_;have e:(L.map fun p=>D.str p.1)=(L.map (·.1)).map D.str:=by rw[Y9];rfl
  rw[e,QO];show(if (L.map (·.1)).length<64 then some (D.int ((L2S.dds (L.map (·.1))).length:Nat))else none)=_;rw[Yq (by rw[Ye];omega),jen hn,Ye]
 rw[ze (jF (jh hs (jr rfl (ja9 (l:=L.map jM))) (jhG (by rw[Ye]))))];rfl
def zk(p:Str×Ship):Str:=Txt.join " " (qy p)
def qw(L:List (Str×Ship)):Str:=Txt.join "; " (L.map zk)
theorem JK(y:Str)(l:List Str):Txt.join y l=Str.join y l:=StrLaws.glued_eq_join y l
theorem jby{y:Str}{c:Nat}:∀{l:List Str},c∈(Str.join y l).cps.toList->c∈y.cps.toList\/∃p∈l,c∈p.cps.toList
 | [],h=>by cases h
 | [p],h=>.inr ⟨p,yv.mpr rfl,h⟩
 | p::q::r,h=>by
   rw[ZH,yn,yn]at h;rcases h with h | h | h
   . exact .inr ⟨p,Yd ..,h⟩
   . exact .inl h
   . rcases jby h with h | ⟨z,hz,h⟩
     . exact .inl h
     . exact .inr ⟨z,Yg _ hz,h⟩
theorem Zt{p:Str×Ship}(h:Told p):∀w∈qy p,∀c∈w.cps.toList,(97<=c/\c<=122)\/c=45\/(48<=c/\c<=57):=by
 intro w hw c hc;simp only[qy,Yj,Yu,Y5]at hw;rcases hw with rfl | rfl | rfl | rfl | rfl
 . exact .inl (h.nm.az c hc)
 . exact .inr (JQ _ c hc)
 . exact .inr (JQ _ c hc)
 . exact .inr (JQ _ c hc)
 . exact .inr (JQ _ c hc)
theorem je2:(" ":Str).cps.toList=[32]:=by decide +kernel
theorem jiT:("; ":Str).cps.toList=[59,32]:=by decide +kernel
theorem je0{p:Str×Ship}(h:Told p):59∉(zk p).cps.toList:=fun z=>by
 unfold zk at z;rw[JK]at z;rcases jby z with z | ⟨w,hw,z⟩
 . rw[je2]at z;simp at z
 . have:=Zt h w hw _ z;omega
theorem jaA{p:Str×Ship}(h:Told p):Txt.split (zk p) " "=qy p:=
 ZV je2 (by decide +kernel) (by simp[qy]) fun w hw z=>by have:=Zt h w hw _ z;omega
theorem Zo{L:List (Str×Ship)}(h:∀p∈L,Told p)(hn:L≠[]):Txt.split (qw L) "; "=L.map zk:=
 ZV jiT (by decide +kernel) (by simpa using hn) fun w hw=>by obtain⟨p,hp,rfl⟩:=yi.mp hw;exact je0 (h p hp)
theorem Qk:(" ":Str).length=1:=by decide +kernel
theorem jbm:("; ":Str).length=2:=by decide +kernel
theorem jaN{p:Str×Ship}(h:Told p):((qy p).map (·.length)).sum<=136:=by have hn:=h.num;have h0:=h.nm.hi;have h1:=qQ _ (hn p.2.b (by simp));have h2:=qQ _ (hn p.2.e (by simp));have h3:=qQ _ (hn p.2.n (by simp));have h4:=qQ _ (hn p.2.m (by simp));simp only[qy,YM,List.map_nil,List.sum_cons,List.sum_nil];omega
theorem jdn{p:Str×Ship}(h:Told p):(zk p).length<=141:=by unfold zk;rw[JK];have:=StrLaws.join_length_le " " (qy p);have h2:=jaN h;rw[Qk]at this;have h3:(qy p).length=5:=rfl;omega
theorem jeU{L:List (Str×Ship)}(h:∀p∈L,Told p):((L.map zk).map (·.length)).sum<=141*L.length:=by
 induction L with
 | nil=>exact Ym _
 | cons p L ih=>have:=ih fun q hq=>h q (Yg _ hq);have h2:=jdn (h p (Yd ..));simp only[YM,List.sum_cons,Yr]at this ⊢;omega
theorem jbZ{L:List (Str×Ship)}(h:∀p∈L,Told p):(qw L).length<=143*L.length:=by unfold qw;rw[JK];have:=StrLaws.join_length_le "; " (L.map zk);have h2:=jeU h;rw[jbm,Ye]at this;omega
theorem jdu{ρ:ed}{fa:ed->Option D}{x y:Str}{l:List Str}(h:fa ρ=some (.str x))(hs:Txt.split x y=l)(h1:(y.length == 0)=false)(h2:x.length<=16777216)(h3:l.length<=16777216):jbW Qi fa (jd (eC (.str y)) jl) ρ=some (l.map D.str):=by unfold jbW;rw[h];show(if (y.length == 0)=false/\x.length<=sizeLine/\(Txt.split x y).length<=sizeLine then some ((Txt.split x y).map D.str)else none)=_;rw[hs,Yq ⟨h1,qI h2,qI h3⟩]
theorem jeo{L:List (Str×Ship)}(h:∀p∈L,Told p)(hn:(L.map (·.1)).Nodup)(hl:L.length<60):zB [.str (qw L)]=some (L.map fun p=>D.str p.1,L.map fun p=>jt p.2):=by
 unfold zB jcz;rw[Yq (show[D.str (qw L)].length=1 from rfl)];show zv [.sh (.str (qw L)),.un]=_;have hs:∀{F:FS} {f:ed->Option T2} {ρ ρ':ed},F ρ=.next ρ'->QU F f ρ=f ρ':=fun{F f ρ ρ'} e=>by unfold QU;rw[e]
 unfold zv;rw[hs (ρ':=[.sh (.str (qw L)),.un]) (ze (zN (b:=true) (jF (show Jx "str" (ja 0) [.sh (.str (qw L)),.un]=some (.bl true)from rfl))))];have ec:qF (jo dEq (ja 0) (eC (.str ""))) [.sh (.str (qw L)),.un]=some (decide (qw L="")):=jF (jh rfl rfl eqS);unfold jfk;rw[ec];cases L with
 | nil=>rfl
 | cons p0 L0=>
 have hne:qw (p0::L0) ≠ "":=fun z=>by
  have e:=congrArg (fun s:Str=>Txt.split s "; ") z;have e2:=Zo h (by simp);have e3:=e2.symm.trans e;have e4:Txt.split "" "; "=[("":Str)]:=by decide +kernel
  rw[e4,YM]at e3;have e5:=(List.cons.inj e3).1;have e6:=jaA (h p0 (Yd ..));rw[e5]at e6;have e7:Txt.split "" " "=[("":Str)]:=by decide +kernel
  rw[e7]at e6;cases (congrArg List.length e6)
 rw[YJ hne];generalize hL:p0::L0=L at *
 have hL':L≠[]:=by rw[<-hL];simp
 have tI:=jbZ h;have lc0:JO (qv (jW (jbW Qi (ja 0) (jd (eC (.str "; ")) jl)))) (jw 0) (fun _=>some true) (jW (jbW Qi (ja 0) (jd (eC (.str " ")) jl))) 1 [] [.sh (.str (qw L)),.un]=some (L.map jM):=by refine zg (ds:=(L.map zk).map D.str) (jbU (j7 (jdu rfl (Zo h hL') (by decide +kernel) (by omega) (by rw[Ye];omega)))) (by rw[Ye,Ye];omega) ?_;rw[Y9];exact JH (D.str∘zk) jM L fun p hp=>⟨[.sh (.str (zk p))],rfl,rfl,j7 (jdu rfl (jaA (h p hp)) (by decide +kernel) (Yx (jdn (h p hp)) (by decide)) (show 5<=16777216 by decide))⟩
 have lc1:JO (qv (ja 1)) (jw 0) (fun _=>some true) (jj zD (jd (jW (eSl (ja 0) (pSo (eC (.int 1))) pNo)) jl)) 1 [] [.sh (.str (qw L)),.sh (.lst (L.map jM))]=some (L.map fun p=>jt p.2):=zg (ds:=L.map jM) rfl (by rw[Ye];omega) (JH jM (fun p=>jt p.2) L fun p hp=>⟨[.sh (jM p)],rfl,rfl,jr (jq (jjs p rfl) rfl) (QV (h p hp))⟩)
 have ht:jaw (jj qh (jd (jz 1) jl)) [.sh (.str (qw L)),.sh (.lst (L.map jM))]=.next [.sh (.str (qw L)),.sh (.lst (L.map jM))]:=by unfold jaw;rw[jr (ρ:=[.sh (.str (qw L)),.sh (.lst (L.map jM))]) (fa:=jd (jz 1) jl) rfl (jdY h hn hl)]
 refine(hs (ρ':=[.sh (.str (qw L)),.sh (.lst (L.map jM))]) (jT (j7 lc0))).trans ((hs ht).trans ?_);unfold jbQ;rw[jcj L (fi:=qv (ja 1)) rfl (by omega),lc1];rfl
theorem jg5{ρ:ed}{fa:ed->Option D}{n:Int}(h:fa ρ=some (.int n))(hn:n.natAbs<10 ^ 31):jj jbC (jd fa jl) ρ=some (.str (num n)):=by
 refine jr (jq h rfl) ?_;show(if n.natAbs.log2<1920 then some (D.str (toString n))else none)=_;have hc:n.natAbs.log2<1920:=by
  by_cases h0:n.natAbs=0
  . rw[h0];decide
  . exact Yc ((Nat.log2_lt h0).mpr (Yc hn (show 10 ^ 31<=2 ^ 120 by decide))) (by decide)
 rw[Yq hc];rfl
theorem jfw{ρ:ed}{fs:ed->Option D}{y:Str}{l:List Str}(h:fs ρ=some (.lst (l.map D.str)))(hl:(l.map (·.length)).sum+l.length*y.length<=16777216):eBM jaM (eC (.str y)) (jd fs jl) ρ=some (.str (Txt.join y l)):=by unfold eBM;rw[jq h rfl];show((J5 (l.map D.str)).bind fun ys=>if (ys.map (·.length)).sum+ys.length*y.length<=16777216 then some (D.str (Txt.join y ys))else none)=_;rw[QO];exact Yq hl
theorem jao{p:Str×Ship}(h:Told p):qg [.str p.1,jt p.2]=some (.str (zk p)):=by
 unfold qg;refine qt (ρ:=[.sh (.str p.1),.sh (jt p.2)]) rfl rfl fun C fin=>?_;unfold Jz;have lc:JO (zb (jz 1)) (jw 0) (fun _=>some true) (jj jbC (jd (ja 0) jl)) 1 [] [.sh (.str p.1),.sh (jt p.2)]=some ([p.2.b,p.2.e,p.2.n,p.2.m].map fun n=>.str (num n)):=zg (ds:=[p.2.b,p.2.e,p.2.n,p.2.m].map D.int) (Qr rfl) (show 4<16777216 by decide) (JH D.int (fun n=>D.str (num n)) _ fun n hn=>⟨[.sh (.int n)],rfl,rfl,jg5 rfl (h.num n hn)⟩)
 have hc:jf2 (.lst [.str p.1]) (.lst ([p.2.b,p.2.e,p.2.n,p.2.m].map fun n=>.str (num n)))=some ((qy p).map D.str):=by exact(Yq (qI (show 1+4<=16777216 by decide)):(if 1+4<=sizeLine then some ((qy p).map D.str)else none)=_)
 have hsz:((qy p).map (·.length)).sum+(qy p).length*(" ":Str).length ≤ 16777216:=by have:=jaN h;have h3:(qy p).length=5:=rfl;rw[Qk,h3];omega
 exact zW (zZ (jfw (j7 (jh (j7 (ZX (l:=[.str p.1]) rfl (show 1<16777216 by decide))) (j7 lc) hc)) hsz)) fin
theorem jd5{L:List (Str×Ship)}(h:∀p∈L,Told p)(hl:L.length<1000):zC [.lst (L.map fun p=>D.str p.1),.lst (L.map fun p=>jt p.2)]=some (.str (qw L)):=by
 unfold zC;refine qt (ρ:=[.sh (.lst (L.map fun p=>D.str p.1)),.sh (.lst (L.map fun p=>jt p.2))]) rfl rfl fun C fin=>?_;unfold Jd;have hz:J7 (L.map fun p=>D.str p.1) (L.map fun p=>jt p.2)=L.map fun p=>.tup [.str p.1,jt p.2]:=by unfold J7;rw[List.zip_map,Y9];rw[jcb,Y9];rfl
 have lc:JO (jbN (jd (ja 0) (jd (ja 1) jl))) (jck 2 (Jm (jw 0) (Jm (jw 1) jcJ))) (fun _=>some true) (jj qg (jd (jz 0) (jd (jz 1) jl))) 2 [] [.sh (.lst (L.map fun p=>D.str p.1)),.sh (.lst (L.map fun p=>jt p.2))]=some ((L.map zk).map D.str):=by
  refine zg (ds:=L.map fun p=>.tup [.str p.1,jt p.2]) ?_ (by rw[Ye];omega) ?_
  . show some (J7 _ _)=_;rw[hz]
  . rw[Y9];exact JH (m:=jck 2 (Jm (jw 0) (Jm (jw 1) jcJ))) (ft:=fun _=>some true) (fe:=jj qg (jd (jz 0) (jd (jz 1) jl))) (ρ:=[.un,.un]) (fun p:Str×Ship=>D.tup [.str p.1,jt p.2]) (D.str∘zk) L fun p hp=>⟨[.sh (.str p.1),.sh (jt p.2)],rfl,rfl,show jj qg (jd (jz 0) (jd (jz 1) jl)) [.sh (.str p.1),.sh (jt p.2)]=some (.str (zk p))from jr rfl (jao (h p hp))⟩
 have hsz:((L.map zk).map (·.length)).sum+(L.map zk).length*("; ":Str).length ≤ 16777216:=by have:=jeU h;rw[jbm,Ye];omega
 exact zW (zZ (jfw (j7 lc) hsz)) fin
theorem jf8:∀k:Nat,k<26->[97,98,99,100,101,102,103,104,105,106,107,108,109,110,111,112,113,114,115,116,117,118,119,120,121,122][k]?=some (97+k):=by decide
theorem jcY{i:Int}(h0:0 ≤ i)(h1:i<26):zG (.str "abcdefghijklmnopqrstuvwxyz") (.int i)=some (.str ⟨#[97+i.toNat]⟩):=by have hl:("abcdefghijklmnopqrstuvwxyz":Str).length ≤ sizeLine:=qI (by decide +kernel);show(if ("abcdefghijklmnopqrstuvwxyz":Str).length ≤ sizeLine then(atI ("abcdefghijklmnopqrstuvwxyz":Str).cps.toList i).map fun c=>D.str ⟨#[c]⟩else none)=_;rw[Yq hl,jdi];unfold atI ixN;rw[Yq h0,Yq (by simp only[Yr,Ke];omega),YX,jf8 i.toNat (by omega)];rfl
theorem Jv{ρ:ed}{fa fb:ed->Option D}{x y:Str}(h1:fa ρ=some (.str x))(h2:fb ρ=some (.str y))(h:x.length+y.length<=16777216):jo qY fa fb ρ=some (.str (x++y)):=by refine jh h1 h2 ?_;show(if x.length+y.length<=sizeLine then some (D.str (x++y))else none)=_;rw[Yq (qI h)]
def az(w:Str):Prop:=∀c∈w.cps.toList,97<=c/\c<=122
theorem jba{a b:Str}(h1:az a)(h2:az b):az (a++b):=fun c hc=>by
 rw[cps_toList_append,yn]at hc;rcases hc with hc | hc
 . exact h1 c hc
 . exact h2 c hc
theorem jcO{i:Int}(h0:0<=i)(h1:i<26):az ⟨#[97+i.toNat]⟩:=fun c hc=>by
 have:c=97+i.toNat:=by simpa using hc
 omega
theorem jcw(c:Int){n:Int}(h0:0<=n)(h4:n<=4):∃nm:List Str,nm.length=n.toNat/\(∀w∈nm,NameW w)/\nm.Nodup/\Jf [.int c,.int n]=some (nm.map D.str):=by
 suffices main:∀C:Res->Prop,(∀nm:List Str,nm.length=n.toNat->(∀w∈nm,NameW w)->nm.Nodup->C (.retO (nm.map D.str)))->C (zx [.sh (.int c),.sh (.int n),.un,.un,.un,.un,.un]) by exact main (fun r=>∃nm:List Str,nm.length=n.toNat/\(∀w∈nm,NameW w)/\nm.Nodup/\jgo r=some (nm.map D.str)) fun nm h1 h2 h3=>⟨nm,h1,h2,h3,rfl⟩
 intro C fin;unfold zx;refine jS [.sh (.int c),.sh (.int n),.sh (.str "abcdefghijklmnopqrstuvwxyz"),.un,.un,.un,.un] rfl ?_;obtain⟨mx,hmx⟩:∃mx,c*1664525013%2147483629=mx:=⟨_,rfl⟩;refine jS [.sh (.int c),.sh (.int n),.sh (.str "abcdefghijklmnopqrstuvwxyz"),.sh (.int mx),.un,.un,.un] (jT (by rw[← hmx];exact jh (jh rfl rfl (Qj (by decide) (by decide))) rfl (jC (by decide)))) ?_;refine jS [.sh (.int c),.sh (.int n),.sh (.str "abcdefghijklmnopqrstuvwxyz"),.sh (.int mx),.sh (.str ""),.un,.un] rfl ?_;have b4:=j2 c (show(0:Int)<4 by decide);refine jch (rng 0 (c%4).toNat) (fun ds ρ=>∃(fr:Str) (k:Nat) (lo:Int) (x:Slot),ds=rng lo k ∧ (0 ≤ lo ∧ lo+k ≤ 5) ∧ fr.length+k ≤ 3 ∧ az fr ∧ ρ=[.sh (.int c),.sh (.int n),.sh (.str "abcdefghijklmnopqrstuvwxyz"),.sh (.int mx),.sh (.str fr),x,.un])
  (JW (jq (jh rfl rfl (jC (by decide))) rfl) b4.1 (by omega)) ⟨"",(c%4).toNat,0,.un,rfl,⟨by omega,by omega⟩,?_,?_,rfl⟩ ?_ ?_
 . rw[show("":Str).length=0 from by decide +kernel];omega
 . intro c hc;rw[show("":Str).cps.toList=[]from by decide +kernel]at hc;cases hc
 . rintro d ds ρ ⟨fr,k,lo,x,hd,hlo,hl,hz,rfl⟩;cases k with
   | zero=>cases hd
   | succ k=>rw[Jb]at hd;cases hd;have bm:=j2 (mx/(1+26*lo)) (show(0:Int)<26 by decide);refine⟨_,[.sh (.int c),.sh (.int n),.sh (.str "abcdefghijklmnopqrstuvwxyz"),.sh (.int mx),.sh (.str (fr++⟨#[97+(mx/(1+26*lo)%26).toNat]⟩)),.sh (.int lo),.un],rfl,jT (Jv rfl (jh rfl (jh (jh rfl (jh rfl (jh rfl rfl (J8 (by decide) (by decide))) jP) (qm (by omega) (by omega))) rfl (jC (by decide))) (jcY bm.1 bm.2)) (by show fr.length+1 ≤ _;omega)),⟨_,k,lo+1,_,rfl,⟨by omega,by omega⟩,?_,jba hz (jcO bm.1 bm.2),rfl⟩⟩;rw[YC];show fr.length+1+k<=3;omega
 rintro ρ ⟨fr,k,lo,x,hd,hlo,hl,hz,rfl⟩;have hk:fr.length<=3:=by omega
 clear hd hlo hl b4;refine jS [.sh (.int c),.sh (.int n),.sh (.str "abcdefghijklmnopqrstuvwxyz"),.sh (.int mx),.sh (.str fr),x,.sh (.str "")] rfl ?_;have b5:=j2 (c/4) (show(0:Int)<5 by decide);refine jch (rng 0 (c/4%5).toNat) (fun ds ρ=>∃(be:Str) (k:Nat) (lo:Int) (x:Slot),ds=rng lo k ∧ (0 ≤ lo ∧ lo+k ≤ 5) ∧ be.length+k ≤ 4 ∧ az be ∧ ρ=[.sh (.int c),.sh (.int n),.sh (.str "abcdefghijklmnopqrstuvwxyz"),.sh (.int mx),.sh (.str fr),x,.sh (.str be)])
  (JW (jq (jh (jh rfl rfl (qm (by decide) (by decide))) rfl (jC (by decide))) rfl) b5.1 (by omega)) ⟨"",(c/4%5).toNat,0,x,rfl,⟨by omega,by omega⟩,?_,?_,rfl⟩ ?_ ?_
 . rw[show("":Str).length=0 from by decide +kernel];omega
 . intro c hc;rw[show("":Str).cps.toList=[]from by decide +kernel]at hc;cases hc
 . rintro d ds ρ ⟨be,k,lo,x,hd,hlo,hl,hz,rfl⟩;cases k with
   | zero=>cases hd
   | succ k=>rw[Jb]at hd;cases hd;have bm:=j2 (mx/(3+31*lo)) (show(0:Int)<26 by decide);refine⟨_,[.sh (.int c),.sh (.int n),.sh (.str "abcdefghijklmnopqrstuvwxyz"),.sh (.int mx),.sh (.str fr),.sh (.int lo),.sh (.str (be++⟨#[97+(mx/(3+31*lo)%26).toNat]⟩))],rfl,jT (Jv rfl (jh rfl (jh (jh rfl (jh rfl (jh rfl rfl (J8 (by decide) (by decide))) jP) (qm (by omega) (by omega))) rfl (jC (by decide))) (jcY bm.1 bm.2)) (by show be.length+1 ≤ _;omega)),⟨_,k,lo+1,_,rfl,⟨by omega,by omega⟩,?_,jba hz (jcO bm.1 bm.2),rfl⟩⟩;rw[YC];show be.length+1+k<=4;omega
 rintro ρ ⟨be,k,lo,x,hd,hlo,hl,hzb,rfl⟩;have hb:be.length<=4:=by omega
 clear hd hlo hl b5;have bm:=fun i:Nat=>j2 (c/20+7*(0+(i:Int))) (show(0:Int)<26 by decide);have one:∀i:Nat,(⟨#[97+((c/20+7*(0+(i:Int)))%26).toNat]⟩:Str).length=1:=fun _=>rfl;have lc:JO (Q6 (jd (ja 1) jl)) (jw 0) (fun _=>some true) (jo qY (jo qY (ja 2) (jo zG (ja 3) (jo ql (jo zj (jo Ji (ja 4) (eC (.int 20))) (jo zo (eC (.int 7)) (ja 0))) (eC (.int 26))))) (ja 1)) 1 [6,4,2,0] [.sh (.int c),.sh (.int n),.sh (.str "abcdefghijklmnopqrstuvwxyz"),.sh (.int mx),.sh (.str fr),x,.sh (.str be)]=some (((List.range n.toNat).map fun i:Nat=>fr++⟨#[97+((c/20+7*(0+(i:Int)))%26).toNat]⟩++be).map D.str):=by
  refine zg (ds:=rng 0 n.toNat) (JW rfl h0 (by omega)) (by unfold rng;rw[Ye,List.length_range];omega) ?_;unfold rng;rw[Y9];exact JH (m:=jw 0) (ft:=fun _=>some true) (ρ:=[.un,.sh (.str be),.sh (.str fr),.sh (.str "abcdefghijklmnopqrstuvwxyz"),.sh (.int c)]) (fun i:Nat=>D.int (0+(i:Int))) (D.str∘fun i:Nat=>fr++⟨#[97+((c/20+7*(0+(i:Int)))%26).toNat]⟩++be) _ fun i _=>⟨[.sh (.int (0+(i:Int))),.sh (.str be),.sh (.str fr),.sh (.str "abcdefghijklmnopqrstuvwxyz"),.sh (.int c)],rfl,rfl,
   Jv (Jv rfl (jh rfl (jh (jh (jh rfl rfl (qm (by decide) (by decide))) (jh rfl rfl (J8 (by decide) (by decide))) jP) rfl (jC (by decide))) (jcY (bm i).1 (bm i).2)) (by rw[one];omega)) rfl (by rw[YC,one];omega)⟩
 refine zW (by unfold ZN;rw[lc]) (fin _ (by rw[Ye,List.length_range]) ?_ ?_)
 . intro w hw;obtain⟨i,_,rfl⟩:=yi.mp hw;exact⟨by rw[YC,YC,one];omega,by rw[YC,YC,one];omega,jba (jba hz (jcO (bm i).1 (bm i).2)) hzb⟩
 . show List.Pairwise (· ≠ ·) _;rw[List.pairwise_map];refine List.Pairwise.imp_of_mem ?_ (List.nodup_range (n:=n.toNat));intro i j hi hj hne e;rw[List.mem_range]at hi hj;have e1:=congrArg (fun s:Str=>s.cps.toList) e;simp only[cps_toList_append]at e1;have e2:=List.append_cancel_left (List.append_cancel_right e1);have e3:97+((c/20+7*(0+(i:Int)))%26).toNat=97+((c/20+7*(0+(j:Int)))%26).toNat:=by simpa using e2
   have:=bm i;have:=bm j;omega
theorem jar{y x:Str}:∀{l:List Str},l≠[]->Str.join y (l++[x])=Str.join y l++y++x
 | [],h=>absurd rfl h
 | [a],_=>rfl
 | a::b::r,_=>by show a++y++Str.join y (b::r++[x])=(a++y++Str.join y (b::r))++y++x;rw[jar (l:=b::r) (by simp)];simp only[Str.append_assoc]
theorem jiZ(p:Str×Ship):zk p=p.1 ++ " "++(num p.2.b++" "++(num p.2.e++" "++(num p.2.n++" "++num p.2.m))):=(JK _ _).trans rfl
theorem jfm{m:D->ed->Option ed}{B:FS}{d:D}{ds:List D}{ρ ρ1 ρ2:ed}(h1:m d ρ=some ρ1)(h2:B ρ1=.next ρ2):zV m B (d::ds) ρ=zV m B ds ρ2:=by show(match m d ρ with | none=>_ | some ρ1=>_)=_;rw[h1];show(match B ρ1 with | .next ρ2=>_ | .cnt ρ2=>_ | .brk ρ2=>_ | .ret d=>_ | .retO l=>_ | .retT d dss es=>_ | .retOO dss=>_ | .fail=>_)=_;rw[h2]
theorem jei{L:List (Str×Ship)}(h:∀p∈L,Told p)(hl:L.length<60):zQ [.lst (L.map fun p=>D.str p.1),.lst (L.map fun p=>jt p.2)]=some (.str (qw L)):=by
 unfold zQ;refine qt (ρ:=[.sh (.lst (L.map fun p=>D.str p.1)),.sh (.lst (L.map fun p=>jt p.2)),.un,.un,.un]) rfl rfl fun C fin=>?_;unfold JB;generalize hN:(L.map fun p=>D.str p.1)=N;generalize hF:(L.map fun p=>jt p.2)=F;have lF:F.length=L.length:=by rw[<-hF,Ye]
 refine jS [.sh (.lst N),.sh (.lst F),.sh (.str ""),.un,.un] rfl ?_;refine jch (rng 0 L.length) (fun ds ρ=>∃(dn td:List (Str×Ship)) (x y:Slot),L=dn++td ∧ ds=rng (dn.length:Int) td.length ∧ ρ=[.sh (.lst N),.sh (.lst F),.sh (.str (Str.join "; " (dn.map zk))),x,y])
  ((JW (jq (jr rfl (ja9 (l:=F))) rfl) (by omega) (by rw[lF];omega)).trans (by rw[lF];rfl)) ⟨[],L,.un,.un,rfl,rfl,rfl⟩ ?_ ?_
 . rintro d ds ρ ⟨dn,td,x,y,hL,hd,rfl⟩;cases td with
   | nil=>cases hd
   | cons p td=>
     rw[Yr,Jb]at hd;cases hd;have hp:Told p:=h p (by rw[hL];simp);have hdn:∀q∈dn,Told q:=fun q hq=>h q (by rw[hL];exact yC _ hq);have tI:dn.length<60:=by have:=congrArg List.length hL;rw[YB]at this;omega
     have hT:(Str.join "; " (dn.map zk)).length ≤ 8580:=by have:=jbZ hdn;unfold qw at this;rw[JK]at this;omega
     generalize hT0:Str.join "; " (dn.map zk)=T at hT;have hn:=hp.num;have l0:=hp.nm.hi;have l1:=qQ _ (hn p.2.b (by simp));have l2:=qQ _ (hn p.2.e (by simp));have l3:=qQ _ (hn p.2.n (by simp));have l4:=qQ _ (hn p.2.m (by simp));obtain⟨T1,hT1,eT1,e1⟩:∃T1:Str,T1.length ≤ 8582 ∧ T1++zk p=Str.join "; " ((dn++[p]).map zk) ∧ J0 (qF (jo dGt (ja 3) (eC (.int 0)))) (jU 2 (jo qY (ja 2) (eC (.str "; ")))) j6 [.sh (.lst N),.sh (.lst F),.sh (.str T),.sh (.int (dn.length:Int)),y]=.next [.sh (.lst N),.sh (.lst F),.sh (.str T1),.sh (.int (dn.length:Int)),y]:=by
       by_cases hd0:dn=[]
       . subst hd0;refine⟨T,by omega,?_,ze (jF (jh rfl rfl (jjp (by simp))))⟩;rw[<-hT0];exact Str.empty_append _
       . refine⟨T ++ "; ",?_,?_,(jeN (jF (jh rfl rfl (dGt_ok.trans (by rw[Yw];have:=List.length_pos_iff.mpr hd0;omega))))).trans (jT (Jv rfl rfl (by rw[jbm];omega)))⟩
         . rw[YC,jbm];omega
         . rw[Kd,List.map_singleton,jar (by simpa using hd0),hT0]
     have eN:zG (.lst N) (.int (dn.length:Int))=some (.str p.1):=by rw[<-hN];exact jdm (f:=fun p:Str×Ship=>D.str p.1) (by omega) (by rw[hL];simp)
     have eF:zG (.lst F) (.int (dn.length:Int))=some (jt p.2):=by rw[<-hF];exact jdm (f:=fun p:Str×Ship=>jt p.2) (by omega) (by rw[hL];simp)
     refine⟨_,[.sh (.lst N),.sh (.lst F),.sh (.str (Str.join "; " ((dn++[p]).map zk))),.sh (.int (dn.length:Int)),.sh (.int p.2.m)],rfl,?_,⟨dn++[p],td,_,_,by rw[hL,yA];rfl,by rw[YB];rfl,rfl⟩⟩;refine(qX e1).trans ((qX (ρ':=[.sh (.lst N),.sh (.lst F),.sh (.str (T1++p.1)),.sh (.int (dn.length:Int)),y]) (jT (Jv rfl (jh rfl rfl eN) (by omega)))).trans ?_);have efor:zb (jo zG (ja 1) (ja 3)) [.sh (.lst N),.sh (.lst F),.sh (.str (T1++p.1)),.sh (.int (dn.length:Int)),y]=some [.int p.2.b,.int p.2.e,.int p.2.n,.int p.2.m]:=Qr (jh rfl rfl eF);unfold Q4;rw[efor];show zV _ _ [.int p.2.b,.int p.2.e,.int p.2.n,.int p.2.m] _=_;have step:∀(t:Str) (n:Int) (z:Slot) (ds:List D),t.length ≤ 10000 → n.natAbs<10 ^ 31 → (num n).length ≤ 32 → zV (jw 4) (jU 2 (jo qY (jo qY (ja 2) (eC (.str " "))) (jj jbC (jd (ja 4) jl)))) (.int n::ds) [.sh (.lst N),.sh (.lst F),.sh (.str t),.sh (.int (dn.length:Int)),z]=zV (jw 4) (jU 2 (jo qY (jo qY (ja 2) (eC (.str " "))) (jj jbC (jd (ja 4) jl)))) ds [.sh (.lst N),.sh (.lst F),.sh (.str (t++" "++num n)),.sh (.int (dn.length:Int)),.sh (.int n)]:=fun t n z ds ht hn hl=>jfm (ρ1:=[.sh (.lst N),.sh (.lst F),.sh (.str t),.sh (.int (dn.length:Int)),.sh (.int n)]) rfl (jT (Jv (Jv rfl rfl (by rw[Qk];omega)) (jg5 rfl hn) (by rw[YC,Qk];omega)))
     rw[step _ _ _ _ (by rw[YC];omega) (hn _ (by simp)) l1];rw[step _ _ _ _ (by simp only[YC,Qk];omega) (hn _ (by simp)) l2];rw[step _ _ _ _ (by simp only[YC,Qk];omega) (hn _ (by simp)) l3];rw[step _ _ _ _ (by simp only[YC,Qk];omega) (hn _ (by simp)) l4];show Res.next _=Res.next _;rw[<-eT1,jiZ];simp only[Str.append_assoc]
 . rintro ρ ⟨dn,td,x,y,hL,hd,rfl⟩;have htd:td=[]:=by
    cases td with
    | nil=>rfl
    | cons p td=>rw[Yr,Jb]at hd;cases hd
   subst htd;rw[yo]at hL;subst hL;refine zW ((zZ rfl).trans ?_) fin;unfold qw;rw[JK]
theorem ji6{s:Ship}(h:Ok0 s):Fit s:=by have h1:=h.ok.lt;have h2:=h.ok.n0;have h3:=h.ok.m0;have h4:=h.ok.n1;have h5:=h.ok.m1;have h6:=h.long;have h7:=h.lo;have h8:=h.hi;refine⟨h.ok,⟨by omega,by omega⟩,⟨by omega,by omega⟩,⟨h3,h5⟩,h2,?_⟩;have a:s.m*(s.e-s.b)<=1000000000000000*(s.e-s.b):=Int.mul_le_mul_of_nonneg_right h5 (by omega);omega
theorem jk3{x:Str}:dNe (.str x) (.str x)=some (.bl false):=by show some (D.bl (!decide (V.str x=V.str x)))=_;rw[Yw rfl];rfl
theorem jc1(l:List Str):plain 39 (.lst (l.map D.str)):=fun d hd=>by obtain⟨_,_,rfl⟩:=yi.mp hd;trivial
theorem jbX(l:List Ship):plain 39 (.lst (l.map jt)):=fun d hd=>by obtain⟨s,_,rfl⟩:=yi.mp hd;intro x hx;simp only[Yj,Yu,Y5]at hx;rcases hx with rfl | rfl | rfl | rfl <;> trivial
theorem jfz(ns:List Int)(hl:ns.length<=63):je9 [.scr ns]=some (.bl true):=by
 obtain⟨fl,hfl,h4,ef⟩:=jff jgR ns 1 (by decide);obtain⟨nm,hnl,hnm,hnd,en⟩:=jcw (cell ns 0) (n:=(fl.length:Int)) (by omega) (by omega);have hnl:nm.length=fl.length:=by rw[hnl];omega
 obtain⟨L,hL⟩:∃L,nm.zip fl=L:=⟨_,rfl⟩;have h1:L.map (·.1)=nm:=by rw[<-hL];exact List.map_fst_zip (by omega)
 have h2:L.map (·.2)=fl:=by rw[<-hL];exact List.map_snd_zip (by omega)
 have told:∀p∈L,Told p:=fun p hp=>⟨hnm _ (by rw[<-h1];exact yH hp),ji6 (hfl _ (by rw[<-h2];exact yH hp))⟩;have hLl:L.length<60:=by rw[<-Ye (f:=(·.2)),h2];omega
 have eN:nm.map D.str=L.map fun p=>D.str p.1:=by rw[<-h1,Y9];rfl
 have eF:fl.map jt=L.map fun p=>jt p.2:=by rw[<-h2,Y9];rfl
 have pN:=jc1 nm;have pF:=jbX fl;have r1:=jei told hLl;have r2:=jd5 told (by omega);have r3:=jeo told (by rw[h1];exact hnd) hLl;rw[<-eN,<- eF]at r1 r2 r3;have lF:(fl.map jt).length=fl.length:=Ye ..
 generalize hT:qw L=T at r1 r2 r3;have wF:∀d∈fl.map jt,∃s:Ship,d=jt s:=fun d hd=>by obtain⟨s,_,rfl⟩:=yi.mp hd;exact⟨s,rfl⟩
 have sN:(nm.map D.str).length<1000:=by rw[Ye];omega
 generalize nm.map D.str=N at en r1 r2 r3 pN sN;generalize fl.map jt=F at ef r1 r2 r3 pF lF wF;unfold je9;refine qt (ρ:=[.sh (.scr ns),.un,.un,.un,.un,.un,.un,.un,.un]) rfl rfl fun C fin=>?_;unfold jfF;refine jS [.sh (.scr ns),.sh (.lst F),.un,.un,.un,.un,.un,.un,.un] (jT (j7 (jr rfl ef))) ?_;refine jS [.sh (.scr ns),.sh (.lst F),.sh (.lst N),.un,.un,.un,.un,.un,.un] (jT (j7 (jr (jq (jr rfl (jbb ns 0 (by decide))) (jq (jr rfl (ja9 (l:=F))) rfl)) (by rw[lF];exact en)))) ?_;refine jS [.sh (.scr ns),.sh (.lst F),.sh (.lst N),.sh (.str T),.un,.un,.un,.un,.un] (jT (jr rfl r1)) ?_;refine jS [.sh (.scr ns),.sh (.lst F),.sh (.lst N),.sh (.str T),.sh (.lst [.lst N,.lst F]),.un,.un,.un,.un] (jT (j7 (ZX (l:=[.lst N,.lst F]) (jq (j7 (jr rfl rfl)) (jq (j7 (jr rfl rfl)) rfl)) (show 2<16777216 by decide)))) ?_;refine jS [.sh (.scr ns),.sh (.lst F),.sh (.lst N),.sh (.str T),.sh (.lst [.lst N,.lst F]),.sh (.str T),.un,.un,.un] (jT (jr (jq (jh rfl rfl jiX) (jq (jh rfl rfl jhK) rfl)) r2)) ?_;have pH:plain 40 (.lst [.lst N,.lst F]):=fun d hd=>by
  simp only[Yj,Yu,Y5]at hd;rcases hd with rfl | rfl
  . exact pN
  . exact pF
 refine jS [.sh (.scr ns),.sh (.lst F),.sh (.lst N),.sh (.str T),.sh (.lst [.lst N,.lst F]),.sh (.str T),.un,.un,.un] (ze (QT (zN (b:=true) (jF rfl)) (QT (jF (jh rfl rfl jk3)) (jF (jh rfl (j7 (ZX (l:=[.lst N,.lst F]) rfl (show 2<16777216 by decide))) (Zq pH)))))) ?_;refine jch (rng 0 2) (fun ds ρ=>∃x y z:Slot,ρ=[.sh (.scr ns),.sh (.lst F),.sh (.lst N),.sh (.str T),.sh (.lst [.lst N,.lst F]),.sh (.str T),x,y,z]) (JW (j:=2) rfl (by decide) (by decide)) ⟨_,_,_,rfl⟩ ?_ ?_
 . rintro d ds ρ ⟨x,y,z,rfl⟩;refine⟨[.sh (.scr ns),.sh (.lst F),.sh (.lst N),.sh (.str T),.sh (.lst [.lst N,.lst F]),.sh (.str T),.sh d,y,z],[.sh (.scr ns),.sh (.lst F),.sh (.lst N),.sh (.str T),.sh (.lst [.lst N,.lst F]),.sh (.str T),.sh d,.un,.un],rfl,?_,⟨_,_,_,rfl⟩⟩;unfold jb3;rw[jr (ρ:=[.sh (.scr ns),.sh (.lst F),.sh (.lst N),.sh (.str T),.sh (.lst [.lst N,.lst F]),.sh (.str T),.sh d,y,z]) (fa:=jd (jz 3) jl) rfl r3];refine Yq ?_;unfold jbn;have q1:=jb2 1 pN;have q2:=jb2 1 pF;have g1:∀{o:Option Bool},o=some false->isF o=true:=fun e=>by rw[e];rfl
   have sh:([.sh (.scr ns),.sh (.lst F),.sh (.lst N),.sh (.str T),.sh (.lst [.lst N,.lst F]),.sh (.str T),.sh d,y,z]:ed).set 7 (.sh (.tup [.lst N,.lst F]))=[.sh (.scr ns),.sh (.lst F),.sh (.lst N),.sh (.str T),.sh (.lst [.lst N,.lst F]),.sh (.str T),.sh d,.sh (.tup [.lst N,.lst F]),z]:=rfl;simp only[sh];rw[g1 (QT (zN (b:=true) (jF rfl)) (jF (jh (jr rfl rfl) rfl (jhG rfl)))),g1 (QT (zN (b:=true) (jF rfl)) (zN (b:=true) (jF rfl))),g1 (QT (jF (jh (jh rfl rfl je7) rfl (Zq q1))) (jF (jh (jh rfl rfl jcE) rfl (Zq q2)))),Yw (show 7<([.sh (.scr ns),.sh (.lst F),.sh (.lst N),.sh (.str T),.sh (.lst [.lst N,.lst F]),.sh (.str T),.sh d,y,z]:ed).length from by show 7<9;decide),Jw (show N.length<16777216 by omega)];have hfi:qv (jo zG (ja 7) (eC (.int 1))) [.sh (.scr ns),.sh (.lst F),.sh (.lst N),.sh (.str T),.sh (.lst [.lst N,.lst F]),.sh (.str T),.sh d,.sh (.tup [.lst N,.lst F]),z]=some F:=jbU (jh rfl rfl jcE);rw[hfi];have all:∀(l:List D),(∀d∈l,∃s:Ship,d=jt s) → jep (bOr (zm (qF (Jx "tuple" (ja 8)))) (qF (jo dNe (jW (JO (zb (jz 8)) (jw 0) (zm (qF (jj qj (jd (jz 0) jl)))) (jz 0) 1 [])) (jW (Jt jl))))) [.sh (.scr ns),.sh (.lst F),.sh (.lst N),.sh (.str T),.sh (.lst [.lst N,.lst F]),.sh (.str T),.sh d,.sh (.tup [.lst N,.lst F]),z] 8 l=true:=fun l=>by
    induction l with
    | nil=>intro _;rfl
    | cons a l ih=>
      intro hw;obtain⟨s,rfl⟩:=hw a (Yd ..);have lc:JO (zb (jz 8)) (jw 0) (zm (qF (jj qj (jd (jz 0) jl)))) (jz 0) 1 [] [.sh (.scr ns),.sh (.lst F),.sh (.lst N),.sh (.str T),.sh (.lst [.lst N,.lst F]),.sh (.str T),.sh d,.sh (.tup [.lst N,.lst F]),.sh (jt s)]=some []:=zg (ds:=[s.b,s.e,s.n,s.m].map D.int) (Qr rfl) (show 4<16777216 by decide) rfl
      have e:bOr (zm (qF (Jx "tuple" (ja 8)))) (qF (jo dNe (jW (JO (zb (jz 8)) (jw 0) (zm (qF (jj qj (jd (jz 0) jl)))) (jz 0) 1 [])) (jW (Jt jl)))) [.sh (.scr ns),.sh (.lst F),.sh (.lst N),.sh (.str T),.sh (.lst [.lst N,.lst F]),.sh (.str T),.sh d,.sh (.tup [.lst N,.lst F]),.sh (jt s)]=some false:=QT (zN (b:=true) (jF rfl)) (jF (jh (j7 lc) (j7 (ZX rfl (show 0<16777216 by decide))) rfl))
      show((match bOr (zm (qF (Jx "tuple" (ja 8)))) (qF (jo dNe (jW (JO (zb (jz 8)) (jw 0) (zm (qF (jj qj (jd (jz 0) jl)))) (jz 0) 1 [])) (jW (Jt jl)))) [.sh (.scr ns),.sh (.lst F),.sh (.lst N),.sh (.str T),.sh (.lst [.lst N,.lst F]),.sh (.str T),.sh d,.sh (.tup [.lst N,.lst F]),.sh (jt s)]with | some false=>true | _=>false) && jep _ _ 8 l)=true;rw[e,ih fun d hd=>hw d (Yg _ hd)];rfl
   show(true && (true && (true && (true && (true && jep _ _ 8 F)))))=true;rw[all F wF];rfl
 . rintro ρ ⟨x,y,z,rfl⟩;exact zW (zZ rfl) fin
end Q
section
namespace Q
open PySem PySem.Spec PyProof.Rows L2
def top(i:Nat):Stmt:=PySem.Challenge.pw_evenquay_k70_texts_forth_and_back.main.body.getD i (.Pass ⟨0,0,0,0⟩)
abbrev j5:Stmt:=top 26
abbrev qM:Stmt:=top 28
abbrev qi:Stmt:=top 29
abbrev jZ:Stmt:=top 30
abbrev qJ:Stmt:=top 31
abbrev j8:Stmt:=top 23
abbrev jY:Stmt:=top 24
abbrev qK:Stmt:=top 14
abbrev qd:Stmt:=top 15
abbrev qr:Stmt:=top 16
abbrev jN:Stmt:=top 17
abbrev qZ:Stmt:=top 8
abbrev qN:Stmt:=top 9
abbrev jX:Stmt:=top 18
abbrev zE:Stmt:=top 19
abbrev qo:Stmt:=top 20
abbrev jE:Stmt:=top 21
abbrev jG:Stmt:=top 22
abbrev qk:Stmt:=top 27
abbrev QW:Stmt:=top 32
theorem ar1{α:Type}{P:List α->Prop}(h:∀v0:α,P [v0]):∀us:List α,us.length=1->P us
 | [v0],_=>h v0
theorem ar2{α:Type}{P:List α->Prop}(h:∀v0 v1:α,P [v0,v1]):∀us:List α,us.length=2->P us
 | [v0,v1],_=>h v0 v1
theorem ar3{α:Type}{P:List α->Prop}(h:∀v0 v1 v2:α,P [v0,v1,v2]):∀us:List α,us.length=3->P us
 | [v0,v1,v2],_=>h v0 v1 v2
set_option genSizeOf false
set_option genInjectivity false
structure Adr where
 tM:Addr
 tO:FuncData
 uK:Addr
 uE:FuncData
 uc:Addr
 um:FuncData
 uk:Addr
 uj:FuncData
 uC:Addr
 uL:FuncData
 uG:Addr
 uB:FuncData
 ui:Addr
 uq:FuncData
 uX:Addr
 uY:FuncData
 uF:Addr
 uD:FuncData
 uw:Addr
 tX:FuncData
 tK:Addr
 tQ:FuncData
 uN:Addr
 uP:FuncData
 uZ:Addr
 uU:FuncData
 ug:Addr
 ux:FuncData
 uV:Addr
 uW:FuncData
 tY:Addr
 uf:FuncData
 tP:Addr
 tS:FuncData
 ud:Addr
 t7:FuncData
 t9:Addr
 tZ:FuncData
 u6:Addr
 u9:FuncData
 t_LETTERS:Tok
 t_FIGURES:Tok
 t_NEED:Tok
 t_MOST:Tok
 t_END:Tok
 t_BEGIN:Tok
 k_SHIP_KINDS:Addr
structure Txt(K:PySem.W.Frag)(mg:Str->Option Value)(A:Adr):Prop where
 tG:FX K mg "_law_cell_at" j5 A.tM A.tO ["script","k"]
 uJ:FX K mg "_law_ship" qM A.uK A.uE ["one","two","kind"]
 ur:FX K mg "_law_fleet" qi A.uc A.um ["script","start"]
 uu:FX K mg "_law_names" jZ A.uk A.uj ["cell","many"]
 uH:FX K mg "_law_text" qJ A.uC A.uL ["names","fleet"]
 uI:FX K mg "show_ship" j8 A.uG A.uB ["name","ship"]
 ue:FX K mg "show_fleet" jY A.ui A.uq ["names","fleet"]
 uT:FX K mg "is_name" qK A.uX A.uY ["word"]
 uA:FX K mg "is_number" qd A.uF A.uD ["word"]
 ub:FX K mg "is_of_kind" qr A.uw A.tX ["word","kind"]
 tL:FX K mg "are_of_kinds" jN A.tK A.tQ ["words","kinds"]
 uQ:FX K mg "is_whole" qZ A.uN A.uP ["thing"]
 uS:FX K mg "is_ship" qN A.uZ A.uU ["thing"]
 uo:FX K mg "numbers_of" jX A.ug A.ux ["words"]
 uz:FX K mg "ship_of" zE A.uV A.uW ["words"]
 ua:FX K mg "tells_ship" qo A.tY A.uf ["words"]
 tN:FX K mg "must_be_told" jE A.tP A.tS ["ships"]
 uy:FX K mg "read_fleet" jG A.ud A.t7 ["text"]
 uh:FX K mg "_law_whole" qk A.t9 A.tZ ["found"]
 vg:FX K mg "law" QW A.u6 A.u9 ["script"]
 u5:mg "LETTERS"=some (.str "abcdefghijklmnopqrstuvwxyz" A.t_LETTERS)
 u4:mg "FIGURES"=some (.str "0123456789" A.t_FIGURES)
 ve:mg "NEED"=some (.int 2 A.t_NEED)
 u7:mg "MOST"=some (.int 3 A.t_MOST)
 vf:mg "END"=some (.int 1 A.t_END)
 vc:mg "BEGIN"=some (.int 0 A.t_BEGIN)
 u0:mg "SHIP_KINDS"=some (.ref A.k_SHIP_KINDS)
 k_SHIP_KINDS:SqT K (fun _=>none) A.k_SHIP_KINDS ((["NAME","BEGIN","END","NEED","MOST"]:List Str).map V.str)
 tF:mg "len"=none
 vi:mg "min"=none
 tT:mg "range"=none
 uO:mg "str"=none
 vd:mg "zip"=none
 tJ:mg "all"=none
 u3:mg "int"=none
 tu:mg "isinstance"=none
 va:mg "bool"=none
 uM:mg "tuple"=none
 vh:mg "set"=none
 tW:mg "list"=none
theorem Q9:FnScope ["script","k"] ["script","k"] (jc j5):=⟨rfl,rfl,rfl,by decide +kernel,rfl,by decide +kernel,by decide +kernel⟩
theorem tq:FnScope ["one","two","kind","begin","end","most","mixed","full","need"] ["one","two","kind"] (jc qM):=⟨rfl,rfl,rfl,by decide +kernel,rfl,by decide +kernel,by decide +kernel⟩
theorem tH:FnScope ["script","start","cell","fleet","k","one"] ["script","start"] (jc qi):=⟨rfl,rfl,rfl,by decide +kernel,rfl,by decide +kernel,by decide +kernel⟩
theorem tw:FnScope ["cell","many","some","mixed","front","k","beyond"] ["cell","many"] (jc jZ):=⟨rfl,rfl,rfl,by decide +kernel,rfl,by decide +kernel,by decide +kernel⟩
theorem tE:FnScope ["names","fleet","text","k","number"] ["names","fleet"] (jc qJ):=⟨rfl,rfl,rfl,by decide +kernel,rfl,by decide +kernel,by decide +kernel⟩
theorem ja4:FnScope ["name","ship"] ["name","ship"] (jc j8):=⟨rfl,rfl,rfl,by decide +kernel,rfl,by decide +kernel,by decide +kernel⟩
theorem jae:FnScope ["names","fleet"] ["names","fleet"] (jc jY):=⟨rfl,rfl,rfl,by decide +kernel,rfl,by decide +kernel,by decide +kernel⟩
theorem jcU:FnScope ["word"] ["word"] (jc qK):=⟨rfl,rfl,rfl,by decide +kernel,rfl,by decide +kernel,by decide +kernel⟩
theorem uv:FnScope ["word","figures"] ["word"] (jc qd):=⟨rfl,rfl,rfl,by decide +kernel,rfl,by decide +kernel,by decide +kernel⟩
theorem tU:FnScope ["word","kind","number"] ["word","kind"] (jc qr):=⟨rfl,rfl,rfl,by decide +kernel,rfl,by decide +kernel,by decide +kernel⟩
theorem Q0:FnScope ["words","kinds"] ["words","kinds"] (jc jN):=⟨rfl,rfl,rfl,by decide +kernel,rfl,by decide +kernel,by decide +kernel⟩
theorem jbS:FnScope ["thing"] ["thing"] (jc qZ):=⟨rfl,rfl,rfl,by decide +kernel,rfl,by decide +kernel,by decide +kernel⟩
theorem uR:FnScope ["thing","hours"] ["thing"] (jc qN):=⟨rfl,rfl,rfl,by decide +kernel,rfl,by decide +kernel,by decide +kernel⟩
theorem jad:FnScope ["words"] ["words"] (jc jX):=⟨rfl,rfl,rfl,by decide +kernel,rfl,by decide +kernel,by decide +kernel⟩
theorem jco:FnScope ["words"] ["words"] (jc zE):=⟨rfl,rfl,rfl,by decide +kernel,rfl,by decide +kernel,by decide +kernel⟩
theorem jah:FnScope ["words"] ["words"] (jc qo):=⟨rfl,rfl,rfl,by decide +kernel,rfl,by decide +kernel,by decide +kernel⟩
theorem QY:FnScope ["ships"] ["ships"] (jc jE):=⟨rfl,rfl,rfl,by decide +kernel,rfl,by decide +kernel,by decide +kernel⟩
theorem tV:FnScope ["text","ships"] ["text"] (jc jG):=⟨rfl,rfl,rfl,by decide +kernel,rfl,by decide +kernel,by decide +kernel⟩
theorem jal:FnScope ["found"] ["found"] (jc qk):=⟨rfl,rfl,rfl,by decide +kernel,rfl,by decide +kernel,by decide +kernel⟩
theorem tR:FnScope ["script","fleet","names","text","handed","shown","k","found","ship"] ["script"] (jc QW):=⟨rfl,rfl,rfl,by decide +kernel,rfl,by decide +kernel,by decide +kernel⟩
section
variable{P:Program}{w:World}{K:PySem.W.Frag}{mg:Str->Option Value}{base:Heap}{A:Adr}
theorem qG(T:Txt K mg A):FnOk P w K mg base Jp 1 A.tM A.tO ["script","k"] (@Z2 ⟨K⟩ jR):=
 zq (m:=zK) T.tG.f Q9 rfl rfl fun cdv Ar outer s H E hr=>
  (jg (zd (qP jlt (jb 1) (ee (JF tF (fun _=>rfl) (fun _=>T.tF) YV (js (jb 0) jA))))
   (jn (jO (zr (jb 0) (jb 1)))) jV)
   (jn (jO jf)))
theorem jaU(T:Txt K mg A):FnOk P w K mg base Jp 1 A.uK A.uE ["one","two","kind"] (@Z2 ⟨K⟩ zc):=
 zq (m:=JG) T.uJ.f tq rfl rfl fun cdv Ar outer s H E hr=>
  (jg (jK (i:=3) (jbv (ee (qu (jb 0) (ee jf))) (ee jf)) (fun _=>tq.nd) rfl (fun _=>Or.inl rfl) (fun _=>Or.inl rfl))
   (jg (jK (i:=4) (zL (ee (zL (jb 3) (ee jf))) (ee (qu (ee (JJ (jb 0) (ee jf))) (ee jf)))) (fun _=>tq.nd) rfl (fun _=>Or.inl rfl) (fun _=>Or.inl rfl))
   (jg (zd (qP (ja8 fun _=>hr.units) (jb 2) (ee jf))
   (jg (jK (i:=3) (jbv (ee (qu (jb 0) (ee jf))) (ee jf)) (fun _=>tq.nd) rfl (fun _=>Or.inl rfl) (fun _=>Or.inl rfl))
   (jn (jK (i:=4) (zL (ee (zL (jb 3) (ee jf))) (ee (qu (ee (JJ (jb 0) (ee jf))) (ee jf)))) (fun _=>tq.nd) rfl (fun _=>Or.inl rfl) (fun _=>Or.inl rfl)))) jV)
   (jg (zd (qP (ja8 fun _=>hr.units) (jb 2) (ee jf))
   (jg (jK (i:=3) (zP (ee (jbv (ee (qu (ee (zP (jb 0) (ee jf))) (ee jf))) (ee (Zk (ee jf) (ee jf))))) (ee (Zk (ee jf) (ee jf)))) (fun _=>tq.nd) rfl (fun _=>Or.inl rfl) (fun _=>Or.inl rfl))
   (jn (jK (i:=4) (zL (ee (zL (jb 3) (ee jf))) (ee (zP (ee (qu (ee (zP (jb 0) (ee jf))) (ee jf))) (ee (Zk (ee jf) (ee jf)))))) (fun _=>tq.nd) rfl (fun _=>Or.inl rfl) (fun _=>Or.inl rfl)))) jV)
   (jg (jK (i:=5) (zr (ee (WO.toE (J1 (je jf (je jf (je jf (je jf (je (Zk (ee jf) (ee jf)) (je (zL (ee jf) (ee (qu (ee (JJ (jb 1) (ee jf))) (ee jf)))) (je jf (je jf jy))))))))))) (ee (qu (jb 1) (ee jf)))) (fun _=>tq.nd) rfl (fun _=>Or.inl rfl) (fun _=>Or.inl rfl))
   (jg (jK (i:=6) (qu (ee (zP (jb 1) (ee jf))) (ee jf)) (fun _=>tq.nd) rfl (fun _=>Or.inl rfl) (fun _=>Or.inl rfl))
   (jg (jK (i:=7) (zP (jb 5) (ee (jbv (jb 4) (jb 3)))) (fun _=>tq.nd) rfl (fun _=>Or.inl rfl) (fun _=>Or.inl rfl))
   (jg (jK (i:=8) (zr (ee (WO.toE (J1 (je (JJ (ee (zP (jb 7) (ee (qu (jb 6) (ee jf))))) (ee jf)) (je (qu (jb 6) (ee (zL (jb 7) (ee jf)))) (je (JF jiS (fun _=>rfl) (fun _=>T.vi) boot_min (js (jb 7) (js (ee (qu (jb 6) (ee jf))) jA))) (je (jL 7) jy))))))) (ee (qu (ee (JJ (jb 6) (ee jf))) (ee jf)))) (fun _=>tq.nd) rfl (fun _=>Or.inl rfl) (fun _=>Or.inl rfl))
   (jn (jO (jhk (je (jL 3) (je (jL 4) (je (jL 8) (je (jL 5) jy)))))))))))))))
theorem jai(T:Txt K mg A):FnOk P w K mg base Jp 2 A.uc A.um ["script","start"] (@spO ⟨K⟩ Jk):=
 jft (m:=zA) T.ur.f tH rfl rfl fun cdv Ar outer s H E hr=>
  (jg (jK (i:=2) (jQ (fun _=>qG T) (fun _=>hr.mono (by decide)) (fun _=>rfl) (fun _=>T.tG) (je (jL 0) (je (jL 1) jy))) (fun _=>tH.nd) rfl (fun _=>Or.inl rfl) (fun _=>Or.inl rfl))
   (jg (jgQ (i:=3) (J1 jy) (fun _=>tH.nd) rfl (fun _=>Or.inl rfl) (fun _=>Or.inl rfl))
   (jg (QM (JX (fun _=>rfl) (fun _=>T.tT) (js (ee (zr (ee (WO.toE (J1 (je jf (je jf (je jf (je jf (je jf (je jf (je jf (je jf jy))))))))))) (ee (qu (jb 2) (ee jf))))) jA)) (JV (i:=4) (fun _=>tH.nd) rfl (fun _=>Or.inl rfl) (fun _=>Or.inl rfl))
   (jg (jK (i:=5) (jQ (fun _=>qG T) (fun _=>hr.mono (by decide)) (fun _=>rfl) (fun _=>T.tG) (je (jL 0) (je (zL (ee (zL (jb 1) (ee jf))) (ee (zP (ee jf) (jb 4)))) jy))) (fun _=>tH.nd) rfl (fun _=>Or.inl rfl) (fun _=>Or.inl rfl))
   (jn (jhz (i:=3) rfl (fun _=>Or.inl rfl) (jQ (fun _=>jaU T) (fun _=>hr.mono (by decide)) (fun _=>rfl) (fun _=>T.uJ) (je (jL 5) (je (jQ (fun _=>qG T) (fun _=>hr.mono (by decide)) (fun _=>rfl) (fun _=>T.tG) (je (jL 0) (je (zL (ee (zL (jb 1) (ee jf))) (ee (zP (ee jf) (jb 4)))) jy))) (je (qu (ee (JJ (jb 2) (ee jf))) (ee jf)) jy))))))))
   (jg (zd (WW.toC (jkG (qP jhI (ee (JF tF (fun _=>rfl) (fun _=>T.tF) YV (js (jb 3) jA))) (ee jf)) (jhV (qP (ja8 fun _=>hr.units) (ee (qu (ee (JJ (jb 2) (ee jf))) (ee jf))) (ee jf)))))
   (jn (jiE (i:=3) rfl (fun _=>Or.inl rfl) (jhy (ee jf)) (zr (jb 3) (ee jf)))) jV)
   (jn (jgd 3))))))
theorem jaq(T:Txt K mg A):FnOk P w K mg base Jp 1 A.uk A.uj ["cell","many"] (@spO ⟨K⟩ Jf):=
 jft (m:=zx) T.uu.f tw rfl rfl fun cdv Ar outer s H E hr=>
  (jg (jK (i:=2) qL (fun _=>tw.nd) rfl (fun _=>Or.inr rfl) (fun _=>Or.inl rfl))
   (jg (jK (i:=3) (qu (ee (zP (jb 0) (ee jf))) (ee jf)) (fun _=>tw.nd) rfl (fun _=>Or.inl rfl) (fun _=>Or.inl rfl))
   (jg (jK (i:=4) qL (fun _=>tw.nd) rfl (fun _=>Or.inr rfl) (fun _=>Or.inl rfl))
   (jg (QM (JX (fun _=>rfl) (fun _=>T.tT) (js (ee (qu (jb 0) (ee jf))) jA)) (JV (i:=5) (fun _=>tw.nd) rfl (fun _=>Or.inl rfl) (fun _=>Or.inl rfl))
   (jn (jK (i:=4) (JC (jb 4) (ee (zr (jb 2) (ee (qu (ee (JJ (jb 3) (ee (zL (ee jf) (ee (zP (ee jf) (jb 5))))))) (ee jf)))))) (fun _=>tw.nd) rfl (fun _=>Or.inr rfl) (fun _=>Or.inl rfl))))
   (jg (jK (i:=6) qL (fun _=>tw.nd) rfl (fun _=>Or.inr rfl) (fun _=>Or.inl rfl))
   (jg (QM (JX (fun _=>rfl) (fun _=>T.tT) (js (ee (qu (ee (JJ (jb 0) (ee jf))) (ee jf))) jA)) (JV (i:=5) (fun _=>tw.nd) rfl (fun _=>Or.inl rfl) (fun _=>Or.inl rfl))
   (jn (jK (i:=6) (JC (jb 6) (ee (zr (jb 2) (ee (qu (ee (JJ (jb 3) (ee (zL (ee jf) (ee (zP (ee jf) (jb 5))))))) (ee jf)))))) (fun _=>tw.nd) rfl (fun _=>Or.inr rfl) (fun _=>Or.inl rfl))))
   (jn (jdH (QI (sc:=jc jZ) (Lc:=["p"]) (Fn:=["beyond","front","some","cell"]) (ix:=[6,4,2,0]) (fun _=>rfl) (show LcOk (jc jZ) ["cell","many","some","mixed","front","k","beyond"] _ ["beyond","front","some","cell"] [6,4,2,0]from by decide +kernel) (WI.toT (JX (fun _=>rfl) (fun _=>T.tT) (js (jb 1) jA))) (qB (i:=0) (fun _=>show List.Nodup (["p","beyond","front","some","cell"]:List Str)from by decide +kernel) rfl (by decide) (fun _=>Or.inl rfl) (fun _=>Or.inr rfl)) qq (JC (ee (JC (jb 2) (ee (zr (jb 3) (ee (qu (ee (zL (ee (JJ (jb 4) (ee jf))) (ee (zP (ee jf) (jb 0))))) (ee jf))))))) (jb 1)))))))))))
theorem jbe(T:Txt K mg A):FnOk P w K mg base Jp 1 A.uC A.uL ["names","fleet"] (@Z2 ⟨K⟩ zQ):=
 zq (m:=JB) T.uH.f tE rfl rfl fun cdv Ar outer s H E hr=>
  (jg (jK (i:=2) qL (fun _=>tE.nd) rfl (fun _=>Or.inl rfl) (fun _=>Or.inl rfl))
   (jg (QM (JX (fun _=>rfl) (fun _=>T.tT) (js (ee (JF tF (fun _=>rfl) (fun _=>T.tF) YV (js (jb 1) jA))) jA)) (JV (i:=3) (fun _=>tE.nd) rfl (fun _=>Or.inl rfl) (fun _=>Or.inl rfl))
   (jg (zd (qP jhI (jb 3) (ee jf))
   (jn (jK (i:=2) (JC (jb 2) (ee qL)) (fun _=>tE.nd) rfl (fun _=>Or.inl rfl) (fun _=>Or.inl rfl))) jV)
   (jg (jK (i:=2) (JC (jb 2) (ee (zr (jb 0) (jb 3)))) (fun _=>tE.nd) rfl (fun _=>Or.inl rfl) (fun _=>Or.inl rfl))
   (jn (QM (jaQ (zr (jb 1) (jb 3))) (JV (i:=4) (fun _=>tE.nd) rfl (fun _=>Or.inl rfl) (fun _=>Or.inl rfl))
   (jn (jK (i:=2) (JC (ee (JC (jb 2) (ee qL))) (ee (je8 uO (fun _=>rfl) (fun _=>T.uO) JU (js (jb 4) jA)))) (fun _=>tE.nd) rfl (fun _=>Or.inl rfl) (fun _=>Or.inl rfl))))))))
   (jn (jO (jL 2)))))
theorem jbf(T:Txt K mg A):FnOk P w K mg base Jp 1 A.uG A.uB ["name","ship"] (@Z2 ⟨K⟩ qg):=
 zq (m:=Jz) T.uI.f ja4 rfl rfl fun cdv Ar outer s H E hr=>(jn (jO (jfg (ee qL) (ee (WO.toE (jkp (ee (WO.toE (J1 (je (jL 0) jy)))) (ee (WO.toE (QI (sc:=jc j8) (Lc:=["number"]) (Fn:=[]) (ix:=[]) (fun _=>rfl) (show LcOk (jc j8) ["name","ship"] _ [] []from by decide +kernel) (WI.toT (jaQ (jL 1))) (qB (i:=0) (fun _=>show List.Nodup (["number"]:List Str)from by decide +kernel) rfl (by decide) (fun _=>Or.inl rfl) (fun _=>Or.inr rfl)) qq (je8 uO (fun _=>rfl) (fun _=>T.uO) JU (js (jb 0) jA)))))))))))
theorem jag(T:Txt K mg A):FnOk P w K mg base Jp 2 A.ui A.uq ["names","fleet"] (@Z2 ⟨K⟩ zC):=
 zq (m:=Jd) T.ue.f jae rfl rfl fun cdv Ar outer s H E hr=>(jn (jO (jfg (ee qL) (ee (WO.toE (QI (sc:=jc jY) (Lc:=["name","ship"]) (Fn:=[]) (ix:=[]) (fun _=>rfl) (show LcOk (jc jY) ["names","fleet"] _ [] []from by decide +kernel) (jgm (fun _=>rfl) (fun _=>T.vd) (js (jb 0) (js (jb 1) jA))) (jfj (Zc (i:=0) (fun _=>show List.Nodup (["name","ship"]:List Str)from by decide +kernel) rfl (by decide) (fun _=>Or.inl rfl) (fun _=>Or.inr rfl) (Zc (i:=1) (fun _=>show List.Nodup (["name","ship"]:List Str)from by decide +kernel) rfl (by decide) (fun _=>Or.inl rfl) (fun _=>Or.inr rfl) jeE))) qq (jQ (fun _=>jbf T) (fun _=>hr.mono (by decide)) (fun _=>rfl) (fun _=>T.uI) (je (jL 0) (je (jL 1) jy)))))))))
theorem jcF(T:Txt K mg A):FnOk P w K mg base Jp 1 A.uX A.uY ["word"] (@Z2 ⟨K⟩ JY):=
 zq (m:=QN) T.uT.f jcU rfl rfl fun cdv Ar outer s H E hr=>(jn (jO (Zw (ee (Zg jaj jaj (ee jf) (ee (JF tF (fun _=>rfl) (fun _=>T.tF) YV (js (jb 0) jA))) (ee jf))) (ZM (JF tJ (fun _=>rfl) (fun _=>T.tJ) boot_all (js (ee (WO.toE (QI (sc:=jc qK) (Lc:=["sign"]) (Fn:=[]) (ix:=[]) (fun _=>rfl) (show LcOk (jc qK) ["word"] _ [] []from by decide +kernel) (WI.toT (jfs (jL 0))) (qB (i:=0) (fun _=>show List.Nodup (["sign"]:List Str)from by decide +kernel) rfl (by decide) (fun _=>Or.inl rfl) (fun _=>Or.inr rfl)) qq (Zp jg4 (jb 0) (ee (jeJ (fun _=>rfl) (fun _=>T.u5))))))) jA))))))
theorem jbh(T:Txt K mg A):FnOk P w K mg base Jp 1 A.uF A.uD ["word"] (@Z2 ⟨K⟩ zO):=
 zq (m:=Js) T.uA.f uv rfl rfl fun cdv Ar outer s H E hr=>
  (jg (jK (i:=1) (jk4 (Ja (ee (jbz (jb 0) (ee qL)))) (jkL (jb 0) (jfe (ee jf)) jeO) (jL 0)) (fun _=>uv.nd) rfl (fun _=>Or.inl rfl) (fun _=>Or.inl rfl))
   (jg (zd (WW.toC (jb9 (zY (jgV jaj jaj (ee jf) (ee (JF tF (fun _=>rfl) (fun _=>T.tF) YV (js (jb 1) jA))) (ee jf))) (ZO (zY (Ja (ee (JF tJ (fun _=>rfl) (fun _=>T.tJ) boot_all (js (ee (WO.toE (QI (sc:=jc qd) (Lc:=["sign"]) (Fn:=[]) (ix:=[]) (fun _=>rfl) (show LcOk (jc qd) ["word","figures"] _ [] []from by decide +kernel) (WI.toT (jfs (jL 1))) (qB (i:=0) (fun _=>show List.Nodup (["sign"]:List Str)from by decide +kernel) rfl (by decide) (fun _=>Or.inl rfl) (fun _=>Or.inr rfl)) qq (Zp jg4 (jb 0) (ee (jeJ (fun _=>rfl) (fun _=>T.u4))))))) jA))))))))
   (jn (jO jcB)) jV)
   (jn (jO (jlI (ee (Zp (ja8 fun _=>hr.units) (jb 0) (ee qL))) (ZM (w_not (ee (jbz (jb 1) (ee qL))))))))))
theorem jan(T:Txt K mg A):FnOk P w K mg base Jp 2 A.uw A.tX ["word","kind"] (@Z2 ⟨K⟩ qf):=
 zq (m:=zy) T.ub.f tU rfl rfl fun cdv Ar outer s H E hr=>
  (jg (zd (qP (ja8 fun _=>hr.units) (jb 1) (ee qL))
   (jn (jO (jQ (fun _=>jcF T) (fun _=>hr.mono (by decide)) (fun _=>rfl) (fun _=>T.uT) (je (jL 0) jy)))) jV)
   (jg (zd (zY (Ja (ee (jQ (fun _=>jbh T) (fun _=>hr.mono (by decide)) (fun _=>rfl) (fun _=>T.uA) (je (jL 0) jy)))))
   (jn (jO jcB)) jV)
   (jg (jK (i:=2) (je8 jeS (fun _=>rfl) (fun _=>T.u3) boot_int (js (jb 0) jA)) (fun _=>tU.nd) rfl (fun _=>Or.inl rfl) (fun _=>Or.inl rfl))
   (jg (zd (qP (ja8 fun _=>hr.units) (jb 1) (ee qL))
   (jn (jO (Zp jjr (jb 2) (ee jf)))) jV)
   (jg (zd (qP (ja8 fun _=>hr.units) (jb 1) (ee qL))
   (jn (jO (Zg jaj jaj (ee jf) (jb 2) (ee (Zk (ee jf) (ee jf)))))) jV)
   (jg (zd (qP jlg (jb 1) (ee (jhk (je qL (je qL (je qL jy))))))
   (jn (jO (Zg jaj jaj (ee (jhy (ee (Zk (ee jf) (ee jf))))) (jb 2) (ee (Zk (ee jf) (ee jf)))))) jV)
   (jn (jO jcB))))))))
theorem Q5(T:Txt K mg A):FnOk P w K mg base Jp 3 A.tK A.tQ ["words","kinds"] (@Z2 ⟨K⟩ qO):=
 zq (m:=zJ) T.tL.f Q0 rfl rfl fun cdv Ar outer s H E hr=>(jn (jO (Zw (ee (Zp (ja8 fun _=>hr.units) (ee (JF tF (fun _=>rfl) (fun _=>T.tF) YV (js (jb 0) jA))) (ee (JF jiJ (fun _=>rfl) (fun _=>T.tF) YV (js (jb 1) jA))))) (ZM (JF tJ (fun _=>rfl) (fun _=>T.tJ) boot_all (js (ee (WO.toE (QI (sc:=jc jN) (Lc:=["word","kind"]) (Fn:=[]) (ix:=[]) (fun _=>rfl) (show LcOk (jc jN) ["words","kinds"] _ [] []from by decide +kernel) (jge (fun _=>rfl) (fun _=>T.vd) (js (jb 0) (js (jb 1) jA))) (jfj (Zc (i:=0) (fun _=>show List.Nodup (["word","kind"]:List Str)from by decide +kernel) rfl (by decide) (fun _=>Or.inl rfl) (fun _=>Or.inr rfl) (Zc (i:=1) (fun _=>show List.Nodup (["word","kind"]:List Str)from by decide +kernel) rfl (by decide) (fun _=>Or.inl rfl) (fun _=>Or.inr rfl) jeE))) qq (jQ (fun _=>jan T) (fun _=>hr.mono (by decide)) (fun _=>rfl) (fun _=>T.ub) (je (jL 0) (je (jL 1) jy)))))) jA))))))
theorem jbM(T:Txt K mg A):FnOk P w K mg base Jp 1 A.uN A.uP ["thing"] (@Z2 ⟨K⟩ Ql):=
 zq (m:=Zs) T.uQ.f jbS rfl rfl fun cdv Ar outer s H E hr=>(jn (jO (Zw (ee (JD (fun _=>rfl) (fun _=>T.tu) (fun _=>rfl) (fun _=>T.u3) boot_int (by decide) (jb 0))) (ZM (w_not (ee (JD (fun _=>rfl) (fun _=>T.tu) (fun _=>rfl) (fun _=>T.va) boot_bool (by decide) (jb 0))))))))
theorem jcK(T:Txt K mg A):FnOk P w K mg base Jp 2 A.uZ A.uU ["thing"] (@Z2 ⟨K⟩ JM):=
 zq (m:=QG) T.uS.f uR rfl rfl fun cdv Ar outer s H E hr=>
  (jg (zd (WW.toC (jb9 (zY (Ja (ee (JD (fun _=>rfl) (fun _=>T.tu) (fun _=>rfl) (fun _=>T.uM) boot_tuple (by decide) (jb 0))))) (ZO (qP (jcg fun _=>hr.units) (ee (JF tF (fun _=>rfl) (fun _=>T.tF) YV (js (jb 0) jA))) (ee jf)))))
   (jn (jO jcB)) jV)
   (jg (zd (zY (Ja (ee (JF tJ (fun _=>rfl) (fun _=>T.tJ) boot_all (js (ee (WO.toE (QI (sc:=jc qN) (Lc:=["part"]) (Fn:=[]) (ix:=[]) (fun _=>rfl) (show LcOk (jc qN) ["thing","hours"] _ [] []from by decide +kernel) (WI.toT (jaQ (jL 0))) (qB (i:=0) (fun _=>show List.Nodup (["part"]:List Str)from by decide +kernel) rfl (by decide) (fun _=>Or.inl rfl) (fun _=>Or.inr rfl)) qq (jQ (fun _=>jbM T) (fun _=>hr.mono (by decide)) (fun _=>rfl) (fun _=>T.uQ) (je (jL 0) jy))))) jA)))))
   (jn (jO jcB)) jV)
   (jg (jK (i:=1) (jbv (ee (zr (jb 0) (ee (ZI (fun _=>rfl) (fun _=>T.vf))))) (ee (zr (jb 0) (ee (ZI (fun _=>rfl) (fun _=>T.vc)))))) (fun _=>uR.nd) rfl (fun _=>Or.inl rfl) (fun _=>Or.inl rfl))
   (jn (jO (Zw (ee (Zp jhI (jb 1) (ee jf))) (Zw (ee (Zp jjr (ee (zr (jb 0) (ee (ZI (fun _=>rfl) (fun _=>T.u7))))) (ee jf))) (ZM (Zg jaj jaj (ee jf) (ee (zr (jb 0) (ee (ZI (fun _=>rfl) (fun _=>T.ve))))) (ee (zP (ee (zr (jb 0) (ee (ZI (fun _=>rfl) (fun _=>T.u7))))) (jb 1))))))))))))
theorem jam(T:Txt K mg A):FnOk P w K mg base Jp 1 A.ug A.ux ["words"] (@spO ⟨K⟩ zt):=
 jft (m:=zu) T.uo.f jad rfl rfl fun cdv Ar outer s H E hr=>(jn (jdH (QI (sc:=jc jX) (Lc:=["word"]) (Fn:=[]) (ix:=[]) (fun _=>rfl) (show LcOk (jc jX) ["words"] _ [] []from by decide +kernel) (zU (jb 0)) (qB (i:=0) (fun _=>show List.Nodup (["word"]:List Str)from by decide +kernel) rfl (by decide) (fun _=>Or.inl rfl) (fun _=>Or.inr rfl)) qq (je8 jeS (fun _=>rfl) (fun _=>T.u3) boot_int (js (jb 0) jA)))))
theorem Zz(T:Txt K mg A):FnOk P w K mg base Jp 2 A.uV A.uW ["words"] (@Z2 ⟨K⟩ zD):=
 zq (m:=QR) T.uz.f jco rfl rfl fun cdv Ar outer s H E hr=>(jn (jO (je8 ji4 (fun _=>rfl) (fun _=>T.uM) boot_tuple (js (ee (WO.toE (ZA (fun _=>jam T) (fun _=>hr.mono (by decide)) (fun _=>rfl) (fun _=>T.uo) (je (jL 0) jy)))) jA))))
theorem Z7(T:Txt K mg A):FnOk P w K mg base Jp 4 A.tY A.uf ["words"] (@Z2 ⟨K⟩ qU):=
 zq (m:=Jj) T.ua.f jah rfl rfl fun cdv Ar outer s H E hr=>(jn (jO (Zw (ee (jQ (fun _=>Q5 T) (fun _=>hr.mono (by decide)) (fun _=>rfl) (fun _=>T.tL) (je (jL 0) (je (jhW T.k_SHIP_KINDS (fun _=>rfl) (fun _=>T.u0)) jy)))) (ZM (jQ (fun _=>jcK T) (fun _=>hr.mono (by decide)) (fun _=>rfl) (fun _=>T.uS) (je (jQ (fun _=>Zz T) (fun _=>hr.mono (by decide)) (fun _=>rfl) (fun _=>T.uz) (je (WO.toE (jkH (jb 0) (jfe (ee jf)) jeO)) jy)) jy))))))
theorem Za(T:Txt K mg A):FnOk P w K mg base Jp 5 A.tP A.tS ["ships"] (@Z2 ⟨K⟩ qh):=
 zq (m:=qS) T.tN.f QY rfl rfl fun cdv Ar outer s H E hr=>
  (jg (zd (zY (Ja (ee (JF tJ (fun _=>rfl) (fun _=>T.tJ) boot_all (js (ee (WO.toE (QI (sc:=jc jE) (Lc:=["words"]) (Fn:=[]) (ix:=[]) (fun _=>rfl) (show LcOk (jc jE) ["ships"] _ [] []from by decide +kernel) (zU (jb 0)) (qB (i:=0) (fun _=>show List.Nodup (["words"]:List Str)from by decide +kernel) rfl (by decide) (fun _=>Or.inl rfl) (fun _=>Or.inr rfl)) qq (jQ (fun _=>Z7 T) (fun _=>hr.mono (by decide)) (fun _=>rfl) (fun _=>T.ua) (je (jL 0) jy))))) jA)))))
   (jn ZP) jV)
   (jn (zd (qP (jcg fun _=>hr.units) (ee (je6 (fun _=>rfl) (fun _=>T.tF) (fun _=>rfl) (fun _=>T.vh) (js (ee (WO.toE (QI (sc:=jc jE) (Lc:=["words"]) (Fn:=[]) (ix:=[]) (fun _=>rfl) (show LcOk (jc jE) ["ships"] _ [] []from by decide +kernel) (zU (jb 0)) (qB (i:=0) (fun _=>show List.Nodup (["words"]:List Str)from by decide +kernel) rfl (by decide) (fun _=>Or.inl rfl) (fun _=>Or.inr rfl)) qq (zr (jb 0) (ee jf))))) jA) (sub:=fun _ _=>⟨rfl,rfl⟩) (j0:=()))) (ee (JF tF (fun _=>rfl) (fun _=>T.tF) YV (js (jb 0) jA))))
   (jn ZP) jV)))
theorem jaf(T:Txt K mg A):FnOk P w K mg base Jp 6 A.ud A.t7 ["text"] (@sp2 ⟨K⟩ zB):=
 jjG (m:=zv) T.uy.f tV rfl rfl fun cdv Ar outer s H E hr=>
  (jbu (zd (zY (Ja (ee (JD (fun _=>rfl) (fun _=>T.tu) (fun _=>rfl) (fun _=>T.uO) JU (by decide) (jb 0)))))
   (jn ZP) jV)
   (jiV (qP (ja8 fun _=>hr.units) (jb 0) (ee qL))
   (jdI (jeC (J1 jy) (J1 jy)))
   (jbu (jjV (i:=1) (fun _=>tV.nd) rfl (fun _=>rfl) (sc:=jc jG) (Lc:=["part"]) (Fn:=[]) (ix:=[]) (fun _=>rfl) (show LcOk (jc jG) ["text","ships"] _ [] []from by decide +kernel) (zU (ee (WO.toE (jdd (jb 0) (ee qL))))) (qB (i:=0) (fun _=>show List.Nodup (["part"]:List Str)from by decide +kernel) rfl (by decide) (fun _=>Or.inl rfl) (fun _=>Or.inr rfl)) qq (WO.toE (jdd (jb 0) (ee qL))))
   (jbu (jgP (ee (jQ (fun _=>Za T) (fun _=>hr.mono (by decide)) (fun _=>rfl) (fun _=>T.tN) (je (jL 1) jy))))
   (jdI (jeC (QI (sc:=jc jG) (Lc:=["words"]) (Fn:=[]) (ix:=[]) (fun _=>rfl) (show LcOk (jc jG) ["text","ships"] _ [] []from by decide +kernel) (zU (jb 1)) (qB (i:=0) (fun _=>show List.Nodup (["words"]:List Str)from by decide +kernel) rfl (by decide) (fun _=>Or.inl rfl) (fun _=>Or.inr rfl)) qq (zr (jb 0) (ee jf))) (QI (sc:=jc jG) (Lc:=["words"]) (Fn:=[]) (ix:=[]) (fun _=>rfl) (show LcOk (jc jG) ["text","ships"] _ [] []from by decide +kernel) (zU (jb 1)) (qB (i:=0) (fun _=>show List.Nodup (["words"]:List Str)from by decide +kernel) rfl (by decide) (fun _=>Or.inl rfl) (fun _=>Or.inr rfl)) qq (jQ (fun _=>Zz T) (fun _=>hr.mono (by decide)) (fun _=>rfl) (fun _=>T.uz) (je (WO.toE (jkH (jb 0) (jfe (ee jf)) jeO)) jy)))))))))
theorem Z9(T:Txt K mg A):FnOk P w K mg base Jp 1 A.t9 A.tZ ["found"] (@Z2 ⟨K⟩ qj):=
 zq (m:=Qp) T.uh.f jal rfl rfl fun cdv Ar outer s H E hr=>(jn (jO (Zw (ee (JD (fun _=>rfl) (fun _=>T.tu) (fun _=>rfl) (fun _=>T.u3) boot_int (by decide) (jb 0))) (ZM (w_not (ee (JD (fun _=>rfl) (fun _=>T.tu) (fun _=>rfl) (fun _=>T.va) boot_bool (by decide) (jb 0))))))))
theorem jh0(T:Txt K mg A):FnOk P w K mg base Jp 7 A.u6 A.u9 ["script"] (@Z2 ⟨K⟩ je9):=
 zq (m:=jfF) T.vg.f tR rfl rfl fun cdv Ar outer s H E hr=>
  (jg (jK (i:=1) (WO.toE (ZA (fun _=>jai T) (fun _=>hr.mono (by decide)) (fun _=>rfl) (fun _=>T.ur) (je (jL 0) (je jf jy)))) (fun _=>tR.nd) rfl (fun _=>Or.inl rfl) (fun _=>Or.inl rfl))
   (jg (jK (i:=2) (WO.toE (ZA (fun _=>jaq T) (fun _=>hr.mono (by decide)) (fun _=>rfl) (fun _=>T.uu) (je (jQ (fun _=>qG T) (fun _=>hr.mono (by decide)) (fun _=>rfl) (fun _=>T.tG) (je (jL 0) (je jf jy))) (je (JF tF (fun _=>rfl) (fun _=>T.tF) YV (js (jb 1) jA)) jy)))) (fun _=>tR.nd) rfl (fun _=>Or.inl rfl) (fun _=>Or.inl rfl))
   (jg (jK (i:=3) (jQ (fun _=>jbe T) (fun _=>hr.mono (by decide)) (fun _=>rfl) (fun _=>T.uH) (je (jL 2) (je (jL 1) jy))) (fun _=>tR.nd) rfl (fun _=>Or.inl rfl) (fun _=>Or.inl rfl))
   (jg (jK (i:=4) (WO.toE (J1 (je (WO.toE (jhd tW (fun _=>rfl) (fun _=>T.tW) boot_list (js (jb 2) jA))) (je (WO.toE (jhd tW (fun _=>rfl) (fun _=>T.tW) boot_list (js (jb 1) jA))) jy)))) (fun _=>tR.nd) rfl (fun _=>Or.inl rfl) (fun _=>Or.inl rfl))
   (jg (jK (i:=5) (jQ (fun _=>jag T) (fun _=>hr.mono (by decide)) (fun _=>rfl) (fun _=>T.ue) (je (zr (jb 4) (ee jf)) (je (zr (jb 4) (ee jf)) jy))) (fun _=>tR.nd) rfl (fun _=>Or.inl rfl) (fun _=>Or.inl rfl))
   (jg (zd (WW.toC (jb9 (zY (Ja (ee (JD (fun _=>rfl) (fun _=>T.tu) (fun _=>rfl) (fun _=>T.uO) JU (by decide) (jb 5))))) (jb9 (qP (jcg fun _=>hr.units) (jb 5) (jb 3)) (ZO (qP (jcg fun _=>hr.units) (jb 4) (ee (WO.toE (J1 (je (jL 2) (je (jL 1) jy))))))))))
   (jn (jO jcB)) jV)
   (jg (QM (JX (fun _=>rfl) (fun _=>T.tT) (js (ee jf) jA)) (JV (i:=6) (fun _=>tR.nd) rfl (fun _=>Or.inl rfl) (fun _=>Or.inl rfl))
   (jfQ (i:=7) (j:=8) (by decide) (fun _=>tR.nd) rfl rfl (fun _=>Or.inl rfl) (fun _=>Or.inl rfl) (fun _=>Or.inl rfl) (fun _=>Or.inl rfl) (fun _=>Or.inl rfl) (jgZ (fun _=>jaf T) (fun _=>hr.mono (by decide)) (fun _=>rfl) (fun _=>T.uy) (je (jL 3) jy)) (WW.toC (jb9 (zY (Ja (ee (JD (fun _=>rfl) (fun _=>T.tu) (fun _=>rfl) (fun _=>T.uM) boot_tuple (by decide) (jb 7))))) (ZO (qP (jcg fun _=>hr.units) (ee (JF tF (fun _=>rfl) (fun _=>T.tF) YV (js (jb 7) jA))) (ee jf))))) (WW.toC (jb9 (zY (Ja (ee (JD (fun _=>rfl) (fun _=>T.tu) (fun _=>rfl) (fun _=>T.tW) boot_list (by decide) (ee (zr (jb 7) (ee jf))))))) (ZO (zY (Ja (ee (JD (fun _=>rfl) (fun _=>T.tu) (fun _=>rfl) (fun _=>T.tW) boot_list (by decide) (ee (zr (jb 7) (ee jf)))))))))) (WW.toC (jb9 (qP (jcg fun _=>hr.units) (ee (zr (jb 7) (ee jf))) (jb 2)) (ZO (qP (jcg fun _=>hr.units) (ee (zr (jb 7) (ee jf))) (jb 1))))) (jgU (zr (jb 7) (ee jf))) (WW.toC (jb9 (zY (Ja (ee (JD (fun _=>rfl) (fun _=>T.tu) (fun _=>rfl) (fun _=>T.uM) boot_tuple (by decide) (jb 8))))) (ZO (qP (jcg fun _=>hr.units) (ee (WO.toE (QI (sc:=jc QW) (Lc:=["part"]) (Fn:=[]) (ix:=[]) (fun _=>rfl) (show LcOk (jc QW) ["script","fleet","names","text","handed","shown","k","found","ship"] _ [] []from by decide +kernel) (WI.toT (jaQ (jL 8))) (qB (i:=0) (fun _=>show List.Nodup (["part"]:List Str)from by decide +kernel) rfl (by decide) (fun _=>Or.inl rfl) (fun _=>Or.inr rfl)) (jg0 (zY (Ja (ee (jQ (fun _=>Z9 T) (fun _=>hr.mono (by decide)) (fun _=>rfl) (fun _=>T.uh) (je (jL 0) jy)))))) (jL 0)))) (ee (WO.toE (J1 jy)))))))))
   (jn (jO jcB)))))))))
end
def jdK(K:PySem.W.Frag):Sp:=fun vs H Q _=>∃(a:Addr) (ns:List Int),vs=[.ref a]/\qW K H a (ns.map V.int)/\ns.length<=63/\∀H',Q (.bl true) H'
theorem jgy{P:Program}{w:World}{K:PySem.W.Frag}{mg:Str → Option Value}{base:Heap}{A:Adr}(T:Txt K mg A):FnOk P w K mg base Jp 7 A.u6 A.u9 ["script"] (jdK K):=by
 letI:Fr:=⟨K⟩
 refine(jh0 T).imp fun vs H Q E h=>?_;obtain⟨a,ns,rfl,hs,hl,q⟩:=h;exact⟨H,[.scr ns],.bl true,.refl _,.cons (.scr hs) .nil,jfz ns hl,fun v G' H' x r=>by cases r;exact q _⟩
set_option maxHeartbeats 4000000 in
abbrev ya(K:PySem.W.Frag)(x:Str)(f:Addr):Prop:=PySem.W.nsIn K mainGlobals x=some (some (.ref f))
abbrev yb(K:PySem.W.Frag)(x:Str)(st:Stmt)(f:Addr)(oc)(od)(kV)(dc)(pm)(an)(cd)(ct)(sl):=K.lookup f=some ⟨oc,od,.func (PySem.W.fnOf x x (jJ st) (jx st) (jc st) .none kV dc pm an cd ct),sl⟩
abbrev yc(K:PySem.W.Frag)(cd)(x:Str):=PySem.W.codeIn K cd x=true
abbrev yd(K:PySem.W.Frag)(f:Addr):Prop:=PySem.W.keepIn K (.ref f)=true
theorem jhB{l:PySem.W.OpenLaw}{w:World}{K:PySem.W.Frag}{h:Heap}{mg:Str → Option Value}{fa:Addr}(X:K.In h)(G:h.Ns mainGlobals mg)(hfa:mg "law"=some (.ref fa))
 {f0 f1 f2 f3 f4 f5 f6 f7 f8 f9 f10 f11 f12 f13 f14 f15 f16 f17 f18 f19:Addr}
 {od0 od1 od2 od3 od4 od5 od6 od7 od8 od9 od10 od11 od12 od13 od14 od15 od16 od17 od18 od19:Option Addr}
 {an0 an1 an2 an3 an4 an5 an6 an7 an8 an9 an10 an11 an12 an13 an14 an15 an16 an17 an18 an19:Option Addr}
 {sl0 sl1 sl2 sl3 sl4 sl5 sl6 sl7 sl8 sl9 sl10 sl11 sl12 sl13 sl14 sl15 sl16 sl17 sl18 sl19:Array (Option Value)}
 {oc0 oc1 oc2 oc3 oc4 oc5 oc6 oc7 oc8 oc9 oc10 oc11 oc12 oc13 oc14 oc15 oc16 oc17 oc18 oc19:Value}
 {kV0 kV1 kV2 kV3 kV4 kV5 kV6 kV7 kV8 kV9 kV10 kV11 kV12 kV13 kV14 kV15 kV16 kV17 kV18 kV19:Value}
 {dc0 dc1 dc2 dc3 dc4 dc5 dc6 dc7 dc8 dc9 dc10 dc11 dc12 dc13 dc14 dc15 dc16 dc17 dc18 dc19:Value}
 {pm0 pm1 pm2 pm3 pm4 pm5 pm6 pm7 pm8 pm9 pm10 pm11 pm12 pm13 pm14 pm15 pm16 pm17 pm18 pm19:Value}
 {cd0 cd1 cd2 cd3 cd4 cd5 cd6 cd7 cd8 cd9 cd10 cd11 cd12 cd13 cd14 cd15 cd16 cd17 cd18 cd19:Value}
 {ct0 ct1 ct2 ct3 ct4 ct5 ct6 ct7 ct8 ct9 ct10 ct11 ct12 ct13 ct14 ct15 ct16 ct17 ct18 ct19:Value}
 {t0:Tok}
 {t1:Tok}
 {t2:Tok}
 {t3:Tok}
 {t4:Tok}
 {t5:Tok}
 {t6:Addr} {kc6:Option Addr} {ks6:Array (Option Value)} {kn6:Nat} {kt6_0 kt6_1 kt6_2 kt6_3 kt6_4:Tok}
 (a0:ya K "_law_cell_at" f0) (l0:yb K "_law_cell_at" j5 f0 oc0 od0 kV0 dc0 pm0 an0 cd0 ct0 sl0) (c0:yc K cd0 "_law_cell_at") (k0:yd K f0)
 (a1:ya K "_law_ship" f1) (l1:yb K "_law_ship" qM f1 oc1 od1 kV1 dc1 pm1 an1 cd1 ct1 sl1) (c1:yc K cd1 "_law_ship") (k1:yd K f1)
 (a2:ya K "_law_fleet" f2) (l2:yb K "_law_fleet" qi f2 oc2 od2 kV2 dc2 pm2 an2 cd2 ct2 sl2) (c2:yc K cd2 "_law_fleet") (k2:yd K f2)
 (a3:ya K "_law_names" f3) (l3:yb K "_law_names" jZ f3 oc3 od3 kV3 dc3 pm3 an3 cd3 ct3 sl3) (c3:yc K cd3 "_law_names") (k3:yd K f3)
 (a4:ya K "_law_text" f4) (l4:yb K "_law_text" qJ f4 oc4 od4 kV4 dc4 pm4 an4 cd4 ct4 sl4) (c4:yc K cd4 "_law_text") (k4:yd K f4)
 (a5:ya K "show_ship" f5) (l5:yb K "show_ship" j8 f5 oc5 od5 kV5 dc5 pm5 an5 cd5 ct5 sl5) (c5:yc K cd5 "show_ship") (k5:yd K f5)
 (a6:ya K "show_fleet" f6) (l6:yb K "show_fleet" jY f6 oc6 od6 kV6 dc6 pm6 an6 cd6 ct6 sl6) (c6:yc K cd6 "show_fleet") (k6:yd K f6)
 (a7:ya K "is_name" f7) (l7:yb K "is_name" qK f7 oc7 od7 kV7 dc7 pm7 an7 cd7 ct7 sl7) (c7:yc K cd7 "is_name") (k7:yd K f7)
 (a8:ya K "is_number" f8) (l8:yb K "is_number" qd f8 oc8 od8 kV8 dc8 pm8 an8 cd8 ct8 sl8) (c8:yc K cd8 "is_number") (k8:yd K f8)
 (a9:ya K "is_of_kind" f9) (l9:yb K "is_of_kind" qr f9 oc9 od9 kV9 dc9 pm9 an9 cd9 ct9 sl9) (c9:yc K cd9 "is_of_kind") (k9:yd K f9)
 (a10:ya K "are_of_kinds" f10) (l10:yb K "are_of_kinds" jN f10 oc10 od10 kV10 dc10 pm10 an10 cd10 ct10 sl10) (c10:yc K cd10 "are_of_kinds") (k10:yd K f10)
 (a11:ya K "is_whole" f11) (l11:yb K "is_whole" qZ f11 oc11 od11 kV11 dc11 pm11 an11 cd11 ct11 sl11) (c11:yc K cd11 "is_whole") (k11:yd K f11)
 (a12:ya K "is_ship" f12) (l12:yb K "is_ship" qN f12 oc12 od12 kV12 dc12 pm12 an12 cd12 ct12 sl12) (c12:yc K cd12 "is_ship") (k12:yd K f12)
 (a13:ya K "numbers_of" f13) (l13:yb K "numbers_of" jX f13 oc13 od13 kV13 dc13 pm13 an13 cd13 ct13 sl13) (c13:yc K cd13 "numbers_of") (k13:yd K f13)
 (a14:ya K "ship_of" f14) (l14:yb K "ship_of" zE f14 oc14 od14 kV14 dc14 pm14 an14 cd14 ct14 sl14) (c14:yc K cd14 "ship_of") (k14:yd K f14)
 (a15:ya K "tells_ship" f15) (l15:yb K "tells_ship" qo f15 oc15 od15 kV15 dc15 pm15 an15 cd15 ct15 sl15) (c15:yc K cd15 "tells_ship") (k15:yd K f15)
 (a16:ya K "must_be_told" f16) (l16:yb K "must_be_told" jE f16 oc16 od16 kV16 dc16 pm16 an16 cd16 ct16 sl16) (c16:yc K cd16 "must_be_told") (k16:yd K f16)
 (a17:ya K "read_fleet" f17) (l17:yb K "read_fleet" jG f17 oc17 od17 kV17 dc17 pm17 an17 cd17 ct17 sl17) (c17:yc K cd17 "read_fleet") (k17:yd K f17)
 (a18:ya K "_law_whole" f18) (l18:yb K "_law_whole" qk f18 oc18 od18 kV18 dc18 pm18 an18 cd18 ct18 sl18) (c18:yc K cd18 "_law_whole") (k18:yd K f18)
 (a19:ya K "law" f19) (l19:yb K "law" QW f19 oc19 od19 kV19 dc19 pm19 an19 cd19 ct19 sl19) (c19:yc K cd19 "law") (k19:yd K f19)
 (cst0:PySem.W.nsIn K mainGlobals "LETTERS"=some (some (.str "abcdefghijklmnopqrstuvwxyz" t0)))
 (cst1:PySem.W.nsIn K mainGlobals "FIGURES"=some (some (.str "0123456789" t1)))
 (cst2:PySem.W.nsIn K mainGlobals "NEED"=some (some (.int 2 t2)))
 (cst3:PySem.W.nsIn K mainGlobals "MOST"=some (some (.int 3 t3)))
 (cst4:PySem.W.nsIn K mainGlobals "END"=some (some (.int 1 t4)))
 (cst5:PySem.W.nsIn K mainGlobals "BEGIN"=some (some (.int 0 t5)))
 (cst6:PySem.W.nsIn K mainGlobals "SHIP_KINDS"=some (some (.ref t6))) (kl6:K.lookup t6=some ⟨.type "tuple",kc6,.seq #[.str "NAME" kt6_0,.str "BEGIN" kt6_1,.str "END" kt6_2,.str "NEED" kt6_3,.str "MOST" kt6_4] kn6,ks6⟩)
 (z0:PySem.W.nsIn K mainGlobals "len"=some none)
 (z1:PySem.W.nsIn K mainGlobals "min"=some none)
 (z2:PySem.W.nsIn K mainGlobals "range"=some none)
 (z3:PySem.W.nsIn K mainGlobals "str"=some none)
 (z4:PySem.W.nsIn K mainGlobals "zip"=some none)
 (z5:PySem.W.nsIn K mainGlobals "all"=some none)
 (z6:PySem.W.nsIn K mainGlobals "int"=some none)
 (z7:PySem.W.nsIn K mainGlobals "isinstance"=some none)
 (z8:PySem.W.nsIn K mainGlobals "bool"=some none)
 (z9:PySem.W.nsIn K mainGlobals "tuple"=some none)
 (z10:PySem.W.nsIn K mainGlobals "set"=some none)
 (z11:PySem.W.nsIn K mainGlobals "list"=some none) :
 ∃fd:FuncData,(∀(s:Shared) (v:Value),BindsTo s fd ⟨[v],[]⟩ [("script",v)]) ∧ ∀base:Heap,K.In base → base.Ns mainGlobals mg → FnOk l.prog w K mg base Jp 7 fa fd ["script"] (jdK K):=by
 have e:=hfa.symm.trans (Ys X G a19);have e':f19=fa:=by injection (Option.some.inj e)with z;exact z.symm
 subst e';have F0:=j4 (st:=j5) l0 c0 k0;have b0:=F0.binds (ps:=["script","k"]) fun _ _ _ _ _ _=>ar2 fun _ _=>rfl;have F1:=j4 (st:=qM) l1 c1 k1;have b1:=F1.binds (ps:=["one","two","kind"]) fun _ _ _ _ _ _=>ar3 fun _ _ _=>rfl;have F2:=j4 (st:=qi) l2 c2 k2;have b2:=F2.binds (ps:=["script","start"]) fun _ _ _ _ _ _=>ar2 fun _ _=>rfl;have F3:=j4 (st:=jZ) l3 c3 k3;have b3:=F3.binds (ps:=["cell","many"]) fun _ _ _ _ _ _=>ar2 fun _ _=>rfl;have F4:=j4 (st:=qJ) l4 c4 k4;have b4:=F4.binds (ps:=["names","fleet"]) fun _ _ _ _ _ _=>ar2 fun _ _=>rfl;have F5:=j4 (st:=j8) l5 c5 k5;have b5:=F5.binds (ps:=["name","ship"]) fun _ _ _ _ _ _=>ar2 fun _ _=>rfl;have F6:=j4 (st:=jY) l6 c6 k6;have b6:=F6.binds (ps:=["names","fleet"]) fun _ _ _ _ _ _=>ar2 fun _ _=>rfl;have F7:=j4 (st:=qK) l7 c7 k7;have b7:=F7.binds (ps:=["word"]) fun _ _ _ _ _ _=>ar1 fun _=>rfl;have F8:=j4 (st:=qd) l8 c8 k8;have b8:=F8.binds (ps:=["word"]) fun _ _ _ _ _ _=>ar1 fun _=>rfl;have F9:=j4 (st:=qr) l9 c9 k9;have b9:=F9.binds (ps:=["word","kind"]) fun _ _ _ _ _ _=>ar2 fun _ _=>rfl;have F10:=j4 (st:=jN) l10 c10 k10;have b10:=F10.binds (ps:=["words","kinds"]) fun _ _ _ _ _ _=>ar2 fun _ _=>rfl;have F11:=j4 (st:=qZ) l11 c11 k11;have b11:=F11.binds (ps:=["thing"]) fun _ _ _ _ _ _=>ar1 fun _=>rfl;have F12:=j4 (st:=qN) l12 c12 k12;have b12:=F12.binds (ps:=["thing"]) fun _ _ _ _ _ _=>ar1 fun _=>rfl;have F13:=j4 (st:=jX) l13 c13 k13;have b13:=F13.binds (ps:=["words"]) fun _ _ _ _ _ _=>ar1 fun _=>rfl;have F14:=j4 (st:=zE) l14 c14 k14;have b14:=F14.binds (ps:=["words"]) fun _ _ _ _ _ _=>ar1 fun _=>rfl;have F15:=j4 (st:=qo) l15 c15 k15;have b15:=F15.binds (ps:=["words"]) fun _ _ _ _ _ _=>ar1 fun _=>rfl;have F16:=j4 (st:=jE) l16 c16 k16;have b16:=F16.binds (ps:=["ships"]) fun _ _ _ _ _ _=>ar1 fun _=>rfl;have F17:=j4 (st:=jG) l17 c17 k17;have b17:=F17.binds (ps:=["text"]) fun _ _ _ _ _ _=>ar1 fun _=>rfl;have F18:=j4 (st:=qk) l18 c18 k18;have b18:=F18.binds (ps:=["found"]) fun _ _ _ _ _ _=>ar1 fun _=>rfl;have F19:=j4 (st:=QW) l19 c19 k19;have b19:=F19.binds (ps:=["script"]) fun _ _ _ _ _ _=>ar1 fun _=>rfl;have T:Txt K mg ⟨f0,_,f1,_,f2,_,f3,_,f4,_,f5,_,f6,_,f7,_,f8,_,f9,_,f10,_,f11,_,f12,_,f13,_,f14,_,f15,_,f16,_,f17,_,f18,_,f19,_,t0,t1,t2,t3,t4,t5,t6⟩:=⟨⟨F0,b0,Ys X G a0⟩,⟨F1,b1,Ys X G a1⟩,⟨F2,b2,Ys X G a2⟩,⟨F3,b3,Ys X G a3⟩,⟨F4,b4,Ys X G a4⟩,⟨F5,b5,Ys X G a5⟩,⟨F6,b6,Ys X G a6⟩,⟨F7,b7,Ys X G a7⟩,⟨F8,b8,Ys X G a8⟩,⟨F9,b9,Ys X G a9⟩,⟨F10,b10,Ys X G a10⟩,⟨F11,b11,Ys X G a11⟩,⟨F12,b12,Ys X G a12⟩,⟨F13,b13,Ys X G a13⟩,⟨F14,b14,Ys X G a14⟩,⟨F15,b15,Ys X G a15⟩,⟨F16,b16,Ys X G a16⟩,⟨F17,b17,Ys X G a17⟩,⟨F18,b18,Ys X G a18⟩,⟨F19,b19,Ys X G a19⟩,Ys X G cst0,Ys X G cst1,Ys X G cst2,Ys X G cst3,Ys X G cst4,Ys X G cst5,Ys X G cst6,.inr ⟨_,_,_,kl6,rfl,rfl,(show 5<=sizeLine from by rw[PySem.sizeLine_eq];decide),.cons ⟨_,rfl⟩ (.cons ⟨_,rfl⟩ (.cons ⟨_,rfl⟩ (.cons ⟨_,rfl⟩ (.cons ⟨_,rfl⟩ (.nil)))))⟩,YD X G z0,YD X G z1,YD X G z2,YD X G z3,YD X G z4,YD X G z5,YD X G z6,YD X G z7,YD X G z8,YD X G z9,YD X G z10,YD X G z11⟩;exact⟨_,fun s v=>.of_eq rfl,fun base _ _=>jgy T⟩
theorem jlE{l:PySem.W.OpenLaw}{q:Program}{loose:List Str}{XP:(Str->Option Value)->Heap->Prop}{YP:World->Heap->Prop}{d:DefRec}{K:Params->PySem.W.Frag}(hn:l.most=some 63)(hdf:d.params.defaults=[])
 (hY:∀(w:World) (h:Heap),YP w h->(K w.params).In h)
 (F:∀(w:World) (mg:Str->Option Value) (fa:Addr) (h:Heap),(K w.params).In h->h.Ns mainGlobals mg->mg d.name=some (.ref fa)->
  ∃fd:FuncData,(∀(s:Shared) (u:Value),BindsTo s fd ⟨[u],[]⟩ [("script",u)]) ∧ ∀base:Heap,(K w.params).In base → base.Ns mainGlobals mg → FnOk l.prog w (K w.params) mg base Jp 7 fa fd ["script"] (jdK (K w.params))) :
 PySem.W.WalkO q loose XP YP l.row.toRowW d [] (fun f vs=>PySem.call f vs):=
 L2.jgO (n:=63) (k:=7) (x := "script") (CX:=fun _=>Jp) (sp:=fun w=>jdK (K w.params)) hn (by decide) hdf ⟨rfl,by decide,by decide⟩ hY F (fun _ _ a ns hl _ hS=>⟨a,ns,rfl,hS,hl,fun _=>rfl⟩) fun _ _ _ _ _ z=>z
end Q
end
open PySem PySem.W PyProof.Rows
set_option maxRecDepth 100000 in
set_option maxHeartbeats 0 in
theorem PySem.Challenge.cw_evenquay_k70_texts_forth_and_back_holds : PySem.Challenge.rw_evenquay_k70_texts_forth_and_back.Holds := by
 w_on;o_law;k_head;(case hw=>w_witness2)
 k_fill
 refine Q.jlE (l:=PySem.Challenge.rw_evenquay_k70_texts_forth_and_back) rfl rfl (fun w h Y=>PySem.W.kIn_of Y) ?F
 case F=>
  intro w mg fa h KX G hmg
  refine' Q.jhB KX G hmg ?a0 ?l0 ?c0 ?k0 ?a1 ?l1 ?c1 ?k1 ?a2 ?l2 ?c2 ?k2 ?a3 ?l3 ?c3 ?k3 ?a4 ?l4 ?c4 ?k4 ?a5 ?l5 ?c5 ?k5 ?a6 ?l6 ?c6 ?k6 ?a7 ?l7 ?c7 ?k7 ?a8 ?l8 ?c8 ?k8 ?a9 ?l9 ?c9 ?k9 ?a10 ?l10 ?c10 ?k10 ?a11 ?l11 ?c11 ?k11 ?a12 ?l12 ?c12 ?k12 ?a13 ?l13 ?c13 ?k13 ?a14 ?l14 ?c14 ?k14 ?a15 ?l15 ?c15 ?k15 ?a16 ?l16 ?c16 ?k16 ?a17 ?l17 ?c17 ?k17 ?a18 ?l18 ?c18 ?k18 ?a19 ?l19 ?c19 ?k19 ?cst0 ?cst1 ?cst2 ?cst3 ?cst4 ?cst5 ?cst6 ?kl6 ?z0 ?z1 ?z2 ?z3 ?z4 ?z5 ?z6 ?z7 ?z8 ?z9 ?z10 ?z11
  any_goals (show _=_;k_is)
